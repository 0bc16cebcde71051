import PyProof.Rows.All
import Wide.All
import OpenK.AllK
import Wide.FinOn
import Lean
import PyProof.EqAt
import PyProof.EqKinds
import PyProof.TupleCall
import PySem.Challenge.RW_shelfwork_k30_kinds_known
import PySem.SetTable
import PySem.SetOps
import PyProof.TupleKey
import PyProof.SetKind
import KE.KSortTup
set_option Elab.async false
set_option linter.all false
set_option maxRecDepth 100000
set_option maxHeartbeats 1000000
namespace ML
open PySem PySem.W PyProof.Rows
inductive Cn where
 | int (i:Int) | str (x:Str) | tup (l:List Cn)
noncomputable def tupAt(h:Heap)(v:Value):Option (Array Value):=match v with
 | .ref a=>(h.get? a).bind fun o=>match o.cls with
  | .type t=>if t="tuple" then (match o.data with | .seq its _=>some its | _=>none) else none
  | _=>none
 | _=>none
noncomputable def isI(i:Int)(v:Value):Bool:=match v with | .int j _=>i==j | _=>false
noncomputable def isS(x:Str)(v:Value):Bool:=match v with | .str y _=>x==y | _=>false
noncomputable def allTwo{α β:Type}(p:α→β→Bool):List α→List β→Bool
 | [],[]=>true
 | a::l,b::r=>p a b&&allTwo p l r
 | _,_=>false
noncomputable def constB(h:Heap):Nat→Cn→Value→Bool
 | 0,_,_=>false
 | n+1,w,v=>match w with
  | .int i=>isI i v
  | .str x=>isS x v
  | .tup l=>(tupAt h v).any fun its=>decide (its.size≤sizeLine)&&allTwo (constB h n) l its.toList
noncomputable def dictAt(h:Heap)(v:Value):Option (Array DictEntry):=match v with
 | .ref a=>(h.get? a).bind fun o=>match o.cls with
  | .type t=>if t="dict" then (match o.data with | .dict es _=>if o.dict.isNone&&o.slots.isEmpty&&a != sysModules then some es else none | _=>none) else none
  | _=>none
 | _=>none
noncomputable def tabB(h:Heap)(l:List (Str×Cn))(v:Option Value):Bool×List Int:=match v.bind (dictAt h) with
 | some es=>(allTwo (fun p (e:DictEntry)=>isS p.1 e.key&&constB h 9 p.2 e.val) l es.toList,es.toList.map (·.hash))
 | none=>(false,[])
noncomputable def seeB(cons:List (Str×Cn))(bins:List Str)(h:Heap):Bool:=h.isNs mainGlobals&&cons.all (fun p=>(h.nsMap mainGlobals p.1).any fun v=>constB h 9 p.2 v)&&bins.all fun x=>(h.nsMap mainGlobals x).isNone
noncomputable def seeT(tabs:List (Str×List (Str×Cn)))(h:Heap):List (Bool×List Int):=tabs.map fun p=>tabB h p.2 (h.nsMap mainGlobals p.1)
noncomputable def goodT(tabs:List (Str×List (Str×Cn)))(w:World):List (Bool×List Int):=tabs.map fun p=>(true,p.2.map fun k=>PyData.keyHash w.params k.1)
noncomputable def hookC(cons:List (Str×Cn))(tabs:List (Str×List (Str×Cn)))(bins:List Str):PySem.W.Hook:=
 ⟨Bool×List (Bool×List Int),fun s=>(seeB cons bins s.heap,seeT tabs s.heap),fun w=>(true,goodT tabs w),
  fun w h=>∃h₀:Heap,(∀b o,h₀.get? b=some o→h.get? b=some o)∧seeB cons bins h₀=true∧seeT tabs h₀=goodT tabs w,
  fun w s e=>⟨s.heap,fun _ _ z=>z,congrArg Prod.fst e,congrArg Prod.snd e⟩,fun w h h' ⟨h₀,a,b⟩ k=>⟨h₀,fun _ _ z=>k _ _ (a _ _ z),b⟩⟩
end ML
namespace K30
open PySem PySem.W PyProof.Rows ML
def pw:Program:=PySem.Challenge.pw_shelfwork_k30_kinds_known
def isNm(x:String):Expr→Bool | .Name y ..=>y==x | _=>false
def drops:Stmt→Bool
 | .Assign [t] ..=>isNm "__name__" t
 | _=>false
def q:Program:={ pw with main:={ pw.main with body:=pw.main.body.filter fun s=>!drops s } }
def consC:List (Str×Cn):=[("SHELVES",(.tup [(.str "a"),(.str "b"),(.str "c"),(.str "d")]))]
def tabsC:List (Str×List (Str×Cn)):=[]
def binsC:List Str:=["all","bool","enumerate","int","isinstance","len","list","set","sorted","str","tuple"]
noncomputable def H:Hook:=hookC consC tabsC binsC
set_option maxHeartbeats 0 in
theorem said:PySem.Challenge.rw_shelfwork_k30_kinds_known.wellSaid=true:=by kernel_rfl
set_option maxHeartbeats 0 in
theorem left:LeftO pw q [] (fun s=>xlAt q [] s&&recOk [] s) H.obs H.val 1000:=fun w=>by kernel_rfl
end K30
section
namespace L2
open PySem PySem.Spec PyProof.Rows
abbrev Key:=Sum Int Str
def keyIs:Key→Value→Bool
 | .inl k,v=>Value.isInt k v
 | .inr x,v=>Value.isStrOf x v
def keyH(w:World):Key→Int
 | .inl k=>hashInt k
 | .inr x=>hashStr w x
theorem keyIs_shape:∀{k:Key} {v:Value},keyIs k v=true→(∃i t,k=Sum.inl i∧v=Value.int i t)∨(∃x t,k=Sum.inr x∧v=Value.str x t)
 | .inl i,v,h=>by
  obtain⟨t,e⟩:=Value.isInt_shape (k:=i) (v:=v) h
  exact .inl ⟨i,t,rfl,e⟩
 | .inr x,v,h=>by
  obtain⟨t,e⟩:=Value.isStrOf_shape (x:=x) (v:=v) h
  exact .inr ⟨x,t,rfl,e⟩
theorem keyIs_int(i:Int)(t:Tok):keyIs (.inl i) (.int i t)=true:=by simp[keyIs,Value.isInt]
theorem keyIs_str(x:Str)(t:Tok):keyIs (.inr x) (.str x t)=true:=by simp[keyIs,Value.isStrOf]
theorem key_ll(a b:Int):decide ((Sum.inl a:Key)=Sum.inl b)=(a==b):=by
 by_cases e:a=b
 .subst e; simp
 .have h:¬(Sum.inl a:Key)=Sum.inl b:=fun q=>e (Sum.inl.inj q)
  rw[decide_eq_false h]
  exact(beq_eq_false_iff_ne.mpr e).symm
theorem key_rr(a b:Str):decide ((Sum.inr a:Key)=Sum.inr b)=decide (a=b):=by
 by_cases e:a=b
 .subst e; simp
 .have h:¬(Sum.inr a:Key)=Sum.inr b:=fun q=>e (Sum.inr.inj q)
  rw[decide_eq_false h,decide_eq_false e]
theorem key_lr(a:Int)(b:Str):decide ((Sum.inl a:Key)=Sum.inr b)=false:=decide_eq_false (fun q=>nomatch q)
theorem key_rl(a:Str)(b:Int):decide ((Sum.inr a:Key)=Sum.inl b)=false:=decide_eq_false (fun q=>nomatch q)
def mixKind(prog:Program)(w:World):PySem.KeyKind prog w Key where
 is:=keyIs
 hash:=keyH w
 inj:=fun v a b ha hb=>by
  rcases keyIs_shape ha with ⟨i,t,rfl,rfl⟩ | ⟨x,t,rfl,rfl⟩
  .rcases keyIs_shape hb with ⟨j,u,rfl,e⟩ | ⟨y,u,rfl,e⟩
   .injection e with e1 _; rw[e1]
   .exact nomatch e
  .rcases keyIs_shape hb with ⟨j,u,rfl,e⟩ | ⟨y,u,rfl,e⟩
   .exact nomatch e
   .injection e with e1 _; rw[e1]
 byValue:=fun k v h=>by
  rcases keyIs_shape h with ⟨i,t,rfl,rfl⟩ | ⟨x,t,rfl,rfl⟩<;>rfl
 pyHash:=fun hv h=>by
  rcases keyIs_shape hv with ⟨i,t,rfl,rfl⟩ | ⟨x,t,rfl,rfl⟩
  .exact wpAny_pyHash_int h
  .exact wpAny_pyHash_str h
 eqBool:=fun hu hv h=>by
  rcases keyIs_shape hu with ⟨i,t,rfl,rfl⟩ | ⟨x,t,rfl,rfl⟩
  .rcases keyIs_shape hv with ⟨j,u,rfl,rfl⟩ | ⟨y,u,rfl,rfl⟩
   .rw[key_ll] at h; exact wpAny_eqBool_int h
   .rw[key_lr] at h; exact SeqAt.EqAt.int_str i t y u _ _ _ _ h
  .rcases keyIs_shape hv with ⟨j,u,rfl,rfl⟩ | ⟨y,u,rfl,rfl⟩
   .rw[key_rl] at h; exact SeqAt.EqAt.str_int x t j u _ _ _ _ h
   .rw[key_rr] at h; exact wpAny_eqBool_str h
 «strs»:=fun k x t v h=>by
  rcases keyIs_shape h with ⟨i,u,rfl,e⟩ | ⟨y,u,rfl,e⟩
  .exact nomatch e
  .injection e with e1 _
   subst e1
   cases v<;>rfl
theorem mixKind_int(prog:Program)(w:World)(i:Int)(t:Tok):(mixKind prog w).is (.inl i) (.int i t)=true:=keyIs_int i t
theorem mixKind_str(prog:Program)(w:World)(x:Str)(t:Tok):(mixKind prog w).is (.inr x) (.str x t)=true:=keyIs_str x t
end L2
namespace L2
open PySem PySem.Spec PyProof.Rows
inductive V where
 | non | bl (b:Bool) | int (i:Int) | str (x:Str) | byt (b:Array UInt8) | flt (b:UInt64) | ref (a:Addr) | ty (n:String)
 deriving DecidableEq
def RelV:V→Value→Prop
 | .non,u=>u=Value.none
 | .bl b,u=>u=Value.bool b
 | .int i,u=>∃t,u=Value.int i t
 | .str x,u=>∃t,u=Value.str x t
 | .byt b,u=>∃t,u=Value.bytes b t
 | .flt b,u=>∃t,u=Value.float b t
 | .ref a,u=>u=Value.ref a
 | .ty n,u=>u=Value.type n
abbrev Vals:List V→List Value→Prop:=Paired RelV
theorem Vals.length{xs:List V}{us:List Value}(r:Vals xs us):xs.length=us.length:=Paired.length r
theorem Vals.get:∀{xs:List V} {us:List Value} {i:Nat} {x:V},Vals xs us→xs[i]?=some x→∃u,us[i]?=some u∧RelV x u
 | _,_,_,_,.nil,e=>by simp at e
 | _,_,0,_,.cons r _,e=>by simp at e; subst e; exact⟨_,rfl,r⟩
 | _,_,i+1,x,.cons _ t,e=>by
  obtain⟨u,h1,h2⟩:=Vals.get (i:=i) (x:=x) t (by simpa using e)
  exact⟨u,by simpa using h1,h2⟩
theorem Vals.set{x:V}{u:Value}(r:RelV x u):∀{xs:List V} {us:List Value} (i:Nat),Vals xs us→Vals (xs.set i x) (us.set i u)
 | _,_,_,.nil=>.nil
 | _,_,0,.cons _ t=>.cons r t
 | _,_,i+1,.cons q t=>.cons q (Vals.set r i t)
theorem Vals.append:∀{xs ys:List V} {us ws:List Value},Vals xs us→Vals ys ws→Vals (xs++ys) (us++ws)
 | _,_,_,_,.nil,s=>s
 | _,_,_,_,.cons r t,s=>.cons r (Vals.append t s)
theorem Vals.take:∀{xs:List V} {us:List Value} (n:Nat),Vals xs us→Vals (xs.take n) (us.take n)
 | _,_,0,_=>.nil
 | _,_,_+1,.nil=>.nil
 | _,_,n+1,.cons r t=>.cons r (Vals.take n t)
theorem Vals.drop:∀{xs:List V} {us:List Value} (n:Nat),Vals xs us→Vals (xs.drop n) (us.drop n)
 | _,_,0,r=>r
 | _,_,_+1,.nil=>.nil
 | _,_,n+1,.cons _ t=>Vals.drop n t
def RelO:Option V→Option Value→Prop
 | some v,some u=>RelV v u
 | none,none=>True
 | _,_=>False
def KV{κ:Type}:List (κ×V)→List (κ×Value)→Prop:=Paired fun(p:κ×V) (q:κ×Value)=>p.1=q.1∧RelV p.2 q.2
def kV:Key→V
 | .inl i=>.int i
 | .inr x=>.str x
inductive HO where
 | lst (xs:List V)
 | tup (xs:List V)
 | dK (kvs:List (Key×V)) | dT (kvs:List (List Key×V))
 | set (S:Int→Bool) (n:Nat)
 | ins (C dx:Addr) (fs:List (Str×V))
 | own (x:Addr)
 | xd (fs:List (Str×V))
 | met (f x:Addr)
 | rng (lo hi:Int)
 | frz (o:Obj) (u:HO)
 | tbl (ps:Array Value)
 | ext (φ:Heap→Prop)
abbrev Hp:=Addr→Option HO
def upd(H:Hp)(a:Addr)(o:HO):Hp:=fun b=>if b=a then some o else H b
theorem upd_same{H:Hp}{a:Addr}{o:HO}:upd H a o a=some o:=by unfold upd; rw[if_pos rfl]
theorem upd_ne{H:Hp}{a b:Addr}{o:HO}(h:b≠a):upd H a o b=H b:=by unfold upd; rw[if_neg h]
theorem ne_of{H:Hp}{a b:Addr}{o u:HO}(h:H a=some o)(h':H b=some u)(d:o≠u):a≠b:=by
 intro e; subst e; rw[h] at h'; exact d (Option.some.inj h')
theorem ne_of_none{H:Hp}{a b:Addr}{o:HO}(h:H a=some o)(h':H b=none):a≠b:=by
 intro e; subst e; rw[h] at h'; cases h'
section
variable(P:Program)(w:World)
def ObjOk(H:Hp)(h:Heap)(a:Addr):HO→Prop
 | .lst xs=>xs.length≤sizeLine∧∃(its:List Value) (n:Nat),Vals xs its∧h.get? a=some { cls:=.type "list",data:=.seq its.toArray n }
 | .tup xs=>xs.length≤sizeLine∧∃its:List Value,Vals xs its∧IsTup h a its.toArray
 | .dK kvs=>kvs.length≤sizeLine∧(a==sysModules)=false∧∃vs,KV kvs vs∧h.DictOf (mixKind P w) a vs
 | .dT kvs=>kvs.length≤sizeLine∧(a==sysModules)=false∧∃xs:List (List Key×Addr×Value),
   Paired (fun(p:List Key×V) (q:List Key×Addr×Value)=>p.1=q.1∧H q.2.1=some (.tup (p.1.map kV))∧RelV p.2 q.2.2) kvs xs ∧
   ∃o es ep,h.get? a=some o∧o.ExactDict∧o.data=.dict es ep∧es.toList=xs.map (entryOfKey (tupleKind (mixKind P w)))∧(xs.map (·.1)).Nodup
 | .set S n=>h.SetOf (intKind P w) a S n
 | .ins C dx fs=>H dx=some (.own a)∧fs.length≤1000∧dx≠a∧h.get? a=some (PySem.W.instObj C dx) ∧
   ∃mA,h.Ns1 dx mA∧(∀f,RelO (fs.lookup f) (mA f))∧PySem.Within mA (fs.map (·.1))
 | .own _=>∃o,h.get? a=some o
 | .xd fs=>∃mA,h.Ns1 a mA∧∀f,RelO (fs.lookup f) (mA f)
 | .rng lo hi=>∃t u v,h.get? a=some { cls:=.type "range",data:=.fields #[.int lo t,.int hi u,.int 1 v] }
 | .frz o u=>h.get? a=some o∧ObjOk H h a u
 | .tbl ps=>h.get? a=some { cls:=.none,data:=.fields ps }
 | .met f x=>h.get? a=some (PySem.W.methodObj (.ref f) (.ref x))
 | .ext φ=>φ h∧(∃o,h.get? a=some o)∧∀h1 h2:Heap,φ h1→(∀o,h1.get? a=some o→h2.get? a=some o)→φ h2
def HOk(H:Hp)(h:Heap):Prop:=∀a o,H a=some o→ObjOk P w H h a o
end
section
variable{P:Program}{w:World}{H H':Hp}{h h':Heap}{a:Addr}{o:HO}
theorem ObjOk.lt(x:ObjOk P w H h a o):a<h.objs.size:=by
 cases o with
 | lst xs=>obtain⟨_,_,_,_,e⟩:=x; exact Heap.lt_size e
 | tup xs=>obtain⟨_,_,_,p⟩:=x; exact p.lt
 | dK kvs=>obtain⟨_,_,_,_,o,_,_,e,_⟩:=x; exact Heap.lt_size e
 | dT kvs=>obtain⟨_,_,_,_,o,_,_,e,_⟩:=x; exact Heap.lt_size e
 | set S n=>obtain⟨o,_,_,_,e,_⟩:=x; exact Heap.lt_size e
 | ins C dx fs=>obtain⟨_,_,_,e,_⟩:=x; exact Heap.lt_size e
 | own y=>obtain⟨_,e⟩:=x; exact Heap.lt_size e
 | xd fs=>obtain⟨_,⟨_,_,_,e,_⟩,_⟩:=x; exact Heap.lt_size e
 | rng lo hi=>obtain⟨_,_,_,e⟩:=x; exact Heap.lt_size e
 | frz ob u=>obtain⟨e,_⟩:=x; exact Heap.lt_size e
 | tbl ps=>exact Heap.lt_size (show h.get? a=some _ from x)
 | met f y=>exact Heap.lt_size (show h.get? a=some _ from x)
 | ext φ=>obtain⟨_,⟨_,e⟩,_⟩:=x; exact Heap.lt_size e
theorem Paired.mapP{α β:Type}{F G:α→β→Prop}:∀{l₁:List α} {l₂:List β},Paired F l₁ l₂→(∀a b,F a b→G a b)→Paired G l₁ l₂
 | _,_,.nil,_=>.nil
 | _,_,.cons r t,f=>.cons (f _ _ r) (Paired.mapP t f)
theorem ObjOk.stay(x:ObjOk P w H h a o)(k:∀b u,(b=a∨H b=some (.own a))→h.get? b=some u→h'.get? b=some u)
  (ho:∀b,H b=some (.own a)→H' b=some (.own a)) (ht:∀b xs,H b=some (.tup xs)→H' b=some (.tup xs)):ObjOk P w H' h' a o:=by
 induction o with
 | lst xs=>obtain⟨z,its,n,r,e⟩:=x; exact⟨z,its,n,r,k _ _ (.inl rfl) e⟩
 | tup xs=>obtain⟨z,its,r,ob,e,c⟩:=x; exact⟨z,its,r,ob,k _ _ (.inl rfl) e,c⟩
 | dK kvs=>obtain⟨z,y,vs,r,ob,es,ep,e,c⟩:=x; exact⟨z,y,vs,r,ob,es,ep,k _ _ (.inl rfl) e,c⟩
 | dT kvs=>
  obtain⟨z,y,xs,r,ob,es,ep,e,c⟩:=x
  exact⟨z,y,xs,Paired.mapP r fun p q z=>⟨z.1,ht _ _ z.2.1,z.2.2⟩,ob,es,ep,k _ _ (.inl rfl) e,c⟩
 | set S n=>obtain⟨ob,es,ep,t,e,c⟩:=x; exact⟨ob,es,ep,t,k _ _ (.inl rfl) e,c⟩
 | ins C dx fs=>
  obtain⟨d,z,ne,e,mA,⟨od,es,ep,e2,c⟩,r⟩:=x
  exact⟨ho _ d,z,ne,k _ _ (.inl rfl) e,mA,⟨od,es,ep,k _ _ (.inr d) e2,c⟩,r⟩
 | own y=>obtain⟨ob,e⟩:=x; exact⟨ob,k _ _ (.inl rfl) e⟩
 | xd fs=>obtain⟨mA,⟨od,es,ep,e,c⟩,r⟩:=x; exact⟨mA,⟨od,es,ep,k _ _ (.inl rfl) e,c⟩,r⟩
 | rng lo hi=>obtain⟨t,u,v,e⟩:=x; exact⟨t,u,v,k _ _ (.inl rfl) e⟩
 | frz ob u ih=>obtain⟨e,q⟩:=x; exact⟨k _ _ (.inl rfl) e,ih q⟩
 | tbl ps=>
  have e:h.get? a=some { cls:=.none,data:=.fields ps }:=x
  show h'.get? a=some { cls:=.none,data:=.fields ps }
  exact k a _ (.inl rfl) e
 | met f y=>
  have e:h.get? a=some (PySem.W.methodObj (.ref f) (.ref y)):=x
  show h'.get? a=some (PySem.W.methodObj (.ref f) (.ref y))
  exact k a _ (.inl rfl) e
 | ext φ=>obtain⟨p,⟨o,e⟩,st⟩:=x; exact⟨st _ _ p fun o q=>k _ _ (.inl rfl) q,⟨o,k _ _ (.inl rfl) e⟩,st⟩
theorem HOk.lt(x:HOk P w H h)(e:H a=some o):a<h.objs.size:=(x a o e).lt
theorem HOk.fresh(x:HOk P w H h)(e:h.objs.size≤a):H a=none:=by
 cases q:H a with
 | none=>rfl
 | some u=>exact absurd (Nat.lt_of_lt_of_le (x.lt q) e) (Nat.lt_irrefl _)
theorem HOk.kept(x:HOk P w H h)(k:∀b u,h.get? b=some u→h'.get? b=some u):HOk P w H h':=fun a o e=>
 (x a o e).stay (fun b u _ q=>k b u q) (fun _ q=>q) fun _ _ q=>q
theorem HOk.laid(x:HOk P w H h)(k:∀b u,h.get? b=some u→h'.get? b=some u)(hp:h.objs.size≤a)(new:ObjOk P w (upd H a o) h' a o):HOk P w (upd H a o) h':=fun b u e=>by
 have hn:=x.fresh hp
 by_cases hb:b=a
 .subst hb; rw[upd_same] at e; cases e; exact new
 .rw[upd_ne hb] at e
  exact(x b u e).stay (fun c v _ q=>k c v q) (fun c q=>by rw[upd_ne (ne_of_none q hn)]; exact q) fun c xs q=>by rw[upd_ne (ne_of_none q hn)]; exact q
end
def Rd(H:Hp)(a:Addr)(u:HO):Prop:=H a=some u∨∃o,H a=some (.frz o u)
theorem Rd.ok{P:Program}{w:World}{H:Hp}{h:Heap}{a:Addr}{u:HO}(r:Rd H a u)(x:HOk P w H h):ObjOk P w H h a u:=by
 rcases r with r | ⟨o,r⟩
 .exact x a u r
 .obtain⟨_,q⟩:=x a _ r
  exact q
def Mut:Option HO→Prop
 | some (.lst _)=>True
 | some (.dK _)=>True
 | some (.dT _)=>True
 | some (.set _ _)=>True
 | some (.ins _ _ _)=>True
 | some (.ext _)=>True
 | _=>False
section
variable{P:Program}{w:World}{H:Hp}{h h':Heap}{x e:Addr}{o':HO}
theorem HOk.write(ok:HOk P w H h)(mu:Mut (H x))(he:e=x∨H e=some (.own x))(k:∀b u,b≠e→h.get? b=some u→h'.get? b=some u)(heo:∃u,h'.get? e=some u)
  (new:ObjOk P w (upd H x o') h' x o'):HOk P w (upd H x o') h':=fun b u q=>by
 have nown:∀c y,H c=some (.own y)→c≠x:=fun c y r z=>by subst z; rw[r] at mu; exact mu
 have ntup:∀c xs,H c=some (.tup xs)→c≠x:=fun c xs r z=>by subst z; rw[r] at mu; exact mu
 by_cases hb:b=x
 .subst hb; rw[upd_same] at q; cases q; exact new
 .rw[upd_ne hb] at q
  by_cases hbe:b=e
  .have q':H b=some (.own x):=by
    rcases he with z | z
    .exact absurd (hbe.trans z) hb
    .rw[hbe]; exact z
   rw[q] at q'; cases q'
   obtain⟨v,hv⟩:=heo
   exact⟨v,by rw[hbe]; exact hv⟩
  .refine(ok b u q).stay (fun c v hc r=>k c v ?_ r) (fun c r=>by rw[upd_ne (nown c b r)]; exact r) fun c xs r=>by rw[upd_ne (ntup c xs r)]; exact r
   rcases hc with rfl | hc
   .exact hbe
   .rintro rfl
    rcases he with z | z
    .exact nown c b hc z
    .rw[hc] at z; cases z; exact hb rfl
end
structure Un(fs ex:List Addr)(H H':Hp)(h h':Heap):Prop where
 keep:∀b o,h.get? b=some o→H b=none→b∉fs→b∉ex→h'.get? b=some o
 slot:∀b o,h.get? b=some o→H b=none→b∈fs→b∉ex→∃sl,h'.get? b=some { o with slots:=sl }
 free:∀b o,h.get? b=some o→H b=none→b∉ex→H' b=none
 there:∀b o,h.get? b=some o→b∉ex→∃o',h'.get? b=some o'
 tups:∀b xs,H b=some (.tup xs)→H' b=some (.tup xs)
 frzs:∀b o u,H b=some (.frz o u)→H' b=some (.frz o u)
 tbls:∀b ps,H b=some (.tbl ps)→∃more,H' b=some (.tbl (ps++more))
section
variable{fs fs' ex ex':List Addr}{H H1 H2:Hp}{h h1 h2 h':Heap}{a x e:Addr}{o:HO}
theorem Un.any(u:Un fs ex H H1 h h1){b:Addr}{ob:Obj}(q:h.get? b=some ob)(n:H b=none)(hx:b∉ex):∃sl,h1.get? b=some { ob with slots:=sl }:=by
 by_cases hb:b∈fs
 .exact u.slot b ob q n hb hx
 .exact⟨ob.slots,u.keep b ob q n hb hx⟩
theorem Un.kept(k:∀b u,h.get? b=some u→h'.get? b=some u):Un fs ex H H h h':=
 ⟨fun b ob q _ _ _=>k b ob q,fun b ob q _ _ _=>⟨ob.slots,k b ob q⟩,fun _ _ _ n _=>n,fun b ob q _=>⟨ob,k b ob q⟩,fun _ _ q=>q,fun _ _ _ q=>q,fun _ ps q=>⟨#[],by rw[q]; simp⟩⟩
theorem Un.refl:Un fs ex H H h h:=Un.kept fun _ _ q=>q
theorem Un.laid(k:∀b u,h.get? b=some u→h'.get? b=some u)(hp:h.objs.size≤a)(hn:H a=none):Un fs ex H (upd H a o) h h' where
 keep:=fun b u q _ _ _=>k b u q
 slot:=fun b u q _ _ _=>⟨u.slots,k b u q⟩
 free:=fun b u q n _=>by rw[upd_ne (Nat.ne_of_lt (Nat.lt_of_lt_of_le (Heap.lt_size q) hp))]; exact n
 there:=fun b u q _=>⟨u,k b u q⟩
 tups:=fun b xs q=>by rw[upd_ne (ne_of_none q hn)]; exact q
 frzs:=fun b u xs q=>by rw[upd_ne (ne_of_none q hn)]; exact q
 tbls:=fun b ps q=>⟨#[],by rw[upd_ne (ne_of_none q hn),q]; simp⟩
theorem Un.write(mu:Mut (H x))(he:e=x∨H e=some (.own x))(k:∀b u,b≠e→h.get? b=some u→h'.get? b=some u)(heo:∃u,h'.get? e=some u):Un fs ex H (upd H x o) h h':=by
 have hx:∀b,H b=none→b≠x:=fun b n z=>by subst z; rw[n] at mu; exact mu
 have hb:∀b,H b=none→b≠e:=fun b n z=>by
  subst z
  rcases he with r | r
  .exact hx b n r
  .rw[n] at r; cases r
 have hm:∀b u,H b=some u→¬Mut (some u)→b≠x:=fun b u q nm z=>by subst z; rw[q] at mu; exact nm mu
 refine⟨fun b u q n _ _=>k b u (hb b n) q,fun b u q n _ _=>⟨u.slots,k b u (hb b n) q⟩,fun b u q n _=>by rw[upd_ne (hx b n)]; exact n,fun b u q _=>?_,
  fun b xs q=>by rw[upd_ne (hm b _ q fun z=>z)]; exact q,fun b u xs q=>by rw[upd_ne (hm b _ q fun z=>z)]; exact q,fun b ps q=>⟨#[],by rw[upd_ne (hm b _ q fun z=>z),q]; simp⟩⟩
 by_cases hbe:b=e
 .subst hbe; exact heo
 .exact⟨u,k b u hbe q⟩
end
def trk(h:Heap)(H:Hp):List Addr:=(List.range h.objs.size).filter fun a=>(H a).isSome
def hidT(h:Heap)(H:Hp):Heap:=PySem.W.hideAll h (trk h H)
theorem hidT_size(h:Heap)(H:Hp):(hidT h H).objs.size=h.objs.size:=PySem.W.hideAll_size _ _
theorem hidT_get{h:Heap}{H:Hp}{b:Addr}{o:Obj}(e:h.get? b=some o)(n:H b=none):(hidT h H).get? b=some o:=
 PySem.W.hideAll_get _ e fun hm=>by
  have q:(H b).isSome=true:=(List.mem_filter.mp hm).2
  rw[n] at q; simp at q
theorem of_hidT{h:Heap}{H:Hp}{b:Addr}{o:Obj}(e:(hidT h H).get? b=some o):h.get? b=some o∧H b=none:=by
 have e':h.get? b=some o:=PySem.W.of_hideAll (trk h H) e
 refine⟨e',?_⟩
 cases q:H b with
 | none=>rfl
 | some x=>
  have hm:b∈trk h H:=List.mem_filter.mpr ⟨List.mem_range.mpr (Heap.lt_size e'),by simp[q]⟩
  have z:(hidT h H).get? b=none:=PySem.W.hideAll_none (trk h H) hm
  rw[z] at e; cases e
end L2
namespace L2
open PySem PySem.Spec PyProof.Rows
structure Mod(K:PySem.W.Frag)(mg:Str→Option Value)(base:Heap):Prop where
 kin:K.In base
 glob:base.Ns mainGlobals mg
 blt:∃mb,base.Ns builtinsNs mb∧∀x:Str,x≠"__name__"→mb x=bootBuiltins x
 nolimit:base.NoLimit
structure Cx where
 prog:Program
 w:World
 K:PySem.W.Frag
 mg:Str→Option Value
 base:Heap
 A:Around
 N:List Str
 s₀:Shared
 H₀:Hp
 env:Env
 outer:List Env
 stack:List Env
 ex:List Addr
 fn:Str→Bool
 calm:Bool
 pn:List (Addr×Obj)
 xe:Value→Shared→Prop
def frs(l:List Env):List Addr:=l.filterMap (·.frame)
abbrev Cx.fs(X:Cx):List Addr:=frs X.outer
def Vis(sc:Scope)(x:Str):Prop:=sc.names.lookup x=some .local∨sc.names.lookup x=some .cell∨sc.names.lookup x=some .free
def Loc(sc:Scope)(x:Str):Prop:=sc.names.lookup x=some .local∨sc.names.lookup x=some .cell
def Look(env:Env)(h:Heap)(m:Str→Option Value)(x:Str)(u:Value):Prop:=
 (env.kindOf x=some .local∧m x=some u)∨((env.kindOf x=some .cell∨env.kindOf x=some .free)∧∃c,env.cells.lookup x=some c∧h.IsCell c (some u))
structure Cx.Ok(X:Cx):Prop where
 mod:Mod X.K X.mg X.base
 kind:X.env.scope.kind=.function
 glob:X.env.globals=mainGlobals
 blt:X.env.builtins=builtinsNs
 above:X.s₀.heap.objs.size≤X.env.locals
 inj:∀x y c,X.env.cells.lookup x=some c→X.env.cells.lookup y=some c→x=y
 has:∀x,(X.env.kindOf x=some .cell∨X.env.kindOf x=some .free)→∃c,X.env.cells.lookup x=some c
 cab:∀x c,X.fn x=true→X.env.cells.lookup x=some c→X.s₀.heap.objs.size≤c
 hd:X.calm=true→X.A.handled=none
 frames:X.A.frames=some X.stack
 stk:X.stack=X.outer∨(X.stack=X.env::X.outer∧X.env.frame=some X.env.locals)
 exf:∀b∈X.ex,b≠X.env.locals∧∀x c,X.env.cells.lookup x=some c→c≠b
 bs:∀b o,X.base.get? b=some o→X.s₀.heap.get? b=some o∧X.H₀ b=none
 bsz:X.base.objs.size≤X.s₀.heap.objs.size
 noex:∀b o,X.base.get? b=some o→b∉X.ex
 exfs:∀b∈X.ex,b∉X.fs
 funs:X.s₀.heap.FunFrames X.base X.outer
 frf:∀b∈X.fs,X.H₀ b=none
structure Inv(X:Cx)(pins:List (Addr×Obj))(σ:List (Option V))(H:Hp)(s:Shared):Prop where
 ok:X.Ok
 os:s.os=X.s₀.os
 bare:AllBare s.gens
 base:Un X.fs X.ex X.H₀ H X.s₀.heap s.heap
 loc:∃m,s.heap.Ns X.env.locals m∧∀(i:Nat) (x:Str) (v:V),X.N[i]?=some x→σ[i]?=some (some v)→Vis X.env.scope x→∃u,RelV v u∧Look X.env s.heap m x u
 cell:∀x c,X.env.cells.lookup x=some c→∃v,s.heap.IsCell c v
 free:H X.env.locals=none
 freeC:∀x c,X.env.cells.lookup x=some c→H c=none
 pin:∀p∈X.pn++pins,s.heap.get? p.1=some p.2∧H p.1=none∧p.1≠X.env.locals∧p.1∉X.fs∧∀v,p.2.data≠.cell v
 hok:HOk X.prog X.w H s.heap
 len:σ.length=X.N.length
section
variable{X:Cx}{pins:List (Addr×Obj)}{σ:List (Option V)}{H H':Hp}{s:Shared}{h':Heap}
theorem Cx.Ok.nofr(ok:X.Ok){b:Addr}{o:Obj}(e:X.base.get? b=some o):b∉X.fs:=fun hb=>by
 have:=(ok.funs.mem hb).1
 rw[e] at this; cases this
theorem Inv.bs(I:Inv X pins σ H s):∀b o,X.base.get? b=some o→s.heap.get? b=some o∧H b=none:=fun b o e=>
 ⟨I.base.keep b o (I.ok.bs b o e).1 (I.ok.bs b o e).2 (I.ok.nofr e) (I.ok.noex b o e),I.base.free b o (I.ok.bs b o e).1 (I.ok.bs b o e).2 (I.ok.noex b o e)⟩
theorem Inv.bk(I:Inv X pins σ H s):∀b o,X.base.get? b=some o→s.heap.get? b=some o:=fun b o e=>(I.bs b o e).1
theorem Inv.mod(I:Inv X pins σ H s):Mod X.K X.mg X.base:=I.ok.mod
theorem Inv.kIn(I:Inv X pins σ H s):X.K.In s.heap:=I.ok.mod.kin.keeps I.bk
theorem Inv.lt(I:Inv X pins σ H s):X.env.locals<s.heap.objs.size:=let ⟨_,hn,_⟩:=I.loc; hn.lt
theorem Inv.sz(I:Inv X pins σ H s):X.s₀.heap.objs.size≤s.heap.objs.size:=Nat.le_trans I.ok.above (Nat.le_of_lt I.lt)
theorem Inv.nofs(I:Inv X pins σ H s){a:Addr}(h:s.heap.objs.size≤a):a∉X.fs:=fun hb=>by
 obtain⟨_,o,ho,_⟩:=I.ok.funs.mem hb
 exact absurd (Nat.lt_of_lt_of_le (Heap.lt_size ho) (Nat.le_trans I.sz h)) (Nat.lt_irrefl _)
theorem Inv.cne(I:Inv X pins σ H s):∀x c,X.env.cells.lookup x=some c→c≠X.env.locals:=fun x c e z=>by
 obtain⟨v,o,ho,hd⟩:=I.cell x c e
 obtain⟨m,⟨o',es,ep,ho',hd',_⟩,_⟩:=I.loc
 rw[z,ho'] at ho; cases ho; rw[hd'] at hd; cases hd
theorem Inv.funs(I:Inv X pins σ H s):s.heap.FunFrames X.base X.outer:=by
 have all:∀(l:List Env),(∀b∈frs l,b∈X.fs)→X.s₀.heap.FunFrames X.base l→s.heap.FunFrames X.base l:=by
  intro l
  induction l with
  | nil=>intro _ _; trivial
  | cons env r ih=>
   intro hs hl
   obtain⟨hk,⟨L,o,hf,hn,ho,hd⟩,hr⟩:=hl
   have hL:L∈X.fs:=hs L (by unfold frs; rw[List.filterMap_cons,hf]; exact List.mem_cons_self)
   obtain⟨sl,e⟩:=I.base.slot L o ho (I.ok.frf L hL) hL fun z=>I.ok.exfs L z hL
   exact⟨hk,⟨L,_,hf,hn,e,hd⟩,ih (fun b hb=>hs b (by unfold frs; rw[List.filterMap_cons,hf]; exact List.mem_cons_of_mem _ hb)) hr⟩
 exact all X.outer (fun _ hb=>hb) I.ok.funs
theorem Inv.stack(I:Inv X pins σ H s):s.heap.FunFrames X.base X.stack:=by
 rcases I.ok.stk with e | ⟨e,hf⟩
 .rw[e]; exact I.funs
 .rw[e]
  obtain⟨m,hn,_⟩:=I.loc
  refine .cons (by rw[I.ok.kind]; decide) hf hn ?_ I.funs
  exact Heap.get?_none_of_le (Nat.le_trans I.ok.bsz I.ok.above)
theorem Inv.stkSub(I:Inv X pins σ H s):∀b∈frs X.stack,b∈X.env.locals::X.fs:=fun b hb=>by
 rcases I.ok.stk with e | ⟨e,hf⟩
 .rw[e] at hb; exact List.mem_cons_of_mem _ hb
 .rw[e] at hb
  unfold frs at hb
  rw[List.filterMap_cons,hf] at hb
  exact hb
theorem Inv.stkFree(I:Inv X pins σ H s):∀b∈frs X.stack,H b=none:=fun b hb=>by
 rcases List.mem_cons.mp (I.stkSub b hb) with e | hb
 .rw[e]; exact I.free
 .obtain⟨_,o,ho,_⟩:=I.ok.funs.mem hb
  exact I.base.free b o ho (I.ok.frf b hb) fun z=>I.ok.exfs b z hb
theorem Inv.step{g':Array GenState}{t':Nat}{d':Drawn}{ch:List Addr}(I:Inv X pins σ H s)
  (hch:∀b∈ch,(b∈X.ex∨X.s₀.heap.objs.size≤b)∧b≠X.env.locals∧(∀x c,X.env.cells.lookup x=some c→c≠b)∧∀p∈X.pn++pins,p.1≠b)
  (keep:∀b o,b≠X.env.locals→b∉X.fs→b∉ch→s.heap.get? b=some o→H b=none→h'.get? b=some o)
  (slot:∀b o,b≠X.env.locals→b∈X.fs→b∉ch→s.heap.get? b=some o→H b=none→∃sl,h'.get? b=some { o with slots:=sl }) (free:∀b o,b∉ch→s.heap.get? b=some o→H b=none→H' b=none)
  (there:∀b o,b∉ch→s.heap.get? b=some o→∃o',h'.get? b=some o')
  (tups:∀b xs,H b=some (.tup xs)→H' b=some (.tup xs)) (frzs:∀b o u,H b=some (.frz o u)→H' b=some (.frz o u)) (tbls:∀b ps,H b=some (.tbl ps)→∃more,H' b=some (.tbl (ps++more)))
  (ns:∀m,s.heap.Ns X.env.locals m→h'.Ns X.env.locals m) (hok:HOk X.prog X.w H' h') (hg:AllBare g') :
  Inv X pins σ H' { s with heap:=h',gens:=g',drawn:=d',toks:=t' }:=by
 have neL:∀b o,X.s₀.heap.get? b=some o→b≠X.env.locals:=fun b o e=>Nat.ne_of_lt (Nat.lt_of_lt_of_le (Heap.lt_size e) I.ok.above)
 have neC:∀b o,X.s₀.heap.get? b=some o→b∉X.ex→b∉ch:=fun b o e hx hb=>by
  rcases(hch b hb).1 with z | z
  .exact hx z
  .exact absurd (Nat.lt_of_lt_of_le (Heap.lt_size e) z) (Nat.lt_irrefl _)
 have cellK:∀x c,X.env.cells.lookup x=some c→∀v,s.heap.IsCell c v→h'.IsCell c v:=fun x c e v ⟨o,ho,hd⟩=>by
  have nch:c∉ch:=fun z=>(hch c z).2.2.1 x c e rfl
  by_cases hc:c∈X.fs
  .obtain⟨sl,q⟩:=slot c o (I.cne x c e) hc nch ho (I.freeC x c e)
   exact⟨_,q,hd⟩
  .exact⟨o,keep c o (I.cne x c e) hc nch ho (I.freeC x c e),hd⟩
 refine⟨I.ok,I.os,hg,⟨fun b o e n hb hx=>?_,fun b o e n hb hx=>?_,fun b o e n hx=>?_,fun b o e hx=>?_,fun b xs e=>tups b xs (I.base.tups b xs e),fun b o xs e=>frzs b o xs (I.base.frzs b o xs e),fun b ps e=>?_⟩,?_,fun x c e=>?_,?_,fun x c e=>?_,fun p hp=>?_,hok,I.len⟩
 .exact keep b o (neL b o e) hb (neC b o e hx) (I.base.keep b o e n hb hx) (I.base.free b o e n hx)
 .obtain⟨sl,e1⟩:=I.base.slot b o e n hb hx
  obtain⟨sl',e2⟩:=slot b _ (neL b o e) hb (neC b o e hx) e1 (I.base.free b o e n hx)
  exact⟨sl',e2⟩
 .obtain⟨o',e1⟩:=I.base.there b o e hx
  exact free b o' (neC b o e hx) e1 (I.base.free b o e n hx)
 .obtain⟨o',e1⟩:=I.base.there b o e hx
  exact there b o' (neC b o e hx) e1
 .obtain⟨m1,e1⟩:=I.base.tbls b ps e
  obtain⟨m2,e2⟩:=tbls b _ e1
  exact⟨m1++m2,by rw[e2,Array.append_assoc]⟩
 .obtain⟨m,hn,hl⟩:=I.loc
  refine⟨m,ns m hn,fun i x v e1 e2 e3=>?_⟩
  obtain⟨u,r,l⟩:=hl i x v e1 e2 e3
  refine⟨u,r,?_⟩
  rcases l with l | ⟨k,c,e,z⟩
  .exact .inl l
  .exact .inr ⟨k,c,e,cellK x c e _ z⟩
 .obtain⟨v,z⟩:=I.cell x c e
  exact⟨v,cellK x c e v z⟩
 .obtain⟨m,⟨o,_,_,ho,_⟩,_⟩:=I.loc
  exact free _ o (fun z=>(hch _ z).2.1 rfl) ho I.free
 .obtain⟨v,o,ho,hd⟩:=I.cell x c e
  exact free c o (fun z=>(hch c z).2.2.1 x c e rfl) ho (I.freeC x c e)
 .obtain⟨e,n,ne,nf,d⟩:=I.pin p hp
  have nch:p.1∉ch:=fun z=>(hch p.1 z).2.2.2 p hp rfl
  exact⟨keep p.1 p.2 ne nf nch e n,free p.1 p.2 nch e n,ne,nf,d⟩
theorem Inv.un{t':Nat}(I:Inv X pins σ H s)(u:Un X.fs [] H H' s.heap h')(hok:HOk X.prog X.w H' h'):Inv X pins σ H' { s with heap:=h',toks:=t' }:=by
 obtain⟨m,⟨o,es,ep,ho,r⟩,_⟩:=id I.loc
 obtain⟨sl,hL⟩:=u.any ho I.free (by simp)
 exact I.step (g':=s.gens) (d':=s.drawn) (ch:=[]) (fun _ z=>nomatch z) (fun b o _ hb _ e n=>u.keep b o e n hb (by simp)) (fun b o _ hb _ e n=>u.slot b o e n hb (by simp)) (fun b o _ e n=>u.free b o e n (by simp)) (fun b o _ e=>u.there b o e (by simp)) u.tups u.frzs u.tbls (fun m' hm=>by
  obtain⟨o',es',ep',ho',r'⟩:=hm
  rw[ho] at ho'; cases ho'
  exact⟨_,es',ep',hL,r'⟩) hok I.bare
theorem Inv.call{g':Array GenState}{t':Nat}{d':Drawn}{ch:List Addr}(I:Inv X pins σ H s)(u:Un (frs X.stack) ch H H' s.heap h')(hok:HOk X.prog X.w H' h')(hg:AllBare g')
  (hch:∀b∈ch,(b∈X.ex∨X.s₀.heap.objs.size≤b)∧b≠X.env.locals∧(∀x c,X.env.cells.lookup x=some c→c≠b)∧∀p∈X.pn++pins,p.1≠b) :
  Inv X pins σ H' { s with heap:=h',gens:=g',drawn:=d',toks:=t' }:=by
 obtain⟨m,⟨o,es,ep,ho,r⟩,_⟩:=id I.loc
 obtain⟨sl,hL⟩:=u.any ho I.free fun z=>(hch _ z).2.1 rfl
 exact I.step (ch:=ch) hch (fun b o hL hb hc e n=>u.keep b o e n (fun z=>(List.mem_cons.mp (I.stkSub b z)).elim hL hb) hc) (fun b o _ _ hc e n=>u.any e n hc) (fun b o hc e n=>u.free b o e n hc) (fun b o hc e=>u.there b o e hc) u.tups u.frzs u.tbls (fun m' hm=>by
  obtain⟨o',es',ep',ho',r'⟩:=hm
  rw[ho] at ho'; cases ho'
  exact⟨_,es',ep',hL,r'⟩) hok hg
theorem Inv.turned{t':Nat}{it:Addr}(I:Inv X pins σ H s)(k:∀b o,b≠it→s.heap.get? b=some o→h'.get? b=some o)(hn:H it=none)(hL:it≠X.env.locals)
  (h1:it∈X.ex∨X.s₀.heap.objs.size≤it) (h2:∀x c,X.env.cells.lookup x=some c→c≠it) (h3:∀p∈X.pn++pins,p.1≠it):Inv X pins σ H { s with heap:=h',toks:=t' }:=by
 have nit:∀b u,H b=some u→b≠it:=fun b u e z=>by rw[z,hn] at e; cases e
 refine I.step (g':=s.gens) (d':=s.drawn) (ch:=[it]) (fun b hb=>?_) (fun b o _ _ hc e _=>k b o (fun z=>hc (by simp[z])) e) (fun b o _ _ hc e _=>⟨o.slots,k b o (fun z=>hc (by simp[z])) e⟩) (fun _ _ _ _ n=>n)
  (fun b o hc e=>⟨o,k b o (fun z=>hc (by simp[z])) e⟩) (fun _ _ e=>e) (fun _ _ _ e=>e) (fun b ps e=>⟨#[],by rw[e]; simp⟩) (fun m hm=>?_) (fun b u e=>?_) I.bare
 .have e:b=it:=by simpa using hb
  subst e
  exact⟨h1,hL,h2,h3⟩
 .obtain⟨o,es,ep,ho,r⟩:=hm
  exact⟨o,es,ep,k _ o (Ne.symm hL) ho,r⟩
 .refine(I.hok b u e).stay (fun c v hc q=>k c v ?_ q) (fun _ q=>q) fun _ _ q=>q
  rcases hc with z | z
  .rw[z]; exact nit b u e
  .exact nit c _ z
theorem Inv.tok(I:Inv X pins σ H s)(t:Nat):Inv X pins σ H { s with toks:=t }:=I.un (h':=s.heap) (t':=t) Un.refl I.hok
theorem Inv.kept{t':Nat}(I:Inv X pins σ H s)(k:∀b u,s.heap.get? b=some u→h'.get? b=some u):Inv X pins σ H { s with heap:=h',toks:=t' }:=I.un (Un.kept k) (I.hok.kept k)
theorem Inv.laid{a:Addr}{o:HO}{t':Nat}(I:Inv X pins σ H s)(k:∀b u,s.heap.get? b=some u→h'.get? b=some u)(hp:s.heap.objs.size≤a)(new:ObjOk X.prog X.w (upd H a o) h' a o) :
  Inv X pins σ (upd H a o) { s with heap:=h',toks:=t' }:=I.un (Un.laid k hp (I.hok.fresh hp)) (I.hok.laid k hp new)
theorem Inv.write{x e:Addr}{o:HO}{t':Nat}(I:Inv X pins σ H s)(mu:Mut (H x))(he:e=x∨H e=some (.own x))(k:∀b u,b≠e→s.heap.get? b=some u→h'.get? b=some u)(heo:∃u,h'.get? e=some u)
  (new:ObjOk X.prog X.w (upd H x o) h' x o):Inv X pins σ (upd H x o) { s with heap:=h',toks:=t' }:=I.un (Un.write mu he k heo) (I.hok.write mu he k heo new)
theorem Inv.pins_of{pins':List (Addr×Obj)}(I:Inv X pins σ H s)(h:∀p∈pins',s.heap.get? p.1=some p.2∧H p.1=none∧p.1≠X.env.locals∧p.1∉X.fs∧∀v,p.2.data≠.cell v):Inv X pins' σ H s:=
 ⟨I.ok,I.os,I.bare,I.base,I.loc,I.cell,I.free,I.freeC,fun p hp=>(List.mem_append.mp hp).elim (fun z=>I.pin p (List.mem_append_left _ z)) (h p),I.hok,I.len⟩
theorem nodup_ix{N:List Str}(hN:N.Nodup){i j:Nat}{x:Str}(a:N[i]?=some x)(b:N[j]?=some x):i=j:=by
 obtain⟨h1,e1⟩:=List.getElem?_eq_some_iff.mp a
 obtain⟨h2,e2⟩:=List.getElem?_eq_some_iff.mp b
 exact(List.getElem_inj hN).mp (e1.trans e2.symm)
theorem store_ok2{M:Model}{A:Around}{E:Value→Shared→Prop}{i:Nat}{x:Str}{v:V}{u:Value}{Q:Unit→Shared→Prop}(I:Inv X pins σ H s)(hN:X.N.Nodup)(hi:X.N[i]?=some x)(hx:Loc X.env.scope x)(r:RelV v u)
  (h:∀s',Inv X pins (σ.set i (some v)) H s'→(∃a,Heap.SameBut a s.heap s'.heap∧(a=X.env.locals∨X.env.cells.lookup x=some a))→Q () s') (hf:X.fn x=true∨X.env.scope.names.lookup x=some .local:=by first | exact .inl rfl | exact .inr rfl | assumption):wpAny M A (storeName X.env x u) Q E s:=by
 obtain⟨m,hn,hl⟩:=id I.loc
 have hcls:(X.env.scope.kind==.class||(X.env.scope.kind==.module&&X.env.locals != X.env.globals))=false:=by rw[I.ok.kind]; rfl
 have hiσ:i<σ.length:=by rw[I.len]; exact(List.getElem?_eq_some_iff.mp hi).1
 have cne:=I.cne
 have tracked:∀{a:Addr} {h':Heap},(∃o,s.heap.get? a=some o∧H a=none)→Heap.SameBut a s.heap h'→HOk X.prog X.w H h':=fun {a h'} ha hs b ob e=>by
  obtain⟨_,_,hfree⟩:=ha
  refine(I.hok b ob e).stay (fun c w' hc q=>(hs.2 c ?_).trans q) (fun _ q=>q) fun _ _ q=>q
  rintro rfl
  rcases hc with rfl | hc
  .rw[hfree] at e; cases e
  .rw[hfree] at hc; cases hc
 rcases hx with hk | hk
 .refine wpAny_storeName_local hk hn (fun h' hn' hs=>?_) hcls
  obtain⟨oL,_,_,hoL,_⟩:=id hn
  refine h _ ⟨I.ok,I.os,I.bare,⟨fun b o e n hb hx=>?_,fun b o e n hb hx=>?_,I.base.free,fun b o e hx=>?_,I.base.tups,I.base.frzs,I.base.tbls⟩,⟨_,hn',fun j y v' e1 e2 e3=>?_⟩,fun y c e=>?_,I.free,I.freeC,fun p hp=>?_,tracked ⟨oL,hoL,I.free⟩ hs,by simpa using I.len⟩ ⟨_,hs,.inl rfl⟩
  .exact(hs.2 b (Nat.ne_of_lt (Nat.lt_of_lt_of_le (Heap.lt_size e) I.ok.above))).trans (I.base.keep b o e n hb hx)
  .obtain⟨sl,e1⟩:=I.base.slot b o e n hb hx
   exact⟨sl,(hs.2 b (Nat.ne_of_lt (Nat.lt_of_lt_of_le (Heap.lt_size e) I.ok.above))).trans e1⟩
  .obtain⟨o',e1⟩:=I.base.there b o e hx
   exact⟨o',(hs.2 b (Nat.ne_of_lt (Nat.lt_of_lt_of_le (Heap.lt_size e) I.ok.above))).trans e1⟩
  .by_cases hj:j=i
   .subst hj
    rw[hi] at e1; cases e1
    rw[List.getElem?_set_self hiσ] at e2
    cases e2
    exact⟨u,r,.inl ⟨hk,by simp⟩⟩
   .rw[List.getElem?_set_ne (Ne.symm hj)] at e2
    obtain⟨u',r',q⟩:=hl j y v' e1 e2 e3
    refine⟨u',r',?_⟩
    rcases q with ⟨k,e⟩ | ⟨k,c,e,z⟩
    .refine .inl ⟨k,?_⟩
     have:y≠x:=fun e=>hj (nodup_ix hN e1 (e▸hi))
     simp[this,e]
    .exact .inr ⟨k,c,e,z.sameBut hs (cne y c e)⟩
  .obtain⟨w',z⟩:=I.cell y c e
   exact⟨w',z.sameBut hs (cne y c e)⟩
  .obtain⟨e,n,ne,nf,d⟩:=I.pin p hp
   exact⟨(hs.2 p.1 ne).trans e,n,ne,nf,d⟩
 .have hfn:X.fn x=true:=by
   rcases hf with z | z
   .exact z
   .rw[z] at hk; cases hk
  obtain⟨c,hc⟩:=I.ok.has x (.inl hk)
  obtain⟨w',z⟩:=I.cell x c hc
  refine wpAny_storeName_cell I.ok.kind hk hc z (fun h' hc' hs=>?_)
  obtain⟨oc,hoc,hocd⟩:=id z
  refine h { s with heap:=h' } ⟨I.ok,I.os,I.bare,⟨fun b o e n hb hx=>?_,fun b o e n hb hx=>?_,I.base.free,fun b o e hx=>?_,I.base.tups,I.base.frzs,I.base.tbls⟩,⟨m,hn.sameBut hs (Ne.symm (cne x c hc)),fun j y v' e1 e2 e3=>?_⟩,fun y c' e=>?_,I.free,I.freeC,fun p hp=>?_,tracked ⟨oc,hoc,I.freeC x c hc⟩ hs,by simpa using I.len⟩ ⟨c,hs,.inr hc⟩
  .exact(hs.2 b (Nat.ne_of_lt (Nat.lt_of_lt_of_le (Heap.lt_size e) (I.ok.cab x c hfn hc)))).trans (I.base.keep b o e n hb hx)
  .obtain⟨sl,e1⟩:=I.base.slot b o e n hb hx
   exact⟨sl,(hs.2 b (Nat.ne_of_lt (Nat.lt_of_lt_of_le (Heap.lt_size e) (I.ok.cab x c hfn hc)))).trans e1⟩
  .obtain⟨o',e1⟩:=I.base.there b o e hx
   exact⟨o',(hs.2 b (Nat.ne_of_lt (Nat.lt_of_lt_of_le (Heap.lt_size e) (I.ok.cab x c hfn hc)))).trans e1⟩
  .by_cases hj:j=i
   .subst hj
    rw[hi] at e1; cases e1
    rw[List.getElem?_set_self hiσ] at e2
    cases e2
    exact⟨u,r,.inr ⟨.inl hk,c,hc,hc'⟩⟩
   .rw[List.getElem?_set_ne (Ne.symm hj)] at e2
    obtain⟨u',r',q⟩:=hl j y v' e1 e2 e3
    refine⟨u',r',?_⟩
    rcases q with q | ⟨k,c',e,z'⟩
    .exact .inl q
    .refine .inr ⟨k,c',e,z'.sameBut hs ?_⟩
     rintro rfl
     exact hj (nodup_ix hN e1 (I.ok.inj _ _ _ e hc▸hi))
  .by_cases hcc:c'=c
   .subst hcc; exact⟨_,hc'⟩
   .obtain⟨w2,z2⟩:=I.cell y c' e
    exact⟨w2,z2.sameBut hs hcc⟩
  .obtain⟨e,n,ne,nf,d⟩:=I.pin p hp
   refine⟨(hs.2 p.1 ?_).trans e,n,ne,nf,d⟩
   intro q
   rw[q,hoc] at e
   have q':oc=p.2:=Option.some.inj e
   exact d w' (by rw[←q']; exact hocd)
theorem store_ok{M:Model}{A:Around}{E:Value→Shared→Prop}{i:Nat}{x:Str}{v:V}{u:Value}{Q:Unit→Shared→Prop}(I:Inv X pins σ H s)(hN:X.N.Nodup)(hi:X.N[i]?=some x)(hx:Loc X.env.scope x)(r:RelV v u)
  (h:∀s',Inv X pins (σ.set i (some v)) H s'→Q () s') (hf:X.fn x=true∨X.env.scope.names.lookup x=some .local:=by first | exact .inl rfl | exact .inr rfl | assumption):wpAny M A (storeName X.env x u) Q E s:=
 store_ok2 I hN hi hx r (fun s' I' _=>h s' I') hf
theorem Inv.call'{s':Shared}{ch:List Addr}(I:Inv X pins σ H s)(ho:s'.os=s.os)(u:Un (frs X.stack) ch H H' s.heap s'.heap)(hok:HOk X.prog X.w H' s'.heap)(hg:AllBare s'.gens)
  (hch:∀b∈ch,(b∈X.ex∨X.s₀.heap.objs.size≤b)∧b≠X.env.locals∧(∀x c,X.env.cells.lookup x=some c→c≠b)∧∀p∈X.pn++pins,p.1≠b):Inv X pins σ H' s':=by
 obtain⟨h',g',d',t',o'⟩:=s'
 have e:o'=s.os:=ho
 subst e
 exact I.call (g':=g') (t':=t') (d':=d') u hok hg hch
end
abbrev XK:=Value→Option Addr→Hp→Prop
abbrev St:=List (Option V)
abbrev VK:=V→Hp→Prop
abbrev TE:=St→Hp→VK→Prop
abbrev TT:=St→Hp→(Bool→Hp→Prop)→Prop
abbrev TA:=St→Hp→(List V→Hp→Prop)→Prop
structure Ends where
 nx:St→Hp→Prop
 rt:VK
 bk:St→Hp→Prop:=fun _ _=>False
 ct:St→Hp→Prop:=fun _ _=>False
abbrev TS:=Ends→St→Hp→Prop
def EP(X:Cx)(pins:List (Addr×Obj))(σ:St)(Q:VK)(u:Value)(s':Shared):Prop:=∃v H',Inv X pins σ H' s'∧RelV v u∧Q v H'
def TP(X:Cx)(pins:List (Addr×Obj))(σ:St)(Q:Bool→Hp→Prop)(b:Bool)(s':Shared):Prop:=∃H',Inv X pins σ H' s'∧Q b H'
def AP(X:Cx)(pins:List (Addr×Obj))(σ:St)(Q:List V→Hp→Prop)(us:List Value)(s':Shared):Prop:=∃vs H',Inv X pins σ H' s'∧Vals vs us∧Q vs H'
def SP(X:Cx)(pins:List (Addr×Obj))(D:Ends)(f:Flow)(s':Shared):Prop:=
 match f with
 | .next=>∃σ' H',Inv X pins σ' H' s'∧D.nx σ' H'
 | .brk=>∃σ' H',Inv X pins σ' H' s'∧D.bk σ' H'
 | .cont=>∃σ' H',Inv X pins σ' H' s'∧D.ct σ' H'
 | .ret u=>∃v σ' H',Inv X pins σ' H' s'∧RelV v u∧D.rt v H'
def PE(X:Cx)(e:Expr)(t:TE):Prop:=
 ∀(pins:List (Addr×Obj)) (s:Shared) (σ:St) (H:Hp) (Q:VK),Inv X pins σ H s→t σ H Q→wpAny (model X.prog X.w) X.A (eval e X.env) (EP X pins σ Q) X.xe s
def PT(X:Cx)(e:Expr)(t:TT):Prop:=
 ∀(pins:List (Addr×Obj)) (s:Shared) (σ:St) (H:Hp) (Q:Bool→Hp→Prop),Inv X pins σ H s→t σ H Q→wpAny (model X.prog X.w) X.A (isTrue e X.env (eval e X.env)) (TP X pins σ Q) X.xe s
def PW(X:Cx)(e:Expr)(t:TT):Prop:=
 ∀(whole:Sem Value) (pins:List (Addr×Obj)) (s:Shared) (σ:St) (H:Hp) (Q:Bool→Hp→Prop),Inv X pins σ H s→t σ H Q→wpAny (model X.prog X.w) X.A (isTrue e X.env whole) (TP X pins σ Q) X.xe s
theorem PW.pt{X:Cx}{e:Expr}{t:TT}(h:PW X e t):PT X e t:=h _
def PA(X:Cx)(es:List Expr)(t:TA):Prop:=
 ∀(pos:Pos) (pins:List (Addr×Obj)) (s:Shared) (σ:St) (H:Hp) (Q:List V→Hp→Prop),Inv X pins σ H s→t σ H Q→wpAny (model X.prog X.w) X.A (spliced (backTo pos (starEach es X.env))) (AP X pins σ Q) X.xe s
def PS(X:Cx)(st:Stmt)(t:TS):Prop:=
 ∀(pins:List (Addr×Obj)) (s:Shared) (σ:St) (H:Hp) (D:Ends),Inv X pins σ H s→t D σ H→wpAny (model X.prog X.w) X.A (exec st X.env) (SP X pins D) X.xe s
def PSs(X:Cx)(st:List Stmt)(t:TS):Prop:=
 ∀(pins:List (Addr×Obj)) (s:Shared) (σ:St) (H:Hp) (D:Ends),Inv X pins σ H s→t D σ H→wpAny (model X.prog X.w) X.A (execs st X.env) (SP X pins D) X.xe s
theorem thn{α:Type}{t:Sem α}{Q Q':α→Shared→Prop}{M:Model}{A:Around}{E:Value→Shared→Prop}{s:Shared}(h:wpAny M A t Q E s)(hQ:∀a s,Q a s→Q' a s):wpAny M A t Q' E s:=wpAny_mono h hQ fun _ _ x=>x
end L2
namespace L2
open PySem PySem.Spec PyProof.Rows
section
variable{X:Cx}
def tVar(i:Nat):TE:=fun σ H Q=>∃v,σ[i]?=some (some v)∧Q v H
def tC(v:V):TE:=fun _ H Q=>Q v H
theorem pe_var{i:Nat}{x:Str}{pos:Pos}(hN:X.N[i]?=some x)(hv:Vis X.env.scope x)(hd:(x==("__debug__":Str))=false:=by decide)(hcd:(x==("__classdict__":Str))=false:=by decide):PE X (.Name x pos) (tVar i):=by
 intro pins s σ H Q I h
 obtain⟨v,e,h⟩:=h
 obtain⟨m,hn,hl⟩:=I.loc
 obtain⟨u,r,l⟩:=hl i x v hN e hv
 have fin:EP X pins σ Q u s:=⟨v,H,I,r,h⟩
 rcases l with ⟨hk,hm⟩ | ⟨hk,c,hc,hcell⟩
 .exact wpAny_Name (wpAny_loadName_local I.ok.kind hk hn hm fin) hd
 .rcases hk with hk | hk
  .exact wpAny_Name (wpAny_loadName_cell I.ok.kind hk hc hcell fin) hd
  .exact wpAny_Name (wpAny_loadName_free I.ok.kind hk hc hcell fin hcd) hd
theorem pe_int{i j pos}:PE X (.Constant (.int i) j pos) (tC (.int i)):=fun _ _ _ H _ I h=>wpAny_Constant_int ⟨.int i,H,I.tok _,⟨_,rfl⟩,h⟩
theorem pe_bl{b j pos}:PE X (.Constant (.bool b) j pos) (tC (.bl b)):=fun _ _ _ H _ I h=>Constant_bool ⟨.bl b,H,I,rfl,h⟩
theorem pe_non{j pos}:PE X (.Constant .none j pos) (tC .non):=fun _ _ _ H _ I h=>Constant_none ⟨.non,H,I,rfl,h⟩
theorem pe_str{x j pos}:PE X (.Constant (.str x) j pos) (tC (.str x)):=fun _ _ _ H _ I h=>Calls.Constant_str ⟨.str x,H,I.tok _,⟨_,rfl⟩,h⟩
def Gl(X:Cx)(x:Str):Prop:=X.env.kindOf x=some .globalImplicit
theorem ld_glob{E:Value→Shared→Prop}{pins:List (Addr×Obj)}{s:Shared}{σ:St}{H:Hp}{x:Str}{u:Value}{pos:Pos}{Q:Value→Shared→Prop}(I:Inv X pins σ H s)(hg:Gl X x)(hm:X.mg x=some u)(h:Q u s)
  (hd:(x==("__debug__":Str))=false:=by decide):wpAny (model X.prog X.w) X.A (eval (.Name x pos) X.env) Q E s:=
 Calls.Name_function_global I.ok.kind hg (Calls.loadGlobal_global (by rw[I.ok.glob]; exact I.mod.glob.keeps I.bk) hm h) hd
theorem ld_blt{E:Value→Shared→Prop}{pins:List (Addr×Obj)}{s:Shared}{σ:St}{H:Hp}{x:Str}{u:Value}{pos:Pos}{Q:Value→Shared→Prop}(I:Inv X pins σ H s)(hg:Gl X x)(hm:X.mg x=none)(hv:bootBuiltins x=some u)(h:Q u s)
  (hn:x≠"__name__":=by decide) (hd:(x==("__debug__":Str))=false:=by decide):wpAny (model X.prog X.w) X.A (eval (.Name x pos) X.env) Q E s:=by
 obtain⟨mb,h1,h2⟩:=I.mod.blt
 exact Calls.Name_function_global I.ok.kind hg (Calls.loadGlobal_builtin (by rw[I.ok.glob]; exact I.mod.glob.keeps I.bk) hm (by rw[I.ok.blt]; exact h1.keeps I.bk) ((h2 x hn).trans hv) h) hd
theorem pe_glob{x:Str}{v:V}{u:Value}{pos:Pos}(hg:Gl X x)(hm:X.mg x=some u)(r:RelV v u)(hd:(x==("__debug__":Str))=false:=by decide):PE X (.Name x pos) (tC v):=
 fun _ _ _ H _ I h=>ld_glob I hg hm ⟨v,H,I,r,h⟩ hd
theorem pe_bltn{x:Str}{v:V}{u:Value}{pos:Pos}(hg:Gl X x)(hm:X.mg x=none)(hv:bootBuiltins x=some u)(r:RelV v u)(hn:x≠"__name__":=by decide)(hd:(x==("__debug__":Str))=false:=by decide):PE X (.Name x pos) (tC v):=
 fun _ _ _ H _ I h=>ld_blt I hg hm hv ⟨v,H,I,r,h⟩ hn hd
variable{a b:Expr}{ta tb:TE}{pos:Pos}
def tB(t:TE):TT:=fun σ H Q=>t σ H fun x H1=>∃c,x=.bl c∧Q c H1
theorem pt_val{e:Expr}{t:TE}(h:PE X e t)(he:∀whole,isTrue e X.env whole=(do let v ←whole; standAt e.pos; holding [v] (truthy v)):=by intro _; rfl):PT X e (tB t):=by
 intro pins s σ H Q I hw
 refine isTrue_plain (thn (h pins s σ H _ I hw) fun v s1 ⟨x,H1,I1,r1,q1⟩=>?_) (he _)
 obtain⟨d,rfl,q⟩:=q1
 cases r1
 exact wpAny_truthy_bool ⟨H1,I1,q⟩
variable{tA tB':TT}{rest:List Expr}
def tAnd(t u:TT):TT:=fun σ H Q=>t σ H fun c H1=>if c=true then u σ H1 Q else Q false H1
def tOr(t u:TT):TT:=fun σ H Q=>t σ H fun c H1=>if c=true then Q true H1 else u σ H1 Q
def tNot(t:TT):TT:=fun σ H Q=>t σ H fun c H1=>Q (!c) H1
theorem pw_and1(ha:PT X a tA):PW X (.BoolOp .And [a] pos) tA:=by
 intro wh pins s σ H Q I h
 refine isTrue_and (thn (ha pins s σ H Q I h) fun c s1 e=>?_)
 cases c with
 | true=>exact isTrue_and_nil e
 | false=>exact e
theorem pw_or1(ha:PT X a tA):PW X (.BoolOp .Or [a] pos) tA:=by
 intro wh pins s σ H Q I h
 refine isTrue_or (thn (ha pins s σ H Q I h) fun c s1 e=>?_)
 cases c with
 | false=>exact isTrue_or_nil e
 | true=>exact e
theorem pw_and(ha:PT X a tA)(hb:PW X (.BoolOp .And (b::rest) pos) tB'):PW X (.BoolOp .And (a::b::rest) pos) (tAnd tA tB'):=by
 intro wh pins s σ H Q I h
 refine isTrue_and (thn (ha pins s σ H _ I h) fun c s1 ⟨H1,I1,q1⟩=>?_)
 cases c with
 | true=>exact hb wh pins s1 σ H1 Q I1 q1
 | false=>exact⟨H1,I1,q1⟩
theorem pw_or(ha:PT X a tA)(hb:PW X (.BoolOp .Or (b::rest) pos) tB'):PW X (.BoolOp .Or (a::b::rest) pos) (tOr tA tB'):=by
 intro wh pins s σ H Q I h
 refine isTrue_or (thn (ha pins s σ H _ I h) fun c s1 ⟨H1,I1,q1⟩=>?_)
 cases c with
 | true=>exact⟨H1,I1,q1⟩
 | false=>exact hb wh pins s1 σ H1 Q I1 q1
theorem pt_not(ha:PT X a tA):PT X (.UnaryOp .Not a pos) (tNot tA):=by
 intro pins s σ H Q I h
 exact isTrue_not (ha pins s σ H (fun c H1=>Q (!c) H1) I h)
def tAndV(ta tb:TE):TE:=fun σ H Q=>ta σ H fun x H1=>∃c,x=.bl c∧if c=true then tb σ H1 Q else Q (.bl false) H1
def tOrV(ta tb:TE):TE:=fun σ H Q=>ta σ H fun x H1=>∃c,x=.bl c∧if c=true then Q (.bl true) H1 else tb σ H1 Q
def tNotV(ta:TE):TE:=fun σ H Q=>ta σ H fun x H1=>∃c,x=.bl c∧Q (.bl (!c)) H1
theorem pe_one{op}{t:TE}(h:PE X a t):PE X (.BoolOp op [a] pos) t:=fun pins s σ H Q I hw=>BoolOp_one (h pins s σ H Q I hw)
theorem pe_and(ha:PE X a ta)(hb:PE X (.BoolOp .And (b::rest) pos) tb):PE X (.BoolOp .And (a::b::rest) pos) (tAndV ta tb):=by
 intro pins s σ H Q I h
 refine BoolOp_and (thn (ha pins s σ H _ I h) fun v s1 ⟨x,H1,I1,r1,q1⟩=>?_)
 obtain⟨c,rfl,q1⟩:=q1
 cases r1
 refine wpAny_truthy_bool ?_
 cases c with
 | true=>exact hb pins s1 σ H1 Q I1 q1
 | false=>exact⟨.bl false,H1,I1,rfl,q1⟩
theorem pe_or(ha:PE X a ta)(hb:PE X (.BoolOp .Or (b::rest) pos) tb):PE X (.BoolOp .Or (a::b::rest) pos) (tOrV ta tb):=by
 intro pins s σ H Q I h
 refine BoolOp_or (thn (ha pins s σ H _ I h) fun v s1 ⟨x,H1,I1,r1,q1⟩=>?_)
 obtain⟨c,rfl,q1⟩:=q1
 cases r1
 refine wpAny_truthy_bool ?_
 cases c with
 | false=>exact hb pins s1 σ H1 Q I1 q1
 | true=>exact⟨.bl true,H1,I1,rfl,q1⟩
theorem pe_not(ha:PE X a ta):PE X (.UnaryOp .Not a pos) (tNotV ta):=by
 intro pins s σ H Q I h
 refine UnaryOp_ (thn (ha pins s σ H _ I h) fun v s1 ⟨x,H1,I1,r1,q1⟩=>?_)
 obtain⟨c,rfl,q1⟩:=q1
 cases r1
 exact not_of (wpAny_truthy_bool ⟨.bl (!c),H1,I1,rfl,q1⟩)
def tIf(t:TT)(ta tb:TE):TE:=fun σ H Q=>t σ H fun c H1=>if c=true then ta σ H1 Q else tb σ H1 Q
theorem pe_ifExp{c:Expr}(hc:PT X c tA)(ha:PE X a ta)(hb:PE X b tb):PE X (.IfExp c a b pos) (tIf tA ta tb):=by
 intro pins s σ H Q I h
 refine wpAny_IfExp (thn (hc pins s σ H _ I h) fun d s1 ⟨H1,I1,q1⟩=>?_)
 cases d with
 | true=>exact ha pins s1 σ H1 Q I1 q1
 | false=>exact hb pins s1 σ H1 Q I1 q1
end
end L2
namespace L2
open PySem PySem.Spec PyProof.Rows
def SqL(K:PySem.W.Frag)(H:Hp)(a:Addr)(xs:List V):Prop:=
 Rd H a (.lst xs) ∨
  ∃(o:Obj) (its:Array Value) (n:Nat),K.lookup a=some o∧o.cls=.type "list" ∧ o.dict=none∧o.data=.seq its n∧its.size≤sizeLine∧Vals xs its.toList
def SqT(K:PySem.W.Frag)(H:Hp)(a:Addr)(xs:List V):Prop:=
 Rd H a (.tup xs) ∨
  ∃(o:Obj) (its:Array Value) (n:Nat),K.lookup a=some o∧o.cls=.type "tuple" ∧ o.data=.seq its n∧its.size≤sizeLine∧Vals xs its.toList
def absV:Value→Option V
 | .none=>some .non
 | .bool b=>some (.bl b)
 | .int i _=>some (.int i)
 | .str x _=>some (.str x)
 | .bytes b _=>some (.byt b)
 | .float b _=>some (.flt b)
 | .ref a=>some (.ref a)
 | .type n=>some (.ty n)
 | _=>none
theorem RelV.abs{x:V}{u:Value}(r:RelV x u):absV u=some x:=by
 cases x with
 | non=>cases r; rfl
 | bl _=>cases r; rfl
 | int _=>obtain⟨t,rfl⟩:=r; rfl
 | str _=>obtain⟨t,rfl⟩:=r; rfl
 | byt _=>obtain⟨t,rfl⟩:=r; rfl
 | flt _=>obtain⟨t,rfl⟩:=r; rfl
 | ref _=>cases r; rfl
 | ty _=>cases r; rfl
theorem RelV.inj{x y:V}{u:Value}(r:RelV x u)(q:RelV y u):x=y:=Option.some.inj (r.abs.symm.trans q.abs)
theorem Vals.inj:∀{xs ys:List V} {us:List Value},Vals xs us→Vals ys us→xs=ys
 | _,_,_,.nil,.nil=>rfl
 | _,_,_,.cons r t,.cons r' t'=>by rw[r.inj r',Vals.inj t t']
section
variable{X:Cx}{pins:List (Addr×Obj)}{σ:St}{H:Hp}{s:Shared}{a:Addr}{xs ys:List V}
theorem SqL.of{K:PySem.W.Frag}(h:H a=some (.lst xs)):SqL K H a xs:=.inl (.inl h)
theorem SqT.of{K:PySem.W.Frag}(h:H a=some (.tup xs)):SqT K H a xs:=.inl (.inl h)
theorem Inv.list(I:Inv X pins σ H s)(h:SqL X.K H a xs):∃its:List Value,Vals xs its∧PlainL s.heap a its.toArray∧xs.length≤sizeLine:=by
 rcases h with h | ⟨o,its,n,hk,hc,hd,hs,hz,r⟩
 .obtain⟨z,its,n,r,e⟩:=h.ok I.hok
  exact⟨its,r,⟨_,n,e,rfl,rfl,rfl⟩,z⟩
 .refine⟨its.toList,r,⟨o,n,I.kIn a o hk,hc,hd,by simpa using hs⟩,?_⟩
  have e:=r.length
  simp only[Array.length_toList] at e
  omega
theorem Inv.tuple(I:Inv X pins σ H s)(h:SqT X.K H a xs):∃its:List Value,Vals xs its∧IsTup s.heap a its.toArray∧xs.length≤sizeLine:=by
 rcases h with h | ⟨o,its,n,hk,hc,hs,hz,r⟩
 .obtain⟨z,its,r,p⟩:=h.ok I.hok
  exact⟨its,r,p,z⟩
 .refine⟨its.toList,r,⟨o,I.kIn a o hk,hc,n,by simpa using hs⟩,?_⟩
  have e:=r.length
  simp only[Array.length_toList] at e
  omega
theorem Inv.list_inj(I:Inv X pins σ H s)(h:SqL X.K H a xs)(h':SqL X.K H a ys):xs=ys:=by
 obtain⟨its,r,⟨o,n,e,_,_,d⟩,_⟩:=I.list h
 obtain⟨its',r',⟨o',n',e',_,_,d'⟩,_⟩:=I.list h'
 rw[e] at e'; cases e'
 rw[d] at d'
 injection d' with d1 _
 have:its=its':=by simpa using congrArg Array.toList d1
 subst this
 exact r.inj r'
theorem Inv.tuple_inj(I:Inv X pins σ H s)(h:SqT X.K H a xs)(h':SqT X.K H a ys):xs=ys:=by
 obtain⟨its,r,⟨o,e,_,n,d⟩,_⟩:=I.tuple h
 obtain⟨its',r',⟨o',e',_,n',d'⟩,_⟩:=I.tuple h'
 rw[e] at e'; cases e'
 rw[d] at d'
 injection d' with d1 _
 have:its=its':=by simpa using congrArg Array.toList d1
 subst this
 exact r.inj r'
end
abbrev Cx.wish(X:Cx)(E:Value→Shared→Prop):Cx:={ X with xe:=E }
abbrev Cx.nox(X:Cx):Cx:=X.wish fun _ _=>False
theorem Cx.Ok.wish{X:Cx}(ok:X.Ok)(E:Value→Shared→Prop):(X.wish E).Ok:=
 ⟨ok.mod,ok.kind,ok.glob,ok.blt,ok.above,ok.inj,ok.has,ok.cab,ok.hd,ok.frames,ok.stk,ok.exf,ok.bs,ok.bsz,ok.noex,ok.exfs,ok.funs,ok.frf⟩
theorem Cx.Ok.unwish{X:Cx}{E:Value→Shared→Prop}(ok:(X.wish E).Ok):X.Ok:=
 ⟨ok.mod,ok.kind,ok.glob,ok.blt,ok.above,ok.inj,ok.has,ok.cab,ok.hd,ok.frames,ok.stk,ok.exf,ok.bs,ok.bsz,ok.noex,ok.exfs,ok.funs,ok.frf⟩
section
variable{X:Cx}{pins:List (Addr×Obj)}{σ:St}{H:Hp}{s:Shared}{E:Value→Shared→Prop}
theorem Inv.wish(I:Inv X pins σ H s)(E:Value→Shared→Prop):Inv (X.wish E) pins σ H s:=⟨I.ok.wish E,I.os,I.bare,I.base,I.loc,I.cell,I.free,I.freeC,I.pin,I.hok,I.len⟩
theorem Inv.unwish(I:Inv (X.wish E) pins σ H s):Inv X pins σ H s:=⟨I.ok.unwish,I.os,I.bare,I.base,I.loc,I.cell,I.free,I.freeC,I.pin,I.hok,I.len⟩
theorem SP.unwish{D:Ends}{f:Flow}{s':Shared}(h:SP (X.wish E) pins D f s'):SP X pins D f s':=by
 cases f with
 | next=>obtain⟨σ',H',I,q⟩:=h; exact⟨σ',H',I.unwish,q⟩
 | brk=>obtain⟨σ',H',I,q⟩:=h; exact⟨σ',H',I.unwish,q⟩
 | cont=>obtain⟨σ',H',I,q⟩:=h; exact⟨σ',H',I.unwish,q⟩
 | ret u=>obtain⟨v,σ',H',I,r,q⟩:=h; exact⟨v,σ',H',I.unwish,r,q⟩
theorem PSs.nox{st:List Stmt}{t:TS}(h:PSs X.nox st t):PSs X st t:=fun pins s σ H D I hw=>
 wpAny_mono (h pins s σ H D (I.wish _) hw) (fun _ _ q=>q.unwish) fun _ _ z=>False.elim z
end
section
variable{X:Cx}{st:Stmt}{rest:List Stmt}{t u:TS}{e:Expr}{te:TE}{pos:Pos}
def tNext:TS:=fun D σ H=>D.nx σ H
def tSeq(t u:TS):TS:=fun D σ H=>t { D with nx:=u D } σ H
theorem pss_nil:PSs X [] tNext:=fun _ _ σ H _ I h=>wpAny_execs_nil ⟨σ,H,I,h⟩
theorem pss_cons(h1:PS X st t)(h2:PSs X rest u):PSs X (st::rest) (tSeq t u):=by
 intro pins s σ H D I h
 refine wpAny_execs_cons (thn (h1 pins s σ H { D with nx:=u D } I h) fun f s1 q=>?_)
 cases f with
 | next=>
  obtain⟨σ',H',I',q⟩:=q
  exact h2 pins s1 σ' H' D I' q
 | ret v=>exact q
 | brk=>exact q
 | cont=>exact q
theorem pss_one(h1:PS X st t):PSs X [st] t:=by
 intro pins s σ H D I h
 refine wpAny_execs_cons (thn (h1 pins s σ H D I h) fun f s1 q=>?_)
 cases f with
 | next=>exact wpAny_execs_nil q
 | ret v=>exact q
 | brk=>exact q
 | cont=>exact q
theorem ps_pass:PS X (.Pass pos) tNext:=fun _ _ σ H _ I h=>wpAny_Pass ⟨σ,H,I,h⟩
theorem Inv.quiet{pins:List (Addr×Obj)}{σ:St}{H:Hp}{s:Shared}(I:Inv X pins σ H s):interactive X.env=false:=by simp[interactive,I.ok.kind]
def tDrop(te:TE):TS:=fun D σ H=>te σ H fun _ H1=>D.nx σ H1
theorem ps_expr(he:PE X e te)(hs:swapsWith e none pos.line X.env=pure false:=by rfl):PS X (.Expr e pos) (tDrop te):=by
 intro pins s σ H D I h
 exact wpAny_Expr_any (thn (he pins s σ H _ I h) fun v s1 ⟨x,H1,I1,r1,q1⟩=>⟨σ,H1,I1,q1⟩) I.quiet hs
def tRet(te:TE):TS:=fun D σ H=>te σ H D.rt
theorem ps_ret(he:PE X e te):PS X (.Return (some e) pos) (tRet te):=by
 intro pins s σ H D I h
 exact wpAny_Return_some (thn (he pins s σ H _ I h) fun v s1 ⟨x,H1,I1,r1,q1⟩=>⟨x,σ,H1,I1,r1,q1⟩)
def tIfS(c:TT)(t u:TS):TS:=fun D σ H=>c σ H fun b H1=>if b=true then t D σ H1 else u D σ H1
theorem ps_if{c:Expr}{a b:List Stmt}{tc:TT}(hc:PT X c tc)(ha:PSs X a t)(hb:PSs X b u):PS X (.If c a b pos) (tIfS tc t u):=by
 intro pins s σ H D I h
 refine wpAny_If (thn (hc pins s σ H _ I h) fun d s1 ⟨H1,I1,q1⟩=>?_)
 cases d with
 | true=>exact ha pins s1 σ H1 D I1 q1
 | false=>exact hb pins s1 σ H1 D I1 q1
end
abbrev TG:=V→St→Hp→(St→Hp→Prop)→Prop
abbrev TGs:=List V→St→Hp→(St→Hp→Prop)→Prop
def PG(X:Cx)(target:Expr)(t:TG):Prop:=
 ∀(pins:List (Addr×Obj)) (s:Shared) (σ:St) (H:Hp) (v:V) (u:Value) (Q:St→Hp→Prop),Inv X pins σ H s→RelV v u→t v σ H Q→
  wpAny (model X.prog X.w) X.A (assign target X.env u) (fun _ s'=>∃σ' H',Inv X pins σ' H' s'∧Q σ' H') X.xe s
def PGs(X:Cx)(ts:List Expr)(t:TGs):Prop:=
 ∀(pins:List (Addr×Obj)) (s:Shared) (σ:St) (H:Hp) (vs:List V) (us:List Value) (Q:St→Hp→Prop),Inv X pins σ H s→Vals vs us→t vs σ H Q→
  wpAny (model X.prog X.w) X.A (assignInOrder ((assignEach ts X.env).map (·.2)) us) (fun _ s'=>∃σ' H',Inv X pins σ' H' s'∧Q σ' H') X.xe s
abbrev TSet:=V→V→V→Hp→(Hp→Prop)→Prop
def PSet(X:Cx)(t:TSet):Prop:=
 ∀(pins:List (Addr×Obj)) (s:Shared) (σ:St) (H:Hp) (o i v:V) (ov iv u:Value) (Q:Hp→Prop),Inv X pins σ H s→RelV o ov→RelV i iv→RelV v u→t o i v H Q→
  wpAny (model X.prog X.w) X.A (setItem ov iv u) (fun _ s'=>∃H',Inv X pins σ H' s'∧Q H') X.xe s
abbrev TIp:=V→V→Hp→VK→Prop
def PIp(X:Cx)(op:Operator)(t:TIp):Prop:=
 ∀(pins:List (Addr×Obj)) (s:Shared) (σ:St) (H:Hp) (x y:V) (v u:Value) (Q:VK),Inv X pins σ H s→RelV x v→RelV y u→t x y H Q→
  wpAny (model X.prog X.w) X.A (inplaceOp op v u) (EP X pins σ Q) X.xe s
section
variable{X:Cx}{pos:Pos}
def gName(i:Nat):TG:=fun v σ H Q=>Q (σ.set i (some v)) H
theorem pg_name{i:Nat}{x:Str}(hN:X.N.Nodup)(hi:X.N[i]?=some x)(hx:Loc X.env.scope x)(hf:X.fn x=true∨X.env.scope.names.lookup x=some .local:=by first | exact .inl rfl | exact .inr rfl | assumption):PG X (.Name x pos) (gName i):=by
 intro pins s σ H v u Q I r h
 exact wpAny_assign_Name (store_ok I hN hi hx r (fun s' I'=>⟨_,H,I',h⟩) hf)
def gNil:TGs:=fun vs σ H Q=>vs=[]∧Q σ H
def gCons(t:TG)(u:TGs):TGs:=fun vs σ H Q=>∃v r,vs=v::r∧t v σ H fun σ' H'=>u r σ' H' Q
theorem pgs_nil:PGs X [] gNil:=by
 intro pins s σ H vs us Q I r h
 obtain⟨e,h⟩:=h
 subst e
 cases r
 exact assignInOrder_nil ⟨σ,H,I,h⟩
theorem pgs_cons{e:Expr}{es:List Expr}{t:TG}{u:TGs}(h1:PG X e t)(h2:PGs X es u)
  (hs:(assignEach (e::es) X.env).map (·.2)=assign e X.env::(assignEach es X.env).map (·.2):=by rfl):PGs X (e::es) (gCons t u):=by
 intro pins s σ H vs us Q I r h
 obtain⟨v,vr,e1,h⟩:=h
 subst e1
 cases r with
 | cons r rr=>
  rw[hs]
  refine assignInOrder_cons (thn (h1 pins s σ H _ _ _ I r h) fun _ s1 ⟨σ1,H1,I1,q1⟩=>?_)
  exact h2 pins s1 σ1 H1 _ _ Q I1 rr q1
def gTup(K:PySem.W.Frag)(n:Nat)(t:TGs):TG:=fun v σ H Q=>∃a xs,v=.ref a∧SqT K H a xs∧xs.length=n∧t xs σ H Q
theorem pg_tup{es:List Expr}{k:Nat}{t:TGs}{n:Nat}(hc:X.calm=true)(h:PGs X es t)
  (hn:(assignEach es X.env).length=n:=by rfl) (hst:(assignEach es X.env).findIdx? (·.1)=none:=by rfl):PG X (.Tuple es k pos) (gTup X.K n t):=by
 intro pins s σ H v u Q I r hw
 obtain⟨a,xs,e1,hq,hl,hw⟩:=hw
 subst e1
 cases r
 obtain⟨its,rv,ht,hz⟩:=I.tuple hq
 refine assign_Tuple_tuple (I.ok.hd hc) ht (by simp[hn,←hl,rv.length]) hst fun h' hx=>?_
 have I1:Inv X pins σ H { s with heap:=h' }:=I.kept (t':=s.toks) fun b o e=>hx b o (Nat.ne_of_lt (Heap.lt_size e)) e
 exact h pins _ σ H xs _ Q I1 (by simpa using rv) hw
def gSub(to ti:TE)(t:TSet):TG:=fun v σ H Q=>to σ H fun o H1=>ti σ H1 fun i H2=>t o i v H2 fun H3=>Q σ H3
theorem pg_sub{o i:Expr}{to ti:TE}{t:TSet}(ho:PE X o to)(hi:PE X i ti)(hs:PSet X t)
  (ha:∀v,assign (.Subscript o i pos) X.env v=(do
   let ov ←holding [v] (eval o X.env)
   let iv ←holding [v,ov] (eval i X.env)
   standAt pos
   holding [v,ov,iv] (setItem ov iv v)
   release [v,ov,iv] []):=by intro _; rfl):PG X (.Subscript o i pos) (gSub to ti t):=by
 intro pins s σ H v u Q I r h
 rw[ha]
 refine wpAny_bind (wpAny_holding (thn (ho pins s σ H _ I h) fun ov s1 ⟨x,H1,I1,r1,q1⟩=>?_))
 refine wpAny_bind (wpAny_holding (thn (hi pins s1 σ H1 _ I1 q1) fun iv s2 ⟨y,H2,I2,r2,q2⟩=>?_))
 refine wpAny_bind (wpAny_standAt (wpAny_bind (wpAny_holding (thn (hs pins s2 σ H2 x y v ov iv u _ I2 r1 r2 r q2) fun _ s3 ⟨H3,I3,q3⟩=>?_))))
 exact wpAny_release ⟨σ,H3,I3,q3⟩
def tAsg(te:TE)(g:TG):TS:=fun D σ H=>te σ H fun x H1=>g x σ H1 D.nx
theorem ps_asg{tg e:Expr}{te:TE}{g:TG}(he:PE X e te)(hg:PG X tg g)(hs:swapsWithSole [tg] e pos.line X.env=pure false:=by rfl)(hw:swappedStores [tg] e X.env=pure none:=by rfl)
  (h1:(assignEach [tg] X.env).map (·.2)=[assign tg X.env]:=by rfl):PS X (.Assign [tg] e pos) (tAsg te g):=by
 intro pins s σ H D I h
 refine wpAny_Assign_stores (thn (he pins s σ H _ I h) fun v s1 ⟨x,H1,I1,r1,q1⟩=>?_) hs hw
 rw[h1]
 exact thn (hg pins s1 σ H1 x v _ I1 r1 q1) fun _ s2 q=>q
theorem ps_set{i:Nat}{x:Str}{e:Expr}{te:TE}{pos':Pos}(hN:X.N.Nodup)(hi:X.N[i]?=some x)(hx:Loc X.env.scope x)(he:PE X e te)(hs:swapsWith e (some (.Name x pos')) pos.line X.env=pure false:=by rfl)(hf:X.fn x=true∨X.env.scope.names.lookup x=some .local:=by first | exact .inl rfl | exact .inr rfl | assumption) :
  PS X (.Assign [.Name x pos'] e pos) (tAsg te (gName i)):=by
 intro pins s σ H D I h
 refine wpAny_Assign_Name (thn (he pins s σ H _ I h) fun v s1 ⟨y,H1,I1,r1,q1⟩=>?_) hs
 exact store_ok I1 hN hi hx r1 (fun s2 I2=>⟨_,H1,I2,q1⟩) hf
def tAug(i:Nat)(te:TE)(ti:TIp):TS:=fun D σ H=>∃x,σ[i]?=some (some x)∧te σ H fun y H1=>ti x y H1 fun z H2=>D.nx (σ.set i (some z)) H2
theorem ps_aug{i:Nat}{x:Str}{e:Expr}{te:TE}{op:Operator}{ti:TIp}{pos':Pos}(hN:X.N.Nodup)(hi:X.N[i]?=some x)(hx:Loc X.env.scope x)(he:PE X e te)(ho:PIp X op ti)(hf:X.fn x=true∨X.env.scope.names.lookup x=some .local:=by first | exact .inl rfl | exact .inr rfl | assumption) :
  PS X (.AugAssign (.Name x pos') op e pos) (tAug i te ti):=by
 intro pins s σ H D I h
 obtain⟨v,e1,h⟩:=h
 obtain⟨m,hn,hl⟩:=I.loc
 have vis:Vis X.env.scope x:=by rcases hx with k | k; exact .inl k; exact .inr (.inl k)
 obtain⟨u,r,l⟩:=hl i x v hi e1 vis
 refine wpAny_AugAssign_Name ?_
 have go:wpAny (model X.prog X.w) X.A (eval e X.env) (fun w s₂=>wpAny (model X.prog X.w) X.A (inplaceOp op u w) (fun r s₃=>wpAny (model X.prog X.w) X.A (storeName X.env x r) (fun _=>SP X pins D .next) X.xe s₃) X.xe s₂) X.xe s:=by
  refine thn (he pins s σ H _ I h) fun w s1 ⟨y,H1,I1,r1,q1⟩=>?_
  refine thn (ho pins s1 σ H1 v y u w _ I1 r r1 q1) fun z s2 ⟨zv,H2,I2,r2,q2⟩=>?_
  exact store_ok I2 hN hi hx r2 (fun s3 I3=>⟨_,H2,I3,q2⟩) hf
 rcases l with ⟨hk,hm⟩ | ⟨hk,c,hc,hcell⟩
 .exact wpAny_loadName_local I.ok.kind hk hn hm go
 .rcases hk with hk | hk
  .exact wpAny_loadName_cell I.ok.kind hk hc hcell go
  .rcases hx with k | k
   .have:X.env.scope.names.lookup x=some .free:=hk
    rw[k] at this; cases this
   .have:X.env.scope.names.lookup x=some .free:=hk
    rw[k] at this; cases this
def ipI(f:Int→Int→Int):TIp:=fun x y H Q=>∃i j,x=.int i∧y=.int j∧Q (.int (f i j)) H
theorem ip_add:PIp X .Add (ipI fun i j=>i+j):=by
 intro pins s σ H x y v u Q I r1 r2 h
 obtain⟨i,j,e1,e2,q⟩:=h
 subst e1; subst e2
 obtain⟨t,rfl⟩:=r1
 obtain⟨t',rfl⟩:=r2
 exact iadd_int ⟨.int _,H,I.tok _,⟨_,rfl⟩,q⟩
end
section
variable{X:Cx}{pos:Pos}
def tWhile(c:TT)(tb:TS):TS:=fun D σ H=>∃W:Nat→St→Hp→Prop,(∃m,W m σ H)∧∀m σ H,W m σ H→
 c σ H fun b H1=>if b=true then ∃N:St→Hp→Prop,(∀σ' H',N σ' H'→∃m',m'<m∧W m' σ' H')∧tb { D with nx:=N,ct:=N,bk:=D.nx } σ H1 else D.nx σ H1
theorem ps_while{c:Expr}{body:List Stmt}{tc:TT}{tb:TS}(hp:PassesOwn (model X.prog X.w) X.A X.env X.xe)(hc:PT X c tc)(hb:PSs X body tb):PS X (.While c body [] pos) (tWhile tc tb):=by
 intro pins s σ H D I h
 obtain⟨W,⟨m0,w0⟩,turn⟩:=h
 refine wpAny_While (codeAny_whileLoop (fun n s'=>∃σ' H',Inv X pins σ' H' s'∧W n σ' H') ?_ m0 ⟨σ,H,I,w0⟩)
 rintro n s1 ⟨σ1,H1,I1,w1⟩
 refine wpAny_passesOwn hp (thn (hc pins s1 σ1 H1 _ I1 (turn n σ1 H1 w1)) fun b s2 ⟨H2,I2,q2⟩=>?_)
 cases b with
 | true=>
  obtain⟨N,hN,q2⟩:=q2
  rw[if_pos rfl]
  refine wpAny_passesOwn hp (thn (hb pins s2 σ1 H2 _ I2 q2) fun f s3 q3=>?_)
  cases f with
  | next=>
   obtain⟨σ3,H3,I3,n3⟩:=q3
   obtain⟨m',hm,w3⟩:=hN σ3 H3 n3
   exact⟨m',hm,σ3,H3,I3,w3⟩
  | cont=>
   obtain⟨σ3,H3,I3,n3⟩:=q3
   obtain⟨m',hm,w3⟩:=hN σ3 H3 n3
   exact⟨m',hm,σ3,H3,I3,w3⟩
  | brk=>exact q3
  | ret v=>exact q3
 | false=>
  rw[if_neg Bool.false_ne_true]
  exact wpAny_execs_nil ⟨σ1,H2,I2,q2⟩
end
structure It where
 go:Nat→Hp→Prop
 yld:Nat→Hp→V→Hp→Prop
 stop:Nat→Hp→Prop
def FpOk(X:Cx)(pins:List (Addr×Obj))(H:Hp)(b:Addr):Prop:=
 H b=none∧b≠X.env.locals∧b∉X.fs∧(b∈X.ex∨X.s₀.heap.objs.size≤b)∧(∀x c,X.env.cells.lookup x=some c→c≠b)∧∀p∈X.pn++pins,p.1≠b
theorem Inv.fpOk{X:Cx}{pins:List (Addr×Obj)}{σ:St}{H H':Hp}{s:Shared}{b:Addr}(I:Inv X pins σ H s)(hb:s.heap.objs.size≤b)(hn:H' b=none):FpOk X pins H' b:=by
 refine⟨hn,Nat.ne_of_gt (Nat.lt_of_lt_of_le I.lt hb),I.nofs hb,.inr (Nat.le_trans I.sz hb),fun x c e z=>?_,fun p hp z=>?_⟩
 .obtain⟨v,q⟩:=I.cell x c e
  exact absurd (Nat.lt_of_lt_of_le q.lt (by rw[z]; exact hb)) (Nat.lt_irrefl _)
 .exact absurd (Nat.lt_of_lt_of_le (Heap.lt_size (I.pin p hp).1) (by rw[z]; exact hb)) (Nat.lt_irrefl _)
structure Turn(P:Program)(w:World)(K:PySem.W.Frag)(tg:Expr)(J:It)(fp:List Addr)(it:Addr)(tn:Nat→Heap→Prop):Prop where
 mem:it∈fp
 obj:∀i h,tn i h→∀b∈fp,∃o,h.get? b=some o∧∀v,o.data≠.cell v
 keep:∀i h h',tn i h→(∀b∈fp,∀o,h.get? b=some o→h'.get? b=some o)→tn i h'
 item:∀(X:Cx),X.prog=P→X.w=w→X.K=K→X.calm=true→∀(i:Nat) (pins:List (Addr×Obj)) (s:Shared) (σ:St) (H:Hp) (E:Value→Shared→Prop),Inv X pins σ H s→(∀b∈fp,FpOk X pins H b)→tn i s.heap→J.go i H→
  wpAny (model P w) X.A (pyNext (.ref it)) (fun r s1=>∃u,r=some u ∧
   wpAny (model P w) X.A (letOwnedTupleGo tg (.ref it) u) (fun _ s2=>∃x H',Inv X pins σ H' s2∧RelV x u∧J.yld i H x H'∧tn (i+1) s2.heap∧∀b∈fp,H' b=none) E s1) E s
 done:∀(X:Cx),X.prog=P→X.w=w→X.K=K→X.calm=true→∀(i:Nat) (pins:List (Addr×Obj)) (s:Shared) (σ:St) (H:Hp) (E:Value→Shared→Prop),Inv X pins σ H s→(∀b∈fp,FpOk X pins H b)→tn i s.heap→J.stop i H→
  wpAny (model P w) X.A (pyNext (.ref it)) (fun r s1=>r=none∧Inv X pins σ H s1) E s
 self:∀(A:Around) (i:Nat) (s:Shared) (Q:Value→Shared→Prop) (E:Value→Shared→Prop),tn i s.heap→Q (.ref it) s→wpAny (model P w) A (pyIter (.ref it)) Q E s
abbrev TI:=St→Hp→(It→Hp→Prop)→Prop
def PIE(X:Cx)(pins:List (Addr×Obj))(σ:St)(tg:Expr)(R:It→Hp→Prop)(itv:Value)(s2:Shared):Prop:=
 ∃(it:Addr) (fp:List Addr) (tn:Nat→Heap→Prop) (J:It) (H':Hp),itv=.ref it∧Inv X pins σ H' s2∧Turn X.prog X.w X.K tg J fp it tn∧tn 0 s2.heap∧(∀b∈fp,FpOk X pins H' b)∧R J H'
def PI(X:Cx)(tg iter:Expr)(wi:TI):Prop:=
 ∀(pins:List (Addr×Obj)) (s:Shared) (σ:St) (H:Hp) (R:It→Hp→Prop),Inv X pins σ H s→wi σ H R→
  wpAny (model X.prog X.w) X.A (eval iter X.env) (fun v s1=>wpAny (model X.prog X.w) X.A (pyIter v) (PIE X pins σ tg R) X.xe s1) X.xe s
theorem go_of {M : Model} {A : Around} {E : Value → Shared → Prop} {s : Shared} {tg : Expr} {it : Addr} {u : Value} {o : Obj} {n : String} {vs : Array Value} {Q : Unit → Shared → Prop} (ho : s.heap.get? it = some o) (hc : o.cls = .type n) (hd : o.data = .fields vs)
    (hn : ["enumerate", "zip", "dict_itemiterator", "dict_reverseitemiterator", "odict_iterator", "itertools.zip_longest", "itertools.pairwise"].contains n = false) (hQ : Q () s) : wpAny M A (letOwnedTupleGo tg (.ref it) u) Q E s := by
  unfold letOwnedTupleGo
  cases tg <;> first
    | exact wpAny_pure hQ
    | (cases u <;> first
        | exact wpAny_pure hQ
        | (refine wpAny_bind (wpAny_load ho ?_)
           rw [hc, hd]
           show wpAny M A (if (["enumerate", "zip", "dict_itemiterator", "dict_reverseitemiterator", "odict_iterator", "itertools.zip_longest", "itertools.pairwise"].contains n && vs[0]? == some (rawInt _)) = true then _ else _) Q E s
           rw [if_neg (by intro h; rw [hn, Bool.false_and] at h; cases h)]
           exact wpAny_pure hQ))
def Itl(K:PySem.W.Frag)(a:Addr):It:=
 ⟨fun i H=>∃xs x,SqL K H a xs∧xs[i]?=some x,fun i H x H'=>H'=H∧∀xs,SqL K H a xs→xs[i]?=some x,fun i H=>∃xs,SqL K H a xs∧xs.length≤i⟩
def Itt(K:PySem.W.Frag)(a:Addr):It:=
 ⟨fun i H=>∃xs x,SqT K H a xs∧xs[i]?=some x,fun i H x H'=>H'=H∧∀xs,SqT K H a xs→xs[i]?=some x,fun i H=>∃xs,SqT K H a xs∧xs.length≤i⟩
def Itr(lo:Int)(n:Nat):It:=⟨fun i _=>i<n,fun i H x H'=>H'=H∧x=.int (lo+i),fun i _=>n≤i⟩
theorem turn_list{P:Program}{w:World}{K:PySem.W.Frag}{tg:Expr}(a it:Addr):Turn P w K tg (Itl K a) [it] it (fun i h=>h.IsListIter it a i) where
 mem:=by simp
 obj:=fun i h st b hb=>by
  have e:b=it:=by simpa using hb
  subst e
  obtain⟨o,e,c,d⟩:=st
  exact⟨o,e,fun v z=>by rw[d] at z; cases z⟩
 keep:=fun i h h' st k=>st.at fun o e=>k it (by simp) o e
 item:=by
  intro X hP hw hK hc i pins s σ H E I hf st hg
  subst hP hw hK
  obtain⟨xs,x,hq,hx⟩:=hg
  obtain⟨its,rv,p,hz⟩:=I.list hq
  obtain⟨u,hu,ru⟩:=rv.get hx
  obtain⟨f0,f1,f2,f3,f4,f5⟩:=hf it (by simp)
  refine wpAny_pyNext_list_item st p.isList (x:=u) (by simpa using hu) fun h' st' sb=>?_
  have I1:Inv X pins σ H { s with heap:=h' }:=I.turned (t':=s.toks) (fun b o hb e=>(sb.2 b hb).trans e) f0 f1 f3 f4 f5
  obtain⟨o,e,c,d⟩:=id st'
  exact⟨u,rfl,go_of (s:={ s with heap:=h' }) e c d (by decide) ⟨x,H,I1,ru,⟨rfl,fun ys hy=>by rw[I.list_inj hy hq]; exact hx⟩,st',fun b hb=>(hf b hb).1⟩⟩
 done:=by
  intro X hP hw hK hc i pins s σ H E I hf st hg
  subst hP hw hK
  obtain⟨xs,hq,hx⟩:=hg
  obtain⟨its,rv,p,hz⟩:=I.list hq
  obtain⟨f0,f1,f2,f3,f4,f5⟩:=hf it (by simp)
  have hl:=rv.length
  exact wpAny_pyNext_list_end (I.ok.hd hc) st p.isList (by simp; omega) fun h' eb=>⟨rfl,I.turned (t':=s.toks) (fun b o hb e=>eb b o hb e) f0 f1 f3 f4 f5⟩
 self:=fun _ _ _ _ _ st h=>wpAny_pyIter_listiter st h
theorem turn_tuple{P:Program}{w:World}{K:PySem.W.Frag}{tg:Expr}(a it:Addr):Turn P w K tg (Itt K a) [it] it (fun i h=>h.IsTupleIter it a i) where
 mem:=by simp
 obj:=fun i h st b hb=>by
  have e:b=it:=by simpa using hb
  subst e
  obtain⟨o,e,c,d⟩:=st
  exact⟨o,e,fun v z=>by rw[d] at z; cases z⟩
 keep:=fun i h h' st k=>st.at fun o e=>k it (by simp) o e
 item:=by
  intro X hP hw hK hc i pins s σ H E I hf st hg
  subst hP hw hK
  obtain⟨xs,x,hq,hx⟩:=hg
  obtain⟨its,rv,p,hz⟩:=I.tuple hq
  obtain⟨u,hu,ru⟩:=rv.get hx
  obtain⟨f0,f1,f2,f3,f4,f5⟩:=hf it (by simp)
  refine wpAny_pyNext_tuple_item st (show s.heap.IsTuple a its.toArray from p) (x:=u) (by simpa using hu) fun h' st' sb=>?_
  have I1:Inv X pins σ H { s with heap:=h' }:=I.turned (t':=s.toks) (fun b o hb e=>(sb.2 b hb).trans e) f0 f1 f3 f4 f5
  obtain⟨o,e,c,d⟩:=id st'
  exact⟨u,rfl,go_of (s:={ s with heap:=h' }) e c d (by decide) ⟨x,H,I1,ru,⟨rfl,fun ys hy=>by rw[I.tuple_inj hy hq]; exact hx⟩,st',fun b hb=>(hf b hb).1⟩⟩
 done:=by
  intro X hP hw hK hc i pins s σ H E I hf st hg
  subst hP hw hK
  obtain⟨xs,hq,hx⟩:=hg
  obtain⟨its,rv,p,hz⟩:=I.tuple hq
  obtain⟨f0,f1,f2,f3,f4,f5⟩:=hf it (by simp)
  have hl:=rv.length
  exact wpAny_pyNext_tuple_end (I.ok.hd hc) st (show s.heap.IsTuple a its.toArray from p) (by simp; omega) fun h' eb=>⟨rfl,I.turned (t':=s.toks) (fun b o hb e=>eb b o hb e) f0 f1 f3 f4 f5⟩
 self:=fun _ _ _ _ _ st h=>wpAny_pyIter_tupleiter st h
theorem turn_range{P:Program}{w:World}{K:PySem.W.Frag}{tg:Expr}(it:Addr)(lo:Int)(n:Nat):Turn P w K tg (Itr lo n) [it] it (fun i h=>IsRangeIter h it (lo+(i:Nat)*1) ((n:Int)-(i:Nat)) 1) where
 mem:=by simp
 obj:=fun i h st b hb=>by
  have e:b=it:=by simpa using hb
  subst e
  exact⟨_,st,fun v z=>by
   have z':Data.fields _=Data.cell v:=z
   cases z'⟩
 keep:=fun i h h' st k=>k it (by simp) _ st
 item:=by
  intro X hP hw hK hc i pins s σ H E I hf st hg
  subst hP hw hK
  obtain⟨f0,f1,f2,f3,f4,f5⟩:=hf it (by simp)
  have W:=Walks.range (prog:=X.prog) (w:=X.w) (I.ok.hd hc) it lo 1 n
  refine W.item i s _ _ hg st fun v h' tk hv st' kk=>?_
  obtain⟨t,rfl⟩:=hv
  have I1:Inv X pins σ H { s with heap:=h',toks:=tk }:=I.turned (fun b o hb e=>kk b o (by simpa using hb) e) f0 f1 f3 f4 f5
  refine⟨_,rfl,go_of (s:={ s with heap:=h',toks:=tk }) (n:="range_iterator") st' rfl rfl (by decide) ⟨.int (lo+i),H,I1,⟨t,?_⟩,⟨rfl,rfl⟩,st',fun b hb=>(hf b hb).1⟩⟩
  rw[Int.mul_one]
 done:=by
  intro X hP hw hK hc i pins s σ H E I hf st hg
  subst hP hw hK
  obtain⟨f0,f1,f2,f3,f4,f5⟩:=hf it (by simp)
  exact wpAny_pyNext_range_end (I.ok.hd hc) st (by have:n≤i:=hg; omega) fun h' eb=>⟨rfl,I.turned (t':=s.toks) (fun b o hb e=>eb b o hb e) f0 f1 f3 f4 f5⟩
 self:=fun _ _ _ _ _ st h=>wpAny_pyIter_rangeiter st h
end L2
namespace L2
open PySem PySem.Spec PyProof.Rows
section
variable{X:Cx}{tg:Expr}
theorem range_it{pins:List (Addr×Obj)}{σ:St}{H:Hp}{s:Shared}{R:It→Hp→Prop}{E:Value→Shared→Prop}{lo hi:Int}{t u v:Tok}{tk:Nat}(I:Inv X pins σ H s)(h1:-(2 ^ 62)≤lo)(h2:lo<2 ^ 62)(h3:-(2 ^ 62)≤hi)(h4:hi<2 ^ 62)
  (q:R (Itr lo (hi-lo).toNat) H):wpAny (model X.prog X.w) X.A (pyIter (.ref s.heap.objs.size)) (PIE X pins σ tg R) E { s with heap:=s.heap.push { cls:=.type "range",data:=.fields #[.int lo t,.int hi u,.int 1 v] },toks:=tk }:=by
 refine wpAny_pyIter_range (IsRange.new ..) (small_one h1 h2 h3 h4) ?_
 have I1:Inv X pins σ H { s with heap:=s.heap.push { cls:=.type "range",data:=.fields #[.int lo t,.int hi u,.int 1 v] },toks:=tk }:=I.kept fun b o e=>Heap.get?_push_of_some _ e
 refine⟨(s.heap.push { cls:=.type "range",data:=.fields #[.int lo t,.int hi u,.int 1 v] }).objs.size,[(s.heap.push { cls:=.type "range",data:=.fields #[.int lo t,.int hi u,.int 1 v] }).objs.size],_,_,H,rfl,
  I1.kept (t':=tk) fun b o e=>Heap.get?_push_of_some _ e,turn_range _ lo (hi-lo).toNat,?_,fun b hb=>?_,q⟩
 .have e1:lo+((0:Nat):Int)*1=lo:=by simp
  have e2:(((hi-lo).toNat:Nat):Int)-((0:Nat):Int)=Builtin.Range.rangeSize lo hi 1:=by rw[rangeSize_one]; split<;>omega
  show IsRangeIter _ _ (lo+((0:Nat):Int)*1) ((((hi-lo).toNat:Nat):Int)-((0:Nat):Int)) 1
  rw[e1,e2]
  exact Heap.get?_push_size _ rfl
 .have e:b=(s.heap.push { cls:=.type "range",data:=.fields #[.int lo t,.int hi u,.int 1 v] }).objs.size:=by simpa using hb
  subst e
  exact I1.fpOk (Nat.le_refl _) (I1.hok.fresh (Nat.le_refl _))
def iRng1(ta:TA):TI:=fun σ H R=>ta σ H fun vs H1=>∃j:Int,vs=[.int j]∧-(2 ^ 62)≤j∧j<2 ^ 62∧R (Itr 0 j.toNat) H1
theorem pi_range1{a:Expr}{ta:TA}{p pos:Pos}(hg:Gl X "range")(hm:X.mg "range" = none)(ha:PA X [a] ta)(hs:starEach [a] X.env=[(false,eval a X.env)]:=by rfl):PI X tg (.Call (.Name "range" p) [a] [] pos) (iRng1 ta):=by
 intro pins s σ H R I h
 refine Call_ (ld_blt I hg hm boot_range (PyProof.Rows.callWith_type1 (thn (ha pos pins s σ H _ I h) fun us s1 ⟨vs,H1,I1,r1,q1⟩=>?_) hs rfl))
 obtain⟨j,e,q1,q2,q⟩:=q1
 subst e
 cases r1 with
 | cons r rr=>
  cases rr
  obtain⟨t,rfl⟩:=r
  exact call_range_1 (range_it I1 (by omega) (by omega) q1 q2 (by simpa using q))
def tFor(wi:TI)(g:TG)(tb:TS):TS:=fun D σ H=>wi σ H fun J H1=>∃W:Nat→Nat→St→Hp→Prop,(∃m,W 0 m σ H1)∧∀i m σ H,W i m σ H→
 (J.stop i H∧D.nx σ H)∨(J.go i H∧∃N:St→Hp→Prop,(∀σ' H',N σ' H'→∃m',m'<m∧W (i+1) m' σ' H')∧∀x H',J.yld i H x H'→g x σ H' fun σ2 H2=>tb { D with nx:=N,ct:=N,bk:=D.nx } σ2 H2)
def pinsAt(fp:List Addr)(h:Heap):List (Addr×Obj):=fp.filterMap fun b=>(h.get? b).map fun o=>(b,o)
theorem mem_pinsAt{fp:List Addr}{h:Heap}{b:Addr}{o:Obj}(hb:b∈fp)(e:h.get? b=some o):(b,o)∈pinsAt fp h:=List.mem_filterMap.mpr ⟨b,hb,by rw[e]; rfl⟩
theorem of_pinsAt{fp:List Addr}{h:Heap}{p:Addr×Obj}(hp:p∈pinsAt fp h):p.1∈fp∧h.get? p.1=some p.2:=by
 obtain⟨b,hb,e⟩:=List.mem_filterMap.mp hp
 cases q:h.get? b with
 | none=>rw[q] at e; cases e
 | some o=>
  rw[q] at e
  have e':(b,o)=p:=Option.some.inj e
  subst e'
  exact⟨hb,q⟩
theorem Inv.pinned{pins:List (Addr×Obj)}{σ:St}{H:Hp}{s:Shared}{fp:List Addr}(I:Inv X pins σ H s)(hf:∀b∈fp,FpOk X pins H b)(ho:∀b∈fp,∃o,s.heap.get? b=some o∧∀v,o.data≠.cell v):Inv X (pins++pinsAt fp s.heap) σ H s:=
 I.pins_of fun p hp=>(List.mem_append.mp hp).elim (fun z=>I.pin p (List.mem_append_right _ z)) fun z=>by
  obtain⟨hb,e⟩:=of_pinsAt z
  obtain⟨f0,f1,f2,_⟩:=hf p.1 hb
  obtain⟨o,e',d⟩:=ho p.1 hb
  rw[e] at e'; cases e'
  exact⟨e,f0,f1,f2,d⟩
theorem Inv.unpinned{pins pl:List (Addr×Obj)}{σ:St}{H:Hp}{s:Shared}(I:Inv X (pins++pl) σ H s):Inv X pins σ H s:=I.pins_of fun p hp=>I.pin p (List.mem_append_right _ (List.mem_append_left _ hp))
theorem ps_for{iter:Expr}{body:List Stmt}{wi:TI}{g:TG}{tb:TS}{pos:Pos}(hp:PassesOwn (model X.prog X.w) X.A X.env X.xe)(hc:X.calm=true)(hi:PI X tg iter wi)(hg:PG X tg g)(hb:PSs X body tb)
  (hs:∀x,foldedSetIterable iter X.env x=pure x:=by intro _; rfl):PS X (.For tg iter body [] pos) (tFor wi g tb):=by
 intro pins s σ H D I h
 refine wpAny_For (thn (hi pins s σ H _ I h) fun v s1 h1=>thn h1 fun itv s2 h2=>?_) hs
 obtain⟨it,fp,tn,J,H2,e,I2,T,st2,f2,W,⟨m0,w0⟩,turn⟩:=h2
 subst e
 have stat:∀{H':Hp},(∀b∈fp,H' b=none)→∀b∈fp,FpOk X pins H' b:=fun hn b hb=>⟨hn b hb,(f2 b hb).2⟩
 refine codeAny_forLoop_any (fun n s'=>∃i σ' H',Inv X pins σ' H' s'∧tn i s'.heap∧(∀b∈fp,H' b=none)∧W i n σ' H') ?_ m0 ⟨0,σ,H2,I2,st2,fun b hb=>(f2 b hb).1,w0⟩
 rintro n s3 ⟨i,σ3,H3,I3,st3,fr3,w3⟩
 rcases turn i n σ3 H3 w3 with ⟨stop,qn⟩ | ⟨go,N,hN,step⟩
 .refine wpAny_passesOwn hp (thn (T.done X rfl rfl rfl hc i pins s3 σ3 H3 X.xe I3 (stat fr3) st3 stop) fun r s4 ⟨hr,I4⟩=>?_)
  subst hr
  exact wpAny_execs_nil ⟨σ3,H3,I4,qn⟩
 .refine wpAny_passesOwn hp (thn (T.item X rfl rfl rfl hc i pins s3 σ3 H3 X.xe I3 (stat fr3) st3 go) fun r s4 ⟨u,hr,h4⟩=>?_)
  subst hr
  refine wpAny_passesOwn hp (thn h4 fun _ s5 ⟨x,H5,I5,r5,y5,st5,fr5⟩=>?_)
  have I5':=I5.pinned (stat fr5) (T.obj _ _ st5)
  refine wpAny_passesOwn hp (thn (hg _ s5 σ3 H5 x u _ I5' r5 (step x H5 y5)) fun _ s6 ⟨σ6,H6,I6,q6⟩=>?_)
  refine wpAny_passesOwn hp (thn (hb _ s6 σ6 H6 _ I6 q6) fun f s7 q7=>?_)
  have again:∀{σ7:St} {H7:Hp},Inv X (pins++pinsAt fp s5.heap) σ7 H7 s7→N σ7 H7→∃m,m<n∧∃i σ' H',Inv X pins σ' H' s7∧tn i s7.heap∧(∀b∈fp,H' b=none)∧W i m σ' H':=fun {σ7 H7} I7 n7=>by
   obtain⟨m',hm,w7⟩:=hN σ7 H7 n7
   refine⟨m',hm,i+1,σ7,H7,I7.unpinned,T.keep _ _ _ st5 fun b hb o e=>(I7.pin (b,o) (List.mem_append_right _ (List.mem_append_right _ (mem_pinsAt hb e)))).1,fun b hb=>?_,w7⟩
   obtain⟨o,e,d⟩:=T.obj _ _ st5 b hb
   exact(I7.pin (b,o) (List.mem_append_right _ (List.mem_append_right _ (mem_pinsAt hb e)))).2.1
  cases f with
  | next=>obtain⟨σ7,H7,I7,n7⟩:=q7; exact again I7 n7
  | cont=>obtain⟨σ7,H7,I7,n7⟩:=q7; exact again I7 n7
  | brk=>obtain⟨σ7,H7,I7,q7⟩:=q7; exact⟨σ7,H7,I7.unpinned,q7⟩
  | ret v=>obtain⟨x7,σ7,H7,I7,r7,q7⟩:=q7; exact⟨x7,σ7,H7,I7.unpinned,r7,q7⟩
end
end L2
namespace L2
open PySem PySem.Spec PyProof.Rows
abbrev R2:=V→V→Hp→VK→Prop
def OpR(X:Cx)(f:Value→Value→Sem Value)(r:R2):Prop:=
 ∀(pins:List (Addr×Obj)) (s:Shared) (σ:St) (H:Hp) (x y:V) (v u:Value) (Q:VK),Inv X pins σ H s→RelV x v→RelV y u→r x y H Q→
  wpAny (model X.prog X.w) X.A (f v u) (EP X pins σ Q) X.xe s
def UnR(X:Cx)(f:Value→Sem Value)(r:V→Hp→VK→Prop):Prop:=
 ∀(pins:List (Addr×Obj)) (s:Shared) (σ:St) (H:Hp) (x:V) (v:Value) (Q:VK),Inv X pins σ H s→RelV x v→r x H Q→
  wpAny (model X.prog X.w) X.A (f v) (EP X pins σ Q) X.xe s
def CallR(X:Cx)(f:Value)(r:List V→Hp→VK→Prop):Prop:=
 ∀(pins:List (Addr×Obj)) (s:Shared) (σ:St) (H:Hp) (xs:List V) (us:List Value) (Q:VK),Inv X pins σ H s→Vals xs us→r xs H Q→
  wpAny (model X.prog X.w) X.A (call f us) (EP X pins σ Q) X.xe s
def tOp(r:R2)(ta tb:TE):TE:=fun σ H Q=>ta σ H fun x H1=>tb σ H1 fun y H2=>r x y H2 Q
def tUn(r:V→Hp→VK→Prop)(ta:TE):TE:=fun σ H Q=>ta σ H fun x H1=>r x H1 Q
def rI(C:Int→Int→Prop)(g:Int→Int→V):R2:=fun x y H Q=>∃i j,x=.int i∧y=.int j∧C i j∧Q (g i j) H
def rI0(g:Int→Int→V):R2:=fun x y H Q=>∃i j,x=.int i∧y=.int j∧Q (g i j) H
def rU(g:Int→V):V→Hp→VK→Prop:=fun x H Q=>∃i,x=.int i∧Q (g i) H
section
variable{X:Cx}{a b c:Expr}{ta tb tc:TE}{pos:Pos}
theorem binT(ha:PE X a ta)(hb:PE X b tb){pins:List (Addr×Obj)}{s:Shared}{σ:St}{H:Hp}{R:V→V→Hp→Prop}(I:Inv X pins σ H s)
  (h:ta σ H fun x H1=>tb σ H1 fun y H2=>R x y H2) {Q:Value→Shared→Prop} {f:Value→Value→Sem Value}
  (hf:∀v u s2 x y H2,Inv X pins σ H2 s2→RelV x v→RelV y u→R x y H2→wpAny (model X.prog X.w) X.A (f v u) Q X.xe s2) :
  wpAny (model X.prog X.w) X.A (eval a X.env) (fun v s₁=>wpAny (model X.prog X.w) X.A (eval b X.env) (fun u s₂=>wpAny (model X.prog X.w) X.A (f v u) Q X.xe s₂) X.xe s₁) X.xe s:=by
 refine thn (ha pins s σ H _ I h) fun v s1 ⟨x,H1,I1,r1,q1⟩=>?_
 refine thn (hb pins s1 σ H1 _ I1 q1) fun u s2 ⟨y,H2,I2,r2,q2⟩=>?_
 exact hf v u s2 x y H2 I2 r1 r2 q2
theorem pe_op{op:Operator}{r:R2}(ho:OpR X (binaryOp op) r)(ha:PE X a ta)(hb:PE X b tb):PE X (.BinOp a op b pos) (tOp r ta tb):=by
 intro pins s σ H Q I h
 exact wpAny_BinOp (binT ha hb I h fun v u s2 x y H2 I2 rx ry q=>ho pins s2 σ H2 x y v u Q I2 rx ry q)
theorem pe_un{op:UnaryOp}{r:V→Hp→VK→Prop}(ho:UnR X (unaryOp op) r)(ha:PE X a ta):PE X (.UnaryOp op a pos) (tUn r ta):=by
 intro pins s σ H Q I h
 exact UnaryOp_ (thn (ha pins s σ H _ I h) fun v s1 ⟨x,H1,I1,r1,q1⟩=>ho pins s1 σ H1 x v Q I1 r1 q1)
theorem opI{f:Value→Value→Sem Value}{C:Int→Int→Prop}{g:Int→Int→Int}
  (rule:∀(i j:Int) (t u:Tok) (s:Shared) (Q:Value→Shared→Prop) (E:Value→Shared→Prop),C i j→Q (.int (g i j) s.toks) { s with toks:=s.toks+1 }→wpAny (model X.prog X.w) X.A (f (.int i t) (.int j u)) Q E s) :
  OpR X f (rI C fun i j=>.int (g i j)):=by
 intro pins s σ H x y v u Q I rx ry h
 obtain⟨i,j,rfl,rfl,hc,q⟩:=h
 obtain⟨t,rfl⟩:=rx
 obtain⟨t',rfl⟩:=ry
 exact rule i j t t' s _ _ hc ⟨.int (g i j),H,I.tok _,⟨_,rfl⟩,q⟩
theorem opI0{f:Value→Value→Sem Value}{g:Int→Int→Int}
  (rule:∀(i j:Int) (t u:Tok) (s:Shared) (Q:Value→Shared→Prop) (E:Value→Shared→Prop),Q (.int (g i j) s.toks) { s with toks:=s.toks+1 }→wpAny (model X.prog X.w) X.A (f (.int i t) (.int j u)) Q E s) :
  OpR X f (rI0 fun i j=>.int (g i j)):=by
 intro pins s σ H x y v u Q I rx ry h
 obtain⟨i,j,rfl,rfl,q⟩:=h
 obtain⟨t,rfl⟩:=rx
 obtain⟨t',rfl⟩:=ry
 exact rule i j t t' s _ _ ⟨.int (g i j),H,I.tok _,⟨_,rfl⟩,q⟩
theorem opB0{f:Value→Value→Sem Value}{g:Int→Int→Bool}
  (rule:∀(i j:Int) (t u:Tok) (s:Shared) (Q:Value→Shared→Prop) (E:Value→Shared→Prop),Q (.bool (g i j)) s→wpAny (model X.prog X.w) X.A (f (.int i t) (.int j u)) Q E s) :
  OpR X f (rI0 fun i j=>.bl (g i j)):=by
 intro pins s σ H x y v u Q I rx ry h
 obtain⟨i,j,rfl,rfl,q⟩:=h
 obtain⟨t,rfl⟩:=rx
 obtain⟨t',rfl⟩:=ry
 exact rule i j t t' s _ _ ⟨.bl (g i j),H,I,rfl,q⟩
def CDiv(i j:Int):Prop:=0<j∧j<1073741824
def CPow(i j:Int):Prop:=0≤j∧j≤1000000∧i.natAbs<2 ^ 64
def CMul(i j:Int):Prop:=(-(2 ^ 64)<i∧i<2 ^ 64)∨(-(2 ^ 64)<j∧j<2 ^ 64)
theorem CMul.ok{i j:Int}(h:CMul i j):IntMulOk i j:=by
 rcases h with ⟨h1,h2⟩ | ⟨h1,h2⟩
 .exact .of_left (intBits_le_64 h1 h2)
 .exact .of_right (intBits_le_64 h1 h2)
theorem op_add:OpR X (binaryOp .Add) (rI0 fun i j=>.int (i+j)):=opI0 fun _ _ _ _ _ _ _ q=>add_int q
theorem op_sub:OpR X (binaryOp .Sub) (rI0 fun i j=>.int (i-j)):=opI0 fun _ _ _ _ _ _ _ q=>sub_int q
theorem op_mul:OpR X (binaryOp .Mult) (rI CMul fun i j=>.int (i*j)):=opI fun _ _ _ _ _ _ _ hc q=>mul_int q hc.ok
theorem op_fdiv:OpR X (binaryOp .FloorDiv) (rI CDiv fun i j=>.int (i/j)):=opI fun i j _ _ _ _ _ hc q=>by
 have h1:(0:Int)<j:=hc.1
 have h2:j<1073741824:=hc.2
 exact floordiv_int (by omega) (by rw[Int.fdiv_eq_ediv_of_nonneg i (by omega)]; exact q) (.inl (PyProof.noPylong_small (by omega)))
theorem op_mod:OpR X (binaryOp .Mod) (rI (fun _ j=>0<j) fun i j=>.int (i%j)):=opI fun i j _ _ _ _ _ hc q=>by
 have h1:(0:Int)<j:=hc
 exact mod_int' (by omega) (by rw[Int.fmod_eq_emod_of_nonneg i (by omega)]; exact q)
theorem op_pow:OpR X (binaryOp .Pow) (rI CPow fun i j=>.int (i ^ j.toNat)):=opI fun _ _ _ _ _ _ _ hc q=>pow_int_small hc.1 hc.2.1 hc.2.2 q
theorem unI{f:Value→Sem Value}{g:Int→Int}
  (rule:∀(i:Int) (t:Tok) (s:Shared) (Q:Value→Shared→Prop) (E:Value→Shared→Prop),Q (.int (g i) s.toks) { s with toks:=s.toks+1 }→wpAny (model X.prog X.w) X.A (f (.int i t)) Q E s) :
  UnR X f (rU fun i=>.int (g i)):=by
 intro pins s σ H x v Q I rx h
 obtain⟨i,rfl,q⟩:=h
 obtain⟨t,rfl⟩:=rx
 exact rule i t s _ _ ⟨.int (g i),H,I.tok _,⟨_,rfl⟩,q⟩
theorem un_neg:UnR X (unaryOp .USub) (rU fun i=>.int (-i)):=unI fun _ _ _ _ _ q=>neg_int q
end
def scal:V→V→Bool
 | .non,.non=>true | .non,.int _=>true | .int _,.non=>true | .non,.bl _=>true | .bl _,.non=>true | .non,.str _=>true | .str _,.non=>true
 | .int _,.int _=>true | .bl _,.bl _=>true | .str _,.str _=>true | .byt _,.byt _=>true
 | .int _,.str _=>true | .str _,.int _=>true | .bl _,.str _=>true | .str _,.bl _=>true
 | _,_=>false
def rEq:R2:=fun x y H Q=>scal x y=true∧Q (.bl (decide (x=y))) H
def rNe:R2:=fun x y H Q=>scal x y=true∧Q (.bl (!decide (x=y))) H
theorem dec_int{i j:Int}:decide (V.int i=V.int j)=(i==j):=by
 rw[Bool.eq_iff_iff]
 simp
theorem dec_bl{i j:Bool}:decide (V.bl i=V.bl j)=(i==j):=by
 rw[Bool.eq_iff_iff]
 simp
theorem dec_str{i j:Str}:decide (V.str i=V.str j)=(i==j):=by
 rw[Bool.eq_iff_iff]
 simp
theorem dec_byt{i j:Array UInt8}:decide (V.byt i=V.byt j)=(i.toList==j.toList):=by
 rw[Bool.eq_iff_iff]
 cases i
 cases j
 simp
section
variable{X:Cx}{a b c:Expr}{ta tb tc:TE}{pos:Pos}
theorem fin_bl{pins:List (Addr×Obj)}{σ:St}{H:Hp}{s:Shared}{Q:VK}{k k':Bool}(I:Inv X pins σ H s)(q:Q (.bl k) H)(e:k=k'):EP X pins σ Q (.bool k') s:=by
 subst e
 exact⟨.bl k,H,I,rfl,q⟩
theorem op_eq:OpR X (compareOp .Eq) rEq:=by
 intro pins s σ H x y v u Q I rx ry h
 obtain⟨hs,q⟩:=h
 cases x with
 | non=>
  cases rx
  cases y with
  | non=>cases ry; exact PySem.EqNone.eq_none_none (fin_bl I q (by simp))
  | bl j=>cases ry; exact PySem.EqNone.eq_none_bool (fin_bl I q (by simp))
  | int j=>obtain⟨t',rfl⟩:=ry; exact PySem.EqNone.eq_none_int (fin_bl I q (by simp))
  | str j=>obtain⟨t',rfl⟩:=ry; exact PySem.EqNone.eq_none_str (fin_bl I q (by simp))
  | _=>exact absurd (show false=true from hs) Bool.false_ne_true
 | bl i=>
  cases rx
  cases y with
  | non=>cases ry; exact PySem.EqNone.eq_bool_none (fin_bl I q (by simp))
  | bl j=>cases ry; exact eq_bool (fin_bl I q dec_bl)
  | str j=>obtain⟨t',rfl⟩:=ry; exact PySem.EqMixed.eq_bool_str (fin_bl I q (by simp))
  | _=>exact absurd (show false=true from hs) Bool.false_ne_true
 | int i=>
  obtain⟨t,rfl⟩:=rx
  cases y with
  | non=>cases ry; exact PySem.EqNone.eq_int_none (fin_bl I q (by simp))
  | int j=>obtain⟨t',rfl⟩:=ry; exact eq_int (fin_bl I q dec_int)
  | str j=>obtain⟨t',rfl⟩:=ry; exact PySem.EqMixed.eq_int_str (fin_bl I q (by simp))
  | _=>exact absurd (show false=true from hs) Bool.false_ne_true
 | str i=>
  obtain⟨t,rfl⟩:=rx
  cases y with
  | non=>cases ry; exact PySem.EqNone.eq_str_none (fin_bl I q (by simp))
  | bl j=>cases ry; exact PySem.EqMixed.eq_str_bool (fin_bl I q (by simp))
  | int j=>obtain⟨t',rfl⟩:=ry; exact PySem.EqMixed.eq_str_int (fin_bl I q (by simp))
  | str j=>obtain⟨t',rfl⟩:=ry; exact eq_str (fin_bl I q dec_str)
  | _=>exact absurd (show false=true from hs) Bool.false_ne_true
 | byt i=>
  obtain⟨t,rfl⟩:=rx
  cases y with
  | byt j=>obtain⟨t',rfl⟩:=ry; exact PySem.W.eq_bytes (fin_bl I q dec_byt)
  | _=>exact absurd (show false=true from hs) Bool.false_ne_true
 | _=>cases y<;>exact absurd (show false=true from hs) Bool.false_ne_true
theorem op_ne:OpR X (compareOp .NotEq) rNe:=by
 intro pins s σ H x y v u Q I rx ry h
 obtain⟨hs,q⟩:=h
 cases x with
 | non=>
  cases rx
  cases y with
  | non=>cases ry; exact PySem.EqNone.ne_none_none (fin_bl I q (by simp))
  | bl j=>cases ry; exact PySem.EqNone.ne_none_bool (fin_bl I q (by simp))
  | int j=>obtain⟨t',rfl⟩:=ry; exact PySem.EqNone.ne_none_int (fin_bl I q (by simp))
  | str j=>obtain⟨t',rfl⟩:=ry; exact PySem.EqNone.ne_none_str (fin_bl I q (by simp))
  | _=>exact absurd (show false=true from hs) Bool.false_ne_true
 | bl i=>
  cases rx
  cases y with
  | non=>cases ry; exact PySem.EqNone.ne_bool_none (fin_bl I q (by simp))
  | bl j=>cases ry; exact ne_bool (fin_bl I q (congrArg not dec_bl))
  | str j=>obtain⟨t',rfl⟩:=ry; exact PySem.EqMixed.ne_bool_str (fin_bl I q (by simp))
  | _=>exact absurd (show false=true from hs) Bool.false_ne_true
 | int i=>
  obtain⟨t,rfl⟩:=rx
  cases y with
  | non=>cases ry; exact PySem.EqNone.ne_int_none (fin_bl I q (by simp))
  | int j=>obtain⟨t',rfl⟩:=ry; exact ne_int (fin_bl I q (congrArg not dec_int))
  | str j=>obtain⟨t',rfl⟩:=ry; exact PySem.EqMixed.ne_int_str (fin_bl I q (by simp))
  | _=>exact absurd (show false=true from hs) Bool.false_ne_true
 | str i=>
  obtain⟨t,rfl⟩:=rx
  cases y with
  | non=>cases ry; exact PySem.EqNone.ne_str_none (fin_bl I q (by simp))
  | bl j=>cases ry; exact PySem.EqMixed.ne_str_bool (fin_bl I q (by simp))
  | int j=>obtain⟨t',rfl⟩:=ry; exact PySem.EqMixed.ne_str_int (fin_bl I q (by simp))
  | str j=>obtain⟨t',rfl⟩:=ry; exact ne_str (fin_bl I q (congrArg not dec_str))
  | _=>exact absurd (show false=true from hs) Bool.false_ne_true
 | byt i=>
  obtain⟨t,rfl⟩:=rx
  cases y with
  | byt j=>obtain⟨t',rfl⟩:=ry; exact PySem.W.ne_bytes (fin_bl I q (congrArg not dec_byt))
  | _=>exact absurd (show false=true from hs) Bool.false_ne_true
 | _=>cases y<;>exact absurd (show false=true from hs) Bool.false_ne_true
theorem op_lt:OpR X (compareOp .Lt) (rI0 fun i j=>.bl (decide (i<j))):=opB0 fun _ _ _ _ _ _ _ q=>lt_int q
theorem op_le:OpR X (compareOp .LtE) (rI0 fun i j=>.bl (decide (i≤j))):=opB0 fun _ _ _ _ _ _ _ q=>le_int q
theorem op_gt:OpR X (compareOp .Gt) (rI0 fun i j=>.bl (decide (j<i))):=opB0 fun _ _ _ _ _ _ _ q=>gt_int q
theorem op_ge:OpR X (compareOp .GtE) (rI0 fun i j=>.bl (decide (j≤i))):=opB0 fun _ _ _ _ _ _ _ q=>ge_int q
theorem op_in_str:OpR X (compareOp .In) (fun x y H Q=>∃i j,x=.str i∧y=.str j∧Q (.bl (!(Builtin.Str.occurrences j i 0 j.length 1).isEmpty)) H):=by
 intro pins s σ H x y v u Q I rx ry h
 obtain⟨i,j,rfl,rfl,q⟩:=h
 obtain⟨t,rfl⟩:=rx
 obtain⟨t',rfl⟩:=ry
 exact in_str (fin_bl I q rfl)
theorem op_isN:OpR X (compareOp .Is) (fun x y H Q=>y=.non∧Q (.bl (decide (x=.non))) H):=by
 intro pins s σ H x y v u Q I rx ry h
 obtain⟨rfl,q⟩:=h
 cases ry
 refine is_none_gen (fin_bl I q ?_)
 cases x<;>first
  | (cases rx; rfl)
  | (obtain⟨t,rfl⟩:=rx; rfl)
theorem op_notN:OpR X (compareOp .IsNot) (fun x y H Q=>y=.non∧Q (.bl (!decide (x=.non))) H):=by
 intro pins s σ H x y v u Q I rx ry h
 obtain⟨rfl,q⟩:=h
 cases ry
 refine isnot_none_gen (fin_bl I q ?_)
 cases x<;>first
  | (cases rx; rfl)
  | (obtain⟨t,rfl⟩:=rx; rfl)
theorem op_notin_str:OpR X (compareOp .NotIn) (fun x y H Q=>∃i j,x=.str i∧y=.str j∧Q (.bl (!(!(Builtin.Str.occurrences j i 0 j.length 1).isEmpty))) H):=by
 intro pins s σ H x y v u Q I rx ry h
 obtain⟨i,j,rfl,rfl,q⟩:=h
 obtain⟨t,rfl⟩:=rx
 obtain⟨t',rfl⟩:=ry
 exact notIn_str (fin_bl I q rfl)
theorem pe_cmpR{op:CmpOp}{r:R2}(ho:OpR X (compareOp op) r)(ha:PE X a ta)(hb:PE X b tb)(hm:behindInMarks op b=false):PE X (.Compare a [op] [b] pos) (tOp r ta tb):=by
 intro pins s σ H Q I h
 exact wpAny_Compare1 (binT ha hb I h fun v u s2 x y H2 I2 rx ry q=>ho pins s2 σ H2 x y v u Q I2 rx ry q) hm
def tTest(t:TE):TT:=fun σ H Q=>t σ H fun x H'=>∃k,x=.bl k∧Q k H'
theorem pt_cmpR{op:CmpOp}{r:R2}(ho:OpR X (compareOp op) r)(ha:PE X a ta)(hb:PE X b tb)(hm:behindInMarks op b=false):PT X (.Compare a [op] [b] pos) (tTest (tOp r ta tb)):=by
 intro pins s σ H Q I h
 refine wpAny_isTrue_Compare1 (thn (ha pins s σ H _ I h) fun v s1 ⟨x,H1,I1,r1,q1⟩=>thn (hb pins s1 σ H1 _ I1 q1) fun u s2 ⟨y,H2,I2,r2,q2⟩=>
  thn (ho pins s2 σ H2 x y v u _ I2 r1 r2 q2) fun c s3 ⟨z,H3,I3,r3,k,e,q3⟩=>?_) hm
 subst e
 cases r3
 exact wpAny_truthy_bool ⟨H3,I3,q3⟩
def tChain(r r':R2)(ta tb tc:TE):TE:=fun σ H Q=>ta σ H fun x H1=>tb σ H1 fun y H2=>r x y H2 fun z H3=>∃k,z=.bl k ∧
 (if k=true then tc σ H3 fun w' H4=>r' y w' H4 Q else Q (.bl false) H3)
theorem pe_chain{op op':CmpOp}{r r':R2}(ho:OpR X (compareOp op) r)(ho':OpR X (compareOp op') r')(ha:PE X a ta)(hb:PE X b tb)(hc:PE X c tc)
  (hm:lastMarks [op,op'] [b,c]=false:=by with_unfolding_all rfl):PE X (.Compare a [op,op'] [b,c] pos) (tChain r r' ta tb tc):=by
 intro pins s σ H Q I h
 refine Compare_chain (thn (ha pins s σ H _ I h) fun v s1 ⟨x,H1,I1,r1,q1⟩=>chain_link (thn (hb pins s1 σ H1 _ I1 q1) fun u s2 ⟨y,H2,I2,r2,q2⟩=>
  thn (ho pins s2 σ H2 x y v u _ I2 r1 r2 q2) fun d s3 ⟨z,H3,I3,r3,k,e,q3⟩=>?_)) hm
 subst e
 cases r3
 refine wpAny_truthy_bool ?_
 cases k with
 | false=>exact ite_ff ⟨.bl false,H3,I3,rfl,q3⟩
 | true=>exact ite_tt (chain_last (thn (hc pins s3 σ H3 _ I3 q3) fun w' s4 ⟨z',H4,I4,r4,q4⟩=>ho' pins s4 σ H4 y z' u w' Q I4 r2 r4 q4))
theorem pt_chain{op op':CmpOp}{r r':R2}(ho:OpR X (compareOp op) r)(ho':OpR X (compareOp op') r')(ha:PE X a ta)(hb:PE X b tb)(hc:PE X c tc)
  (hm:lastMarks [op,op'] [b,c]=false:=by with_unfolding_all rfl):PT X (.Compare a [op,op'] [b,c] pos) (tTest (tChain r r' ta tb tc)):=by
 intro pins s σ H Q I h
 refine isTrue_chain (thn (ha pins s σ H _ I h) fun v s1 ⟨x,H1,I1,r1,q1⟩=>test_link (thn (hb pins s1 σ H1 _ I1 q1) fun u s2 ⟨y,H2,I2,r2,q2⟩=>
  thn (ho pins s2 σ H2 x y v u _ I2 r1 r2 q2) fun d s3 ⟨z,H3,I3,r3,k,e,q3⟩=>?_)) hm
 subst e
 cases r3
 refine wpAny_truthy_bool ?_
 cases k with
 | false=>
  obtain⟨k',e',q'⟩:=q3
  cases e'
  exact ite_ff ⟨H3,I3,q'⟩
 | true=>
  refine ite_tt (test_last (thn (hc pins s3 σ H3 _ I3 q3) fun w' s4 ⟨z',H4,I4,r4,q4⟩=>thn (ho' pins s4 σ H4 y z' u w' _ I4 r2 r4 q4) fun d' s5 ⟨z2,H5,I5,r5,k2,e2,q5⟩=>?_))
  subst e2
  cases r5
  exact wpAny_truthy_bool ⟨H5,I5,q5⟩
theorem line63:(sizeLine:Nat)<2 ^ 63:=by rw[sizeLine_eq]; decide
theorem op_add_str:OpR X (binaryOp .Add) (fun x y H Q=>∃i j,x=.str i∧y=.str j∧i.length+j.length≤sizeLine∧Q (.str (i++j)) H):=by
 intro pins s σ H x y v u Q I rx ry h
 obtain⟨i,j,rfl,rfl,hz,q⟩:=h
 obtain⟨t,rfl⟩:=rx
 obtain⟨t',rfl⟩:=ry
 exact add_str (fun t' tk=>⟨.str (i++j),H,I.tok _,⟨_,rfl⟩,q⟩) hz
theorem vals1{x:V}{us:List Value}(r:Vals [x] us):∃u,us=[u]∧RelV x u:=by
 cases r with
 | cons r1 r2=>cases r2; exact⟨_,rfl,r1⟩
theorem vals2{x y:V}{us:List Value}(r:Vals [x,y] us):∃u w',us=[u,w']∧RelV x u∧RelV y w':=by
 cases r with
 | cons r1 r2=>
  cases r2 with
  | cons r3 r4=>cases r4; exact⟨_,_,rfl,r1,r3⟩
theorem call_int1:CallR X (.type "int") (fun xs H Q=>(∃i,xs=[.int i]∧Q (.int i) H)∨∃k,xs=[.bl k]∧Q (.int (if k then 1 else 0)) H):=by
 intro pins s σ H xs us Q I r h
 rcases h with ⟨i,rfl,q⟩ | ⟨k,rfl,q⟩
 .obtain⟨u,rfl,t,rfl⟩:=vals1 r
  exact call_int_int ⟨.int i,H,I,⟨_,rfl⟩,q⟩
 .obtain⟨u,rfl,r1⟩:=vals1 r
  cases r1
  exact call_int_bool ⟨.int (if k then 1 else 0),H,I.tok _,⟨_,rfl⟩,q⟩
theorem call_str_int:CallR X (.type "str") (fun xs H Q=>∃i,xs=[.int i]∧i.natAbs.log2<1920∧Q (.str (toString i)) H):=by
 intro pins s σ H xs us Q I r h
 obtain⟨i,rfl,hz,q⟩:=h
 obtain⟨u,rfl,t,rfl⟩:=vals1 r
 exact PySem.P.str_of_int hz ⟨.str _,H,I.tok _,⟨_,rfl⟩,q⟩
end
end L2
namespace L2
open PySem PySem.Spec PyProof.Rows
structure ObjM(h:Heap)(x dx C:Addr)(mA:Str→Option Value):Prop where
 obj:h.get? x=some (PySem.W.instObj C dx)
 ns:h.Ns1 dx mA
 ne:dx≠x
theorem lookIn_ns{h:Heap}{dx:Addr}{mA:Str→Option Value}(n:h.Ns1 dx mA):∃od,h.get? dx=some od∧∀name,PySem.W.lookIn name od=some (mA name):=by
 obtain⟨o,es,ep,ho,hd,hk,_,hm⟩:=n
 refine⟨o,ho,fun name=>?_⟩
 have e:=hm name
 unfold nsFind findBy at e
 rw[←Array.find?_toList] at e
 unfold PySem.W.lookIn
 rw[hd]
 dsimp only
 split
 .rename_i y q
  rw[q] at e
  exact congrArg some e
 .rename_i q
  rw[q] at e
  have a:es.toList.any (·.refKey)=false:=by
   rw[List.any_eq_false]
   intro y hy
   obtain⟨z,t,hkey⟩:=hk y (Array.mem_toList_iff.mp hy)
   simp[DictEntry.refKey,hkey]
  have a':¬es.toList.any (·.refKey)=true:=by rw[a]; exact Bool.false_ne_true
  rw[if_neg a']
  exact congrArg some e
theorem ObjM.look{h:Heap}{x dx C:Addr}{mA:Str→Option Value}(I:ObjM h x dx C mA):∃od,PySem.W.InstAt h x (PySem.W.instObj C dx) C (some od)∧∀name,PySem.W.lookIn name od=some (mA name):=
 let ⟨od,ho,hl⟩:=lookIn_ns I.ns
 ⟨od,⟨I.obj,rfl,rfl,ho⟩,hl⟩
section
variable{P:Program}{w:World}{H H':Hp}{h h':Heap}{a C dx:Addr}{fs fs':List (Str×V)}
theorem ins_get(hok:HOk P w H h)(e:H a=some (.ins C dx fs)):∃mA,ObjM h a dx C mA∧(∀f,RelO (fs.lookup f) (mA f))∧PySem.Within mA (fs.map (·.1))∧fs.length≤1000∧H dx=some (.own a):=by
 obtain⟨d,z,ne,ob,mA,n,r,q⟩:=(show ObjOk P w H h a (.ins C dx fs) from hok a _ e)
 exact⟨mA,⟨ob,n,ne⟩,r,q,z,d⟩
end
structure Cls(K:PySem.W.Frag)(C:Addr):Prop where
 pg:PySem.W.plainGet K C Str.empty=true
 hd:PySem.W.hasDictIn K C=true
 po:PySem.W.plainOver K C=true
 sa:PySem.W.findIn K (.ref C) "__setattr__" = some (some (.builtin "object.__setattr__"))
theorem Cls.get{K:PySem.W.Frag}{C:Addr}(c:Cls K C)(f:Str):PySem.W.plainGet K C f=true:=c.pg
section
variable{X:Cx}{pins:List (Addr×Obj)}{σ:St}{H:Hp}{s:Shared}{A:Around}{E:Value→Shared→Prop}{Q:Value→Shared→Prop}{c:Value}{b:Bool}
inductive TyOf(K:PySem.W.Frag)(H:Hp):V→Value→Prop where
 | non:TyOf K H .non (.type "NoneType")
 | bl (x:Bool):TyOf K H (.bl x) (.type "bool")
 | int (i:Int):TyOf K H (.int i) (.type "int")
 | str (x:Str):TyOf K H (.str x) (.type "str")
 | flt (x:UInt64):TyOf K H (.flt x) (.type "float")
 | lst {a:Addr} {xs:List V} (e:H a=some (.lst xs)):TyOf K H (.ref a) (.type "list")
 | frz {a:Addr} {o:Obj} {xs:List V} (e:H a=some (.frz o (.lst xs))):TyOf K H (.ref a) (.type "list")
 | tup {a:Addr} {xs:List V} (e:H a=some (.tup xs)):TyOf K H (.ref a) (.type "tuple")
 | dK {a:Addr} {kvs:List (Key×V)} (e:H a=some (.dK kvs)):TyOf K H (.ref a) (.type "dict")
 | dT {a:Addr} {kvs:List (List Key×V)} (e:H a=some (.dT kvs)):TyOf K H (.ref a) (.type "dict")
 | ins {a C dx:Addr} {fs:List (Str×V)} (e:H a=some (.ins C dx fs)) (cl:Cls K C) (ha:PySem.W.findIn K (.ref C) "__class__" = some (some (.builtin "object.__class__")))
   (hn:PySem.W.specialIn K (.builtin "object.__class__") "__get__" = some (some (.builtin "getset_descriptor.__get__"))) (htk:PySem.W.takesIn K (.builtin "object.__class__")=some true)
   (hm:PySem.W.mroIn K C (.type "object")=some true):TyOf K H (.ref a) (.ref C)
theorem isinst_ok{x:V}{u t:Value}(I:Inv X pins σ H s)(rx:RelV x u)(ty:TyOf X.K H x t)(e:PySem.W.kitOne X.K t c=some b)(h:∀tk,Q (.bool b) { s with toks:=tk }) :
  wpAny (model X.prog X.w) A (call (.builtin "isinstance") [u,c]) Q E s:=by
 cases ty with
 | non=>cases (show u=Value.none from rx); exact PySem.W.kia_one PySem.W.kitx_none I.kIn True.intro e (fun z=>nomatch z) h
 | bl y=>cases (show u=Value.bool y from rx); exact PySem.W.kia_one PySem.W.kitx_bool I.kIn True.intro e (fun z=>nomatch z) h
 | int i=>obtain⟨t,q⟩:=(show ∃t,u=Value.int i t from rx); cases q; exact PySem.W.kia_one PySem.W.kitx_int I.kIn True.intro e (fun z=>nomatch z) h
 | str y=>obtain⟨t,q⟩:=(show ∃t,u=Value.str y t from rx); cases q; exact PySem.W.kia_one PySem.W.kitx_str I.kIn True.intro e (fun z=>nomatch z) h
 | flt y=>obtain⟨t,q⟩:=(show ∃t,u=Value.float y t from rx); cases q; exact PySem.W.kia_one PySem.W.kitx_float I.kIn True.intro e (fun z=>nomatch z) h
 | @lst a xs ea=>
  cases (show u=Value.ref a from rx)
  obtain⟨_,_,n,_,h1⟩:=(show ObjOk X.prog X.w H s.heap a (.lst xs) from I.hok a _ ea)
  exact PySem.W.kia_one PySem.W.kitx_list I.kIn ⟨_,h1,rfl⟩ e (fun z=>nomatch z) h
 | @frz a ob xs ea=>
  cases (show u=Value.ref a from rx)
  obtain⟨_,_,_,n,_,h1⟩:=(show ObjOk X.prog X.w H s.heap a (.frz ob (.lst xs)) from I.hok a _ ea)
  exact PySem.W.kia_one PySem.W.kitx_list I.kIn ⟨_,h1,rfl⟩ e (fun z=>nomatch z) h
 | @tup a xs ea=>
  cases (show u=Value.ref a from rx)
  obtain⟨_,_,_,p⟩:=(show ObjOk X.prog X.w H s.heap a (.tup xs) from I.hok a _ ea)
  obtain⟨o,h1,h2,_⟩:=p
  exact PySem.W.kia_one PySem.W.kitx_tuple I.kIn ⟨o,h1,h2⟩ e (fun z=>nomatch z) h
 | @dK a kvs ea=>
  cases (show u=Value.ref a from rx)
  obtain⟨_,_,vs,_,p⟩:=(show ObjOk X.prog X.w H s.heap a (.dK kvs) from I.hok a _ ea)
  obtain⟨o,es,ep,h1,h2,_⟩:=p
  exact PySem.W.kia_one PySem.W.kitx_dict I.kIn ⟨o,h1,h2.1⟩ e (fun z=>nomatch z) h
 | @dT a kvs ea=>
  cases (show u=Value.ref a from rx)
  obtain⟨_,_,xs,_,o,es,ep,h1,h2,_⟩:=(show ObjOk X.prog X.w H s.heap a (.dT kvs) from I.hok a _ ea)
  exact PySem.W.kia_one PySem.W.kitx_dict I.kIn ⟨o,h1,h2.1⟩ e (fun z=>nomatch z) h
 | @ins a C dx fs ea cl ha hn htk hm=>
  cases (show u=Value.ref a from rx)
  obtain⟨mA,O,_⟩:=ins_get I.hok ea
  obtain⟨od,J,_⟩:=O.look
  exact PySem.W.kia_one (PySem.W.kitx_own (cl.get _) cl.hd ha hn htk hm) I.kIn J e (fun z=>nomatch z) h
end
end L2
namespace L2
open PySem PySem.Spec PyProof.Rows
structure Room(k:Nat)(A:Around):Prop where
 hd:A.handled=none
 dp:A.depth+3*k+5<recursionLimit
 un:A.units+16*k+200<cLine
theorem Room.deeper{k:Nat}{A:Around}(r:Room (k+1) A)(env:Env):Room k (A.deeper env):=
 ⟨r.hd,by have:=r.dp; show A.depth+1+3*k+5<_; omega,by have:=r.un; show A.units+3+16*k+200<_; omega⟩
theorem Room.depth{k:Nat}{A:Around}(r:Room k A):A.depth<recursionLimit:=by have:=r.dp; omega
theorem Room.units{k:Nat}{A:Around}(r:Room k A):A.units+64<cLine:=by have:=r.un; omega
def tNil:TA:=fun _ H Q=>Q [] H
def tCons(ta:TE)(tr:TA):TA:=fun σ H Q=>ta σ H fun x H1=>tr σ H1 fun xs H2=>Q (x::xs) H2
section
variable{X:Cx}{e:Expr}{es:List Expr}{te:TE}{t:TA}{pos:Pos}
theorem pa_nil:PA X [] tNil:=fun _ _ _ _ H Q I h=>Calls.spliced_nil ⟨[],H,I,.nil,h⟩
theorem pa_cons(ha:PE X e te)(hr:PA X es t)(hs:starEach (e::es) X.env=(false,eval e X.env)::starEach es X.env:=by rfl):PA X (e::es) (tCons te t):=by
 intro pos pins s σ H Q I h
 rw[hs]
 show wpAny _ _ (spliced ((false,eval e X.env)::backTo pos (starEach es X.env))) _ _ s
 refine Calls.spliced_cons (thn (ha pins s σ H _ I h) fun u s1 ⟨x,H1,I1,r1,q1⟩=>?_)
 exact thn (hr pos pins s1 σ H1 _ I1 q1) fun us s2 ⟨xs,H2,I2,r2,q2⟩=>⟨x::xs,H2,I2,.cons r1 r2,q2⟩
def tTup(t:TA):TE:=fun σ H Q=>t σ H fun xs H1=>xs.length≤sizeLine∧∀p,H1 p=none→Q (.ref p) (upd H1 p (.tup xs))
def tLst(t:TA):TE:=fun σ H Q=>t σ H fun xs H1=>xs.length≤sizeLine∧∀p,H1 p=none→Q (.ref p) (upd H1 p (.lst xs))
theorem pe_tup{x1}(h:PA X es t):PE X (.Tuple es x1 pos) (tTup t):=by
 intro pins s σ H Q I hq
 refine wpAny_Tuple_spliced (thn (h pos pins s σ H _ I hq) fun us s1 ⟨xs,H1,I1,r,z,q⟩=>⟨by rw[←r.length]; exact z,?_⟩)
 have hf:H1 s1.heap.objs.size=none:=I1.hok.fresh (Nat.le_refl _)
 refine⟨.ref s1.heap.objs.size,upd H1 s1.heap.objs.size (.tup xs),I1.laid (t':=s1.toks) (fun b u e=>Heap.get?_push_of_some _ e) (Nat.le_refl _) ?_,rfl,q _ hf⟩
 exact⟨z,us,r,⟨_,Heap.get?_push_size _ rfl,rfl,_,rfl⟩⟩
theorem pe_lst(h:PA X es t):PE X (.List es pos) (tLst t):=by
 intro pins s σ H Q I hq
 refine wpAny_List_spliced (thn (h pos pins s σ H _ I hq) fun us s1 ⟨xs,H1,I1,r,z,q⟩=>⟨by rw[←r.length]; exact z,?_⟩)
 have hf:H1 s1.heap.objs.size=none:=I1.hok.fresh (Nat.le_refl _)
 refine⟨.ref s1.heap.objs.size,upd H1 s1.heap.objs.size (.lst xs),I1.laid (t':=s1.toks) (fun b u e=>Heap.get?_push_of_some _ e) (Nat.le_refl _) ?_,rfl,q _ hf⟩
 exact⟨z,us,0,r,Heap.get?_push_size _ rfl⟩
end
abbrev Sp:=List V→Hp→VK→XK→Prop
abbrev CXT:=List Env→Hp→Shared→XK→Value→Shared→Prop
structure Env0(P:Program)(w:World)(K:PySem.W.Frag)(mg:Str→Option Value)(base:Heap)(A:Around)(outer:List Env)(s:Shared)(H:Hp):Prop where
 frames:A.frames=some outer
 mod:Mod K mg base
 bs:∀b o,base.get? b=some o→s.heap.get? b=some o∧H b=none
 bsz:base.objs.size≤s.heap.objs.size
 funs:s.heap.FunFrames base outer
 frf:∀b∈frs outer,H b=none
 hok:HOk P w H s.heap
 bare:AllBare s.gens
def CE(outer:List Env)(P:Program)(w:World)(H:Hp)(s:Shared)(Q:VK)(u:Value)(s':Shared):Prop:=
 ∃v H',s'.os=s.os∧AllBare s'.gens∧Un (frs outer) [] H H' s.heap s'.heap∧HOk P w H' s'.heap∧RelV v u∧Q v H'
def CR(CX:CXT)(outer:List Env)(P:Program)(w:World)(H:Hp)(s:Shared)(Q:VK)(E:XK)(r:Result)(s':Shared):Prop:=
 match r with
 | .ok (.ret u)=>CE outer P w H s Q u s'
 | .ok _=>False
 | .error e=>CX outer H s E e s'
structure FnOk(P:Program)(w:World)(K:PySem.W.Frag)(mg:Str→Option Value)(base:Heap)(CX:CXT)(k:Nat)(f:Addr)(fd:FuncData)(ps:List Str)(sp:Sp):Prop where
 len:∀vs H Q E,sp vs H Q E→vs.length=ps.length
 run:∀(A:Around) (outer:List Env) (s:Shared) (H:Hp) (args:Args) (us:List Value) (vs:List V) (Q:VK) (E:XK),Room k A→Env0 P w K mg base A outer s H→BindsTo s fd args (ps.zip us)→Vals vs us→sp vs H Q E→
  codeAny (model P w) A (.call (.ref f) args) (CR CX outer P w H s Q E) s
theorem FnOk.imp{P:Program}{w:World}{K:PySem.W.Frag}{mg:Str→Option Value}{base:Heap}{CX:CXT}{k:Nat}{f:Addr}{fd:FuncData}{ps:List Str}{sp sp':Sp}(F:FnOk P w K mg base CX k f fd ps sp)
  (h:∀vs H Q E,sp' vs H Q E→sp vs H Q E):FnOk P w K mg base CX k f fd ps sp':=
 ⟨fun vs H Q E q=>F.len vs H Q E (h _ _ _ _ q),fun A outer s H args us vs Q E hr he hb hv hs=>F.run A outer s H args us vs Q E hr he hb hv (h _ _ _ _ hs)⟩
section
variable{X:Cx}{pins:List (Addr×Obj)}{σ:St}{H:Hp}{s s':Shared}
theorem Inv.env0(I:Inv X pins σ H s):Env0 X.prog X.w X.K X.mg X.base X.A X.stack s H:=
 ⟨I.ok.frames,I.ok.mod,I.bs,Nat.le_trans I.ok.bsz I.sz,I.stack,I.stkFree,I.hok,I.bare⟩
theorem Inv.after{Q:VK}{u:Value}(I:Inv X pins σ H s)(h:CE X.stack X.prog X.w H s Q u s'):EP X pins σ Q u s':=by
 obtain⟨v,H',os,bare,un,hok,r,q⟩:=h
 obtain⟨hh,g,d,t,os'⟩:=s'
 obtain rfl:os'=s.os:=os
 exact⟨v,H',I.call (h':=hh) (g':=g) (d':=d) (t':=t) (ch:=[]) un hok bare (fun b z=>absurd z (by simp)),r,q⟩
end
def tCall(sp:Sp)(dvs:List V)(E:XK)(t:TA):TE:=fun σ H Q=>t σ H fun vs H1=>sp (vs++dvs) H1 Q E
def Binds(K:PySem.W.Frag)(fd:FuncData)(ps:List Str)(ds:List Value):Prop:=
 ∀(s:Shared) (us:List Value),K.In s.heap→(us++ds).length=ps.length→BindsTo s fd ⟨us,[]⟩ (ps.zip (us++ds))
theorem Binds.all{K:PySem.W.Frag}{fd:FuncData}{ps:List Str}(h:∀us:List Value,us.length=ps.length→bindArgs fd ⟨us,[]⟩=pure (ps.zip us)):Binds K fd ps []:=fun s us _ hl=>by
 rw[List.append_nil] at hl ⊢
 exact .of_eq (h us hl)
def Passes(CX:CXT)(X:Cx)(E:XK):Prop:=∀(pins:List (Addr×Obj)) (σ:St) (H:Hp) (s:Shared) (e:Value) (s':Shared),Inv X pins σ H s→CX X.stack H s E e s'→X.xe e s'
section
variable{X:Cx}{CX:CXT}{k:Nat}{f C:Addr}{fd:FuncData}{ps:List Str}{sp:Sp}{dvs:List V}{ds:List Value}{E:XK}{x m:Str}{p pos apos:Pos}{e o:Expr}{es:List Expr}{ta:TE}{t:TA}
theorem run_fn{pins:List (Addr×Obj)}{σ:St}{H:Hp}{s:Shared}{Q:VK}{us:List Value}{vs:List V}(F:FnOk X.prog X.w X.K X.mg X.base CX k f fd ps sp)(hr:Room k X.A)(hb:Binds X.K fd ps ds)(hd:Vals dvs ds)(hx:Passes CX X E)
  (I:Inv X pins σ H s) (r:Vals vs us) (h:sp (vs++dvs) H Q E):wpAny (model X.prog X.w) X.A (call (.ref f) us) (EP X pins σ Q) X.xe s:=by
 have r2:Vals (vs++dvs) (us++ds):=r.append hd
 have hl:(us++ds).length=ps.length:=by rw[←r2.length]; exact F.len _ _ _ _ h
 refine wpAny_call (codeAny_mono (F.run X.A X.stack s H ⟨us,[]⟩ (us++ds) (vs++dvs) Q E hr I.env0 (hb s us I.kIn hl) r2 h) fun r s' hq=>?_)
 cases r with
 | error e=>exact hx pins σ H s e s' I hq
 | ok fl=>
  cases fl with
  | ret u=>exact I.after hq
  | next=>exact False.elim hq
  | brk=>exact False.elim hq
  | cont=>exact False.elim hq
theorem pe_call(F:FnOk X.prog X.w X.K X.mg X.base CX k f fd ps sp)(hr:Room k X.A)(hg:Gl X x)(hm:X.mg x=some (.ref f))(hk:PySem.W.keepIn X.K (.ref f)=true)(hb:Binds X.K fd ps ds)(hd:Vals dvs ds)(hx:Passes CX X E)
  (ha:PA X (e::es) t) (hdb:(x==("__debug__":Str))=false:=by decide) (he:starEach (e::es) X.env=(false,eval e X.env)::starEach es X.env:=by rfl) (hpl:(backTo pos (starEach es X.env)).any (·.1)=false:=by rfl) :
  PE X (.Call (.Name x p) (e::es) [] pos) (tCall sp dvs E t):=by
 intro pins s σ H Q I h
 refine wpAny_Call_Name_kw (ld_glob I hg hm ?_ hdb)
 refine PySem.W.callWith_K (h₀:=X.base) I.ok.mod.kin hk (thn (ha pos pins s σ H _ I h) fun us s1 ⟨vs,H1,I1,r,q⟩=>⟨I1.kIn,?_⟩) he hpl
 exact run_fn F hr hb hd hx I1 r q
theorem pe_call0(F:FnOk X.prog X.w X.K X.mg X.base CX k f fd ps sp)(hr:Room k X.A)(hg:Gl X x)(hm:X.mg x=some (.ref f))(hk:PySem.W.keepIn X.K (.ref f)=true)(hb:Binds X.K fd ps ds)(hd:Vals dvs ds)(hx:Passes CX X E)
  (hdb:(x==("__debug__":Str))=false:=by decide):PE X (.Call (.Name x p) [] [] pos) (tCall sp dvs E tNil):=by
 intro pins s σ H Q I h
 refine wpAny_Call_Name_kw (ld_glob I hg hm ?_ hdb)
 exact PySem.W.callWith_K0 I.kIn hk (run_fn (us:=[]) F hr hb hd hx I .nil h)
end
section
variable{X:Cx}{CX:CXT}{k:Nat}{f C:Addr}{fd:FuncData}{ps ks:List Str}{sp:Sp}{E:XK}{x m:Str}{p pos apos kpos:Pos}{e o:Expr}{es:List Expr}{kws:List Keyword}{te ta:TE}{t tk:TA}{nm:Option Str}
variable{g:List Value→List Value→List Value}{gV:List V→List V→List V}
end
structure FnScope(N P:List Str)(sc:Scope):Prop where
 kind:sc.kind=.function
 co:sc.isCoroutine=false
 gen:sc.isGenerator=false
 nd:N.Nodup
 pre:N.take P.length=P
 par:∀x∈P,sc.names.lookup x=some .local∨sc.names.lookup x=some .cell
 nofree:∀y∈sc.names,y.2≠.free
theorem bindL_out{kindOf:Str→Option NameKind}{x:Str}:∀{binds:List (Str×Value)} {m:Str→Option Value},(∀v,(x,v)∉binds)→bindL kindOf binds m x=m x
 | [],_,_=>rfl
 | (n,v)::r,m,h=>by
  unfold bindL
  rw[bindL_out fun w hw=>h w (List.mem_cons_of_mem _ hw)]
  split
  .have:x≠n:=by rintro rfl; exact h v List.mem_cons_self
   simp[this]
  .rfl
theorem bindC_out{kindOf:Str→Option NameKind}{x:Str}:∀{binds:List (Str×Value)} {m:Str→Option Value},(∀v,(x,v)∉binds)→bindC kindOf binds m x=m x
 | [],_,_=>rfl
 | (n,v)::r,m,h=>by
  unfold bindC
  rw[bindC_out fun w hw=>h w (List.mem_cons_of_mem _ hw)]
  split
  .rfl
  .have:x≠n:=by rintro rfl; exact h v List.mem_cons_self
   simp[this]
theorem bindL_get{kindOf:Str→Option NameKind}{x:Str}{v:Value}:∀{P:List Str} {vs:List Value} {i:Nat} {m:Str→Option Value},P.Nodup→P[i]?=some x→vs[i]?=some v→kindOf x=some .local→
  bindL kindOf (P.zip vs) m x=some v
 | [],_,_,_,_,h,_,_=>by simp at h
 | _::_,[],_,_,_,_,h,_=>by simp at h
 | p::P,w::vs,0,m,nd,h1,h2,hk=>by
  simp at h1 h2; subst h1; subst h2
  show bindL kindOf ((p,w)::P.zip vs) m p=_
  unfold bindL
  rw[bindL_out fun v hv=>(List.nodup_cons.mp nd).1 (List.of_mem_zip hv).1,if_pos hk]
  simp
 | p::P,w::vs,i+1,m,nd,h1,h2,hk=>by
  show bindL kindOf ((p,w)::P.zip vs) m x=_
  unfold bindL
  exact bindL_get (i:=i) (List.nodup_cons.mp nd).2 (by simpa using h1) (by simpa using h2) hk
theorem bindC_get{kindOf:Str→Option NameKind}{x:Str}{v:Value}:∀{P:List Str} {vs:List Value} {i:Nat} {m:Str→Option Value},P.Nodup→P[i]?=some x→vs[i]?=some v→kindOf x≠some .local→
  bindC kindOf (P.zip vs) m x=some v
 | [],_,_,_,_,h,_,_=>by simp at h
 | _::_,[],_,_,_,_,h,_=>by simp at h
 | p::P,w::vs,0,m,nd,h1,h2,hk=>by
  simp at h1 h2; subst h1; subst h2
  show bindC kindOf ((p,w)::P.zip vs) m p=_
  unfold bindC
  rw[bindC_out fun v hv=>(List.nodup_cons.mp nd).1 (List.of_mem_zip hv).1,if_neg hk]
  simp
 | p::P,w::vs,i+1,m,nd,h1,h2,hk=>by
  show bindC kindOf ((p,w)::P.zip vs) m x=_
  unfold bindC
  exact bindC_get (i:=i) (List.nodup_cons.mp nd).2 (by simpa using h1) (by simpa using h2) hk
def start(N:List Str)(vs:List V):St:=vs.map some++List.replicate (N.length-vs.length) none
def cxOf(CX:CXT)(P:Program)(w:World)(K:PySem.W.Frag)(mg:Str→Option Value)(base:Heap)(N:List Str)(qual:Str)(scope:Scope)(f:Addr)(cd:Value)(A:Around)(outer:List Env)(s:Shared)(H:Hp)(E:XK):Cx where
 prog:=P
 w:=w
 K:=K
 mg:=mg
 base:=base
 A:=A.deeper (envOfC qual scope s.heap.objs.size f cd)
 N:=N
 s₀:=s
 H₀:=H
 env:=envOfC qual scope s.heap.objs.size f cd
 outer:=outer
 stack:=envOfC qual scope s.heap.objs.size f cd::outer
 ex:=[]
 calm:=true
 fn:=fun _=>true
 pn:=[]
 xe:=fun e s'=>wpAny (model P w) (A.deeper (envOfC qual scope s.heap.objs.size f cd)) (leaving (envOfC qual scope s.heap.objs.size f cd) e) (fun _ s''=>CX outer H s E e s'') (fun e' s''=>CX outer H s E e' s'') s'
theorem cell_has{sc:Scope}{n:Nat}{x:Str}(h:sc.names.lookup x=some .cell):∃c,(cellsFrom n sc.names []).lookup x=some c:=by
 have q:=PySem.W.cellsFrom_some sc.names n [] (.inl h)
 exact Option.isSome_iff_exists.mp q
theorem inv_start{CX:CXT}{P:Program}{w:World}{K:PySem.W.Frag}{mg:Str→Option Value}{base:Heap}{N ps:List Str}{qual:Str}{scope:Scope}{f:Addr}{cd:Value}{A:Around}{outer:List Env}{s s1:Shared}{H:Hp}{E:XK}{us:List Value}{vs:List V}
  (S:FnScope N ps scope) (hd:A.handled=none) (e0:Env0 P w K mg base A outer s H) (hl:vs.length=ps.length) (r:Vals vs us)
  (x:InCallC s s.heap.objs.size (bindL (envOfC qual scope s.heap.objs.size f cd).kindOf (ps.zip us) fun _=>none) (cellsFrom (s.heap.objs.size+1) scope.names []) (bindC (envOfC qual scope s.heap.objs.size f cd).kindOf (ps.zip us) fun _=>none) s1) :
  Inv (cxOf CX P w K mg base N qual scope f cd A outer s H E) [] (start N vs) H s1:=by
 have hpl:ps.length≤N.length:=by have:=congrArg List.length S.pre; rw[List.length_take] at this; omega
 obtain⟨h1,tk,rfl,hk⟩:=x.done
 have noA:∀b:Addr,b∉(cxOf CX P w K mg base N qual scope f cd A outer s H E).ex:=fun b z=>absurd (show b∈([]:List Addr) from z) (by simp)
 refine⟨⟨e0.mod,S.kind,rfl,rfl,Nat.le_refl _,fun y z c h1 h2=>?_,fun y hy=>?_,fun y c _ h=>?_,fun _=>hd,Around.frames_deeper e0.frames,.inr ⟨rfl,rfl⟩,fun b z=>absurd z (noA b),e0.bs,e0.bsz,fun b _ _=>noA b,fun b z=>absurd z (noA b),e0.funs,e0.frf⟩,
  rfl,e0.bare,Un.kept hk,⟨_,x.toInCall.ns,fun i y v h1 h2 h3=>?_⟩,fun y c h=>⟨_,x.cell y c h⟩,e0.hok.fresh (Nat.le_refl _),fun y c h=>?_,fun p hp=>absurd (show p∈([]:List (Addr×Obj)) from hp) (by simp),e0.hok.kept hk,?_⟩
 .exact name_of_addr x.apart (PySem.mem_of_lookup h1) (PySem.mem_of_lookup h2)
 .have hy:scope.names.lookup y=some .cell∨scope.names.lookup y=some .free:=hy
  rcases hy with hy | hy
  .exact cell_has hy
  .exact absurd rfl (S.nofree _ (PySem.mem_of_lookup hy))
 .exact Nat.le_of_lt (x.above y c (PySem.mem_of_lookup h))
 .have hi:i<vs.length:=by
   unfold start at h2
   by_cases hi:i<vs.length
   .exact hi
   .rw[List.getElem?_append_right (by simpa using hi)] at h2
    rw[List.getElem?_replicate] at h2
    split at h2<;>cases h2
  have ha:vs[i]?=some v:=by
   unfold start at h2
   rw[List.getElem?_append_left (by simpa using hi),List.getElem?_map] at h2
   cases e:vs[i]? with
   | none=>rw[e] at h2; cases h2
   | some a=>rw[e] at h2; cases h2; rfl
  obtain⟨u,hu,rv⟩:=r.get ha
  have hp:ps[i]?=some y:=by
   rw[←S.pre,List.getElem?_take_of_lt (by omega)]; exact h1
  have ndP:ps.Nodup:=by rw[←S.pre]; exact S.nd.sublist (List.take_sublist _ _)
  refine⟨u,rv,?_⟩
  rcases S.par y (List.mem_of_getElem? hp) with k | k
  .exact .inl ⟨k,bindL_get ndP hp hu k⟩
  .obtain⟨c,e⟩:=cell_has (n:=s.heap.objs.size+1) k
   refine .inr ⟨.inl k,c,e,?_⟩
   have q:=x.cell y c e
   rw[bindC_get ndP hp hu (by show scope.names.lookup y≠_; rw[k]; decide)] at q
   exact q
 .exact e0.hok.fresh (Nat.le_of_lt (x.above y c (PySem.mem_of_lookup h)))
 .unfold start
  show _=N.length
  rw[List.length_append,List.length_map,List.length_replicate]
  omega
theorem fn_of{CX:CXT}{P:Program}{w:World}{K:PySem.W.Frag}{mg:Str→Option Value}{base:Heap}{k:Nat}{f:Addr}{name qual:Str}{params:Arguments}{body:List Stmt}{scope:Scope}{dV kV doc pm cdv ct oc:Value}{an od:Option Addr}
  {osl:Array (Option Value)} {N ps:List Str} {sp:Sp} (lk:K.lookup f=some ⟨oc,od,.func (PySem.W.fnOf name qual params body scope dV kV doc pm an cdv ct),osl⟩) (hcd:PySem.W.codeIn K cdv qual=true) (S:FnScope N ps scope)
  (len:∀vs H Q E,sp vs H Q E→vs.length=ps.length)
  (hbody:∀(A:Around) (outer:List Env) (s:Shared) (H:Hp) (vs:List V) (Q:VK) (E:XK),Room k (A.deeper (envOfC qual scope s.heap.objs.size f cdv))→sp vs H Q E→
   ∃t,PSs (cxOf CX P w K mg base N qual scope f cdv A outer s H E) body t∧t { nx:=fun _ H'=>Q .non H',rt:=Q } (start N vs) H) :
  FnOk P w K mg base CX (k+1) f (PySem.W.fnOf name qual params body scope dV kV doc pm an cdv ct) ps sp:=by
 refine⟨len,fun A outer s H args us vs Q E hr e0 hb r hsp=>?_⟩
 have hl:=len _ _ _ _ hsp
 have KX:K.In s.heap:=e0.mod.kin.keeps fun b o e=>(e0.bs b o e).1
 have lim:s.heap.NoLimit:=e0.mod.nolimit.keeps fun b o e=>(e0.bs b o e).1
 have hkind:∀y∈ps.zip us,scope.names.lookup y.1=some .local∨(scope.names.lookup y.1=some .cell∧((cellsFrom (s.heap.objs.size+1) scope.names []).lookup y.1).isSome=true):=fun⟨n,v⟩ hy=>by
  rcases S.par n (List.of_mem_zip hy).1 with q | q
  .exact .inl q
  .exact .inr ⟨q,PySem.W.cellsFrom_some _ _ _ (.inl q)⟩
 refine codeAny_call_function hr.depth (KX _ _ lk) rfl S.co S.gen rfl (PySem.W.codeRec_of KX hcd) (hb _ _ _ _ ?_)
 refine wpAny_newFunctionEnv_cells S.kind hkind fun env he s1 x=>?_
 subst he
 refine⟨lim.keeps x.toInCall.keep,codeAny_func ?_⟩
 obtain⟨t,ht,hq⟩:=hbody A outer s H vs Q E (hr.deeper _) hsp
 have I:Inv (cxOf CX P w K mg base N qual scope f cdv A outer s H E) [] (start N vs) H s1:=inv_start S hr.hd e0 hl r x
 refine wpAny_mono (ht [] s1 (start N vs) H _ I hq) (fun fl s' hs=>?_) fun e s' hs=>hs
 have fin:∀{σ':St} {H':Hp} {v:V} {u:Value},Inv (cxOf CX P w K mg base N qual scope f cdv A outer s H E) [] σ' H' s'→RelV v u→Q v H'→CE outer P w H s Q u s':=
  fun {σ' H' v u} J rv q=>⟨v,H',J.os,J.bare,J.base,J.hok,rv,q⟩
 cases fl with
 | ret u=>
  obtain⟨v,σ',H',J,rv,q⟩:=hs
  exact fin J rv q
 | next=>
  obtain⟨σ',H',J,q⟩:=hs
  exact fin (v:=V.non) (u:=Value.none) J rfl q
 | brk=>
  obtain⟨_,_,_,q⟩:=hs
  exact False.elim q
 | cont=>
  obtain⟨_,_,_,q⟩:=hs
  exact False.elim q
end L2
namespace L2
open PySem PySem.Spec PyProof.Rows
section
variable{X:Cx}{x:Str}{p pos:Pos}{e:Expr}{es:List Expr}{t:TA}{id T:String}{r:List V→Hp→VK→Prop}
def tCB(r:List V→Hp→VK→Prop)(t:TA):TE:=fun σ H Q=>t σ H fun vs H1=>r vs H1 Q
theorem pe_callB(hc:CallR X (.builtin id) r)(hg:Gl X x)(hm:X.mg x=none)(hv:bootBuiltins x=some (.builtin id))(ha:PA X (e::es) t)(hn:x≠"__name__":=by decide)(hdb:(x==("__debug__":Str))=false:=by decide)
  (he:starEach (e::es) X.env=(false,eval e X.env)::starEach es X.env:=by rfl) (hpl:(backTo pos (starEach es X.env)).any (·.1)=false:=by rfl):PE X (.Call (.Name x p) (e::es) [] pos) (tCB r t):=by
 intro pins s σ H Q I h
 refine wpAny_Call_Name_kw (ld_blt I hg hm hv ?_ hn hdb)
 exact PyProof.Rows.callWith_builtin1 (thn (ha pos pins s σ H _ I h) fun us s1 ⟨vs,H1,I1,r1,q1⟩=>hc pins s1 σ H1 vs us Q I1 r1 q1) he hpl
theorem pe_callTy(hc:CallR X (.type T) r)(hg:Gl X x)(hm:X.mg x=none)(hv:bootBuiltins x=some (.type T))(ha:PA X (e::es) t)(hn:x≠"__name__":=by decide)(hdb:(x==("__debug__":Str))=false:=by decide)
  (he:starEach (e::es) X.env=(false,eval e X.env)::starEach es X.env:=by rfl) (hpl:(backTo pos (starEach es X.env)).any (·.1)=false:=by rfl):PE X (.Call (.Name x p) (e::es) [] pos) (tCB r t):=by
 intro pins s σ H Q I h
 refine wpAny_Call_Name_kw (ld_blt I hg hm hv ?_ hn hdb)
 exact PyProof.Rows.callWith_type1 (thn (ha pos pins s σ H _ I h) fun us s1 ⟨vs,H1,I1,r1,q1⟩=>hc pins s1 σ H1 vs us Q I1 r1 q1) he hpl
end
end L2
namespace HT
open PySem PyProof.Rows
section
open PySem.SeqAt
open PySem.AutoSeq1 (wpAny_loadPart')
open PySem.MeetsSeq PySem.MeetsSeq2 PySem.MeetsSeq3
end
section
variable{prog:Program}{w:World}{A:Around}{E:Value→Shared→Prop}{s:Shared}
theorem cat_tup{t b:Addr}{vs ws:List Value}{Q:Value→Shared→Prop}(ht:IsTup s.heap t vs.toArray)(hb:IsTup s.heap b ws.toArray)(hv:vs≠[])
  (h1:ws=[]→Q (.ref t) s) (h2:ws≠[]→Q (.ref s.heap.objs.size) { s with heap:=s.heap.push { cls:=.type "tuple",data:=.seq (vs++ws).toArray } })
  (hsz:vs.length+ws.length≤sizeLine):wpAny (model prog w) A (binaryOp .Add (.ref t) (.ref b)) Q E s:=by
 obtain⟨⟨cls,dd,data,sl⟩,ho,hc,n,hd⟩:=id ht
 obtain⟨⟨cls2,dd2,data2,sl2⟩,ho2,hc2,n2,hd2⟩:=id hb
 simp only at hc hd hc2 hd2
 subst hc hd hc2 hd2
 have e:vs.toArray++ws.toArray=(vs++ws).toArray:=by simp
 by_cases hw:ws=[]
 .exact concat_meets ⟨_,ho,rfl⟩ ⟨_,ho2,rfl⟩ noFill_tuple_add seq_tuple_add PySem.F.slot_tuple_add PySem.F.entry_tuple_add (PySem.F.args_tuple_add_2 _ _)
   (tuple_addW1 t b vs.toArray ws.toArray n n2 dd dd2 sl sl2 (by simpa using hv) (by simp[hw])) ⟨ho,ho2,h1 hw⟩
 .refine concat_meets ⟨_,ho,rfl⟩ ⟨_,ho2,rfl⟩ noFill_tuple_add seq_tuple_add PySem.F.slot_tuple_add PySem.F.entry_tuple_add (PySem.F.args_tuple_add_2 _ _)
   (tuple_addW2 t b vs.toArray ws.toArray n n2 dd dd2 sl sl2 (by simpa using hv) (by simpa using hw) (by rw[List.size_toArray,List.size_toArray]; exact hsz)) ⟨ho,ho2,?_⟩
  rw[e]
  exact h2 hw
def sIx(n d:Nat):Option Int→Nat
 | none=>d
 | some v=>if v<0 then (v+(n:Int)).toNat else min v.toNat n
theorem sIx_le(n d:Nat)(hd:d≤n)(o:Option Int):sIx n d o≤n:=by
 cases o with
 | none=>exact hd
 | some v=>
  show(if v<0 then (v+(n:Int)).toNat else min v.toNat n)≤n
  by_cases hv:v<0
  .rw[if_pos hv]; omega
  .rw[if_neg hv]; exact Nat.min_le_right _ _
theorem clip_eq(v:Int)(n d:Nat):(if v<0 then max (v+(n:Int)) 0 else min v (n:Int))=((sIx n d (some v):Nat):Int):=by
 show(if v<0 then max (v+(n:Int)) 0 else min v (n:Int))=(((if v<0 then (v+(n:Int)).toNat else min v.toNat n):Nat):Int)
 by_cases hv:v<0
 .simp only[if_pos hv]; omega
 .simp only[if_neg hv]; omega
theorem adjust_gen(lo hi:Option Int)(n:Nat):Builtin.Slice.sliceAdjust lo hi 1 (n:Int)=(((sIx n 0 lo:Nat):Int),((sIx n n hi:Nat):Int)):=by
 have h1:¬((1:Int)<0):=by omega
 unfold Builtin.Slice.sliceAdjust
 simp only[h1,if_false]
 refine Prod.ext ?_ ?_
 .cases lo with
  | none=>rfl
  | some v=>exact clip_eq v n 0
 .cases hi with
  | none=>rfl
  | some v=>exact clip_eq v n n
theorem places_gen(i j:Nat):Builtin.Slice.slicePlaces (i:Int) (j:Int) 1=j-i:=by
 unfold Builtin.Slice.slicePlaces
 have h1:(1:Int)>0:=by omega
 simp only[h1,if_true,Int.ediv_one]
 split<;>omega
theorem slicePart_{v:Value}{o:Option Int}{Q:Option Int→Shared→Prop}(p:IsPart v o)(h:Q o s):wpAny (model prog w) A (Builtin.Slice.slicePartIndex v) Q E s:=by
 cases p with
 | none=>exact slicePart_none h
 | int i t=>exact slicePart_int h
theorem sliceApplied_gen{sl:Addr}{vl vu:Value}{lo hi:Option Int}{n:Nat}{Q:Int×Int×Nat→Shared→Prop}(hs:s.heap.IsSliceOf sl vl vu .none)(pl:IsPart vl lo)(pu:IsPart vu hi)
  (h:Q (((sIx n 0 lo:Nat):Int),1,sIx n n hi-sIx n 0 lo) s):wpAny (model prog w) A (Builtin.Slice.sliceApplied (.ref sl) (pure (n:Int))) Q E s:=by
 obtain⟨os,hos,hcs,hds⟩:=id hs
 unfold Builtin.Slice.sliceApplied Builtin.Slice.sliceFields
 refine wpAny_bind (wpAny_bind (wpAny_field hos hds (x:=vl) rfl (wpAny_bind (wpAny_field hos hds (x:=vu) rfl (wpAny_bind (wpAny_field hos hds (x:=.none) rfl (wpAny_pure ?_)))))))
 refine wpAny_bind (slicePart_none ?_)
 show wpAny _ _ (if ((1:Int)==0)=true then _ else _) _ _ s
 rw[if_neg (by decide)]
 refine wpAny_bind (slicePart_ pl (wpAny_bind (slicePart_ pu (wpAny_bind (wpAny_pure ?_)))))
 show wpAny _ _ (match Builtin.Slice.sliceAdjust lo hi 1 (n:Int) with | (lo,hi)=>pure (lo,(1:Int),Builtin.Slice.slicePlaces lo hi 1)) _ _ s
 rw[adjust_gen lo hi n]
 show wpAny _ _ (pure (((sIx n 0 lo:Nat):Int),(1:Int),Builtin.Slice.slicePlaces ((sIx n 0 lo:Nat):Int) ((sIx n n hi:Nat):Int) 1)) _ _ s
 rw[places_gen]
 exact wpAny_pure h
theorem pick_gen(xs:Array Value)(i k:Nat):((List.range k).filterMap fun(m:Nat)=>xs[((i:Int)+(m:Int)*1).toNat]?).toArray=((xs.toList.drop i).take k).toArray:=by
 have e:(fun(m:Nat)=>xs[((i:Int)+(m:Int)*1).toNat]?)=fun m=>xs[i+m]?:=by
  funext m
  have:((i:Int)+(m:Int)*1).toNat=i+m:=by omega
  rw[this]
 rw[e]
 have:=pick_run xs i k
 rw[List.filterMap_map] at this
 have e2:((fun x=>xs[x]?)∘fun x=>i+x)=fun m=>xs[i+m]?:=rfl
 rw[e2] at this
 rw[this]
theorem getItem_tuple_cut{t sl:Addr}{items:Array Value}{vl vu:Value}{lo hi:Option Int}{Q:Value→Shared→Prop}(ht:IsTup s.heap t items)(hs:s.heap.IsSliceOf sl vl vu .none)(pl:IsPart vl lo)(pu:IsPart vu hi)
  (hw:¬(sIx items.size 0 lo=0∧sIx items.size items.size hi=items.size))
  (h:Q (.ref s.heap.objs.size) { s with heap:=s.heap.push { cls:=.type "tuple",data:=.seq ((items.toList.drop (sIx items.size 0 lo)).take (sIx items.size items.size hi-sIx items.size 0 lo)).toArray } })
  (hsz:items.size≤sizeLine):wpAny (model prog w) A (getItem (.ref t) (.ref sl)) Q E s:=by
 have htake:sizeOk (.seq ((items.toList.drop (sIx items.size 0 lo)).take (sIx items.size items.size hi-sIx items.size 0 lo)).toArray):=by
  show((items.toList.drop (sIx items.size 0 lo)).take (sIx items.size items.size hi-sIx items.size 0 lo)).toArray.size≤sizeLine
  rw[List.size_toArray,List.length_take,List.length_drop,Array.length_toList]
  omega
 have hj:sIx items.size items.size hi≤items.size:=sIx_le _ _ (Nat.le_refl _) hi
 obtain⟨os,hos,hcs,hds⟩:=id hs
 have hTs:s.TypeIs (.ref sl) "slice":=⟨os,hos,hcs⟩
 unfold getItem
 try with_reducible refine wpAny_holding ?_
 first | refine wpAny_bind (wpAny_pure ?_) | skip
 refine wpAny_bind (wpAny_sequenceKey ht.typeIs (by decide) ?_)
 refine wpAny_bind (wpAny_callSpecial?_slot (name:=Str.ofString "__getitem__") ht.typeIs PyProof.Rows.slot_tuple_getitem
  (wpAny_call_entry PyProof.Rows.slot_tuple_getitem ht.typeIs entry_tuple_getitem ?_ (args_tuple_getitem _ _)))
 show wpAny _ _ (Builtin.Tuple.tupleItemsOf (.ref t) >>= _) _ _ s
 refine wpAny_bind (tupleItemsOf_ ht ?_)
 refine wpAny_bind (wpAny_typeOf hTs ?_)
 rw[if_pos (by decide)]
 refine wpAny_bind (sliceApplied_gen hs pl pu ?_)
 have hno:¬((((sIx items.size 0 lo:Nat):Int)==0&&(1:Int)==1&&(sIx items.size items.size hi-sIx items.size 0 lo)==items.size)=true):=by
  intro q
  rw[Bool.and_eq_true,Bool.and_eq_true] at q
  have q1:((sIx items.size 0 lo:Nat):Int)=0:=eq_of_beq q.1.1
  have q2:sIx items.size items.size hi-sIx items.size 0 lo=items.size:=eq_of_beq q.2
  exact hw ⟨by omega,by omega⟩
 show wpAny _ _ (if (((sIx items.size 0 lo:Nat):Int)==0&&(1:Int)==1&&(sIx items.size items.size hi-sIx items.size 0 lo)==items.size)=true then _ else _) _ _ s
 rw[if_neg hno,pick_gen]
 first
  | exact wpAny_bind (m:=Builtin.Tuple.tupleExact _) (wpAny_newObj_type (wpAny_pure ⟨_,rfl,wpAny_pure h⟩) htake)
  | exact wpAny_bind (m:=Builtin.Tuple.tupleExact _) (wpAny_newObj_type (wpAny_bind (wpAny_pure (wpAny_pure ⟨_,rfl,wpAny_pure h⟩))) htake)
  | exact wpAny_bind (wpAny_bind (m:=Builtin.Tuple.tupleExact _) (wpAny_newObj_type (wpAny_pure (wpAny_pure ⟨_,rfl,wpAny_pure h⟩)) htake))
  | exact wpAny_bind (wpAny_bind (m:=Builtin.Tuple.tupleExact _) (wpAny_newObj_type (wpAny_pure ⟨_,rfl,wpAny_pure h⟩) htake))
end
end HT
namespace L2
open PySem PySem.Spec PyProof.Rows
abbrev TO:=St→Hp→(Option Int→Hp→Prop)→Prop
def PO(X:Cx)(e:Option Expr)(t:TO):Prop:=
 ∀(pins:List (Addr×Obj)) (s:Shared) (σ:St) (H:Hp) (Q:Option Int→Hp→Prop),Inv X pins σ H s→t σ H Q→
  wpAny (model X.prog X.w) X.A (evalPart e X.env) (fun u s'=>∃o H',Inv X pins σ H' s'∧IsPart u o∧Q o H') X.xe s
def tNoPart:TO:=fun _ H Q=>Q none H
def tPart(t:TE):TO:=fun σ H Q=>t σ H fun x H1=>∃i,x=.int i∧Q (some i) H1
section
variable{X:Cx}{e:Expr}{te:TE}{lo hi:Option Expr}{tl th:TO}{pos p2:Pos}
theorem po_none:PO X none tNoPart:=by
 intro pins s σ H Q I h
 rw[evalPart_none]
 exact wpAny_pure ⟨none,H,I,.none,h⟩
theorem po_some(h:PE X e te):PO X (some e) (tPart te):=by
 intro pins s σ H Q I hw
 rw[evalPart_some]
 refine thn (h pins s σ H _ I hw) fun u s1 ⟨x,H1,I1,r1,q1⟩=>?_
 obtain⟨i,rfl,q⟩:=q1
 obtain⟨t,rfl⟩:=r1
 exact⟨some i,H1,I1,.int i t,q⟩
def SlR(X:Cx)(r:V→Option Int→Option Int→Hp→VK→Prop):Prop:=
 ∀(pins:List (Addr×Obj)) (s:Shared) (σ:St) (H:Hp) (x:V) (v vl vu:Value) (lo hi:Option Int) (sl:Addr) (Q:VK),Inv X pins σ H s→RelV x v→s.heap.IsSliceOf sl vl vu .none→IsPart vl lo→IsPart vu hi→r x lo hi H Q→
  ∃T id,typeLookup (.type T) "__getitem__" = pure (some (.builtin id))∧s.TypeIs v T∧wpAny (model X.prog X.w) X.A (getItem v (.ref sl)) (EP X pins σ Q) X.xe s
def tSl(r:V→Option Int→Option Int→Hp→VK→Prop)(te:TE)(tl th:TO):TE:=fun σ H Q=>te σ H fun x H1=>tl σ H1 fun l H2=>th σ H2 fun u H3=>r x l u H3 Q
theorem pe_slice{r:V→Option Int→Option Int→Hp→VK→Prop}(hr:SlR X r)(he:PE X e te)(hl:PO X lo tl)(hu:PO X hi th):PE X (.Subscript e (.Slice lo hi none p2) pos) (tSl r te tl th):=by
 intro pins s σ H Q I h
 refine Subscript_ (thn (he pins s σ H _ I h) fun v s1 ⟨x,H1,I1,r1,q1⟩=>?_)
 refine wpAny_Slice (thn (hl pins s1 σ H1 _ I1 q1) fun vl s2 ⟨l,H2,I2,pl,q2⟩=>thn (hu pins s2 σ H2 _ I2 q2) fun vu s3 ⟨u,H3,I3,pu,q3⟩=>?_)
 rw[evalPart_none]
 refine wpAny_pure ?_
 have I4:Inv X pins σ H3 { s3 with heap:=s3.heap.push { cls:=.type "slice",data:=.fields #[vl,vu,.none] } }:=I3.kept (t':=s3.toks) fun b ob q=>Heap.get?_push_of_some _ q
 obtain⟨T,id,hT,ht,hg⟩:=hr pins { s3 with heap:=s3.heap.push { cls:=.type "slice",data:=.fields #[vl,vu,.none] } } σ H3 x v vl vu l u s3.heap.objs.size Q I4 r1 (Heap.IsSliceOf.new ..) pl pu q3
 show wpAny (model X.prog X.w) X.A (subscriptTail e (.Slice lo hi none p2) v (.ref s3.heap.objs.size)) (EP X pins σ Q) X.xe { s3 with heap:=s3.heap.push { cls:=.type "slice",data:=.fields #[vl,vu,.none] } }
 exact tail_any (ops:=[.ref s3.heap.objs.size,v]) ht hT hg (by with_unfolding_all rfl)
def cutV(xs:List V)(lo hi:Option Int):List V:=(xs.drop (HT.sIx xs.length 0 lo)).take (HT.sIx xs.length xs.length hi-HT.sIx xs.length 0 lo)
theorem cutV_length(xs:List V)(lo hi:Option Int):(cutV xs lo hi).length≤xs.length:=by
 unfold cutV
 rw[List.length_take,List.length_drop]
 omega
def rSlT(K:PySem.W.Frag):V→Option Int→Option Int→Hp→VK→Prop:=fun x lo hi H Q=>∃a xs,x=.ref a∧SqT K H a xs ∧
 ¬(HT.sIx xs.length 0 lo=0∧HT.sIx xs.length xs.length hi=xs.length)∧∀p,H p=none→Q (.ref p) (upd H p (.tup (cutV xs lo hi)))
theorem sl_tup:SlR X (rSlT X.K):=by
 intro pins s σ H x v vl vu lo hi sl Q I rx hs pl pu h
 obtain⟨a,xs,rfl,hx,hw,q⟩:=h
 cases rx
 obtain⟨its,r,ht,hz⟩:=I.tuple hx
 have hlen:its.toArray.size=xs.length:=by rw[List.size_toArray]; exact r.length.symm
 refine⟨"tuple",_,PyProof.Rows.slot_tuple_getitem.lookup,ht.typeIs,?_⟩
 refine HT.getItem_tuple_cut ht hs pl pu (by rw[hlen]; exact hw) ?_ (by rw[hlen]; exact hz)
 rw[hlen]
 refine⟨.ref s.heap.objs.size,_,I.laid (t':=s.toks) (o:=.tup (cutV xs lo hi)) (fun b ob q=>Heap.get?_push_of_some _ q) (Nat.le_refl _) ?_,rfl,q _ (I.hok.fresh (Nat.le_refl _))⟩
 exact⟨Nat.le_trans (cutV_length xs lo hi) hz,_,(r.drop (HT.sIx xs.length 0 lo)).take (HT.sIx xs.length xs.length hi-HT.sIx xs.length 0 lo),IsTup.new _ _⟩
def rCatT(K:PySem.W.Frag):R2:=fun x y H Q=>∃a b xs ys,x=.ref a∧y=.ref b∧SqT K H a xs∧SqT K H b ys∧xs≠[]∧xs.length+ys.length≤sizeLine ∧
 (ys=[]→Q (.ref a) H)∧(ys≠[]→∀p,H p=none→Q (.ref p) (upd H p (.tup (xs++ys))))
theorem Vals.nil_iff{xs:List V}{us:List Value}(r:Vals xs us):us=[]↔xs=[]:=by
 cases r with
 | nil=>simp
 | cons _ _=>simp
theorem op_catT:OpR X (binaryOp .Add) (rCatT X.K):=by
 intro pins s σ H x y v u Q I rx ry h
 obtain⟨a,b,xs,ys,rfl,rfl,ha,hb,hx,hz,q1,q2⟩:=h
 cases rx
 cases ry
 obtain⟨its,r1,p1,_⟩:=I.tuple ha
 obtain⟨its2,r2,p2,_⟩:=I.tuple hb
 refine HT.cat_tup p1 p2 (fun z=>hx (r1.nil_iff.mp z)) (fun z=>⟨.ref a,H,I,rfl,q1 (r2.nil_iff.mp z)⟩) (fun z=>?_) (by rw[←r1.length,←r2.length]; exact hz)
 refine⟨.ref s.heap.objs.size,_,I.laid (t':=s.toks) (o:=.tup (xs++ys)) (fun b ob q=>Heap.get?_push_of_some _ q) (Nat.le_refl _) ?_,rfl,q2 (fun w=>z (r2.nil_iff.mpr w)) _ (I.hok.fresh (Nat.le_refl _))⟩
 exact⟨by rw[List.length_append]; exact hz,_,r1.append r2,IsTup.new _ _⟩
end
end L2
namespace L2
open PySem PySem.Spec PyProof.Rows
def ixN(n:Nat)(i:Int):Option Nat:=if 0≤i then (if i<n then some i.toNat else none) else if -(n:Int)≤i then some (i+n).toNat else none
def atI{α:Type}(xs:List α)(i:Int):Option α:=(ixN xs.length i).bind fun j=>xs[j]?
theorem ixN_seq{n:Nat}{i:Int}{j:Nat}(h:ixN n i=some j):seqIndex? i n=some j∧j<n∧-(n:Int)≤i∧i<n:=by
 unfold ixN at h
 by_cases h0:0≤i
 .rw[if_pos h0] at h
  by_cases h1:i<n
  .rw[if_pos h1] at h
   have e:i.toNat=j:=Option.some.inj h
   exact⟨by rw[seqIndex_of h0 h1,e],by omega,by omega,h1⟩
  .rw[if_neg h1] at h; cases h
 .rw[if_neg h0] at h
  by_cases h1:-(n:Int)≤i
  .rw[if_pos h1] at h
   have e:(i+n).toNat=j:=Option.some.inj h
   exact⟨by rw[seqIndex_neg (by omega) h1,e],by omega,h1,by omega⟩
  .rw[if_neg h1] at h; cases h
theorem atI_get{α:Type}{xs:List α}{i:Int}{v:α}(h:atI xs i=some v):∃j,seqIndex? i xs.length=some j∧xs[j]?=some v∧j<xs.length∧-(xs.length:Int)≤i∧i<xs.length:=by
 unfold atI at h
 cases e:ixN xs.length i with
 | none=>rw[e] at h; cases h
 | some j=>
  rw[e] at h
  obtain⟨h1,h2,h3,h4⟩:=ixN_seq e
  exact⟨j,h1,h,h2,h3,h4⟩
def PlainIx(b:Expr):Prop:=∀o i,subscripted b false o i=operate [o,i] (getItem o i)
def IxR(X:Cx)(r:R2):Prop:=
 ∀(value slice:Expr) (pins:List (Addr×Obj)) (s:Shared) (σ:St) (H:Hp) (x y:V) (v u:Value) (Q:VK),Inv X pins σ H s→RelV x v→RelV y u→r x y H Q→
  subscripted slice false v u=operate [v,u] (getItem v u)→wpAny (model X.prog X.w) X.A (subscriptTail value slice v u) (EP X pins σ Q) X.xe s
def MtR(X:Cx)(id:String)(r:V→List V→Hp→VK→Prop):Prop:=
 ∀(pins:List (Addr×Obj)) (s:Shared) (σ:St) (H:Hp) (x:V) (xs:List V) (v:Value) (us:List Value) (Q:VK),Inv X pins σ H s→RelV x v→Vals xs us→r x xs H Q→
  wpAny (model X.prog X.w) X.A (call (.builtin id) (v::us)) (EP X pins σ Q) X.xe s
section
variable{X:Cx}{a b:Expr}{ta tb:TE}{pos:Pos}
theorem pe_ix{r:R2}(hr:IxR X r)(ha:PE X a ta)(hb:PE X b tb)(hs:PlainIx b):PE X (.Subscript a b pos) (tOp r ta tb):=by
 intro pins s σ H Q I h
 exact Subscript_ (binT ha hb I h fun v u s2 x y H2 I2 rx ry q=>hr a b pins s2 σ H2 x y v u Q I2 rx ry q (hs _ _))
def rIxL(K:PySem.W.Frag):R2:=fun x y H Q=>∃p xs i v,x=.ref p∧y=.int i∧SqL K H p xs∧atI xs i=some v∧Q v H
def rIxT(K:PySem.W.Frag):R2:=fun x y H Q=>∃p xs i v,x=.ref p∧y=.int i∧SqT K H p xs∧atI xs i=some v∧Q v H
def rIxS:R2:=fun x y H Q=>∃z i c,x=.str z∧y=.int i∧z.length≤sizeLine∧atI z.cps.toList i=some c∧Q (.str ⟨#[c]⟩) H
theorem ix_list:IxR X (rIxL X.K):=by
 intro value slice pins s σ H x y v u Q I rx ry h hs
 obtain⟨p,xs,i,z,rfl,rfl,hq,he,q⟩:=h
 cases rx
 obtain⟨t,rfl⟩:=ry
 obtain⟨its,r,pl,hz⟩:=I.list hq
 obtain⟨j,h1,h2,h3,h4,h5⟩:=atI_get he
 obtain⟨w,ew,rw'⟩:=r.get h2
 have hl:=r.length
 have hn:=line63
 have fin:EP X pins σ Q w s:=⟨z,H,I,rw',q⟩
 by_cases h0:0≤i
 .have hj:i.toNat=j:=by
   rw[seqIndex_of h0 h5] at h1
   exact Option.some.inj h1
  exact item_listR pl.isList h0 (by omega) (by rw[hj]; simpa using ew) fin hs
 .have hj:(i+(its.toArray.size:Int)).toNat=j:=by
   rw[seqIndex_neg (by omega) h4] at h1
   rw[List.size_toArray,←hl]
   exact Option.some.inj h1
  exact subscriptTail_builtinR (x:=w) pl.isList.typeIs slot_list_getitem.lookup
   (wpAny_getItem_list_neg (Q:=fun r s'=>r=w∧EP X pins σ Q r s') pl.isList (by omega) (by rw[List.size_toArray]<;>omega) (by omega) (by rw[hj]; simpa using ew) ⟨rfl,fin⟩) hs
theorem ix_tup:IxR X (rIxT X.K):=by
 intro value slice pins s σ H x y v u Q I rx ry h hs
 obtain⟨p,xs,i,z,rfl,rfl,hq,he,q⟩:=h
 cases rx
 obtain⟨t,rfl⟩:=ry
 obtain⟨its,r,pl,hz⟩:=I.tuple hq
 obtain⟨j,h1,h2,h3,h4,h5⟩:=atI_get he
 obtain⟨w,ew,rw'⟩:=r.get h2
 have hl:=r.length
 have hn:=line63
 have fin:EP X pins σ Q w s:=⟨z,H,I,rw',q⟩
 exact subscriptTail_builtinR (x:=w) pl.typeIs slot_tuple_getitem.lookup
  (getItem_tuple (j:=j) (Q:=fun r s'=>r=w∧EP X pins σ Q r s') pl (by omega) (by omega) (by rw[List.size_toArray,←hl]; exact h1) (by simpa using ew) ⟨rfl,fin⟩) hs
theorem ix_str:IxR X rIxS:=by
 intro value slice pins s σ H x y v u Q I rx ry h hs
 obtain⟨z,i,c,rfl,rfl,hz,he,q⟩:=h
 obtain⟨t,rfl⟩:=rx
 obtain⟨t',rfl⟩:=ry
 obtain⟨j,h1,h2,h3,h4,h5⟩:=atI_get he
 have hl:z.cps.toList.length=z.length:=by simp[Str.length]
 rw[hl] at h1 h4 h5
 have hn:=line63
 exact tail_any (typeIs_str s z t) slot_str_getitem.lookup (getItem_str (c:=c) (by
  have e1:decide (i < -(2 ^ 63:Int))=false:=decide_eq_false (by omega)
  have e2:decide (i≥2 ^ 63)=false:=decide_eq_false (by omega)
  rw[e1,e2,Bool.or_false]) (by rw[h1]; simpa using h2) ⟨.str ⟨#[c]⟩,H,I.tok _,⟨_,rfl⟩,q⟩) hs
theorem mapSeq_set(its:List Value)(n j:Nat)(u:Value):Obj.mapSeq (·.setIfInBounds j u) { cls:=.type "list",data:=.seq its.toArray n }={ cls:=.type "list",data:=.seq (its.set j u).toArray n }:=by
 simp[Obj.mapSeq]
theorem Inv.lst{pins:List (Addr×Obj)}{σ:St}{H:Hp}{s:Shared}{p:Addr}{xs:List V}(I:Inv X pins σ H s)(h:H p=some (.lst xs)) :
  ∃(its:List Value) (n:Nat),Vals xs its∧s.heap.get? p=some { cls:=.type "list",data:=.seq its.toArray n }∧xs.length≤sizeLine:=by
 obtain⟨z,its,n,r,e⟩:=I.hok p _ h
 exact⟨its,n,r,e,z⟩
theorem Inv.lstUpd{pins:List (Addr×Obj)}{σ:St}{H:Hp}{s:Shared}{p:Addr}{xs ys:List V}{its its':List Value}{n n':Nat}{f:Obj→Obj}(I:Inv X pins σ H s)(h:H p=some (.lst xs))
  (ho:s.heap.get? p=some { cls:=.type "list",data:=.seq its.toArray n }) (hf:f { cls:=.type "list",data:=.seq its.toArray n }={ cls:=.type "list",data:=.seq its'.toArray n' }) (r:Vals ys its') (hz:ys.length≤sizeLine) (t:Nat) :
  Inv X pins σ (upd H p (.lst ys)) { s with heap:=s.heap.update p f,toks:=t }:=by
 have e:(s.heap.update p f).get? p=some { cls:=.type "list",data:=.seq its'.toArray n' }:=by
  rw[Heap.get?_update_self f ho (by rw[hf]<;>rfl),hf]
 refine I.write (x:=p) (e:=p) (by rw[h]; trivial) (.inl rfl) (fun b u hb q=>(Heap.get?_update_other _ _ (Ne.symm hb)).trans q) ⟨_,e⟩ ?_
 exact⟨hz,its',n',r,e⟩
def rSetL:V→V→V→Hp→(Hp→Prop)→Prop:=fun o i v H Q=>∃p xs k j,o=.ref p∧i=.int k∧H p=some (.lst xs)∧ixN xs.length k=some j∧Q (upd H p (.lst (xs.set j v)))
theorem set_list:PSet X rSetL:=by
 intro pins s σ H o i v ov iv u Q I ro ri rv h
 obtain⟨p,xs,k,j,rfl,rfl,hp,hj,q⟩:=h
 cases ro
 obtain⟨t,rfl⟩:=ri
 obtain⟨its,n,r,ho,hz⟩:=I.lst hp
 obtain⟨h1,h2,h3,h4⟩:=ixN_seq hj
 have hl:=r.length
 have hn:=line63
 have I':Inv X pins σ (upd H p (.lst (xs.set j v))) { s with heap:=s.heap.update p (Obj.mapSeq (·.setIfInBounds j u)) }:=
  I.lstUpd hp ho (mapSeq_set its n j u) (r.set rv j) (by rw[List.length_set]; exact hz) s.toks
 by_cases h0:0≤k
 .have hk:k.toNat=j:=by
   rw[seqIndex_of h0 h4] at h1
   exact Option.some.inj h1
  exact PySem.W.ki_setAt ho h0 (by omega) (by rw[List.size_toArray,←hl]; exact h4) (by rw[hk]; exact⟨_,I',q⟩)
 .have hk:(k+(its.toArray.size:Int)).toNat=j:=by
   rw[seqIndex_neg (by omega) h3] at h1
   rw[List.size_toArray,←hl]
   exact Option.some.inj h1
  exact PySem.W.ki_setBack ho (by omega) (by rw[List.size_toArray,←hl]; exact h3) (by omega) (by rw[hk]; exact⟨_,I',q⟩)
theorem slice_bounds(lo hi:Option Int)(n:Nat):(sliceBounds lo hi none n).1=((HT.sIx n 0 lo:Nat):Int)∧(sliceBounds lo hi none n).2.1=((HT.sIx n n hi:Nat):Int)∧(sliceBounds lo hi none n).2.2=1:=by
 refine⟨?_,?_,rfl⟩
 .cases lo with
  | none=>simp[sliceBounds,HT.sIx]
  | some i=>
   simp only[sliceBounds,HT.sIx,Option.getD_none,show(1:Int)>0 by decide,if_true]
   by_cases h:i<0
   .simp only[h,if_true]<;>omega
   .simp only[h,if_false]<;>omega
 .cases hi with
  | none=>simp[sliceBounds,HT.sIx]
  | some i=>
   simp only[sliceBounds,HT.sIx,Option.getD_none,show(1:Int)>0 by decide,if_true]
   by_cases h:i<0
   .simp only[h,if_true]<;>omega
   .simp only[h,if_false]<;>omega
theorem slicePick_cut(its:List Value)(lo hi:Option Int):slicePick its.toArray lo hi none=((its.drop (HT.sIx its.length 0 lo)).take (HT.sIx its.length its.length hi-HT.sIx its.length 0 lo)).toArray:=by
 obtain⟨h1,h2,h3⟩:=slice_bounds lo hi its.toArray.size
 unfold slicePick
 rw[h1,h2,h3]
 simp only[sliceRange_one,pick_run,List.size_toArray]<;>rfl
def rSlL(K:PySem.W.Frag):V→Option Int→Option Int→Hp→VK→Prop:=fun x lo hi H Q=>∃a xs,x=.ref a∧SqL K H a xs∧∀p,H p=none→Q (.ref p) (upd H p (.lst (cutV xs lo hi)))
theorem sl_list:SlR X (rSlL X.K):=by
 intro pins s σ H x v vl vu lo hi sl Q I rx hs pl pu h
 obtain⟨a,xs,rfl,hx,q⟩:=h
 cases rx
 obtain⟨its,r,ht,hz⟩:=I.list hx
 have hlen:=r.length
 refine⟨"list",_,slot_list_getitem.lookup,ht.isList.typeIs,?_⟩
 refine wpAny_getItem_list_slice ht.isList hs pl pu .none (by simp) ?_ (by rw[List.size_toArray]<;>omega)
 rw[slicePick_cut,←hlen]
 refine⟨.ref s.heap.objs.size,_,I.laid (t':=s.toks) (o:=.lst (cutV xs lo hi)) (fun b ob q=>Heap.get?_push_of_some _ q) (Nat.le_refl _) ?_,rfl,q _ (I.hok.fresh (Nat.le_refl _))⟩
 exact⟨Nat.le_trans (cutV_length xs lo hi) hz,_,0,(r.drop (HT.sIx xs.length 0 lo)).take (HT.sIx xs.length xs.length hi-HT.sIx xs.length 0 lo),Heap.get?_push_size _ rfl⟩
theorem call_len_seq:CallR X (.builtin "len") (fun xs H Q=>∃p ys,xs=[.ref p]∧(SqL X.K H p ys∨SqT X.K H p ys)∧Q (.int ys.length) H):=by
 intro pins s σ H xs us Q I r h
 obtain⟨p,ys,rfl,hq,q⟩:=h
 obtain⟨u,rfl,rx⟩:=vals1 r
 cases rx
 have hn:=line63
 rcases hq with hq | hq
 .obtain⟨its,r',pl,hz⟩:=I.list hq
  have hlen:=r'.length
  exact Calls.call_len_list pl.isList (by simp only[List.size_toArray]<;>omega) ⟨.int ys.length,H,I.tok _,⟨s.toks+1,by rw[List.size_toArray,hlen]⟩,q⟩
 .obtain⟨its,r',pl,hz⟩:=I.tuple hq
  have hlen:=r'.length
  exact len_tuple pl (by simp only[List.size_toArray]<;>omega) ⟨.int ys.length,H,I.tok _,⟨s.toks+1,by rw[List.size_toArray,hlen]⟩,q⟩
theorem call_len_str:CallR X (.builtin "len") (fun xs H Q=>∃z,xs=[.str z]∧z.length≤sizeLine∧Q (.int z.length) H):=by
 intro pins s σ H xs us Q I r h
 obtain⟨z,rfl,hz,q⟩:=h
 obtain⟨u,rfl,t,rfl⟩:=vals1 r
 have hn:=line63
 exact len_str (by omega) ⟨.int z.length,H,I.tok _,⟨_,rfl⟩,q⟩
theorem call_list_of:CallR X (.type "list") (fun xs H Q=>∃p ys,xs=[.ref p]∧(SqL X.K H p ys∨SqT X.K H p ys)∧∀l,H l=none→Q (.ref l) (upd H l (.lst ys))):=by
 intro pins s σ H xs us Q I r h
 obtain⟨p,ys,rfl,hq,q⟩:=h
 obtain⟨u,rfl,rx⟩:=vals1 r
 cases rx
 have fin:∀(its:List Value),Vals ys its→ys.length≤sizeLine→∀(h':Heap) (c':Nat),(∀b o',s.heap.get? b=some o'→h'.get? b=some o')→
   h'.get? s.heap.objs.size=some { cls:=.type "list",dict:=none,data:=.seq its.toArray c',slots:=#[] }→EP X pins σ Q (.ref s.heap.objs.size) { s with heap:=h' }:=fun its r' hz h' c' kp e=>
  ⟨.ref s.heap.objs.size,_,I.laid (t':=s.toks) kp (Nat.le_refl _) (show ObjOk X.prog X.w _ h' _ (.lst ys) from ⟨hz,its,c',r',e⟩),rfl,q _ (I.hok.fresh (Nat.le_refl _))⟩
 rcases hq with hq | hq
 .obtain⟨its,r',pl,hz⟩:=I.list hq
  have hlen:=r'.length
  obtain⟨o,ho,hc,n,hd⟩:=pl.isList
  exact call_list_seq p (.inl rfl) ho hc hd (fun h' c' kp e=>fin its r' hz h' c' kp e) (by simp only[List.size_toArray]<;>omega)
 .obtain⟨its,r',pl,hz⟩:=I.tuple hq
  have hlen:=r'.length
  obtain⟨o,ho,hc,n,hd⟩:=pl
  exact call_list_seq p (.inr rfl) ho hc hd (fun h' c' kp e=>fin its r' hz h' c' kp e) (by simp only[List.size_toArray]<;>omega)
theorem call_tuple_of:CallR X (.type "tuple") (fun xs H Q=>∃p ys,xs=[.ref p]∧((SqL X.K H p ys∧∀l,H l=none→Q (.ref l) (upd H l (.tup ys)))∨(SqT X.K H p ys∧Q (.ref p) H))):=by
 intro pins s σ H xs us Q I r h
 obtain⟨p,ys,rfl,h⟩:=h
 obtain⟨u,rfl,rx⟩:=vals1 r
 cases rx
 rcases h with ⟨hq,q⟩ | ⟨hq,q⟩
 .obtain⟨its,r',pl,hz⟩:=I.list hq
  have hlen:=r'.length
  refine call_tuple_list pl.isList (fun h' kp=>?_) (by simp only[List.size_toArray]<;>omega)
  have I1:Inv X pins σ H { s with heap:=h' }:=I.kept (t':=s.toks) kp
  have I2:Inv X pins σ (upd H h'.objs.size (.tup ys)) { s with heap:=h'.push { cls:=.type "tuple",data:=.seq its.toArray } }:=
   I1.laid (t':=s.toks) (fun b o e=>Heap.get?_push_of_some _ e) (Nat.le_refl _) (show ObjOk X.prog X.w _ _ _ (.tup ys) from ⟨hz,its,r',IsTup.new _ _⟩)
  exact⟨.ref h'.objs.size,_,I2,rfl,q _ (I1.hok.fresh (Nat.le_refl _))⟩
 .obtain⟨its,r',pl,hz⟩:=I.tuple hq
  exact call_tuple_same pl ⟨.ref p,H,I,rfl,q⟩
def tyV(K:PySem.W.Frag)(T:String)(x:V)(H:Hp):Prop:=match x with
 | .str _=>T="str"
 | .int _=>T="int"
 | .ref p=>(T="list" ∧ ∃xs,SqL K H p xs)∨(T="tuple" ∧ ∃o,K.lookup p=some o∧o.cls=.type "tuple" ∧ o.dict=none) ∨
   (T="dict" ∧ ((∃kvs,H p=some (.dK kvs))∨∃kvs,H p=some (.dT kvs)))∨(T="set" ∧ ∃S n,H p=some (.set S n))
 | _=>False
theorem tyV_is{pins:List (Addr×Obj)}{σ:St}{H:Hp}{s:Shared}{T:String}{x:V}{v:Value}(I:Inv X pins σ H s)(r:RelV x v)(ty:tyV X.K T x H) :
  s.TypeIs v T∧∀a,v=.ref a→∃ob,s.heap.get? a=some ob∧ob.dict=none:=by
 cases x with
 | str z=>
  obtain⟨t,rfl⟩:=r
  cases (show T="str" from ty)
  exact⟨typeIs_str s z t,fun _ e=>nomatch e⟩
 | int i=>
  obtain⟨t,rfl⟩:=r
  cases (show T="int" from ty)
  exact⟨typeIs_int s i t,fun _ e=>nomatch e⟩
 | ref p=>
  cases r
  rcases ty with ⟨rfl,xs,hq⟩ | ⟨rfl,o,hk,hc,hd⟩ | ⟨rfl,hk⟩ | ⟨rfl,S,n,hk⟩
  .obtain⟨its,_,pl,_⟩:=I.list hq
   refine⟨pl.isList.typeIs,fun a e=>?_⟩
   cases e
   obtain⟨o,n,e,c,hd,_⟩:=pl
   exact⟨o,e,hd⟩
  .refine⟨⟨o,I.kIn p o hk,hc⟩,fun a e=>?_⟩
   cases e
   exact⟨o,I.kIn _ o hk,hd⟩
  .have z:∃o,s.heap.get? p=some o∧o.ExactDict:=by
    rcases hk with ⟨kvs,hk⟩ | ⟨kvs,hk⟩
    .obtain⟨_,_,_,_,o,_,_,e,ex,_⟩:=I.hok p _ hk
     exact⟨o,e,ex⟩
    .obtain⟨_,_,_,_,o,_,_,e,ex,_⟩:=I.hok p _ hk
     exact⟨o,e,ex⟩
   obtain⟨o,e,ex⟩:=z
   refine⟨⟨o,e,ex.1⟩,fun a e2=>?_⟩
   cases e2
   exact⟨o,e,ex.2.1⟩
  .obtain⟨o,_,_,_,e,ex,_⟩:=I.hok p _ hk
   refine⟨⟨o,e,ex.1⟩,fun a e2=>?_⟩
   cases e2
   exact⟨o,e,ex.2.1⟩
 | _=>exact False.elim ty
def tBM0(K:PySem.W.Frag)(T:String)(r:V→List V→Hp→VK→Prop)(to:TE):TE:=fun σ H Q=>to σ H fun x H1=>tyV K T x H1∧r x [] H1 Q
def tBM(K:PySem.W.Frag)(T:String)(r:V→List V→Hp→VK→Prop)(to:TE)(t:TA):TE:=fun σ H Q=>to σ H fun x H1=>tyV K T x H1∧t σ H1 fun xs H2=>r x xs H2 Q
variable{o e:Expr}{es:List Expr}{to:TE}{t:TA}{name:Str}{apos cpos:Pos}{T id:String}{r:V→List V→Hp→VK→Prop}
theorem pe_bm0(pa:PlainAttrs T)(slot:Slot T name id)(hty:typeOf (.builtin id)=pure (.type "method_descriptor"))(hm:MtR X id r)(ho:PE X o to)
  (hbase:attributeBase o name X.env (eval o X.env)=eval o X.env:=by rfl) (hline:(apos.endLine==cpos.line)=true:=by rfl):PE X (.Call (.Attribute o name apos) [] [] cpos) (tBM0 X.K T r to):=by
 intro pins s σ H Q I h
 refine wpAny_Call_method0_late hbase hline (thn (ho pins s σ H _ I h) fun v s1 ⟨x,H1,I1,r1,ty,q1⟩=>?_)
 obtain⟨h1,h2⟩:=tyV_is I1 r1 ty
 exact⟨T,id,pa,slot,hty,h1,h2,Calls.callWith_builtin rfl (PySem.evalArgs_none (hm pins s1 σ H1 x [] v [] Q I1 r1 .nil q1))⟩
theorem pe_bm(pa:PlainAttrs T)(slot:Slot T name id)(hty:typeOf (.builtin id)=pure (.type "method_descriptor"))(hm:MtR X id r)(ho:PE X o to)(ha:PA X (e::es) t)
  (hbase:attributeBase o name X.env (eval o X.env)=eval o X.env:=by rfl)
  (hfew:((backTo cpos (starEach (e::es) X.env)).all (fun x=>!x.1)&&(backToKw cpos (keywordEach [] X.env)).all (fun x=>x.1.isSome)
   && decide ((e::es).length+([]:List Keyword).length+(if ([]:List Keyword).isEmpty then 0 else 1)<30))=true:=by rfl)
  (hline:(apos.endLine==cpos.line)=true:=by rfl) (hs:starEach (e::es) X.env=(false,eval e X.env)::starEach es X.env:=by rfl) (hplain:(backTo cpos (starEach es X.env)).any (·.1)=false:=by rfl) :
  PE X (.Call (.Attribute o name apos) (e::es) [] cpos) (tBM X.K T r to t):=by
 intro pins s σ H Q I h
 refine wpAny_Call_method_late hbase hfew hline rfl (thn (ho pins s σ H _ I h) fun v s1 ⟨x,H1,I1,r1,ty,q1⟩=>?_)
 obtain⟨h1,h2⟩:=tyV_is I1 r1 ty
 refine⟨T,id,pa,slot,hty,h1,h2,?_⟩
 have hA:=ha cpos pins s1 σ H1 _ I1 q1
 rw[hs] at hA ⊢
 refine Calls.callWith_builtin (by show(false||(backTo cpos (starEach es X.env)).any (·.1))=false; rw[hplain]<;>rfl) (Calls.evalArgs_plain ?_)
 exact thn hA fun us s2 ⟨vs,H2,I2,r2,q2⟩=>hm pins s2 σ H2 x vs v us Q I2 r1 r2 q2
end
end L2
namespace L2
open PySem PySem.Spec PyProof.Rows
def MtM(X:Cx)(id:String)(r:V→List V→Hp→VK→Prop):Prop:=
 ∀(pins:List (Addr×Obj)) (s:Shared) (σ:St) (H:Hp) (x:V) (xs:List V) (v:Value) (us:List Value) (Q:VK),Inv X pins σ H s→RelV x v→Vals xs us→r x xs H Q→
  wpAny (model X.prog X.w) X.A (call (.builtin id) (v::us)) (EP X pins σ Q) X.xe s
theorem Vals.one:∀{x:V} {us:List Value},Vals [x] us→∃u,us=[u]∧RelV x u
 | _,_,.cons r .nil=>⟨_,rfl,r⟩
theorem Vals.zero:∀{us:List Value},Vals [] us→us=[]
 | _,.nil=>rfl
theorem Vals.dropLast{xs:List V}{us:List Value}(h:Vals xs us):Vals xs.dropLast us.dropLast:=by
 induction h with
 | nil=>exact .nil
 | cons r t ih=>
  cases t with
  | nil=>exact .nil
  | cons q t'=>exact .cons r ih
theorem Vals.reverse{xs:List V}{us:List Value}(h:Vals xs us):Vals xs.reverse us.reverse:=by
 induction h with
 | nil=>exact .nil
 | cons r t ih=>rw[List.reverse_cons,List.reverse_cons]; exact Vals.append ih (.cons r .nil)
theorem Vals.rep{xs:List V}{us:List Value}(h:Vals xs us):∀k:Nat,Vals (List.replicate k xs).flatten (List.replicate k us).flatten
 | 0=>.nil
 | k+1=>by
  rw[List.replicate_succ,List.replicate_succ,List.flatten_cons,List.flatten_cons]
  exact Vals.append h (Vals.rep h k)
theorem erase_last{α:Type}(l:List α):l.eraseIdx (l.length-1)=l.dropLast:=by
 induction l with
 | nil=>rfl
 | cons a r ih=>
  cases r with
  | nil=>rfl
  | cons b r=>
   have e:(a::b::r).length-1=((b::r).length-1)+1:=by
    have h1:(a::b::r).length=r.length+2:=rfl
    have h2:(b::r).length=r.length+1:=rfl
    omega
   rw[e,List.eraseIdx_cons_succ,ih]
   all_goals rfl
theorem foldl_rep(its:List Value):∀(k:Nat) (acc:List Value),
  List.foldl (fun x1 x2=>x1++x2) acc.toArray (List.replicate k its.toArray)=(acc++(List.replicate k its).flatten).toArray
 | 0,acc=>by simp
 | k+1,acc=>by
  have e:acc.toArray++its.toArray=(acc++its).toArray:=by simp
  have e2:(acc++its)++(List.replicate k its).flatten=acc++(List.replicate (k+1) its).flatten:=by
   rw[List.replicate_succ,List.flatten_cons,List.append_assoc]
  rw[←e2,←foldl_rep its k (acc++its),←e,List.replicate_succ,List.foldl_cons]
section
variable{X:Cx}{pins:List (Addr×Obj)}{σ:St}{H:Hp}{s:Shared}{l b:Addr}{xs ys zs:List V}
theorem Inv.lset{its its':List Value}{n:Nat}{f:Array Value→Array Value}{t':Nat}(I:Inv X pins σ H s)(hH:H l=some (.lst xs))
  (e:s.heap.get? l=some { cls:=.type "list",data:=.seq its.toArray n }) (hf:f its.toArray=its'.toArray) (hv:Vals ys its') (hz:ys.length≤sizeLine) :
  Inv X pins σ (upd H l (.lst ys)) { s with heap:=s.heap.update l (Obj.mapSeq f),toks:=t' }:=by
 have q:=PySem.IsL.update e f
 rw[hf] at q
 refine I.write (x:=l) (e:=l) (by rw[hH]; exact trivial) (.inl rfl) (fun b' u hb hu=>(Heap.get?_update_other s.heap (Obj.mapSeq f) (Ne.symm hb)).trans hu) ⟨_,q⟩ ?_
 exact⟨hz,its',_,hv,q⟩
theorem Inv.lnew{its:List Value}{t':Nat}(I:Inv X pins σ H s)(hv:Vals ys its)(hz:ys.length≤sizeLine) :
  Inv X pins σ (upd H s.heap.objs.size (.lst ys)) { s with heap:=s.heap.push { cls:=.type "list",data:=.seq its.toArray },toks:=t' }:=
 I.laid (fun _ _ q=>Heap.get?_push_of_some _ q) (Nat.le_refl _) ⟨hz,its,0,hv,Heap.get?_push_size _ rfl⟩
theorem Inv.fresh(I:Inv X pins σ H s):H s.heap.objs.size=none:=I.hok.fresh (Nat.le_refl _)
theorem Inv.lstM(I:Inv X pins σ H s)(hH:H l=some (.lst xs)):xs.length≤sizeLine∧∃(its:List Value) (n:Nat),Vals xs its∧xs.length=its.length∧s.heap.get? l=some { cls:=.type "list",data:=.seq its.toArray n }:=by
 obtain⟨z,its,n,r,e⟩:=I.hok l _ hH
 exact⟨z,its,n,r,r.length,e⟩
theorem notLongL{n:Nat}(h:n≤sizeLine):Builtin.List.listTooLong n=false:=by
 unfold Builtin.List.listTooLong
 exact decide_eq_false (by omega)
end
section
variable{X:Cx}
def rAppend:V→List V→Hp→VK→Prop:=fun x vs H Q=>∃l xs y,x=.ref l∧vs=[y]∧H l=some (.lst xs)∧xs.length<sizeLine∧Q .non (upd H l (.lst (xs++[y])))
theorem mt_append:MtM X "list.append" rAppend:=by
 intro pins s σ H x vs v us Q I rx rv h
 obtain⟨l,xs,y,rfl,rfl,hH,hz,q⟩:=h
 cases rx
 obtain⟨u,rfl,ru⟩:=rv.one
 obtain⟨z,its,n,r,hl,e⟩:=I.lstM hH
 refine call_meets F.slot_list_append ⟨_,e,rfl⟩ F.entry_list_append (F.args_list_append_2 _ _) (PySem.list_append l its.toArray n u (by rw[List.size_toArray]; omega)) ⟨e,?_⟩
 refine⟨.non,_,I.lset (its':=its++[u]) hH e (by simp) (r.append (.cons ru .nil)) ?_,rfl,q⟩
 rw[List.length_append,List.length_singleton]
 omega
def rPop:V→List V→Hp→VK→Prop:=fun x vs H Q=>∃l xs y,x=.ref l∧vs=[]∧H l=some (.lst xs)∧xs[xs.length-1]?=some y∧Q y (upd H l (.lst xs.dropLast))
theorem mt_pop:MtM X "list.pop" rPop:=by
 intro pins s σ H x vs v us Q I rx rv h
 obtain⟨l,xs,y,rfl,rfl,hH,hy,q⟩:=h
 cases rx
 have hus:=rv.zero
 subst hus
 obtain⟨z,its,n,r,hl,e⟩:=I.lstM hH
 obtain⟨u,hu,ru⟩:=r.get hy
 have hy':its.toArray[its.toArray.size-1]?=some u:=by
  show its.toArray[its.length-1]?=some u
  rw[←Array.getElem?_toList,←hl]
  exact hu
 refine call_meets F.slot_list_pop ⟨_,e,rfl⟩ F.entry_list_pop (F.args_list_pop_1 _) (MeetsSeq.list_pop_last l its.toArray n u hy' (by rw[List.size_toArray]; omega)) ⟨e,?_⟩
 refine⟨y,_,I.lset (its':=its.dropLast) hH e ?_ r.dropLast ?_,ru,q⟩
 .show its.toArray.eraseIdxIfInBounds (its.toArray.size-1)=its.dropLast.toArray
  rw[List.size_toArray,List.eraseIdxIfInBounds_toArray,erase_last]
 .rw[List.length_dropLast]
  omega
theorem len_rep{α:Type}(xs:List α)(k:Nat):(List.replicate k xs).flatten.length=k*xs.length:=by
 induction k with
 | zero=>simp
 | succ k ih=>rw[List.replicate_succ,List.flatten_cons,List.length_append,ih,Nat.succ_mul,Nat.add_comm]
end
end L2
namespace L2
open PySem PySem.Spec PyProof.Rows
section
variable{κ:Type}[DecidableEq κ]
def valV(kvs:List (κ×V))(k:κ):Option V:=(kvs.find? fun kv=>decide (kv.1=k)).map (·.2)
def putK(kvs:List (κ×V))(k:κ)(v:V):List (κ×V):=
 if (kvs.any fun kv=>decide (kv.1=k))=true then kvs.map (fun kv=>if kv.1=k then (kv.1,v) else kv) else kvs++[(k,v)]
theorem valV_pos{p:κ×V}{r:List (κ×V)}{k:κ}(e:p.1=k):valV (p::r) k=some p.2:=by simp[valV,List.find?_cons,e]
theorem valV_neg{p:κ×V}{r:List (κ×V)}{k:κ}(e:¬p.1=k):valV (p::r) k=valV r k:=by simp[valV,List.find?_cons,e]
theorem valV_any(k:κ):∀kvs:List (κ×V),(kvs.any fun kv=>decide (kv.1=k))=(valV kvs k).isSome
 | []=>rfl
 | p::r=>by
  rw[List.any_cons]
  by_cases e:p.1=k
  .simp only[valV_pos e,decide_eq_true e,Bool.true_or,Option.isSome_some]
  .rw[valV_neg e,decide_eq_false e,Bool.false_or]; exact valV_any k r
theorem length_putK(kvs:List (κ×V))(k:κ)(v:V):(putK kvs k v).length≤kvs.length+1:=by
 unfold putK
 split
 .rw[List.length_map]; omega
 .rw[List.length_append,List.length_cons,List.length_nil]; omega
theorem RelO.isSome_eq{o:Option V}{u:Option Value}(r:RelO o u):o.isSome=u.isSome:=by
 cases o with
 | none=>cases u with
  | none=>rfl
  | some _=>exact(show False from r).elim
 | some _=>cases u with
  | none=>exact(show False from r).elim
  | some _=>rfl
theorem RelO.getD{o:Option V}{u:Option Value}{d:V}{d':Value}(r:RelO o u)(rd:RelV d d'):RelV (o.getD d) (u.getD d'):=by
 cases o with
 | none=>cases u with
  | none=>exact rd
  | some _=>exact(show False from r).elim
 | some _=>cases u with
  | none=>exact(show False from r).elim
  | some _=>exact r
theorem KV.val{kvs:List (κ×V)}{vs:List (κ×Value)}(r:KV kvs vs)(k:κ):RelO (valV kvs k) (valueAt vs k):=by
 unfold KV at r
 induction r with
 | nil=>exact True.intro
 | @cons p q ps qs h t ih=>
  obtain⟨h1,h2⟩:=h
  by_cases e:p.1=k
  .have e':q.1=k:=h1.symm.trans e
   have b:valueAt (q::qs) k=some q.2:=by simp[valueAt,List.find?_cons,e']
   rw[valV_pos e,b]; exact h2
  .have e':¬q.1=k:=fun z=>e (h1.trans z)
   have b:valueAt (q::qs) k=valueAt qs k:=by simp[valueAt,List.find?_cons,e']
   rw[valV_neg e,b]; exact ih
theorem KV.any{kvs:List (κ×V)}{vs:List (κ×Value)}(r:KV kvs vs)(k:κ):(kvs.any fun kv=>decide (kv.1=k))=vs.any fun kv=>decide (kv.1=k):=by
 unfold KV at r
 induction r with
 | nil=>rfl
 | cons h t ih=>rw[List.any_cons,List.any_cons,ih,h.1]
theorem KV.repl{kvs:List (κ×V)}{vs:List (κ×Value)}(r:KV kvs vs)(k:κ){y:V}{u:Value}(ry:RelV y u) :
  KV (kvs.map fun kv=>if kv.1=k then (kv.1,y) else kv) (vs.map fun kv=>if kv.1=k then (kv.1,u) else kv):=by
 unfold KV at r ⊢
 induction r with
 | nil=>exact .nil
 | @cons p q ps qs h t ih=>
  rw[List.map_cons,List.map_cons]
  refine .cons ?_ ih
  obtain⟨h1,h2⟩:=h
  by_cases e:p.1=k
  .rw[if_pos e,if_pos (h1.symm.trans e)]; exact⟨h1,ry⟩
  .rw[if_neg e,if_neg (fun z=>e (h1.trans z))]; exact⟨h1,h2⟩
theorem KV.put{kvs:List (κ×V)}{vs:List (κ×Value)}(r:KV kvs vs)(k:κ){y:V}{u:Value}(ry:RelV y u):KV (putK kvs k y) (stored vs k u):=by
 unfold putK stored
 rw[r.any k]
 by_cases e:(vs.any fun kv=>decide (kv.1=k))=true
 .rw[if_pos e,if_pos e]; exact r.repl k ry
 .rw[if_neg e,if_neg e]; exact Paired.snoc r ⟨rfl,ry⟩
theorem KV.length{kvs:List (κ×V)}{vs:List (κ×Value)}(r:KV kvs vs):kvs.length=vs.length:=Paired.length r
end
theorem kV_is{P:Program}{w:World}{k:Key}{u:Value}(r:RelV (kV k) u):(mixKind P w).is k u=true:=by
 cases k with
 | inl i=>obtain⟨t,e⟩:=(show ∃t,u=Value.int i t from r); subst e; exact mixKind_int P w i t
 | inr x=>obtain⟨t,e⟩:=(show ∃t,u=Value.str x t from r); subst e; exact mixKind_str P w x t
theorem items_are{P:Program}{w:World}:∀{ks:List Key} {us:List Value},Vals (ks.map kV) us→ItemsAre (mixKind P w) ks us
 | [],_,r=>by rw[List.map_nil] at r; cases r; exact .nil
 | k::ks,_,r=>by
  rw[List.map_cons] at r
  cases r with
  | cons h t=>exact .cons (kV_is h) (items_are t)
abbrev KT(H:Hp):List (List Key×V)→List (List Key×Addr×Value)→Prop:=Paired fun p q=>p.1=q.1∧H q.2.1=some (.tup (p.1.map kV))∧RelV p.2 q.2.2
theorem KT.val{H:Hp}{kvs:List (List Key×V)}{xs:List (List Key×Addr×Value)}(r:KT H kvs xs)(k:List Key):RelO (valV kvs k) ((atKey xs k).map (·.2)):=by
 induction r with
 | nil=>exact True.intro
 | @cons p q ps qs h t ih=>
  obtain⟨h1,_,h2⟩:=h
  by_cases e:p.1=k
  .have e':q.1=k:=h1.symm.trans e
   have b:atKey (q::qs) k=some q.2:=by simp[atKey,List.find?_cons,e']
   rw[valV_pos e,b]; exact h2
  .have e':¬q.1=k:=fun z=>e (h1.trans z)
   have b:atKey (q::qs) k=atKey qs k:=by simp[atKey,List.find?_cons,e']
   rw[valV_neg e,b]; exact ih
theorem KT.repl{H:Hp}{kvs:List (List Key×V)}{xs:List (List Key×Addr×Value)}(r:KT H kvs xs)(k:List Key){y:V}{u:Value}(ry:RelV y u) :
  KT H (kvs.map fun kv=>if kv.1=k then (kv.1,y) else kv) (xs.map (putAt k u)):=by
 induction r with
 | nil=>exact .nil
 | @cons p q ps qs h t ih=>
  rw[List.map_cons,List.map_cons]
  refine .cons ?_ ih
  obtain⟨h1,h2,h3⟩:=h
  unfold putAt
  by_cases e:p.1=k
  .rw[if_pos e,if_pos (h1.symm.trans e)]; exact⟨h1,h2,ry⟩
  .rw[if_neg e,if_neg (fun z=>e (h1.trans z))]; exact⟨h1,h2,h3⟩
theorem KT.put{H:Hp}{kvs:List (List Key×V)}{xs:List (List Key×Addr×Value)}(r:KT H kvs xs)(k:List Key){b:Addr}{y:V}{u:Value}(hb:H b=some (.tup (k.map kV)))(ry:RelV y u) :
  KT H (putK kvs k y) (storedH xs k b u):=by
 have e:(kvs.any fun kv=>decide (kv.1=k))=(atKey xs k).isSome:=by
  rw[valV_any,(r.val k).isSome_eq,Option.isSome_map]
 unfold putK storedH
 rw[e]
 by_cases q:(atKey xs k).isSome=true
 .rw[if_pos q,if_pos q]; exact r.repl k ry
 .rw[if_neg q,if_neg q]; exact Paired.snoc r ⟨rfl,hb,ry⟩
theorem KT.keeps{H H':Hp}{kvs:List (List Key×V)}{xs:List (List Key×Addr×Value)}(r:KT H kvs xs)(ht:∀b ys,H b=some (.tup ys)→H' b=some (.tup ys)):KT H' kvs xs:=
 Paired.mapP r fun _ _ z=>⟨z.1,ht _ _ z.2.1,z.2.2⟩
section
variable{P:Program}{w:World}{H:Hp}{h:Heap}{a:Addr}
theorem rd_of{u:HO}(ok:HOk P w H h)(e:Rd H a u):ObjOk P w H h a u:=e.ok ok
theorem dk_rd{kvs:List (Key×V)}(ok:HOk P w H h)(e:Rd H a (.dK kvs)):kvs.length≤sizeLine∧(a==sysModules)=false∧∃vs,KV kvs vs∧h.DictOf (mixKind P w) a vs:=
 show ObjOk P w H h a (.dK kvs) from rd_of ok e
theorem dk_of{kvs:List (Key×V)}(ok:HOk P w H h)(e:H a=some (.dK kvs)):kvs.length≤sizeLine∧(a==sysModules)=false∧∃vs,KV kvs vs∧h.DictOf (mixKind P w) a vs:=dk_rd ok (.inl e)
theorem key_of{ks:List Key}(ok:HOk P w H h)(e:H a=some (.tup (ks.map kV))):(tupleKind (mixKind P w)).is h ks a:=by
 obtain⟨_,its,r,o,h1,h2,n,h3⟩:=(show ObjOk P w H h a (.tup (ks.map kV)) from ok a _ e)
 exact⟨o,its.toArray,n,h1,h2,h3,by simpa using items_are r⟩
theorem dt_rd{kvs:List (List Key×V)}(ok:HOk P w H h)(e:Rd H a (.dT kvs)):kvs.length≤sizeLine∧(a==sysModules)=false ∧
  ∃xs,KT H kvs xs∧h.DictOfH (tupleKind (mixKind P w)) a xs:=by
 obtain⟨z,y,xs,r,o,es,ep,h1,h2,h3,h4,h5⟩:=(show ObjOk P w H h a (.dT kvs) from rd_of ok e)
 refine⟨z,y,xs,r,o,es,ep,h1,h2,h3,h4,fun x hx=>?_,h5⟩
 have all:∀{l:List (List Key×V)} {m:List (List Key×Addr×Value)},KT H l m→∀x∈m,(tupleKind (mixKind P w)).is h x.1 x.2.1:=by
  intro l m q
  induction q with
  | nil=>intro x hx; exact nomatch hx
  | @cons p q ps qs hq t ih=>
   intro x hx
   rcases List.mem_cons.mp hx with e | hx
   .subst e
    exact key_of ok (by rw[←hq.1]; exact hq.2.1)
   .exact ih x hx
 exact all r x hx
theorem dt_of{kvs:List (List Key×V)}(ok:HOk P w H h)(e:H a=some (.dT kvs)):kvs.length≤sizeLine∧(a==sysModules)=false ∧
  ∃xs,KT H kvs xs∧h.DictOfH (tupleKind (mixKind P w)) a xs:=dt_rd ok (.inl e)
end
def DGet(H:Hp)(a:Addr)(y:V)(r:Option V):Prop:=
 (∃kvs k,Rd H a (.dK kvs)∧y=kV k∧r=valV kvs k)∨∃kvs k b,Rd H a (.dT kvs)∧y=.ref b∧H b=some (.tup (k.map kV))∧r=valV kvs k
def DPut(H:Hp)(a:Addr)(y v:V)(H':Hp):Prop:=
 (∃kvs k,H a=some (.dK kvs)∧y=kV k∧kvs.length<sizeLine∧H'=upd H a (.dK (putK kvs k v))) ∨
 ∃kvs k b,H a=some (.dT kvs)∧y=.ref b∧H b=some (.tup (k.map kV))∧kvs.length<sizeLine∧H'=upd H a (.dT (putK kvs k v))
section
variable{X:Cx}{pins:List (Addr×Obj)}{σ:St}{H:Hp}{s:Shared}{a:Addr}{y v:V}{u r:Value}{o:Option V}{A:Around}{E:Value→Shared→Prop}
theorem Inv.big(I:Inv X pins σ H s):sysModules<s.heap.objs.size:=by
 have h:mainGlobals<s.heap.objs.size:=(I.mod.glob.keeps I.bk).lt
 exact Nat.lt_trans (by decide) h
theorem d_write{h':Heap}{t':Nat}{ob:HO}(I:Inv X pins σ H s)(mu:Mut (H a))(hs:Heap.SameBut a s.heap h')(he:∃q,h'.get? a=some q)(new:ObjOk X.prog X.w (upd H a ob) h' a ob) :
  Inv X pins σ (upd H a ob) { s with heap:=h',toks:=t' }:=
 I.write (x:=a) (e:=a) mu (.inl rfl) (fun b q hb z=>(hs.2 b hb).trans z) he new
theorem dk_new{P:Program}{w:World}{H':Hp}{h':Heap}{kvs:List (Key×V)}{vs:List (Key×Value)}(z:kvs.length≤sizeLine)(hd:(a==sysModules)=false)(rel:KV kvs vs)(dd:h'.DictOf (mixKind P w) a vs) :
  ObjOk P w H' h' a (.dK kvs):=⟨z,hd,vs,rel,dd⟩
theorem d_setItem{H':Hp}{Q:Unit→Shared→Prop}(hu:A.units+1<cLine)(I:Inv X pins σ H s)(g:DPut H a y v H')(ry:RelV y u)(rv:RelV v r)(h:∀s',Inv X pins σ H' s'→Q () s') :
  wpAny (model X.prog X.w) A (setItem (.ref a) u r) Q E s:=by
 rcases g with ⟨kvs,k,e,ey,l,eH⟩ | ⟨kvs,k,b,e,ey,eb,l,eH⟩
 .subst ey eH
  obtain⟨z,hd,vs,rel,dd⟩:=dk_of I.hok e
  have hz:vs.length≤sizeLine:=by rw[←rel.length]; exact z
  have hl:(putK kvs k v).length≤sizeLine:=by have:=length_putK kvs k v; omega
  refine wpAny_setItem_pairs (hsz:=hz) (kV_is ry) dd fun h' dd' hs=>h _ ?_
  have he:∃q,h'.get? a=some q:=let ⟨q,_,_,hq,_⟩:=dd'; ⟨q,hq⟩
  exact d_write I (by rw[e]; exact True.intro) hs he (dk_new hl hd (rel.put k rv) dd')
 .subst ey eH
  cases (show u=Value.ref b from ry)
  obtain⟨z,hd,xs,rel,dd⟩:=dt_of I.hok e
  have hz:xs.length≤sizeLine:=by rw[←Paired.length rel]; exact z
  have hl:(putK kvs k v).length≤sizeLine:=by have:=length_putK kvs k v; omega
  refine wpAny_setItem_heap (hsz:=hz) (tupleKind_room_in1 hu) (key_of I.hok eb) dd fun h' dd' hs=>h _ ?_
  obtain⟨q,es,ep,hq,h2,h3,h4,_,h5⟩:=dd'
  refine d_write I (by rw[e]; exact True.intro) hs ⟨q,hq⟩ ⟨hl,hd,_,(rel.put k eb rv).keeps fun c ys ec=>?_,q,es,ep,hq,h2,h3,h4,h5⟩
  rw[upd_ne (ne_of ec e (fun z=>nomatch z))]
  exact ec
end
theorem dk_empty{P:Program}{w:World}{H:Hp}(h:Heap)(hb:sysModules<h.objs.size):ObjOk P w H (h.push { cls:=.type "dict",data:=.dict #[] }) h.objs.size (.dK []):=
 ⟨Nat.zero_le _,beq_eq_false_iff_ne.mpr (Ne.symm (Nat.ne_of_lt hb)),[],.nil,Heap.DictOf.new h⟩
def tDNewK:TE:=fun _ H Q=>∀p,H p=none→Q (.ref p) (upd H p (.dK []))
section
variable{X:Cx}{pos:Pos}
theorem pe_dnewK:PE X (.Dict [] [] pos) tDNewK:=fun pins s σ H Q I h=>
 wpAny_Dict_empty ⟨.ref s.heap.objs.size,_,I.laid (a:=s.heap.objs.size) (o:=.dK []) (t':=s.toks) (fun _ _ q=>Heap.get?_push_of_some _ q) (Nat.le_refl _) (dk_empty s.heap I.big),rfl,h _ (I.hok.fresh (Nat.le_refl _))⟩
end
def tPairs:List (TE×TE)→St→Hp→(List (V×V)→Hp→Prop)→Prop
 | [],_,H,Q=>Q [] H
 | (tk,tv)::r,σ,H,Q=>tk σ H fun x H1=>tv σ H1 fun y H2=>tPairs r σ H2 fun ps H3=>Q ((x,y)::ps) H3
abbrev VV:List (V×V)→List (Value×Value)→Prop:=Paired fun p q=>RelV p.1 q.1∧RelV p.2 q.2
def PPs(X:Cx)(pos:Pos)(keys:List (Option Expr))(values:List Expr)(trs:List (TE×TE)):Prop:=
 ∀(pins:List (Addr×Obj)) (s:Shared) (σ:St) (H:Hp) (Q:List (V×V)→Hp→Prop),Inv X pins σ H s→tPairs trs σ H Q→
  wpAny (model X.prog X.w) X.A (evalPairs (pairTrees keys values X.env pos)) (fun vs s'=>∃ps H',Inv X pins σ H' s'∧VV ps vs∧Q ps H') X.xe s
theorem pps_nil{X:Cx}{pos:Pos}:PPs X pos [] [] []:=fun pins s σ H Q I h=>pairTrees_nil_walk ⟨[],H,I,.nil,h⟩
theorem pps_cons{X:Cx}{pos:Pos}{k v:Expr}{ks:List (Option Expr)}{vs:List Expr}{tk tv:TE}{trs:List (TE×TE)}(hk:PE X k tk)(hv:PE X v tv)(hr:PPs X pos ks vs trs) :
  PPs X pos (some k::ks) (v::vs) ((tk,tv)::trs):=fun pins s σ H Q I h=>
 pairTrees_cons_walk (thn (hk pins s σ H _ I h) fun u s1 ⟨x,H1,I1,rx,q1⟩=>thn (hv pins s1 σ H1 _ I1 q1) fun w2 s2 ⟨y,H2,I2,ry,q2⟩=>
  thn (hr pins s2 σ H2 _ I2 q2) fun ws s3 ⟨ps,H3,I3,rel,q3⟩=>⟨(x,y)::ps,H3,I3,.cons ⟨rx,ry⟩ rel,q3⟩)
def mergeK(kvs more:List (Key×V)):List (Key×V):=more.foldl (fun acc kv=>putK acc kv.1 kv.2) kvs
theorem KV.merge:∀{more:List (Key×V)} {rs:List (Key×Value)} {kvs:List (Key×V)} {vs:List (Key×Value)},KV more rs→KV kvs vs→KV (mergeK kvs more) (merged vs rs):=by
 intro more rs kvs vs r
 unfold KV at r
 induction r generalizing kvs vs with
 | nil=>intro q; exact q
 | @cons p q ps qs h t ih=>
  intro r0
  have e:KV (putK kvs p.1 p.2) (stored vs q.1 q.2):=by
   have:=r0.put p.1 h.2
   rw[←h.1]; exact this
  exact ih e
theorem length_mergeK:∀(more kvs:List (Key×V)),(mergeK kvs more).length≤kvs.length+more.length
 | [],kvs=>by show kvs.length≤kvs.length+0; omega
 | p::r,kvs=>by
  have h1:=length_mergeK r (putK kvs p.1 p.2)
  have h2:=length_putK kvs p.1 p.2
  show(mergeK (putK kvs p.1 p.2) r).length≤_
  rw[List.length_cons]; omega
theorem carries_of{P:Program}{w:World}:∀{kvs:List (Key×V)} {ws:List (Value×Value)},VV (kvs.map fun kv=>(kV kv.1,kv.2)) ws→∃rs,Carries (mixKind P w) ws rs∧KV kvs rs
 | [],_,r=>by rw[List.map_nil] at r; cases r; exact⟨[],True.intro,.nil⟩
 | p::kvs,_,r=>by
  rw[List.map_cons] at r
  cases r with
  | @cons a b as bs h t=>
   obtain⟨rs,c,q⟩:=carries_of (P:=P) (w:=w) t
   obtain⟨b1,b2⟩:=b
   exact⟨(p.1,b2)::rs,⟨kV_is h.1,rfl,c⟩,.cons ⟨rfl,h.2⟩ q⟩
def tDisp(trs:List (TE×TE)):TE:=fun σ H Q=>∀p,H p=none→tPairs trs σ (upd H p (.dK [])) fun ps H2=>H2 p=some (.dK [])∧∃kvs:List (Key×V),ps=kvs.map (fun kv=>(kV kv.1,kv.2))∧kvs.length≤15∧Q (.ref p) (upd H2 p (.dK (mergeK [] kvs)))
theorem pe_disp{X:Cx}{pos:Pos}{keys:List (Option Expr)}{values:List Expr}{trs:List (TE×TE)}(h:PPs X pos keys values trs)(hall:keys.all (·.isSome)=true)(hl:keys.length=values.length)(h0:keys≠[])
  (h15:keys.length≤15):PE X (.Dict keys values pos) (tDisp trs):=by
 intro pins s σ H Q I q
 have hn:=I.hok.fresh (Nat.le_refl s.heap.objs.size)
 have I1:=I.laid (a:=s.heap.objs.size) (o:=.dK []) (h':=s.heap.push { cls:=.type "dict",data:=.dict #[] }) (t':=s.toks) (fun _ _ q=>Heap.get?_push_of_some _ q) (Nat.le_refl _) (dk_empty s.heap I.big)
 refine wpAny_Dict_walk (knd:=mixKind X.prog X.w) hall hl h0 h15 (thn (h pins _ σ _ _ I1 (q _ hn)) fun ws s2 ⟨ps,H2,I2,rel,e,kvs,ep,lk,q2⟩=>?_)
 subst ep
 obtain⟨rs,c,rk⟩:=carries_of (P:=X.prog) (w:=X.w) rel
 obtain⟨z,hd,vs0,r0,dd⟩:=dk_of I2.hok e
 cases r0
 refine⟨rs,c,dd,fun h' dd' hs=>⟨.ref s.heap.objs.size,_,?_,rfl,q2⟩⟩
 have hz:(mergeK [] kvs).length≤sizeLine:=by
  have h1:=length_mergeK kvs []
  rw[List.length_nil] at h1
  rw[sizeLine_eq]; omega
 have he:∃q,h'.get? s.heap.objs.size=some q:=let ⟨q,_,_,hq,_⟩:=dd'; ⟨q,hq⟩
 exact d_write I2 (by rw[e]; exact True.intro) hs he (dk_new hz hd (rk.merge .nil) dd')
structure M2(X:Cx)(o:Expr)(m:Str)(apos:Pos)(e f:Expr)(cpos:Pos):Prop where
 base:attributeBase o m X.env (eval o X.env)=eval o X.env
 few:((backTo cpos (starEach [e,f] X.env)).all (fun x=>!x.1)&&(backToKw cpos (keywordEach [] X.env)).all (fun x=>x.1.isSome)
  && decide (([e,f]:List Expr).length+([]:List Keyword).length+(if ([]:List Keyword).isEmpty then 0 else 1)<30))=true
 line:(apos.endLine==cpos.line)=true
 trees:backTo cpos (starEach [e,f] X.env)=[(false,eval e X.env),(false,eval f X.env)]
def IsD(H:Hp)(a:Addr):Prop:=(∃kvs,Rd H a (.dK kvs))∨∃kvs,Rd H a (.dT kvs)
theorem isD_at{X:Cx}{pins:List (Addr×Obj)}{σ:St}{H:Hp}{s:Shared}{a:Addr}(I:Inv X pins σ H s)(d:IsD H a) :
  s.TypeIs (.ref a) "dict" ∧ (∀b,Value.ref a=.ref b→∃ob,s.heap.get? b=some ob∧ob.dict=none)∧(a==sysModules)=false:=by
 rcases d with ⟨kvs,e⟩ | ⟨kvs,e⟩
 .obtain⟨_,hd,vs,_,dd⟩:=dk_rd I.hok e
  refine⟨dd.typeIs,fun b q=>?_,hd⟩
  cases q
  obtain⟨ob,_,_,h1,h2,_⟩:=dd
  exact⟨ob,h1,h2.2.1⟩
 .obtain⟨_,hd,xs,_,dd⟩:=dt_rd I.hok e
  refine⟨dd.typeIs,fun b q=>?_,hd⟩
  cases q
  obtain⟨ob,_,_,h1,h2,_⟩:=dd
  exact⟨ob,h1,h2.2.1⟩
section
variable{X:Cx}{pins:List (Addr×Obj)}{σ:St}{H:Hp}{s:Shared}{a:Addr}{y d:V}{u r:Value}{o:Option V}{A:Around}{E:Value→Shared→Prop}
theorem d_get2{Q:Value→Shared→Prop}(hu:A.units+1<cLine)(I:Inv X pins σ H s)(g:DGet H a y o)(ry:RelV y u)(rd:RelV d r)(h:∀w' s',Inv X pins σ H s'→RelV (o.getD d) w'→Q w' s') :
  wpAny (model X.prog X.w) A (call (.builtin "dict.get") [.ref a,u,r]) Q E s:=by
 rcases g with ⟨kvs,k,e,ey,l⟩ | ⟨kvs,k,b,e,ey,eb,l⟩
 .subst ey
  obtain⟨z,hd,vs,rel,dd⟩:=dk_rd I.hok e
  refine call_meetsIn PySem.F.slot_dict_get dd.typeIs PySem.F.entry_dict_get (PySem.F.args_dict_get_3 _ _ _) (meets_dict_get_default (mixKind X.prog X.w) a (kV_is ry) hd r) ⟨_,dd.mapOf,h _ _ (I.tok _) ?_⟩
  rw[l]
  exact(rel.val k).getD rd
 .subst ey
  cases (show u=Value.ref b from ry)
  obtain⟨z,hd,xs,rel,dd⟩:=dt_rd I.hok e
  refine call_meetsIn PySem.F.slot_dict_get dd.typeIs PySem.F.entry_dict_get (PySem.F.args_dict_get_3 _ _ _) (meetsH_dict_get_default (tupleKind (mixKind X.prog X.w)) a b hd r) ⟨tupleKind_room_in1 hu,k,xs,key_of I.hok eb,dd,h _ _ (I.tok _) ?_⟩
  rw[l]
  exact(rel.val k).getD rd
end
def tDGet2(td ty tx:TE):TE:=fun σ H Q=>td σ H fun x H1=>∃a,x=.ref a∧IsD H1 a∧ty σ H1 fun y H2=>tx σ H2 fun z H3=>∃o,DGet H3 a y o∧Q (o.getD z) H3
section
variable{X:Cx}{o e f:Expr}{apos cpos:Pos}{td ty tx:TE}
theorem pe_dget2(hu:X.A.units+1<cLine)(ho:PE X o td)(he:PE X e ty)(hf:PE X f tx)(m:M2 X o "get" apos e f cpos):PE X (.Call (.Attribute o "get" apos) [e,f] [] cpos) (tDGet2 td ty tx):=by
 intro pins s σ H Q I h
 refine wpAny_Call_method m.base m.few m.line PySem.F.plainAttrs_dict PySem.F.slot_dict_get PySem.F.type_dict_get (thn (ho pins s σ H _ I h) fun u s1 ⟨x,H1,I1,rx,a,ex,d,q1⟩=>?_)
 subst ex
 obtain rfl:u=Value.ref a:=rx
 obtain⟨t1,t2,_⟩:=isD_at I1 d
 refine⟨t1,t2,?_⟩
 rw[m.trees]
 refine Calls.callWith_builtin rfl (Calls.evalArgs_plain (Calls.spliced_cons (thn (he pins s1 σ H1 _ I1 q1) fun iv s2 ⟨y,H2,I2,ry,q2⟩=>
  Calls.spliced_cons (thn (hf pins s2 σ H2 _ I2 q2) fun fv s3 ⟨z,H3,I3,rz,ov,g,q3⟩=>Calls.spliced_nil ?_))))
 exact d_get2 hu I3 g ry rz fun w' s4 I4 rw'=>⟨_,H3,I4,rw',q3⟩
end
section
variable{X:Cx}{pins:List (Addr×Obj)}{σ:St}{H:Hp}{s:Shared}{a:Addr}{kvs:List (Key×V)}{A:Around}{E:Value→Shared→Prop}
theorem d_copyOf{Q:Value→Shared→Prop}(I:Inv X pins σ H s)(e:Rd H a (.dK kvs))(h:∀p s',H p=none→Inv X pins σ (upd H p (.dK kvs)) s'→Q (.ref p) s'):wpAny (model X.prog X.w) A (call (.type "dict") [.ref a]) Q E s:=by
 obtain⟨z,hd,vs,rel,dd⟩:=dk_rd I.hok e
 refine kt_call_dict hd dd (by rw[←rel.length]; exact z) fun h' dd' hs=>?_
 refine h _ _ (I.hok.fresh (Nat.le_refl _)) (I.laid (a:=s.heap.objs.size) (o:=.dK kvs) (t':=s.toks) (fun b q hq=>?_) (Nat.le_refl _) (dk_new z (beq_eq_false_iff_ne.mpr (Ne.symm (Nat.ne_of_lt I.big))) rel dd'))
 exact(hs.2 b (Nat.ne_of_lt (Heap.lt_size hq))).trans (Heap.get?_push_of_some _ hq)
end
end L2
namespace Att
open PySem PySem.W PySem.Calls PyProof.Rows
theorem ints_of_wellAll{P:Params}{h:Heap}:∀(ns:List Int) (vs:List Value),WellAll P h vs (ns.map WData.int)→IntsAre vs ns:=by
 intro ns
 induction ns with
 | nil=>
  intro vs w
  rw[List.map_nil] at w
  cases w
  exact .nil
 | cons n ns ih=>
  intro vs w
  rw[List.map_cons] at w
  cases w with
  | cons a b=>
   cases a
   exact .cons _ _ (ih _ b)
theorem script_of{l:OpenLaw}{n:Nat}(hn:l.most=some n){P:Params}{h:Heap}{args:List WData}{vals:List Value}
  (hpre:l.row.toRowW.claim.pre args=true) (hwl:WellAll P h vals args) :
  ∃a vs ns,vals=[Value.ref a]∧args=[WData.list (ns.map WData.int)]∧h.get? a=some { cls:=.type "list",data:=.seq vs.toArray }∧IntsAre vs ns∧ns.length≤n:=by
 have hsh:WShape.hasAll [] args [.list .int]=true:=(pre_splitW hpre).1
 have hc:l.pre.holds [] { args:=args }=true:=(pre_splitW hpre).2
 obtain⟨d,r,rfl,h1,h2⟩:=hasAllW_cons hsh
 obtain rfl:=hasAllW_nil h2
 obtain⟨xs,rfl,h3⟩:=hasW_list h1
 obtain⟨ns,rfl⟩:=items_int h3
 have hlen:ns.length≤n:=by
  unfold OpenLaw.pre at hc
  have h4:(WTm.not (.lt (.lit (.int (n:Int))) (.len (.arg 0)))).holds [] { args:=[.list (ns.map .int)] }=true:=by
   have h4:=(holds_andW hc).1
   rw[hn] at h4
   exact h4
  have h5:=condW_of h4 (w_not (w_lt w_lit (w_len_list (w_arg rfl))))
  rw[List.length_map] at h5
  refine Nat.le_of_not_lt fun q=>?_
  have q':(n:Int)<((ns.length:Nat):Int):=by omega
  first
   | (rw[decide_eq_true q'] at h5; exact absurd h5 (by decide))
   | (simp at h5; omega)
 cases hwl with
 | cons w1 w2=>
  cases w2
  cases w1 with
  | list ho hall=>exact⟨_,_,ns,rfl,rfl,ho,ints_of_wellAll ns _ hall,hlen⟩
theorem post_true(l:OpenLaw)(args:List WData):l.row.toRowW.claim.post args (.bool true) args=true:=
 postW_of (r:=l.row.toRowW) (X:=(true==true))
  (show WShape.has [] (.bool true) .bool=true by first | rfl | decide | simp[WShape.has,WShape.arms,WShape.armsAll])
  (show(WTm.eq .res (.lit (.bool true))).value [] { args:=args,res:=some (.bool true),after:=args }=some (.bool (true==true)) from w_eq_bool (w_res rfl) w_lit) rfl
theorem attach_call{l:OpenLaw}{n:Nat}{q:Program}{loose:List Str}{XP:(Str→Option Value)→Heap→Prop}{YP:World→Heap→Prop}{d:DefRec}
  (hn:l.most=some n) (hdf:d.params.defaults=[])
  (call:∀(w:World) (s₀ s₁:Shared) (mg mb:Str→Option Value) (fa:Addr) (o:Obj) (pm cd doc:Value) (a:Addr) (vs:List Value) (ns:List Int),
   Ground q loose [] XP w s₀ mg mb s₁.heap→YP w s₁.heap→
   s₁.heap.get? fa=some o→o.data=.func (docDef d.name d.params d.body d.scope pm cd doc)→s₁.heap.CodeRec cd d.name→mg d.name=some (.ref fa)→
   s₁.heap.get? a=some { cls:=.type "list",data:=.seq vs.toArray }→IntsAre vs ns→ns.length≤n→s₁.gens = #[]→
   codeAny (model l.prog w) callerA (.call (.ref fa) ⟨[.ref a],[]⟩) (fun r s'=>r=.ok (.ret (.bool true))∧OldK s₁.heap s'.heap∧s'.os=s₁.os∧AllBare s'.gens) s₁) :
  WalkO q loose XP YP l.row.toRowW d [] (fun f vs=>PySem.call f vs):=by
 intro w s₀ s₁ mg mb G Y fa o pm cd doc dV kV ho hd hcd hD hmg hg args vals as hpre hlay hrd hwl hlo
 obtain rfl:dV=.none:=Dflts.none hD hdf
 obtain rfl:kV=.none:=Dflts.noKw hD
 obtain⟨a,vs,ns,rfl,rfl,hobj,hints,hlen⟩:=script_of hn hpre hwl
 refine enter_call (codeAny_mono (call w s₀ s₁ mg mb fa o pm cd doc a vs ns G Y ho (fd_plain hd) hcd hmg hobj hints hlen hg) fun r s' hq=>?_)
 obtain⟨rfl,h2,h3,h4⟩:=hq
 exact⟨.inl ⟨.bool true,.bool true,[],rfl,fun _=>rfl,.bool true,post_true l _,fun _=>⟨List.Pairwise.nil,fun _ hm=>(nomatch hm)⟩⟩,h2,h3,h4⟩
end Att
namespace L2
open PySem PySem.Spec PyProof.Rows
theorem vals_ints:∀{vs:List Value} {ns:List Int},IntsAre vs ns→Vals (ns.map V.int) vs
 | _,_,.nil=>.nil
 | _,_,.cons n t h=>.cons ⟨t,rfl⟩ (vals_ints h)
def Only(H:Hp):Prop:=∀b,H b=none∨∃o xs,H b=some (.frz o (.lst xs))
theorem law_call{P:Program}{w:World}{K:PySem.W.Frag}{mg mb:Str→Option Value}{CX:CXT}{k:Nat}{fa a:Addr}{fd:FuncData}{x:Str}{sp:Sp}{s₁:Shared}{vs:List Value}{ns:List Int}
  (KX:K.In s₁.heap) (hns:s₁.heap.Ns mainGlobals mg) (hb:s₁.heap.Ns builtinsNs mb) (hbb:∀x:Str,x≠"__name__"→mb x=bootBuiltins x) (hlim:s₁.heap.NoLimit) (hg:s₁.gens = #[])
  (ha:s₁.heap.get? a=some { cls:=.type "list",data:=.seq vs.toArray }) (hi:IntsAre vs ns) (hl:ns.length≤sizeLine) (hr:Room k callerA)
  (F:∀base:Heap,K.In base→base.Ns mainGlobals mg→FnOk P w K mg base CX k fa fd [x] sp) (hbind:∀(s:Shared) (u:Value),BindsTo s fd ⟨[u],[]⟩ [(x,u)])
  (hsp:∀H:Hp,Only H→SqL K H a (ns.map V.int)→sp [.ref a] H (fun v _=>v=.bl true) fun _ _ _=>False)
  (hCX:∀H e s',CX [] H s₁ (fun _ _ _=>False) e s'→False) :
  codeAny (model P w) callerA (.call (.ref fa) ⟨[.ref a],[]⟩) (fun r s'=>r=.ok (.ret (.bool true))∧OldK s₁.heap s'.heap∧s'.os=s₁.os∧AllBare s'.gens) s₁:=by
 have rv:=vals_ints hi
 have lenV:=hi.length
 have core:∀H:Hp,Only H→SqL K H a (ns.map V.int)→HOk P w H s₁.heap→(∀b,H b≠none→b=a)→(H a≠none→K.lookup a=none)→
   codeAny (model P w) callerA (.call (.ref fa) ⟨[.ref a],[]⟩) (fun r s'=>r=.ok (.ret (.bool true))∧OldK s₁.heap s'.heap∧s'.os=s₁.os∧AllBare s'.gens) s₁:=by
  intro H hO hS hok hA hK
  have base_of:∀{b:Addr} {o:Obj},s₁.heap.get? b=some o→H b=none→(hidT s₁.heap H).get? b=some o:=fun e n=>hidT_get e n
  have noA:∀{b:Addr} {o:Obj} {es:Array DictEntry} {ep:Nat},s₁.heap.get? b=some o→o.data=.dict es ep→H b=none:=fun {b o es ep} e d=>by
   cases q:H b with
   | none=>rfl
   | some u=>
    have e':b=a:=hA b (by rw[q]; simp)
    subst e'
    rw[ha] at e; cases e
    have d':Data.seq vs.toArray _=Data.dict es ep:=d
    cases d'
  have nsK:∀{b:Addr} {m:Str→Option Value},s₁.heap.Ns b m→(hidT s₁.heap H).Ns b m:=fun {b m} ⟨o,es,ep,e,d,r⟩=>⟨o,es,ep,base_of e (noA e d),d,r⟩
  have hKb:K.In (hidT s₁.heap H):=fun b o e=>base_of (KX b o e) (by
   cases q:H b with
   | none=>rfl
   | some u=>
    have e':b=a:=hA b (by rw[q]; simp)
    subst e'
    rw[hK (by rw[q]; simp)] at e; cases e)
  have hM:Mod K mg (hidT s₁.heap H):=⟨hKb,nsK hns,⟨mb,nsK hb,hbb⟩,let ⟨mc,h1,h2⟩:=hlim; ⟨mc,nsK h1,h2⟩⟩
  have e0:Env0 P w K mg (hidT s₁.heap H) callerA [] s₁ H:=⟨rfl,hM,fun b o e=>of_hidT e,Nat.le_of_eq (hidT_size _ _),trivial,fun b hb=>absurd (show b∈([]:List Addr) from hb) (by simp),hok,.of_eq hg⟩
  refine codeAny_mono ((F _ hKb (nsK hns)).run callerA [] s₁ H ⟨[.ref a],[]⟩ [.ref a] [.ref a] _ _ hr e0 (hbind s₁ (.ref a)) (.cons rfl .nil) (hsp H hO hS)) fun r s' h=>?_
  cases r with
  | error e=>exact(hCX H e s' h).elim
  | ok fl=>
   cases fl with
   | next=>exact False.elim h
   | brk=>exact False.elim h
   | cont=>exact False.elim h
   | ret u=>
    obtain⟨v,H',os,bare,un,hok',r',q⟩:=h
    have q':v=.bl true:=q
    subst q'
    obtain rfl:u=Value.bool true:=r'
    refine⟨rfl,OldK.of_keep fun b o e=>?_,os,bare⟩
    cases q:H b with
    | none=>exact un.keep b o e q (by intro z; exact absurd (show b∈([]:List Addr) from z) (by simp)) (by simp)
    | some u=>
     rcases hO b with z | ⟨ob,xs,z⟩
     .rw[q] at z; cases z
     .have z2:=un.frzs b ob _ z
      obtain⟨e1,_⟩:=hok b _ z
      obtain⟨e2,_⟩:=hok' b _ z2
      rw[e] at e1; cases e1
      exact e2
 cases hk:K.lookup a with
 | some o=>
  have e:=KX a o hk
  rw[ha] at e
  cases e
  refine core (fun _=>none) (fun _=>.inl rfl) (.inr ⟨_,vs.toArray,_,hk,rfl,rfl,rfl,by rw[List.size_toArray,lenV]; exact hl,by simpa using rv⟩) (fun b u z=>by have z':(none:Option HO)=some u:=z; cases z') (fun b z=>absurd rfl z) fun z=>absurd rfl z
 | none=>
  refine core (fun b=>if b=a then some (.frz { cls:=.type "list",data:=.seq vs.toArray } (.lst (ns.map V.int))) else none) (fun b=>?_) (.inl (.inr ⟨{ cls:=.type "list",data:=.seq vs.toArray },if_pos rfl⟩)) (fun b u z=>?_) (fun b z=>?_) fun _=>hk
  .by_cases hb:b=a
   .exact .inr ⟨_,_,if_pos hb⟩
   .exact .inl (if_neg hb)
  .by_cases hb:b=a
   .have z':=(if_pos hb).symm.trans z
    cases z'
    subst hb
    exact⟨ha,by rw[List.length_map]; exact hl,vs,_,rv,ha⟩
   .have z':=(if_neg hb).symm.trans z
    cases z'
  .by_cases hb:b=a
   .exact hb
   .exact absurd (if_neg hb) z
end L2
namespace L2
open PySem PySem.Spec PyProof.Rows
end L2
namespace L2
open PySem PySem.Spec PyProof.Rows
def defArgs(s:Stmt):Arguments:=match s with
 | .FunctionDef _ a _ _ _ _ _ _ _ _=>a
 | _=>{ posonlyargs:=[],args:=[],vararg:=none,kwonlyargs:=[],kw_defaults:=[],kwarg:=none,defaults:=[] }
def defBody(s:Stmt):List Stmt:=match s with
 | .FunctionDef _ _ b _ _ _ _ _ _ _=>b
 | _=>[]
def defScope(s:Stmt):Scope:=match s with
 | .FunctionDef _ _ _ _ _ _ sc _ _ _=>sc
 | _=>{ kind:=.function,names:=[],isGenerator:=false,isCoroutine:=false }
abbrev CX0:CXT:=fun _ _ _ _ _ _=>False
abbrev E0:XK:=fun _ _ _=>False
theorem pass0{X:Cx}:Passes CX0 X E0:=fun _ _ _ _ _ _ _ h=>h.elim
structure Fun(K:PySem.W.Frag)(x qual:Str)(st:Stmt)(f:Addr)(fd:FuncData):Prop where
 ex:∃(oc:Value) (od:Option Addr) (kV doc pm:Value) (an:Option Addr) (cdv ct:Value) (osl:Array (Option Value)),
  fd=PySem.W.fnOf x qual (defArgs st) (defBody st) (defScope st) .none kV doc pm an cdv ct∧K.lookup f=some ⟨oc,od,.func fd,osl⟩∧PySem.W.codeIn K cdv qual=true
 kp:PySem.W.keepIn K (.ref f)=true
section
variable{P:Program}{w:World}{K:PySem.W.Frag}{mg:Str→Option Value}{base:Heap}
theorem Fun.ok{x qual:Str}{st:Stmt}{f:Addr}{fd:FuncData}{N ps:List Str}{k:Nat}{sp:Sp}(F:Fun K x qual st f fd)(S:FnScope N ps (defScope st))(len:∀vs H Q E,sp vs H Q E→vs.length=ps.length)
  (hbody:∀(cdv:Value) (A:Around) (outer:List Env) (s:Shared) (H:Hp) (vs:List V) (Q:VK) (E:XK),Room k (A.deeper (envOfC qual (defScope st) s.heap.objs.size f cdv))→sp vs H Q E→
   ∃t,PSs (cxOf CX0 P w K mg base N qual (defScope st) f cdv A outer s H E).nox (defBody st) t∧t { nx:=fun _ H'=>Q .non H',rt:=Q } (start N vs) H):FnOk P w K mg base CX0 (k+1) f fd ps sp:=by
 obtain⟨oc,od,kV,doc,pm,an,cdv,ct,osl,rfl,lk,hcd⟩:=F.ex
 refine fn_of lk hcd S len fun A outer s H vs Q E hr hsp=>?_
 obtain⟨t,h,q⟩:=hbody cdv A outer s H vs Q E hr hsp
 exact⟨t,h.nox,q⟩
theorem Fun.binds{x qual:Str}{st:Stmt}{f:Addr}{fd:FuncData}{ps:List Str}(F:Fun K x qual st f fd)
  (h:∀(kV doc pm:Value) (an:Option Addr) (cdv ct:Value) (us:List Value),us.length=ps.length→bindArgs (PySem.W.fnOf x qual (defArgs st) (defBody st) (defScope st) .none kV doc pm an cdv ct) ⟨us,[]⟩=pure (ps.zip us)):Binds K fd ps []:=by
 obtain⟨oc,od,kV,doc,pm,an,cdv,ct,osl,rfl,lk,hcd⟩:=F.ex
 exact .all (h kV doc pm an cdv ct)
theorem fun_mk{x qual:Str}{st:Stmt}{f:Addr}{oc:Value}{od an:Option Addr}{osl:Array (Option Value)}{kV doc pm cdv ct:Value}(l:K.lookup f=some ⟨oc,od,.func (PySem.W.fnOf x qual (defArgs st) (defBody st) (defScope st) .none kV doc pm an cdv ct),osl⟩)
  (c:PySem.W.codeIn K cdv qual=true) (k:PySem.W.keepIn K (.ref f)=true):Fun K x qual st f (PySem.W.fnOf x qual (defArgs st) (defBody st) (defScope st) .none kV doc pm an cdv ct):=⟨⟨oc,od,kV,doc,pm,an,cdv,ct,osl,rfl,l,c⟩,k⟩
end
end L2
end
set_option bootstrap.genMatcherCode false
set_option genSizeOf false
set_option genSizeOfSpec false
namespace ML
open PySem PySem.Spec PyProof.Rows L2
inductive W where
 | non | bl (b:Bool) | int (i:Int) | str (x:Str) | tup (l:List W) | fls (l:List W) | ref (n:Nat) | fdc (l:List (Key×W)) | fn (a:Addr)
 deriving Inhabited
inductive MO where
 | lst (l:List W) | dic (l:List (Key×W)) | ins (c:Nat) (fs:List (Str×W))
abbrev MH:=List MO
abbrev M(α:Type):=MH→Option (α×MH)
abbrev En:=List (Option W)
abbrev ME:=En→M W
abbrev MT:=En→M Bool
noncomputable def bnd{α β:Type}(m:M α)(f:α→M β):M β:=fun h=>match m h with
 | some (a,h')=>f a h'
 | none=>none
theorem of_bnd{α β:Type}{m:M α}{f:α→M β}{h:MH}{r:β×MH}(e:bnd m f h=some r):∃a h',m h=some (a,h')∧f a h'=some r:=by
 unfold bnd at e
 split at e
 .rename_i a h' e'
  exact⟨a,h',e',e⟩
 .cases e
noncomputable def SqF(K:PySem.W.Frag)(μ:List Addr)(H:Hp)(a:Addr)(vs:List V):Prop:=(Rd H a (.lst vs)∧a∉μ) ∨
 ∃(o:Obj) (its:Array Value) (n:Nat),K.lookup a=some o∧o.cls=.type "list" ∧ o.dict=none∧o.data=.seq its n∧its.size≤sizeLine∧Vals vs its.toList
theorem SqF.sq{K:PySem.W.Frag}{μ:List Addr}{H:Hp}{a:Addr}{vs:List V}(h:SqF K μ H a vs):SqL K H a vs:=h.elim (fun h=>.inl h.1) .inr
noncomputable def SqD(μ:List Addr)(H:Hp)(a:Addr)(l:List (Key×V)):Prop:=Rd H a (.dK l)∧a∉μ
section rel
variable(K:PySem.W.Frag)(cl:Nat→Addr)(μ:List Addr)(H:Hp)
mutual
inductive RW:W→V→Prop
 | non:RW .non .non
 | bl (b:Bool):RW (.bl b) (.bl b)
 | int (i:Int):RW (.int i) (.int i)
 | str (x:Str):RW (.str x) (.str x)
 | tup {a:Addr} {vs:List V} {l:List W}:SqT K H a vs→RWs l vs→RW (.tup l) (.ref a)
 | ref {n:Nat} {a:Addr}:μ[n]?=some a→RW (.ref n) (.ref a)
 | fls {a:Addr} {vs:List V} {l:List W}:SqF K μ H a vs→RWs l vs→RW (.fls l) (.ref a)
 | fdc {a:Addr} {l:List (Key×W)} {l':List (Key×V)} {ws:List W} {vs:List V}:SqD μ H a l'→l.map (·.1)=l'.map (·.1)→ws=l.map (·.2)→vs=l'.map (·.2)→RWs ws vs→RW (.fdc l) (.ref a)
 | fn {a:Addr}:RW (.fn a) (.ref a)
inductive RWs:List W→List V→Prop
 | nil:RWs [] []
 | cons {w:W} {v:V} {l:List W} {vs:List V}:RW w v→RWs l vs→RWs (w::l) (v::vs)
end
noncomputable def RKs{κ:Type}(l:List (κ×W))(l':List (κ×V)):Prop:=l.map (·.1)=l'.map (·.1)∧RWs K μ H (l.map (·.2)) (l'.map (·.2))
noncomputable def OR(a:Addr):MO→Prop
 | .lst l=>∃vs,H a=some (.lst vs)∧RWs K μ H l vs
 | .dic l=>∃l',H a=some (.dK l')∧RKs K μ H l l'
 | .ins c fs=>∃dx fs',H a=some (.ins (cl c) dx fs')∧RKs K μ H fs fs'
structure HR(h:MH):Prop where
 len:μ.length=h.length
 nd:μ.Nodup
 ob:∀(n:Nat) (a:Addr) (o:MO),μ[n]?=some a→h[n]?=some o→OR K cl μ H a o
structure ER(ρ:En)(σ:L2.St):Prop where
 len:ρ.length=σ.length
 at_:∀(i:Nat) (w:W),ρ[i]?=some (some w)→∃v,σ[i]?=some (some v)∧RW K μ H w v
end rel
structure Ext(μ:List Addr)(H:Hp)(μ':List Addr)(H':Hp):Prop where
 pre:μ<+:μ'
 fr:∀b o,H b=some o→b∉μ→H' b=some o∧b∉μ'
section
variable{K:PySem.W.Frag}{cl:Nat→Addr}{μ μ' μ'':List Addr}{H H' H'':Hp}{h h':MH}
theorem Ext.refl:Ext μ H μ H:=⟨List.prefix_refl _,fun _ _ e n=>⟨e,n⟩⟩
theorem Ext.trans(a:Ext μ H μ' H')(b:Ext μ' H' μ'' H''):Ext μ H μ'' H'':=
 ⟨a.pre.trans b.pre,fun c o e n=>let ⟨e1,n1⟩:=a.fr c o e n; b.fr c o e1 n1⟩
theorem Ext.get(a:Ext μ H μ' H'){n:Nat}{x:Addr}(e:μ[n]?=some x):μ'[n]?=some x:=by
 obtain⟨r,rfl⟩:=a.pre
 rw[List.getElem?_append_left (List.getElem?_eq_some_iff.mp e).1]; exact e
theorem OR.some{a:Addr}{o:MO}(q:OR K cl μ H a o):∃u,H a=some u∧Mut (some u):=by
 cases o with
 | lst l=>obtain⟨vs,q,_⟩:=q; exact⟨_,q,trivial⟩
 | dic l=>obtain⟨l',q,_⟩:=q; exact⟨_,q,trivial⟩
 | ins c fs=>obtain⟨dx,fs',q,_⟩:=q; exact⟨_,q,trivial⟩
theorem HR.mem_some(R:HR K cl μ H h){a:Addr}(hm:a∈μ):∃u,H a=some u∧Mut (some u):=by
 obtain⟨n,hn⟩:=List.mem_iff_getElem?.mp hm
 have hl:n<h.length:=by rw[←R.len]; exact(List.getElem?_eq_some_iff.mp hn).1
 exact(R.ob n a h[n] hn (List.getElem?_eq_getElem hl)).some
theorem HR.fresh(R:HR K cl μ H h){a:Addr}(e:H a=none):a∉μ:=fun hm=>by
 obtain⟨u,q,_⟩:=R.mem_some hm
 rw[e] at q; cases q
theorem HR.notours(R:HR K cl μ H h){a:Addr}{u:HO}(e:H a=some u)(n:¬Mut (some u)):a∉μ:=fun hm=>by
 obtain⟨u',q,m⟩:=R.mem_some hm
 rw[e] at q; cases q
 exact n m
theorem HR.notup(R:HR K cl μ H h){a:Addr}{xs:List V}(e:Rd H a (.tup xs)):a∉μ:=by
 rcases e with e | ⟨o,e⟩
 .exact R.notours e fun z=>z
 .exact R.notours e fun z=>z
theorem SqF.ext(E:Ext μ H μ' H'){a:Addr}{vs:List V}(e:SqF K μ H a vs):SqF K μ' H' a vs:=by
 rcases e with ⟨e | ⟨o,e⟩,n⟩ | e
 .exact .inl ⟨.inl (E.fr _ _ e n).1,(E.fr _ _ e n).2⟩
 .exact .inl ⟨.inr ⟨o,(E.fr _ _ e n).1⟩,(E.fr _ _ e n).2⟩
 .exact .inr e
theorem SqD.ext(E:Ext μ H μ' H'){a:Addr}{l:List (Key×V)}(e:SqD μ H a l):SqD μ' H' a l:=by
 obtain⟨e | ⟨o,e⟩,n⟩:=e
 .exact⟨.inl (E.fr _ _ e n).1,(E.fr _ _ e n).2⟩
 .exact⟨.inr ⟨o,(E.fr _ _ e n).1⟩,(E.fr _ _ e n).2⟩
theorem SqT.ext(R:HR K cl μ H h)(E:Ext μ H μ' H'){a:Addr}{xs:List V}(e:SqT K H a xs):SqT K H' a xs:=by
 rcases e with e | e
 .have n:=R.notup e
  rcases e with e | ⟨o,e⟩
  .exact .inl (.inl (E.fr _ _ e n).1)
  .exact .inl (.inr ⟨o,(E.fr _ _ e n).1⟩)
 .exact .inr e
mutual
theorem RW.ext(R:HR K cl μ H h)(E:Ext μ H μ' H'):∀{w:W} {v:V},RW K μ H w v→RW K μ' H' w v
 | _,_,.non=>.non
 | _,_,.bl b=>.bl b
 | _,_,.int i=>.int i
 | _,_,.str x=>.str x
 | _,_,.tup s r=>.tup (SqT.ext R E s) (RWs.ext R E r)
 | _,_,.ref e=>.ref (E.get e)
 | _,_,.fls s r=>.fls (SqF.ext E s) (RWs.ext R E r)
 | _,_,.fdc s k e1 e2 r=>.fdc (SqD.ext E s) k e1 e2 (RWs.ext R E r)
 | _,_,.fn=>.fn
theorem RWs.ext(R:HR K cl μ H h)(E:Ext μ H μ' H'):∀{l:List W} {vs:List V},RWs K μ H l vs→RWs K μ' H' l vs
 | _,_,.nil=>.nil
 | _,_,.cons r t=>.cons (RW.ext R E r) (RWs.ext R E t)
end
theorem ER.ext(R:HR K cl μ H h)(E:Ext μ H μ' H'){ρ:En}{σ:L2.St}(e:ER K μ H ρ σ):ER K μ' H' ρ σ:=
 ⟨e.len,fun i w q=>let ⟨v,q1,r⟩:=e.at_ i w q; ⟨v,q1,r.ext R E⟩⟩
theorem RWs.length:∀{l:List W} {vs:List V},RWs K μ H l vs→l.length=vs.length
 | _,_,.nil=>rfl
 | _,_,.cons _ t=>congrArg (· + 1) (RWs.length t)
theorem RWs.get:∀{l:List W} {vs:List V} {i:Nat} {w:W},RWs K μ H l vs→l[i]?=some w→∃v,vs[i]?=some v∧RW K μ H w v
 | _,_,_,_,.nil,e=>by simp at e
 | _,_,0,_,.cons r _,e=>by simp at e; subst e; exact⟨_,rfl,r⟩
 | _,_,i+1,w,.cons _ t,e=>by
  obtain⟨v,h1,h2⟩:=RWs.get (i:=i) (w:=w) t (by simpa using e)
  exact⟨v,by simpa using h1,h2⟩
theorem RWs.append:∀{l l':List W} {vs vs':List V},RWs K μ H l vs→RWs K μ H l' vs'→RWs K μ H (l++l') (vs++vs')
 | _,_,_,_,.nil,s=>s
 | _,_,_,_,.cons r t,s=>.cons r (RWs.append t s)
theorem RWs.take:∀{l:List W} {vs:List V} (n:Nat),RWs K μ H l vs→RWs K μ H (l.take n) (vs.take n)
 | _,_,0,_=>.nil
 | _,_,_+1,.nil=>.nil
 | _,_,n+1,.cons r t=>.cons r (RWs.take n t)
theorem RWs.drop:∀{l:List W} {vs:List V} (n:Nat),RWs K μ H l vs→RWs K μ H (l.drop n) (vs.drop n)
 | _,_,0,r=>r
 | _,_,_+1,.nil=>.nil
 | _,_,n+1,.cons _ t=>RWs.drop n t
theorem RWs.reverse{l:List W}{vs:List V}(r:RWs K μ H l vs):RWs K μ H l.reverse vs.reverse:=by
 have:∀{l:List W} {vs:List V},RWs K μ H l vs→∀{l':List W} {vs':List V},RWs K μ H l' vs'→RWs K μ H (l.reverseAux l') (vs.reverseAux vs'):=by
  intro l vs r
  induction l generalizing vs with
  | nil=>cases r; intro l' vs' s; exact s
  | cons w l ih=>cases r with | cons r t=>intro l' vs' s; exact ih t (.cons r s)
 exact this r .nil
theorem RWs.set{w:W}{v:V}(r:RW K μ H w v):∀{l:List W} {vs:List V} (i:Nat),RWs K μ H l vs→RWs K μ H (l.set i w) (vs.set i v)
 | _,_,_,.nil=>.nil
 | _,_,0,.cons _ t=>.cons r t
 | _,_,i+1,.cons q t=>.cons q (RWs.set r i t)
theorem RWs.dropLast:∀{l:List W} {vs:List V},RWs K μ H l vs→RWs K μ H l.dropLast vs.dropLast
 | _,_,.nil=>.nil
 | _,_,.cons _ .nil=>.nil
 | _,_,.cons r (.cons r2 t)=>.cons r (RWs.dropLast (.cons r2 t))
theorem RWs.rep{l:List W}{vs:List V}(r:RWs K μ H l vs):∀k:Nat,RWs K μ H (List.replicate k l).flatten (List.replicate k vs).flatten
 | 0=>.nil
 | k+1=>by
  rw[List.replicate_succ,List.replicate_succ,List.flatten_cons,List.flatten_cons]
  exact r.append (RWs.rep r k)
theorem RWs.ints:∀ns:List Int,RWs K μ H (ns.map W.int) (ns.map V.int)
 | []=>.nil
 | n::r=>.cons (.int n) (RWs.ints r)
theorem OR.ext(R:HR K cl μ H h)(E:Ext μ H μ' H'){a:Addr}{o:MO}(e:H' a=H a)(q:OR K cl μ H a o):OR K cl μ' H' a o:=by
 cases o with
 | lst l=>obtain⟨vs,q,r⟩:=q; exact⟨vs,e.trans q,r.ext R E⟩
 | dic l=>obtain⟨l',q,k,r⟩:=q; exact⟨l',e.trans q,k,r.ext R E⟩
 | ins c fs=>obtain⟨dx,fs',q,k,r⟩:=q; exact⟨dx,fs',e.trans q,k,r.ext R E⟩
theorem Ext.new{p:Addr}{u:HO}(hp:H p=none):Ext μ H (μ++[p]) (upd H p u):=
 ⟨List.prefix_append _ _,fun b o e n=>by
  have ne:b≠p:=ne_of_none e hp
  exact⟨by rw[upd_ne ne]; exact e,by simp[n,ne]⟩⟩
theorem Ext.side{p:Addr}{u:HO}(hp:H p=none):Ext μ H μ (upd H p u):=
 ⟨List.prefix_refl _,fun b o e n=>⟨by rw[upd_ne (ne_of_none e hp)]; exact e,n⟩⟩
theorem HR.side{p:Addr}{u:HO}(R:HR K cl μ H h)(hp:H p=none):HR K cl μ (upd H p u) h:=
 have hm:=R.fresh hp
 ⟨R.len,R.nd,fun n a o e1 e2=>OR.ext R (Ext.side hp) (upd_ne (by rintro rfl; exact hm (List.mem_of_getElem? e1))) (R.ob n a o e1 e2)⟩
theorem HR.new{p:Addr}{u:HO}{o:MO}(R:HR K cl μ H h)(hp:H p=none)(q:OR K cl (μ++[p]) (upd H p u) p o):HR K cl (μ++[p]) (upd H p u) (h++[o]):=by
 have hm:=R.fresh hp
 refine⟨by simp[R.len],?_,fun n a o' e1 e2=>?_⟩
 .rw[List.nodup_append]
  exact⟨R.nd,by simp,by simp; exact fun a ha=>by rintro rfl; exact hm ha⟩
 .by_cases hn:n<μ.length
  .rw[List.getElem?_append_left hn] at e1
   rw[List.getElem?_append_left (by rw[←R.len]; exact hn)] at e2
   exact OR.ext R (Ext.new hp) (upd_ne (by rintro rfl; exact hm (List.mem_of_getElem? e1))) (R.ob n a o' e1 e2)
  .rw[List.getElem?_append_right (by omega)] at e1
   rw[List.getElem?_append_right (by rw[←R.len]; omega)] at e2
   rw[R.len] at e1
   have:n-h.length=0:=by
    by_cases z:n-h.length=0
    .exact z
    .rw[List.getElem?_eq_none (by simp; omega)] at e1; cases e1
   rw[this] at e1 e2
   simp at e1 e2
   subst e1; subst e2
   exact q
theorem Ext.put{n:Nat}{a:Addr}{u:HO}(hn:μ[n]?=some a):Ext μ H μ (upd H a u):=
 ⟨List.prefix_refl _,fun b o e m=>⟨by rw[upd_ne (by rintro rfl; exact m (List.mem_of_getElem? hn))]; exact e,m⟩⟩
theorem HR.put{n:Nat}{a:Addr}{u:HO}{o:MO}(R:HR K cl μ H h)(hn:μ[n]?=some a)(q:OR K cl μ (upd H a u) a o):HR K cl μ (upd H a u) (h.set n o):=by
 refine⟨by simp[R.len],R.nd,fun m b o' e1 e2=>?_⟩
 by_cases hm:m=n
 .subst hm
  rw[hn] at e1; cases e1
  rw[List.getElem?_set_self (by rw[←R.len]; exact(List.getElem?_eq_some_iff.mp hn).1)] at e2
  cases e2
  exact q
 .rw[List.getElem?_set_ne (Ne.symm hm)] at e2
  have ne:b≠a:=by
   rintro rfl
   obtain⟨h1,e1'⟩:=List.getElem?_eq_some_iff.mp e1
   obtain⟨h2,e2'⟩:=List.getElem?_eq_some_iff.mp hn
   exact hm ((List.getElem_inj R.nd).mp (e1'.trans e2'.symm))
  exact OR.ext R (Ext.put hn) (upd_ne ne) (R.ob m b o' e1 e2)
end
noncomputable def KQ(K:PySem.W.Frag)(cl:Nat→Addr)(μ:List Addr)(H:Hp)(h':MH)(w:W)(Q:VK):Prop:=
 ∀μ' H' v,Ext μ H μ' H'→HR K cl μ' H' h'→RW K μ' H' w v→Q v H'
inductive tM(K:PySem.W.Frag)(cl:Nat→Addr)(m:ME)(σ:L2.St)(H:Hp)(Q:VK):Prop
 | mk (μ:List Addr) (h:MH) (ρ:En) (w:W) (h':MH) (p0:HR K cl μ H h) (p1:ER K μ H ρ σ) (p2:m ρ h=some (w,h')) (p3:KQ K cl μ H h' w Q):tM K cl m σ H Q
inductive tMT(K:PySem.W.Frag)(cl:Nat→Addr)(m:MT)(σ:L2.St)(H:Hp)(Q:Bool→Hp→Prop):Prop
 | mk (μ:List Addr) (h:MH) (ρ:En) (b:Bool) (h':MH) (p0:HR K cl μ H h) (p1:ER K μ H ρ σ) (p2:m ρ h=some (b,h')) (p3:∀μ' H',Ext μ H μ' H'→HR K cl μ' H' h'→Q b H'):tMT K cl m σ H Q
abbrev SE(X:Cx)(cl:Nat→Addr)(e:Expr)(m:ME):Prop:=PE X e (tM X.K cl m)
abbrev ST(X:Cx)(cl:Nat→Addr)(e:Expr)(m:MT):Prop:=PT X e (tMT X.K cl m)
theorem PE.wk{X:Cx}{e:Expr}{t t':TE}(h:PE X e t)(w:∀σ H Q,t' σ H Q→t σ H Q):PE X e t':=fun pins s σ H Q I q=>h pins s σ H Q I (w σ H Q q)
theorem PT.wk{X:Cx}{e:Expr}{t t':TT}(h:PT X e t)(w:∀σ H Q,t' σ H Q→t σ H Q):PT X e t':=fun pins s σ H Q I q=>h pins s σ H Q I (w σ H Q q)
theorem PA.wk{X:Cx}{e:List Expr}{t t':TA}(h:PA X e t)(w:∀σ H Q,t' σ H Q→t σ H Q):PA X e t':=fun pos pins s σ H Q I q=>h pos pins s σ H Q I (w σ H Q q)
theorem PS.wk{X:Cx}{e:Stmt}{t t':TS}(h:PS X e t)(w:∀D σ H,t' D σ H→t D σ H):PS X e t':=fun pins s σ H D I q=>h pins s σ H D I (w D σ H q)
theorem PSs.wk{X:Cx}{e:List Stmt}{t t':TS}(h:PSs X e t)(w:∀D σ H,t' D σ H→t D σ H):PSs X e t':=fun pins s σ H D I q=>h pins s σ H D I (w D σ H q)
noncomputable def eVar(i:Nat):ME:=fun ρ h=>match ρ[i]? with
 | some (some w)=>some (w,h)
 | _=>none
noncomputable def eC(w:W):ME:=fun _ h=>some (w,h)
noncomputable def eOp(f:W→W→M W)(a b:ME):ME:=fun ρ=>bnd (a ρ) fun x=>bnd (b ρ) fun y=>f x y
noncomputable def eUn(f:W→M W)(a:ME):ME:=fun ρ=>bnd (a ρ) f
noncomputable def mArgs:List ME→En→M (List W)
 | [],_=>fun h=>some ([],h)
 | m::r,ρ=>bnd (m ρ) fun x=>bnd (mArgs r ρ) fun xs h=>some (x::xs,h)
noncomputable def eArgs(f:List W→M W)(as:List ME):ME:=fun ρ=>bnd (mArgs as ρ) f
noncomputable def asB(w:W):M Bool:=fun h=>match w with
 | .bl b=>some (b,h)
 | _=>none
noncomputable def tVal(a:ME):MT:=fun ρ=>bnd (a ρ) asB
noncomputable def tAndM(a b:MT):MT:=fun ρ=>bnd (a ρ) fun x=>if x=true then b ρ else fun h=>some (false,h)
noncomputable def tOrM(a b:MT):MT:=fun ρ=>bnd (a ρ) fun x=>if x=true then (fun h=>some (true,h)) else b ρ
noncomputable def tNotM(a:MT):MT:=fun ρ=>bnd (a ρ) fun x h=>some (!x,h)
noncomputable def eAnd(a b:ME):ME:=fun ρ=>bnd (a ρ) fun x=>bnd (asB x) fun c=>if c=true then b ρ else fun h=>some (.bl false,h)
noncomputable def eOr(a b:ME):ME:=fun ρ=>bnd (a ρ) fun x=>bnd (asB x) fun c=>if c=true then (fun h=>some (.bl true,h)) else b ρ
noncomputable def eNot(a:ME):ME:=fun ρ=>bnd (a ρ) fun x=>bnd (asB x) fun c h=>some (.bl (!c),h)
noncomputable def eIf(t:MT)(a b:ME):ME:=fun ρ=>bnd (t ρ) fun c=>if c=true then a ρ else b ρ
noncomputable def eChain(f g:W→W→M W)(a b c:ME):ME:=fun ρ=>bnd (a ρ) fun x=>bnd (b ρ) fun y=>bnd (f x y) fun z=>bnd (asB z) fun k=>if k=true then bnd (c ρ) fun u=>g y u else fun h=>some (.bl false,h)
inductive rM(K:PySem.W.Frag)(cl:Nat→Addr)(f:W→W→M W)(x:V)(y:V)(H:Hp)(Q:VK):Prop
 | mk (μ:List Addr) (h:MH) (wx:W) (wy:W) (w:W) (h':MH) (p0:HR K cl μ H h) (p1:RW K μ H wx x) (p2:RW K μ H wy y) (p3:f wx wy h=some (w,h')) (p4:KQ K cl μ H h' w Q):rM K cl f x y H Q
inductive rM1(K:PySem.W.Frag)(cl:Nat→Addr)(f:W→M W)(x:V)(H:Hp)(Q:VK):Prop
 | mk (μ:List Addr) (h:MH) (wx:W) (w:W) (h':MH) (p0:HR K cl μ H h) (p1:RW K μ H wx x) (p2:f wx h=some (w,h')) (p3:KQ K cl μ H h' w Q):rM1 K cl f x H Q
inductive rMs(K:PySem.W.Frag)(cl:Nat→Addr)(f:List W→M W)(xs:List V)(H:Hp)(Q:VK):Prop
 | mk (μ:List Addr) (h:MH) (ws:List W) (w:W) (h':MH) (p0:HR K cl μ H h) (p1:RWs K μ H ws xs) (p2:f ws h=some (w,h')) (p3:KQ K cl μ H h' w Q):rMs K cl f xs H Q
inductive tMA(K:PySem.W.Frag)(cl:Nat→Addr)(ms:List ME)(σ:L2.St)(H:Hp)(Q:List V→Hp→Prop):Prop
 | mk (μ:List Addr) (h:MH) (ρ:En) (ws:List W) (h':MH) (p0:HR K cl μ H h) (p1:ER K μ H ρ σ) (p2:mArgs ms ρ h=some (ws,h')) (p3:∀μ' H' vs,Ext μ H μ' H'→HR K cl μ' H' h'→RWs K μ' H' ws vs→Q vs H'):tMA K cl ms σ H Q
abbrev SA(X:Cx)(cl:Nat→Addr)(es:List Expr)(ms:List ME):Prop:=PA X es (tMA X.K cl ms)
section
variable{X:Cx}{cl:Nat→Addr}{a b c:Expr}{ma mb mc:ME}{pos:Pos}{μ μ':List Addr}{H H':Hp}{h h':MH}
theorem KQ.pure{w:W}{v:V}{Q:VK}{K:PySem.W.Frag}(k:KQ K cl μ H h w Q)(R:HR K cl μ H h)(r:RW K μ H w v):Q v H:=k μ H v .refl R r
theorem KQ.ext{w:W}{Q:VK}{K:PySem.W.Frag}(E:Ext μ H μ' H')(k:KQ K cl μ H h w Q):KQ K cl μ' H' h w Q:=fun μ2 H2 v E2 R2 r2=>k μ2 H2 v (E.trans E2) R2 r2
theorem se_var(i:Nat){x:Str}(hN:X.N[i]?=some x:=by rfl)(hv:Vis X.env.scope x:=by first | exact Or.inl rfl | exact Or.inr (Or.inl rfl) | exact Or.inr (Or.inr rfl))
  (hd:(x==("__debug__":Str))=false:=by decide) (hcd:(x==("__classdict__":Str))=false:=by decide):SE X cl (.Name x pos) (eVar i):=
 PE.wk (pe_var (i:=i) hN hv hd hcd) fun σ H Q q0=>by
  obtain⟨μ,h,ρ,w,h',R,er,e,k⟩:=q0
  unfold eVar at e
  split at e
  .rename_i w' q
   cases e
   obtain⟨v,q1,r⟩:=er.at_ i _ q
   exact⟨v,q1,k.pure R r⟩
  .cases e
theorem se_c{w:W}{v:V}(he:PE X a (tC v))(r:∀μ H,RW X.K μ H w v):SE X cl a (eC w):=
 PE.wk he fun σ H Q q0=>by
  obtain⟨μ,h,ρ,w',h',R,er,e,k⟩:=q0
  cases e
  exact k.pure R (r μ H)
theorem se_int{i:Int}{j}:SE X cl (.Constant (.int i) j pos) (eC (.int i)):=se_c pe_int fun _ _=>.int i
theorem se_bl{i:Bool}{j}:SE X cl (.Constant (.bool i) j pos) (eC (.bl i)):=se_c pe_bl fun _ _=>.bl i
theorem se_non{j}:SE X cl (.Constant .none j pos) (eC .non):=se_c pe_non fun _ _=>.non
theorem se_str{i:Str}{j}:SE X cl (.Constant (.str i) j pos) (eC (.str i)):=se_c pe_str fun _ _=>.str i
theorem se_glob{x:Str}{w:W}{v:V}{u:Value}(hm:X.mg x=some u)(r:RelV v u)(rw:∀μ H,RW X.K μ H w v)(hg:Gl X x:=by rfl)(hd:(x==("__debug__":Str))=false:=by decide):SE X cl (.Name x pos) (eC w):=
 se_c (pe_glob hg hm r hd) rw
theorem eop_read{K:PySem.W.Frag}{f:W→W→M W}{σ:L2.St}{Q:VK}(q:tM K cl (eOp f ma mb) σ H Q):tOp (rM K cl f) (tM K cl ma) (tM K cl mb) σ H Q:=by
 obtain⟨μ,h,ρ,w,h',R,er,e,k⟩:=q
 obtain⟨x,h1,e1,e⟩:=of_bnd e
 obtain⟨y,h2,e2,e3⟩:=of_bnd e
 exact⟨μ,h,ρ,x,h1,R,er,e1,fun μ1 H1 vx E1 R1 rx=>⟨μ1,h1,ρ,y,h2,R1,er.ext R E1,e2,fun μ2 H2 vy E2 R2 ry=>⟨μ2,h2,x,y,w,h',R2,rx.ext R1 E2,ry,e3,k.ext (E1.trans E2)⟩⟩⟩
theorem se_op{op:Operator}{f:W→W→M W}(ho:OpR X (binaryOp op) (rM X.K cl f))(ha:SE X cl a ma)(hb:SE X cl b mb):SE X cl (.BinOp a op b pos) (eOp f ma mb):=
 PE.wk (pe_op ho ha hb) fun σ H Q q=>eop_read q
theorem se_cmp{op:CmpOp}{f:W→W→M W}(ho:OpR X (compareOp op) (rM X.K cl f))(ha:SE X cl a ma)(hb:SE X cl b mb)(hm:behindInMarks op b=false:=by first | exact nomark _ | rfl):SE X cl (.Compare a [op] [b] pos) (eOp f ma mb):=
 PE.wk (pe_cmpR ho ha hb hm) fun σ H Q q=>eop_read q
theorem se_un{op:UnaryOp}{f:W→M W}(ho:UnR X (unaryOp op) (rM1 X.K cl f))(ha:SE X cl a ma):SE X cl (.UnaryOp op a pos) (eUn f ma):=
 PE.wk (pe_un ho ha) fun σ H Q q0=>by
  obtain⟨μ,h,ρ,w,h',R,er,e,k⟩:=q0
  obtain⟨x,h1,e1,e⟩:=of_bnd e
  exact⟨μ,h,ρ,x,h1,R,er,e1,fun μ1 H1 vx E1 R1 rx=>⟨μ1,h1,x,w,h',R1,rx,e,k.ext E1⟩⟩
theorem RW.bl_of{K:PySem.W.Frag}{k:Bool}{v:V}(r:RW K μ H (.bl k) v):v=.bl k:=by cases r; rfl
theorem asB_of{w:W}{b:Bool}(e:asB w h=some (b,h')):w=.bl b∧h=h':=by
 unfold asB at e; split at e
 .cases e; exact⟨rfl,rfl⟩
 .cases e
theorem tval_read{K:PySem.W.Frag}{σ:L2.St}{Q:Bool→Hp→Prop}(q:tMT K cl (tVal ma) σ H Q):tM K cl ma σ H fun x H1=>∃c,x=.bl c∧Q c H1:=by
 obtain⟨μ,h,ρ,b,h',R,er,e,k⟩:=q
 obtain⟨x,h1,e1,e⟩:=of_bnd e
 obtain⟨rfl,rfl⟩:=asB_of e
 exact⟨μ,h,ρ,_,h1,R,er,e1,fun μ1 H1 vx E1 R1 rx=>⟨b,rx.bl_of,k μ1 H1 E1 R1⟩⟩
theorem st_val(ha:SE X cl a ma)(he:∀whole,isTrue a X.env whole=(do let v ←whole; standAt a.pos; holding [v] (truthy v)):=by intro _; rfl):ST X cl a (tVal ma):=
 PT.wk (pt_val ha he) fun σ H Q q=>tval_read q
theorem st_cmp{op:CmpOp}{f:W→W→M W}(ho:OpR X (compareOp op) (rM X.K cl f))(ha:SE X cl a ma)(hb:SE X cl b mb)(hm:behindInMarks op b=false:=by first | exact nomark _ | rfl):ST X cl (.Compare a [op] [b] pos) (tVal (eOp f ma mb)):=
 PT.wk (pt_cmpR ho ha hb hm) fun σ H Q q=>by
  obtain⟨μ,h,ρ,w,h',R,er,e,k⟩:=tval_read q
  exact eop_read ⟨μ,h,ρ,w,h',R,er,e,k⟩
theorem chain_read{K:PySem.W.Frag}{f g:W→W→M W}{σ:L2.St}{Q:VK}(q:tM K cl (eChain f g ma mb mc) σ H Q):tChain (rM K cl f) (rM K cl g) (tM K cl ma) (tM K cl mb) (tM K cl mc) σ H Q:=by
 obtain⟨μ,h,ρ,w,h',R,er,e,k⟩:=q
 obtain⟨x,h1,e1,e⟩:=of_bnd e
 obtain⟨y,h2,e2,e⟩:=of_bnd e
 obtain⟨z,h3,e3,e⟩:=of_bnd e
 obtain⟨c,h4,e4,e⟩:=of_bnd e
 obtain⟨rfl,rfl⟩:=asB_of e4
 refine⟨μ,h,ρ,x,h1,R,er,e1,fun μ1 H1 vx E1 R1 rx=>⟨μ1,h1,ρ,y,h2,R1,er.ext R E1,e2,fun μ2 H2 vy E2 R2 ry=>⟨μ2,h2,x,y,_,h3,R2,rx.ext R1 E2,ry,e3,fun μ3 H3 vz E3 R3 rz=>⟨c,rz.bl_of,?_⟩⟩⟩⟩
 cases c with
 | true=>
  rw[if_pos rfl] at e ⊢
  obtain⟨u,h5,e5,e6⟩:=of_bnd e
  exact⟨μ3,h3,ρ,u,h5,R3,((er.ext R E1).ext R1 E2).ext R2 E3,e5,fun μ4 H4 vu E4 R4 ru=>⟨μ4,h5,y,u,w,h',R4,(ry.ext R2 E3).ext R3 E4,ru,e6,k.ext (E1.trans (E2.trans (E3.trans E4)))⟩⟩
 | false=>
  rw[if_neg Bool.false_ne_true] at e ⊢
  cases e
  exact k μ3 H3 _ (E1.trans (E2.trans E3)) R3 (.bl false)
theorem se_chain{op op':CmpOp}{f g:W→W→M W}(ho:OpR X (compareOp op) (rM X.K cl f))(ho':OpR X (compareOp op') (rM X.K cl g))(ha:SE X cl a ma)(hb:SE X cl b mb)(hc:SE X cl c mc)
  (hm:lastMarks [op,op'] [b,c]=false:=by with_unfolding_all rfl):SE X cl (.Compare a [op,op'] [b,c] pos) (eChain f g ma mb mc):=
 PE.wk (pe_chain ho ho' ha hb hc hm) fun σ H Q q=>chain_read q
theorem st_chain{op op':CmpOp}{f g:W→W→M W}(ho:OpR X (compareOp op) (rM X.K cl f))(ho':OpR X (compareOp op') (rM X.K cl g))(ha:SE X cl a ma)(hb:SE X cl b mb)(hc:SE X cl c mc)
  (hm:lastMarks [op,op'] [b,c]=false:=by with_unfolding_all rfl):ST X cl (.Compare a [op,op'] [b,c] pos) (tVal (eChain f g ma mb mc)):=
 PT.wk (pt_chain ho ho' ha hb hc hm) fun σ H Q q=>by
  obtain⟨μ,h,ρ,w,h',R,er,e,k⟩:=tval_read q
  exact chain_read ⟨μ,h,ρ,w,h',R,er,e,k⟩
abbrev SW(X:Cx)(cl:Nat→Addr)(e:Expr)(m:MT):Prop:=PW X e (tMT X.K cl m)
theorem PW.wk{e:Expr}{t t':TT}(h:PW X e t)(w:∀σ H Q,t' σ H Q→t σ H Q):PW X e t':=fun wh pins s σ H Q I q=>h wh pins s σ H Q I (w σ H Q q)
variable{ta tb:MT}{rest:List Expr}
theorem sw_and1(ha:ST X cl a ta):SW X cl (.BoolOp .And [a] pos) ta:=pw_and1 ha
theorem sw_or1(ha:ST X cl a ta):SW X cl (.BoolOp .Or [a] pos) ta:=pw_or1 ha
theorem sw_and(ha:ST X cl a ta)(hb:SW X cl (.BoolOp .And (b::rest) pos) tb):SW X cl (.BoolOp .And (a::b::rest) pos) (tAndM ta tb):=
 PW.wk (pw_and ha hb) fun σ H Q q0=>by
  obtain⟨μ,h,ρ,w,h',R,er,e,k⟩:=q0
  obtain⟨x,h1,e1,e⟩:=of_bnd e
  refine⟨μ,h,ρ,x,h1,R,er,e1,fun μ1 H1 E1 R1=>?_⟩
  cases x with
  | true=>rw[if_pos rfl] at e ⊢; exact⟨μ1,h1,ρ,w,h',R1,er.ext R E1,e,fun μ2 H2 E2 R2=>k μ2 H2 (E1.trans E2) R2⟩
  | false=>rw[if_neg Bool.false_ne_true] at e ⊢; cases e; exact k μ1 H1 E1 R1
theorem sw_or(ha:ST X cl a ta)(hb:SW X cl (.BoolOp .Or (b::rest) pos) tb):SW X cl (.BoolOp .Or (a::b::rest) pos) (tOrM ta tb):=
 PW.wk (pw_or ha hb) fun σ H Q q0=>by
  obtain⟨μ,h,ρ,w,h',R,er,e,k⟩:=q0
  obtain⟨x,h1,e1,e⟩:=of_bnd e
  refine⟨μ,h,ρ,x,h1,R,er,e1,fun μ1 H1 E1 R1=>?_⟩
  cases x with
  | false=>rw[if_neg Bool.false_ne_true] at e ⊢; exact⟨μ1,h1,ρ,w,h',R1,er.ext R E1,e,fun μ2 H2 E2 R2=>k μ2 H2 (E1.trans E2) R2⟩
  | true=>rw[if_pos rfl] at e ⊢; cases e; exact k μ1 H1 E1 R1
theorem st_bool(h:SW X cl a ta):ST X cl a ta:=h.pt
theorem st_not(ha:ST X cl a ta):ST X cl (.UnaryOp .Not a pos) (tNotM ta):=
 PT.wk (pt_not ha) fun σ H Q q0=>by
  obtain⟨μ,h,ρ,w,h',R,er,e,k⟩:=q0
  obtain⟨x,h1,e1,e⟩:=of_bnd e
  cases e
  exact⟨μ,h,ρ,x,_,R,er,e1,fun μ1 H1 E1 R1=>k μ1 H1 E1 R1⟩
theorem se_one{op}(h:SE X cl a ma):SE X cl (.BoolOp op [a] pos) ma:=pe_one h
theorem se_and(ha:SE X cl a ma)(hb:SE X cl (.BoolOp .And (b::rest) pos) mb):SE X cl (.BoolOp .And (a::b::rest) pos) (eAnd ma mb):=
 PE.wk (pe_and ha hb) fun σ H Q q0=>by
  obtain⟨μ,h,ρ,w,h',R,er,e,k⟩:=q0
  obtain⟨x,h1,e1,e⟩:=of_bnd e
  obtain⟨c,h2,e2,e⟩:=of_bnd e
  obtain⟨rfl,rfl⟩:=asB_of e2
  refine⟨μ,h,ρ,_,h1,R,er,e1,fun μ1 H1 vx E1 R1 rx=>⟨c,rx.bl_of,?_⟩⟩
  cases c with
  | true=>rw[if_pos rfl] at e ⊢; exact⟨μ1,h1,ρ,w,h',R1,er.ext R E1,e,k.ext E1⟩
  | false=>rw[if_neg Bool.false_ne_true] at e ⊢; cases e; exact k μ1 H1 _ E1 R1 (.bl false)
theorem se_or(ha:SE X cl a ma)(hb:SE X cl (.BoolOp .Or (b::rest) pos) mb):SE X cl (.BoolOp .Or (a::b::rest) pos) (eOr ma mb):=
 PE.wk (pe_or ha hb) fun σ H Q q0=>by
  obtain⟨μ,h,ρ,w,h',R,er,e,k⟩:=q0
  obtain⟨x,h1,e1,e⟩:=of_bnd e
  obtain⟨c,h2,e2,e⟩:=of_bnd e
  obtain⟨rfl,rfl⟩:=asB_of e2
  refine⟨μ,h,ρ,_,h1,R,er,e1,fun μ1 H1 vx E1 R1 rx=>⟨c,rx.bl_of,?_⟩⟩
  cases c with
  | false=>rw[if_neg Bool.false_ne_true] at e ⊢; exact⟨μ1,h1,ρ,w,h',R1,er.ext R E1,e,k.ext E1⟩
  | true=>rw[if_pos rfl] at e ⊢; cases e; exact k μ1 H1 _ E1 R1 (.bl true)
theorem se_not(ha:SE X cl a ma):SE X cl (.UnaryOp .Not a pos) (eNot ma):=
 PE.wk (pe_not ha) fun σ H Q q0=>by
  obtain⟨μ,h,ρ,w,h',R,er,e,k⟩:=q0
  obtain⟨x,h1,e1,e⟩:=of_bnd e
  obtain⟨c,h2,e2,e⟩:=of_bnd e
  obtain⟨rfl,rfl⟩:=asB_of e2
  cases e
  exact⟨μ,h,ρ,_,_,R,er,e1,fun μ1 H1 vx E1 R1 rx=>⟨c,rx.bl_of,k μ1 H1 _ E1 R1 (.bl _)⟩⟩
theorem se_if{t:Expr}(ht:ST X cl t ta)(ha:SE X cl a ma)(hb:SE X cl b mb):SE X cl (.IfExp t a b pos) (eIf ta ma mb):=
 PE.wk (pe_ifExp ht ha hb) fun σ H Q q0=>by
  obtain⟨μ,h,ρ,w,h',R,er,e,k⟩:=q0
  obtain⟨x,h1,e1,e⟩:=of_bnd e
  refine⟨μ,h,ρ,x,h1,R,er,e1,fun μ1 H1 E1 R1=>?_⟩
  cases x with
  | true=>rw[if_pos rfl] at e ⊢; exact⟨μ1,h1,ρ,w,h',R1,er.ext R E1,e,k.ext E1⟩
  | false=>rw[if_neg Bool.false_ne_true] at e ⊢; exact⟨μ1,h1,ρ,w,h',R1,er.ext R E1,e,k.ext E1⟩
variable{es:List Expr}{ms:List ME}{e:Expr}{m:ME}
theorem sa_nil:SA X cl [] []:=PA.wk pa_nil fun σ H Q q0=>by
 obtain⟨μ,h,ρ,ws,h',R,er,e,k⟩:=q0
 cases e
 exact k μ H [] .refl R .nil
theorem sa_cons(ha:SE X cl e m)(hr:SA X cl es ms)(hs:starEach (e::es) X.env=(false,eval e X.env)::starEach es X.env:=by rfl):SA X cl (e::es) (m::ms):=
 PA.wk (pa_cons ha hr hs) fun σ H Q q0=>by
  obtain⟨μ,h,ρ,ws,h',R,er,e,k⟩:=q0
  obtain⟨x,h1,e1,e⟩:=of_bnd e
  obtain⟨xs,h2,e2,e⟩:=of_bnd e
  cases e
  exact⟨μ,h,ρ,x,h1,R,er,e1,fun μ1 H1 vx E1 R1 rx=>⟨μ1,h1,ρ,xs,_,R1,er.ext R E1,e2,fun μ2 H2 vs E2 R2 rs=>k μ2 H2 _ (E1.trans E2) R2 (.cons (rx.ext R1 E2) rs)⟩⟩
noncomputable def cap:Nat:=1000000
theorem cap_le:cap≤sizeLine:=by decide
noncomputable def tupW:List W→M W:=fun ws h=>if ws.length≤cap then some (.tup ws,h) else none
noncomputable def flsW:List W→M W:=fun ws h=>if ws.length≤cap then some (.fls ws,h) else none
noncomputable def lstW:List W→M W:=fun ws h=>if ws.length≤cap then some (.ref h.length,h++[.lst ws]) else none
theorem KQ.tup{K:PySem.W.Frag}{ws:List W}{xs:List V}{Q:VK}{p:Addr}(k:KQ K cl μ H h (.tup ws) Q)(R:HR K cl μ H h)(rs:RWs K μ H ws xs)(hp:H p=none):Q (.ref p) (upd H p (.tup xs)):=
 k μ _ _ (.side hp) (R.side hp) (.tup (SqT.of upd_same) (rs.ext R (.side hp)))
theorem KQ.lst{K:PySem.W.Frag}{ws:List W}{xs:List V}{Q:VK}{p:Addr}(k:KQ K cl μ H (h++[.lst ws]) (.ref h.length) Q)(R:HR K cl μ H h)(rs:RWs K μ H ws xs)(hp:H p=none):Q (.ref p) (upd H p (.lst xs)):=
 k (μ++[p]) _ _ (.new hp) (R.new hp ⟨xs,upd_same,rs.ext R (.new hp)⟩) (.ref (by rw[←R.len]; simp))
theorem KQ.fls{K:PySem.W.Frag}{ws:List W}{xs:List V}{Q:VK}{p:Addr}(k:KQ K cl μ H h (.fls ws) Q)(R:HR K cl μ H h)(rs:RWs K μ H ws xs)(hp:H p=none):Q (.ref p) (upd H p (.lst xs)):=
 k μ _ _ (.side hp) (R.side hp) (.fls (.inl ⟨.inl upd_same,R.fresh hp⟩) (rs.ext R (.side hp)))
theorem se_tup{x1}(hs:SA X cl es ms):SE X cl (.Tuple es x1 pos) (eArgs tupW ms):=
 PE.wk (pe_tup hs) fun σ H Q q0=>by
  obtain⟨μ,h,ρ,w,h',R,er,e,k⟩:=q0
  obtain⟨ws,h1,e1,e⟩:=of_bnd e
  refine⟨μ,h,ρ,ws,h1,R,er,e1,fun μ1 H1 vs E1 R1 rs=>?_⟩
  unfold tupW at e
  split at e
  .rename_i hl
   cases e
   exact⟨Nat.le_trans (by rw[←rs.length]; exact hl) cap_le,fun p hp=>(k.ext E1).tup R1 rs hp⟩
  .cases e
theorem se_fls(hs:SA X cl es ms):SE X cl (.List es pos) (eArgs flsW ms):=
 PE.wk (pe_lst hs) fun σ H Q q0=>by
  obtain⟨μ,h,ρ,w,h',R,er,e,k⟩:=q0
  obtain⟨ws,h1,e1,e⟩:=of_bnd e
  refine⟨μ,h,ρ,ws,h1,R,er,e1,fun μ1 H1 vs E1 R1 rs=>?_⟩
  unfold flsW at e
  split at e
  .rename_i hl
   cases e
   exact⟨Nat.le_trans (by rw[←rs.length]; exact hl) cap_le,fun p hp=>(k.ext E1).fls R1 rs hp⟩
  .cases e
theorem se_lst(hs:SA X cl es ms):SE X cl (.List es pos) (eArgs lstW ms):=
 PE.wk (pe_lst hs) fun σ H Q q0=>by
  obtain⟨μ,h,ρ,w,h',R,er,e,k⟩:=q0
  obtain⟨ws,h1,e1,e⟩:=of_bnd e
  refine⟨μ,h,ρ,ws,h1,R,er,e1,fun μ1 H1 vs E1 R1 rs=>?_⟩
  unfold lstW at e
  split at e
  .rename_i hl
   cases e
   exact⟨Nat.le_trans (by rw[←rs.length]; exact hl) cap_le,fun p hp=>(k.ext E1).lst R1 rs hp⟩
  .cases e
end
noncomputable def spM(K:PySem.W.Frag)(cl:Nat→Addr)(f:List W→M W):Sp:=fun vs H Q _=>rMs K cl f vs H Q
mutual
noncomputable def low(m:Nat):W→Bool
 | .tup l=>lows m l
 | .fls l=>lows m l
 | .ref n=>decide (n<m)
 | .fdc l=>lowk m l
 | _=>true
noncomputable def lowk(m:Nat):List (Key×W)→Bool
 | []=>true
 | (_,w)::r=>low m w&&lowk m r
noncomputable def lows(m:Nat):List W→Bool
 | []=>true
 | w::r=>low m w&&lows m r
end
open Classical in
noncomputable def gc(f:List W→M W):List W→M W:=fun ws h=>match f ws h with
 | some (w,h')=>if h<+:h' then (if low h.length w=true then some (w,h) else match w with
   | .ref n=>match h'[n]? with
    | some (.lst l)=>if lows h.length l=true then some (.fls l,h) else some (w,h')
    | _=>some (w,h')
   | _=>some (w,h')) else some (w,h')
 | none=>none
theorem gc_pure{f:List W→M W}{ws:List W}{h h':MH}{w:W}(e:f ws h=some (w,h'))(p:low h.length w=true)(q:h<+:h'):gc f ws h=some (w,h):=by
 unfold gc; rw[e]; simp only[p,q,if_true]
theorem lowk_eq(m:Nat):∀l:List (Key×W),lowk m l=lows m (l.map (·.2))
 | []=>by unfold lowk lows; rfl
 | (k,w)::r=>by unfold lowk; rw[lowk_eq m r]; simp only[List.map_cons]; conv=>rhs; unfold lows
section
variable{K:PySem.W.Frag}{cl:Nat→Addr}{μ μ':List Addr}{H H':Hp}
mutual
theorem RW.low:∀{w:W} {v:V},RW K μ H w v→ML.low μ.length w=true
 | _,_,.non=>by unfold ML.low; rfl
 | _,_,.bl b=>by unfold ML.low; rfl
 | _,_,.int i=>by unfold ML.low; rfl
 | _,_,.str x=>by unfold ML.low; rfl
 | _,_,.tup s r=>by unfold ML.low; exact RWs.low r
 | _,_,.fls s r=>by unfold ML.low; exact RWs.low r
 | _,_,.fdc s k e1 e2 r=>by unfold ML.low; rw[lowk_eq,←e1]; exact RWs.low r
 | _,_,.fn=>by unfold ML.low; rfl
 | _,_,.ref e=>by unfold ML.low; simpa using (List.getElem?_eq_some_iff.mp e).1
theorem RWs.low:∀{l:List W} {vs:List V},RWs K μ H l vs→lows μ.length l=true
 | _,_,.nil=>by unfold lows; rfl
 | _,_,.cons r t=>by unfold lows; rw[RW.low r,RWs.low t]; rfl
end
mutual
theorem RW.cut(pre:μ<+:μ'):∀{w:W} {v:V},ML.low μ.length w=true→RW K μ' H w v→RW K μ H w v
 | _,_,_,.non=>.non
 | _,_,_,.bl b=>.bl b
 | _,_,_,.int i=>.int i
 | _,_,_,.str x=>.str x
 | .tup l,_,p,.tup s r=>.tup s (RWs.cut pre (by unfold ML.low at p; exact p) r)
 | .fls l,_,p,.fls s r=>.fls (s.elim (fun z=>.inl ⟨z.1,fun q=>z.2 (pre.subset q)⟩) .inr) (RWs.cut pre (by unfold ML.low at p; exact p) r)
 | .fdc l,_,p,.fdc s k e1 e2 r=>.fdc ⟨s.1,fun q=>s.2 (pre.subset q)⟩ k e1 e2 (RWs.cut pre (by unfold ML.low at p; rw[lowk_eq,←e1] at p; exact p) r)
 | .fn _,_,_,.fn=>.fn
 | .ref n,_,p,.ref e=>by
  have p':n<μ.length:=by unfold ML.low at p; simpa using p
  obtain⟨t,rfl⟩:=pre
  rw[List.getElem?_append_left p'] at e
  exact .ref e
theorem RWs.cut(pre:μ<+:μ'):∀{l:List W} {vs:List V},lows μ.length l=true→RWs K μ' H l vs→RWs K μ H l vs
 | _,_,_,.nil=>.nil
 | w::l,_,p,.cons r t=>by
  have p':ML.low μ.length w=true∧lows μ.length l=true:=by unfold lows at p; simpa using p
  exact .cons (RW.cut pre p'.1 r) (RWs.cut pre p'.2 t)
end
theorem HR.cut{h h':MH}(R:HR K cl μ H h)(E:Ext μ H μ' H')(R':HR K cl μ' H' h')(p:h<+:h'):HR K cl μ H' h:=by
 obtain⟨t,rfl⟩:=p
 refine⟨R.len,R.nd,fun n a o e1 e2=>?_⟩
 have q:=R.ob n a o e1 e2
 have q':=R'.ob n a o (E.get e1) (by rw[List.getElem?_append_left (List.getElem?_eq_some_iff.mp e2).1]; exact e2)
 cases o with
 | lst l=>obtain⟨vs0,_,r0⟩:=q; obtain⟨vs,z,r⟩:=q'; exact⟨vs,z,RWs.cut E.pre r0.low r⟩
 | dic l=>obtain⟨l0,_,_,r0⟩:=q; obtain⟨l',z,k,r⟩:=q'; exact⟨l',z,k,RWs.cut E.pre r0.low r⟩
 | ins c fs=>obtain⟨_,fs0,_,_,r0⟩:=q; obtain⟨dx,fs',z,k,r⟩:=q'; exact⟨dx,fs',z,k,RWs.cut E.pre r0.low r⟩
theorem gc_ok{f:List W→M W}{vs:List V}{Q:VK}{E:XK}(q:spM K cl (gc f) vs H Q E):spM K cl f vs H Q E:=by
 obtain⟨μ,h,ws,w,h',R,rs,e,k⟩:=q
 unfold gc at e
 split at e
 .rename_i w1 h1 e1
  have plain:∀{w h'},some (w1,h1)=some (w,h')→KQ K cl μ H h' w Q→spM K cl f vs H Q E:=fun q k=>by cases q; exact⟨μ,h,ws,_,_,R,rs,e1,k⟩
  split at e
  .rename_i c
   have cut:∀{μ' H'},Ext μ H μ' H'→Ext μ H μ H':=fun E'=>⟨List.prefix_refl _,fun b o e n=>⟨(E'.fr b o e n).1,n⟩⟩
   split at e
   .rename_i p
    cases e
    refine⟨μ,h,ws,_,h1,R,rs,e1,fun μ' H' v E' R' r'=>?_⟩
    exact k μ H' v (cut E') (R.cut E' R' c) (RW.cut E'.pre (by rw[R.len]; exact p) r')
   .rename_i p
    split at e
    .rename_i n
     split at e
     .rename_i l ho
      split at e
      .rename_i pl
       cases e
       refine⟨μ,h,ws,_,h1,R,rs,e1,fun μ' H' v E' R' r'=>?_⟩
       cases r' with
       | @ref _ a hm=>
        obtain⟨vs',hv,rv⟩:=R'.ob n a _ hm ho
        refine k μ H' _ (cut E') (R.cut E' R' c) (.fls (.inl ⟨.inl hv,fun z=>?_⟩) (RWs.cut E'.pre (by rw[R.len]; exact pl) rv))
        obtain⟨m,hmm⟩:=List.mem_iff_getElem?.mp z
        have h2:=E'.get hmm
        have hlt:m<μ.length:=(List.getElem?_eq_some_iff.mp hmm).1
        obtain⟨z1,z2⟩:=List.getElem?_eq_some_iff.mp h2
        obtain⟨z3,z4⟩:=List.getElem?_eq_some_iff.mp hm
        have:m=n:=(List.getElem_inj R'.nd).mp (z2.trans z4.symm)
        subst this
        refine p ?_
        unfold low
        rw[R.len] at hlt
        simpa using hlt
      .exact plain e k
     .exact plain e k
    .exact plain e k
  .exact plain e k
 .cases e
end
section
variable{X:Cx}{cl:Nat→Addr}{k:Nat}{f:Addr}{fd:FuncData}{ps:List Str}{x:Str}{p pos:Pos}{e:Expr}{es:List Expr}{g:List W→M W}{m:ME}{ms:List ME}
theorem args_read{K:PySem.W.Frag}{f:List W→M W}{σ:L2.St}{H:Hp}{Q:VK}(q:tM K cl (eArgs f ms) σ H Q):tMA K cl ms σ H fun vs H1=>rMs K cl f vs H1 Q:=by
 obtain⟨μ,h,ρ,w,h',R,er,e,k⟩:=q
 obtain⟨ws,h1,e1,e⟩:=of_bnd e
 exact⟨μ,h,ρ,ws,h1,R,er,e1,fun μ1 H1 vs E1 R1 rs=>⟨μ1,h1,ws,w,h',R1,rs,e,k.ext E1⟩⟩
theorem se_call(F:FnOk X.prog X.w X.K X.mg X.base CX0 k f fd ps (spM X.K cl g))(hr:Room k X.A)(hm:X.mg x=some (.ref f))(hk:PySem.W.keepIn X.K (.ref f)=true)(hb:Binds X.K fd ps [])
  (ha:SA X cl (e::es) ms) (hg:Gl X x:=by rfl) (hdb:(x==("__debug__":Str))=false:=by decide) (hst:starEach (e::es) X.env=(false,eval e X.env)::starEach es X.env:=by rfl) (hpl:(backTo pos (starEach es X.env)).any (·.1)=false:=by rfl):SE X cl (.Call (.Name x p) (e::es) [] pos) (eArgs g ms):=
 PE.wk (pe_call F hr hg hm hk hb .nil pass0 ha hdb hst hpl) fun σ H Q q=>by
  obtain⟨μ,h,ρ,ws,h1,R,er,e1,k1⟩:=args_read q
  exact⟨μ,h,ρ,ws,h1,R,er,e1,fun μ1 H1 vs E1 R1 rs=>by show spM X.K cl g (vs++[]) H1 Q E0; rw[List.append_nil]; exact k1 μ1 H1 vs E1 R1 rs⟩
theorem se_call0(F:FnOk X.prog X.w X.K X.mg X.base CX0 k f fd ps (spM X.K cl g))(hr:Room k X.A)(hm:X.mg x=some (.ref f))(hk:PySem.W.keepIn X.K (.ref f)=true)(hb:Binds X.K fd ps [])
  (hg:Gl X x:=by rfl) (hdb:(x==("__debug__":Str))=false:=by decide):SE X cl (.Call (.Name x p) [] [] pos) (eArgs g []):=
 PE.wk (pe_call0 F hr hg hm hk hb .nil pass0 hdb) fun σ H Q q=>by
  obtain⟨μ,h,ρ,ws,h1,R,er,e1,k1⟩:=args_read q
  cases e1
  exact k1 μ H [] .refl R .nil
theorem se_callB{id:String}(hc:CallR X (.builtin id) (rMs X.K cl g))(hm:X.mg x=none)(hv:bootBuiltins x=some (.builtin id))(ha:SA X cl (e::es) ms)(hg:Gl X x:=by rfl)(hn:x≠"__name__":=by decide)(hdb:(x==("__debug__":Str))=false:=by decide)(hst:starEach (e::es) X.env=(false,eval e X.env)::starEach es X.env:=by rfl)(hpl:(backTo pos (starEach es X.env)).any (·.1)=false:=by rfl) :
  SE X cl (.Call (.Name x p) (e::es) [] pos) (eArgs g ms):=
 PE.wk (pe_callB hc hg hm hv ha hn hdb hst hpl) fun σ H Q q=>args_read q
theorem se_callTy{id:String}(hc:CallR X (.type id) (rMs X.K cl g))(hm:X.mg x=none)(hv:bootBuiltins x=some (.type id))(ha:SA X cl (e::es) ms)(hg:Gl X x:=by rfl)(hn:x≠"__name__":=by decide)(hdb:(x==("__debug__":Str))=false:=by decide)(hst:starEach (e::es) X.env=(false,eval e X.env)::starEach es X.env:=by rfl)(hpl:(backTo pos (starEach es X.env)).any (·.1)=false:=by rfl) :
  SE X cl (.Call (.Name x p) (e::es) [] pos) (eArgs g ms):=
 PE.wk (pe_callTy hc hg hm hv ha hn hdb hst hpl) fun σ H Q q=>args_read q
end
inductive Fl where
 | nx (ρ:En) | ret (w:W) | bk (ρ:En) | ct (ρ:En)
abbrev MS:=En→MH→Option (Fl×MH)
abbrev MG:=W→En→M En
noncomputable def KF(K:PySem.W.Frag)(cl:Nat→Addr)(μ:List Addr)(H:Hp)(h':MH)(fl:Fl)(D:Ends):Prop:=∀μ' H',Ext μ H μ' H'→HR K cl μ' H' h'→match fl with
 | .nx ρ=>∀σ,ER K μ' H' ρ σ→D.nx σ H'
 | .ret w=>∀v,RW K μ' H' w v→D.rt v H'
 | .bk ρ=>∀σ,ER K μ' H' ρ σ→D.bk σ H'
 | .ct ρ=>∀σ,ER K μ' H' ρ σ→D.ct σ H'
inductive tMS(K:PySem.W.Frag)(cl:Nat→Addr)(m:MS)(D:Ends)(σ:L2.St)(H:Hp):Prop
 | mk (μ:List Addr) (h:MH) (ρ:En) (fl:Fl) (h':MH) (p0:HR K cl μ H h) (p1:ER K μ H ρ σ) (p2:m ρ h=some (fl,h')) (p3:KF K cl μ H h' fl D):tMS K cl m D σ H
abbrev SS(X:Cx)(cl:Nat→Addr)(st:Stmt)(m:MS):Prop:=PS X st (tMS X.K cl m)
abbrev SB(X:Cx)(cl:Nat→Addr)(st:List Stmt)(m:MS):Prop:=PSs X st (tMS X.K cl m)
inductive tMG(K:PySem.W.Frag)(cl:Nat→Addr)(g:MG)(v:V)(σ:L2.St)(H:Hp)(Q:L2.St→Hp→Prop):Prop
 | mk (μ:List Addr) (h:MH) (ρ:En) (w:W) (ρ':En) (h':MH) (p0:HR K cl μ H h) (p1:ER K μ H ρ σ) (p2:RW K μ H w v) (p3:g w ρ h=some (ρ',h')) (p4:∀μ' H' σ',Ext μ H μ' H'→HR K cl μ' H' h'→ER K μ' H' ρ' σ'→Q σ' H'):tMG K cl g v σ H Q
abbrev SG(X:Cx)(cl:Nat→Addr)(e:Expr)(g:MG):Prop:=PG X e (tMG X.K cl g)
theorem PG.wk{X:Cx}{e:Expr}{t t':TG}(h:PG X e t)(w:∀v σ H Q,t' v σ H Q→t v σ H Q):PG X e t':=fun pins s σ H v u Q I r q=>h pins s σ H v u Q I r (w v σ H Q q)
theorem KF.ext{K:PySem.W.Frag}{cl:Nat→Addr}{μ μ':List Addr}{H H':Hp}{h:MH}{fl:Fl}{D:Ends}(E:Ext μ H μ' H')(k:KF K cl μ H h fl D):KF K cl μ' H' h fl D:=fun μ2 H2 E2 R2=>k μ2 H2 (E.trans E2) R2
theorem KF.nx{K:PySem.W.Frag}{cl:Nat→Addr}{μ:List Addr}{H:Hp}{h:MH}{ρ:En}{σ:L2.St}{D:Ends}(k:KF K cl μ H h (.nx ρ) D)(R:HR K cl μ H h)(er:ER K μ H ρ σ):D.nx σ H:=k μ H .refl R σ er
noncomputable def sNext:MS:=fun ρ h=>some (.nx ρ,h)
noncomputable def sSeq(a b:MS):MS:=fun ρ h=>match a ρ h with
 | some (.nx ρ',h')=>b ρ' h'
 | r=>r
noncomputable def sExpr(m:ME):MS:=fun ρ h=>match m ρ h with
 | some (_,h')=>some (.nx ρ,h')
 | none=>none
noncomputable def sRet(m:ME):MS:=fun ρ h=>match m ρ h with
 | some (w,h')=>some (.ret w,h')
 | none=>none
noncomputable def sIf(t:MT)(a b:MS):MS:=fun ρ h=>match t ρ h with
 | some (c,h')=>if c=true then a ρ h' else b ρ h'
 | none=>none
noncomputable def sAsg(m:ME)(g:MG):MS:=fun ρ h=>match m ρ h with
 | some (w,h')=>match g w ρ h' with
  | some (ρ',h2)=>some (.nx ρ',h2)
  | none=>none
 | none=>none
noncomputable def gNm(i:Nat):MG:=fun w ρ h=>if i<ρ.length then some (ρ.set i (some w),h) else none
noncomputable def gTps:List MG→List W→En→M En
 | [],[]=>fun ρ h=>some (ρ,h)
 | g::gs,w::ws=>fun ρ=>bnd (g w ρ) fun ρ'=>gTps gs ws ρ'
 | _,_=>fun _ _=>none
noncomputable def gTp(gs:List MG):MG:=fun w=>match w with
 | .tup ws=>gTps gs ws
 | _=>fun _ _=>none
noncomputable def sAug(i:Nat)(f:W→W→M W)(m:ME):MS:=fun ρ h=>match ρ[i]? with
 | some (some x)=>match m ρ h with
  | some (y,h1)=>match f x y h1 with
   | some (z,h2)=>if i<ρ.length then some (.nx (ρ.set i (some z)),h2) else none
   | none=>none
  | none=>none
 | _=>none
section
variable{X:Cx}{cl:Nat→Addr}{st:Stmt}{rest:List Stmt}{a b:MS}{e:Expr}{m:ME}{pos:Pos}
theorem ER.set{K:PySem.W.Frag}{μ:List Addr}{H:Hp}{ρ:En}{σ:L2.St}{i:Nat}{w:W}{v:V}(er:ER K μ H ρ σ)(hi:i<ρ.length)(r:RW K μ H w v):ER K μ H (ρ.set i (some w)) (σ.set i (some v)):=by
 refine⟨by simp[er.len],fun j w' e=>?_⟩
 by_cases hj:j=i
 .subst hj
  rw[List.getElem?_set_self hi] at e
  cases e
  exact⟨v,by rw[List.getElem?_set_self (by rw[←er.len]; exact hi)],r⟩
 .rw[List.getElem?_set_ne (Ne.symm hj)] at e
  obtain⟨v',e',r'⟩:=er.at_ j w' e
  exact⟨v',by rw[List.getElem?_set_ne (Ne.symm hj)]; exact e',r'⟩
theorem sb_nil:SB X cl [] sNext:=PSs.wk pss_nil fun D σ H q0=>by
 obtain⟨μ,h,ρ,fl,h',R,er,e,k⟩:=q0
 cases e
 exact k.nx R er
theorem sb_one(h1:SS X cl st a):SB X cl [st] a:=pss_one h1
theorem sb_cons(h1:SS X cl st a)(h2:SB X cl rest b):SB X cl (st::rest) (sSeq a b):=PSs.wk (pss_cons h1 h2) fun D σ H q0=>by
 obtain⟨μ,h,ρ,fl,h',R,er,e,k⟩:=q0
 unfold sSeq at e
 split at e
 .rename_i ρ1 h1 e1
  exact⟨μ,h,ρ,_,h1,R,er,e1,fun μ1 H1 E1 R1 σ1 er1=>⟨μ1,h1,ρ1,fl,h',R1,er1,e,k.ext E1⟩⟩
 .rename_i r hr
  refine⟨μ,h,ρ,fl,h',R,er,e,fun μ1 H1 E1 R1=>?_⟩
  have k1:=k μ1 H1 E1 R1
  cases fl with
  | nx ρ1=>exact absurd e (hr ρ1 h')
  | ret w=>exact k1
  | bk ρ1=>exact k1
  | ct ρ1=>exact k1
theorem ss_pass:SS X cl (.Pass pos) sNext:=PS.wk ps_pass fun D σ H q0=>by
 obtain⟨μ,h,ρ,fl,h',R,er,e,k⟩:=q0
 cases e
 exact k.nx R er
theorem ss_expr(he:SE X cl e m)(hs:swapsWith e none pos.line X.env=pure false:=by rfl):SS X cl (.Expr e pos) (sExpr m):=PS.wk (ps_expr he hs) fun D σ H q0=>by
 obtain⟨μ,h,ρ,fl,h',R,er,e,k⟩:=q0
 unfold sExpr at e
 split at e
 .rename_i w h1 e1
  cases e
  exact⟨μ,h,ρ,w,_,R,er,e1,fun μ1 H1 v E1 R1 _=>k μ1 H1 E1 R1 σ (er.ext R E1)⟩
 .cases e
theorem ss_ret(he:SE X cl e m):SS X cl (.Return (some e) pos) (sRet m):=PS.wk (ps_ret he) fun D σ H q0=>by
 obtain⟨μ,h,ρ,fl,h',R,er,e,k⟩:=q0
 unfold sRet at e
 split at e
 .rename_i w h1 e1
  cases e
  exact⟨μ,h,ρ,w,_,R,er,e1,fun μ1 H1 v E1 R1 r=>k μ1 H1 E1 R1 v r⟩
 .cases e
theorem ss_if{c:Expr}{t:MT}{sa sb:List Stmt}(hc:ST X cl c t)(ha:SB X cl sa a)(hb:SB X cl sb b):SS X cl (.If c sa sb pos) (sIf t a b):=PS.wk (ps_if hc ha hb) fun D σ H q0=>by
 obtain⟨μ,h,ρ,fl,h',R,er,e,k⟩:=q0
 unfold sIf at e
 split at e
 .rename_i c h1 e1
  refine⟨μ,h,ρ,c,h1,R,er,e1,fun μ1 H1 E1 R1=>?_⟩
  cases c with
  | true=>rw[if_pos rfl] at e ⊢; exact⟨μ1,h1,ρ,fl,h',R1,er.ext R E1,e,k.ext E1⟩
  | false=>rw[if_neg Bool.false_ne_true] at e ⊢; exact⟨μ1,h1,ρ,fl,h',R1,er.ext R E1,e,k.ext E1⟩
 .cases e
theorem sg_name(i:Nat){x:Str}(hN:X.N.Nodup)(hi:X.N[i]?=some x:=by rfl)(hx:Loc X.env.scope x:=by first | exact Or.inl rfl | exact Or.inr rfl)(hf:X.fn x=true∨X.env.scope.names.lookup x=some .local:=by first | exact .inl rfl | exact .inr rfl | assumption):SG X cl (.Name x pos) (gNm i):=
 PG.wk (pg_name (i:=i) hN hi hx hf) fun v σ H Q q0=>by
  obtain⟨μ,h,ρ,w,ρ',h',R,er,r,e,k⟩:=q0
  unfold gNm at e
  split at e
  .rename_i hi
   cases e
   exact k μ H _ .refl R (er.set hi r)
  .cases e
inductive tMGs(K:PySem.W.Frag)(cl:Nat→Addr)(gs:List MG)(vs:List V)(σ:L2.St)(H:Hp)(Q:L2.St→Hp→Prop):Prop
 | mk (μ:List Addr) (h:MH) (ρ:En) (ws:List W) (ρ':En) (h':MH) (p0:HR K cl μ H h) (p1:ER K μ H ρ σ) (p2:RWs K μ H ws vs) (p3:gTps gs ws ρ h=some (ρ',h')) (p4:∀μ' H' σ',Ext μ H μ' H'→HR K cl μ' H' h'→ER K μ' H' ρ' σ'→Q σ' H'):tMGs K cl gs vs σ H Q
abbrev SGs(X:Cx)(cl:Nat→Addr)(es:List Expr)(gs:List MG):Prop:=PGs X es (tMGs X.K cl gs)
theorem PGs.wk{es:List Expr}{t t':TGs}(h:PGs X es t)(w:∀v σ H Q,t' v σ H Q→t v σ H Q):PGs X es t':=fun pins s σ H v u Q I r q=>h pins s σ H v u Q I r (w v σ H Q q)
theorem sgs_nil:SGs X cl [] []:=PGs.wk pgs_nil fun vs σ H Q q0=>by
 obtain⟨μ,h,ρ,ws,ρ',h',R,er,rs,e,k⟩:=q0
 cases rs with
 | nil=>cases e; exact⟨rfl,k μ H _ .refl R er⟩
 | cons r t=>cases e
theorem sgs_cons{es:List Expr}{g:MG}{gs:List MG}(h1:SG X cl e g)(h2:SGs X cl es gs)
  (hs:(assignEach (e::es) X.env).map (·.2)=assign e X.env::(assignEach es X.env).map (·.2):=by rfl):SGs X cl (e::es) (g::gs):=PGs.wk (pgs_cons h1 h2 hs) fun vs σ H Q q0=>by
 obtain⟨μ,h,ρ,ws,ρ',h',R,er,rs,e,k⟩:=q0
 cases rs with
 | nil=>cases e
 | cons r t=>
  obtain⟨ρ1,h1,e1,e2⟩:=of_bnd e
  exact⟨_,_,rfl,μ,h,ρ,_,ρ1,h1,R,er,r,e1,fun μ1 H1 σ1 E1 R1 er1=>⟨μ1,h1,ρ1,_,ρ',h',R1,er1,t.ext R E1,e2,fun μ2 H2 σ2 E2 R2 er2=>k μ2 H2 σ2 (E1.trans E2) R2 er2⟩⟩
theorem sg_tup{es:List Expr}{n:Nat}{gs:List MG}(hc:X.calm=true)(hg:SGs X cl es gs)
  (hl:(assignEach es X.env).length=gs.length:=by rfl) (hst:(assignEach es X.env).findIdx? (·.1)=none:=by rfl):SG X cl (.Tuple es n pos) (gTp gs):=PG.wk (pg_tup hc hg hl hst) fun v σ H Q q0=>by
 obtain⟨μ,h,ρ,w,ρ',h',R,er,r,e,k⟩:=q0
 cases r with
 | @tup a vs l s rs=>
  have e':gTps gs l ρ h=some (ρ',h'):=e
  have ll:∀(gs:List MG) (l:List W) (ρ:En) (h:MH),gTps gs l ρ h=some (ρ',h')→gs.length=l.length:=by
   intro gs
   induction gs with
   | nil=>intro l ρ h e; cases l with | nil=>rfl | cons=>cases e
   | cons g gs ih=>
    intro l ρ h e
    cases l with
    | nil=>cases e
    | cons w l=>
     obtain⟨ρ1,h1,e1,e2⟩:=of_bnd e
     simp only[List.length_cons]; rw[ih l ρ1 h1 e2]
  exact⟨a,vs,rfl,s,by rw[←rs.length]; exact(ll gs l ρ h e').symm,μ,h,ρ,l,ρ',h',R,er,rs,e',k⟩
 | _=>cases e
theorem ss_asg{tg:Expr}{g:MG}(he:SE X cl e m)(hg:SG X cl tg g)(hs:swapsWithSole [tg] e pos.line X.env=pure false:=by rfl)(hw:swappedStores [tg] e X.env=pure none:=by rfl)
  (h1:(assignEach [tg] X.env).map (·.2)=[assign tg X.env]:=by rfl):SS X cl (.Assign [tg] e pos) (sAsg m g):=PS.wk (ps_asg he hg hs hw h1) fun D σ H q0=>by
 obtain⟨μ,h,ρ,fl,h',R,er,e,k⟩:=q0
 unfold sAsg at e
 split at e
 .rename_i w h1 e1
  split at e
  .rename_i ρ2 h2 e2
   cases e
   exact⟨μ,h,ρ,w,h1,R,er,e1,fun μ1 H1 v E1 R1 r=>⟨μ1,h1,ρ,w,ρ2,_,R1,er.ext R E1,r,e2,fun μ2 H2 σ2 E2 R2 er2=>k μ2 H2 (E1.trans E2) R2 σ2 er2⟩⟩
  .cases e
 .cases e
theorem ss_set(i:Nat){x:Str}{pos':Pos}(hN:X.N.Nodup)(he:SE X cl e m)(hi:X.N[i]?=some x:=by rfl)(hx:Loc X.env.scope x:=by first | exact Or.inl rfl | exact Or.inr rfl)(hs:swapsWith e (some (.Name x pos')) pos.line X.env=pure false:=by rfl)
  (hf:X.fn x=true∨X.env.scope.names.lookup x=some .local:=by first | exact .inl rfl | exact .inr rfl | assumption):SS X cl (.Assign [.Name x pos'] e pos) (sAsg m (gNm i)):=PS.wk (ps_set (i:=i) hN hi hx he hs hf) fun D σ H q0=>by
 obtain⟨μ,h,ρ,fl,h',R,er,e,k⟩:=q0
 unfold sAsg at e
 split at e
 .rename_i w h1 e1
  split at e
  .rename_i ρ2 h2 e2
   cases e
   refine⟨μ,h,ρ,w,h1,R,er,e1,fun μ1 H1 v E1 R1 r=>?_⟩
   unfold gNm at e2
   split at e2
   .rename_i hi
    cases e2
    exact k μ1 H1 E1 R1 _ ((er.ext R E1).set hi r)
   .cases e2
  .cases e
 .cases e
theorem ss_aug(i:Nat){x:Str}{op:Operator}{f:W→W→M W}{pos':Pos}(hN:X.N.Nodup)(ho:PIp X op (rM X.K cl f))(he:SE X cl e m)(hi:X.N[i]?=some x:=by rfl)(hx:Loc X.env.scope x:=by first | exact Or.inl rfl | exact Or.inr rfl)
  (hf:X.fn x=true∨X.env.scope.names.lookup x=some .local:=by first | exact .inl rfl | exact .inr rfl | assumption):SS X cl (.AugAssign (.Name x pos') op e pos) (sAug i f m):=PS.wk (ps_aug (i:=i) hN hi hx he ho hf) fun D σ H q0=>by
 obtain⟨μ,h,ρ,fl,h',R,er,e,k⟩:=q0
 unfold sAug at e
 split at e
 .rename_i w0 e0
  split at e
  .rename_i y h1 e1
   split at e
   .rename_i z h2 e2
    split at e
    .rename_i hi
     cases e
     obtain⟨v0,q0,r0⟩:=er.at_ i w0 e0
     exact⟨v0,q0,μ,h,ρ,y,h1,R,er,e1,fun μ1 H1 vy E1 R1 ry=>⟨μ1,h1,w0,y,z,_,R1,r0.ext R E1,ry,e2,fun μ2 H2 vz E2 R2 rz=>k μ2 H2 (E1.trans E2) R2 _ (((er.ext R E1).ext R1 E2).set hi rz)⟩⟩
    .cases e
   .cases e
  .cases e
 .cases e
end
noncomputable def whileN(c:MT)(b:MS):Nat→MS
 | 0=>fun _ _=>none
 | n+1=>fun ρ h=>match c ρ h with
  | some (true,h1)=>match b ρ h1 with
   | some (.nx ρ2,h2)=>whileN c b n ρ2 h2
   | some (.ct ρ2,h2)=>whileN c b n ρ2 h2
   | some (.bk ρ2,h2)=>some (.nx ρ2,h2)
   | some (.ret w,h2)=>some (.ret w,h2)
   | none=>none
  | some (false,h1)=>some (.nx ρ,h1)
  | none=>none
open Classical in
noncomputable def sWhile(c:MT)(b:MS):MS:=fun ρ h=>if q:∃n r,whileN c b n ρ h=some r then some q.choose_spec.choose else none
theorem of_sWhile{c:MT}{b:MS}{ρ:En}{h:MH}{r:Fl×MH}(e:sWhile c b ρ h=some r):∃n,whileN c b n ρ h=some r:=by
 unfold sWhile at e
 split at e
 .rename_i q
  have e1:=q.choose_spec.choose_spec
  cases e
  exact⟨_,e1⟩
 .cases e
section
variable{X:Cx}{cl:Nat→Addr}{pos:Pos}
theorem ss_while{c:Expr}{body:List Stmt}{t:MT}{b:MS}(hc:ST X cl c t)(hb:SB X cl body b)(hp:PassesOwn (model X.prog X.w) X.A X.env X.xe:=by exact PassesOwn.never):SS X cl (.While c body [] pos) (sWhile t b):=PS.wk (ps_while hp hc hb) fun D σ H q0=>by
 obtain⟨μ,h,ρ,fl,h',R,er,e,k⟩:=q0
 obtain⟨n0,e⟩:=of_sWhile e
 refine⟨fun n σ H=>∃μ h ρ fl h',HR X.K cl μ H h∧ER X.K μ H ρ σ∧whileN t b n ρ h=some (fl,h')∧KF X.K cl μ H h' fl D,⟨n0,μ,h,ρ,fl,h',R,er,e,k⟩,?_⟩
 rintro n σ H ⟨μ,h,ρ,fl,h',R,er,e,k⟩
 cases n with
 | zero=>cases e
 | succ n=>
  unfold whileN at e
  cases e1:t ρ h with
  | none=>rw[e1] at e; cases e
  | some p=>
   obtain⟨c,h1⟩:=p
   rw[e1] at e
   refine⟨μ,h,ρ,c,h1,R,er,e1,fun μ1 H1 E1 R1=>?_⟩
   cases c with
   | false=>
    rw[if_neg Bool.false_ne_true]
    cases e
    exact k μ1 H1 E1 R1 σ (er.ext R E1)
   | true=>
    rw[if_pos rfl]
    refine⟨fun σ' H'=>∃μ h ρ fl h',HR X.K cl μ H' h∧ER X.K μ H' ρ σ'∧whileN t b n ρ h=some (fl,h')∧KF X.K cl μ H' h' fl D,fun σ' H' q=>⟨n,Nat.lt_succ_self n,q⟩,?_⟩
    simp only at e
    cases e2:b ρ h1 with
    | none=>rw[e2] at e; cases e
    | some q=>
     obtain⟨f2,h2⟩:=q
     rw[e2] at e
     refine⟨μ1,h1,ρ,f2,h2,R1,er.ext R E1,e2,fun μ2 H2 E2 R2=>?_⟩
     cases f2 with
     | nx ρ2=>exact fun σ2 er2=>⟨μ2,h2,ρ2,fl,h',R2,er2,e,k.ext (E1.trans E2)⟩
     | ct ρ2=>exact fun σ2 er2=>⟨μ2,h2,ρ2,fl,h',R2,er2,e,k.ext (E1.trans E2)⟩
     | bk ρ2=>cases e; exact fun σ2 er2=>k μ2 H2 (E1.trans E2) R2 σ2 er2
     | ret w=>cases e; exact fun v rv=>k μ2 H2 (E1.trans E2) R2 v rv
end
inductive Src where
 | items (l:List W) | live (n:Nat)
noncomputable def srcAt(s:Src)(i:Nat)(h:MH):Option (Option W):=match s with
 | .items l=>some l[i]?
 | .live n=>match h[n]? with
  | some (.lst l)=>some l[i]?
  | _=>none
noncomputable def JR(K:PySem.W.Frag)(cl:Nat→Addr)(J:It)(s:Src)(μ:List Addr)(H:Hp):Prop:=∀μ2 H2 h2,Ext μ H μ2 H2→HR K cl μ2 H2 h2→∀i,
 (∀w,srcAt s i h2=some (some w)→J.go i H2∧∀x H3,J.yld i H2 x H3→Ext μ2 H2 μ2 H3∧HR K cl μ2 H3 h2∧RW K μ2 H3 w x)∧(srcAt s i h2=some none→J.stop i H2)
abbrev MI:=En→M Src
inductive tMI(K:PySem.W.Frag)(cl:Nat→Addr)(m:MI)(σ:L2.St)(H:Hp)(R:It→Hp→Prop):Prop
 | mk (μ:List Addr) (h:MH) (ρ:En) (src:Src) (h':MH) (p0:HR K cl μ H h) (p1:ER K μ H ρ σ) (p2:m ρ h=some (src,h')) (p3:∀μ' H' J,Ext μ H μ' H'→HR K cl μ' H' h'→JR K cl J src μ' H'→R J H'):tMI K cl m σ H R
abbrev SI(X:Cx)(cl:Nat→Addr)(tg e:Expr)(m:MI):Prop:=PI X tg e (tMI X.K cl m)
theorem PI.wk{X:Cx}{tg e:Expr}{t t':TI}(h:PI X tg e t)(w:∀σ H Q,t' σ H Q→t σ H Q):PI X tg e t':=fun pins s σ H Q I q=>h pins s σ H Q I (w σ H Q q)
theorem JR.ext{K:PySem.W.Frag}{cl:Nat→Addr}{J:It}{s:Src}{μ μ':List Addr}{H H':Hp}(E:Ext μ H μ' H')(j:JR K cl J s μ H):JR K cl J s μ' H':=fun μ2 H2 h2 E2=>j μ2 H2 h2 (E.trans E2)
noncomputable def forN(s:Src)(g:MG)(b:MS):Nat→Nat→MS
 | 0,_=>fun _ _=>none
 | k+1,i=>fun ρ h=>match srcAt s i h with
  | some (some w)=>match g w ρ h with
   | some (ρ1,h1)=>match b ρ1 h1 with
    | some (.nx ρ2,h2)=>forN s g b k (i+1) ρ2 h2
    | some (.ct ρ2,h2)=>forN s g b k (i+1) ρ2 h2
    | some (.bk ρ2,h2)=>some (.nx ρ2,h2)
    | some (.ret w,h2)=>some (.ret w,h2)
    | none=>none
   | none=>none
  | some none=>some (.nx ρ,h)
  | none=>none
noncomputable def forL(g:MG)(b:MS):List W→MS
 | []=>fun ρ h=>some (.nx ρ,h)
 | w::r=>fun ρ h=>match g w ρ h with
  | some (ρ1,h1)=>match b ρ1 h1 with
   | some (.nx ρ2,h2)=>forL g b r ρ2 h2
   | some (.ct ρ2,h2)=>forL g b r ρ2 h2
   | some (.bk ρ2,h2)=>some (.nx ρ2,h2)
   | some (.ret w,h2)=>some (.ret w,h2)
   | none=>none
  | none=>none
theorem forN_items{g:MG}{b:MS}(l:List W):∀(k i:Nat) (ρ:En) (h:MH),l.length+1≤i+k→i≤l.length→forN (.items l) g b k i ρ h=forL g b (l.drop i) ρ h
 | 0,i,ρ,h,hk,hi=>by omega
 | k+1,i,ρ,h,hk,hi=>by
  by_cases hl:i<l.length
  .rw[List.drop_eq_getElem_cons hl]
   unfold forN forL
   simp only[srcAt,List.getElem?_eq_getElem hl]
   cases e1:g l[i] ρ h with
   | none=>rfl
   | some p=>
    obtain⟨ρ1,h1⟩:=p
    simp only
    cases e2:b ρ1 h1 with
    | none=>rfl
    | some q=>
     obtain⟨fl,h2⟩:=q
     cases fl with
     | nx ρ2=>exact forN_items l k (i+1) ρ2 h2 (by omega) hl
     | ct ρ2=>exact forN_items l k (i+1) ρ2 h2 (by omega) hl
     | bk ρ2=>rfl
     | ret w=>rfl
  .have hi':i=l.length:=by omega
   subst hi'
   rw[List.drop_length]
   unfold forN forL
   simp[srcAt]
noncomputable def srcLen(s:Src)(h:MH):Nat:=match s with
 | .items l=>l.length
 | .live n=>match h[n]? with
  | some (.lst l)=>l.length
  | _=>0
noncomputable def sFor(mi:MI)(g:MG)(b:MS):MS:=fun ρ h=>match mi ρ h with
 | some (.items l,h1)=>forL g b l ρ h1
 | some (.live n,h1)=>forN (.live n) g b (srcLen (.live n) h1+1) 0 ρ h1
 | none=>none
section
variable{X:Cx}{cl:Nat→Addr}{pos:Pos}
theorem for_read{K:PySem.W.Frag}{J:It}{src:Src}{g:MG}{b:MS}{D:Ends}{σ:L2.St}{μ:List Addr}{H:Hp}{h h':MH}{ρ:En}{fl:Fl}{k0:Nat}(R:HR K cl μ H h)(er:ER K μ H ρ σ)(j:JR K cl J src μ H)(e:forN src g b k0 0 ρ h=some (fl,h'))
  (k:KF K cl μ H h' fl D):∃W:Nat→Nat→L2.St→Hp→Prop,(∃m,W 0 m σ H)∧∀i m σ H,W i m σ H→
   (J.stop i H∧D.nx σ H)∨(J.go i H∧∃N:L2.St→Hp→Prop,(∀σ' H',N σ' H'→∃m',m'<m∧W (i+1) m' σ' H')∧∀x H',J.yld i H x H'→tMG K cl g x σ H' fun σ2 H2=>tMS K cl b { D with nx:=N,ct:=N,bk:=D.nx } σ2 H2):=by
 refine⟨fun i m σ H=>∃μ h ρ fl h',HR K cl μ H h∧ER K μ H ρ σ∧JR K cl J src μ H∧forN src g b m i ρ h=some (fl,h')∧KF K cl μ H h' fl D,⟨k0,μ,h,ρ,fl,h',R,er,j,e,k⟩,?_⟩
 rintro i m σ H ⟨μ,h,ρ,fl,h',R,er,j,e,k⟩
 cases m with
 | zero=>cases e
 | succ m=>
  unfold forN at e
  obtain⟨jg,js⟩:=j μ H h .refl R i
  cases es:srcAt src i h with
  | none=>rw[es] at e; cases e
  | some o=>
   rw[es] at e
   cases o with
   | none=>
    cases e
    exact .inl ⟨js es,k.nx R er⟩
   | some w=>
    obtain⟨go,yl⟩:=jg w es
    simp only at e
    cases e1:g w ρ h with
    | none=>rw[e1] at e; cases e
    | some p=>
     obtain⟨ρ1,h1⟩:=p
     rw[e1] at e
     simp only at e
     cases e2:b ρ1 h1 with
     | none=>rw[e2] at e; cases e
     | some q=>
      obtain⟨f2,h2⟩:=q
      rw[e2] at e
      refine .inr ⟨go,fun σ' H'=>∃μ h ρ fl h',HR K cl μ H' h∧ER K μ H' ρ σ'∧JR K cl J src μ H'∧forN src g b m (i+1) ρ h=some (fl,h')∧KF K cl μ H' h' fl D,fun σ' H' q=>⟨m,Nat.lt_succ_self m,q⟩,fun x H1 y1=>?_⟩
      obtain⟨E1,R1,rx⟩:=yl x H1 y1
      refine⟨μ,h,ρ,w,ρ1,h1,R1,er.ext R E1,rx,e1,fun μ2 H2 σ2 E2 R2 er2=>⟨μ2,h1,ρ1,f2,h2,R2,er2,e2,fun μ3 H3 E3 R3=>?_⟩⟩
      have E:=E1.trans (E2.trans E3)
      cases f2 with
      | nx ρ2=>exact fun σ3 er3=>⟨μ3,h2,ρ2,fl,h',R3,er3,j.ext E,e,k.ext E⟩
      | ct ρ2=>exact fun σ3 er3=>⟨μ3,h2,ρ2,fl,h',R3,er3,j.ext E,e,k.ext E⟩
      | bk ρ2=>cases e; exact fun σ3 er3=>k μ3 H3 E R3 σ3 er3
      | ret w=>cases e; exact fun v rv=>k μ3 H3 E R3 v rv
theorem ss_for{tg iter:Expr}{body:List Stmt}{mi:MI}{g:MG}{b:MS}(hc:X.calm=true)(hi:SI X cl tg iter mi)(hg:SG X cl tg g)(hb:SB X cl body b)
  (hs:∀x,foldedSetIterable iter X.env x=pure x:=by intro _; rfl) (hp:PassesOwn (model X.prog X.w) X.A X.env X.xe:=by exact PassesOwn.never):SS X cl (.For tg iter body [] pos) (sFor mi g b):=PS.wk (ps_for hp hc hi hg hb hs) fun D σ H q0=>by
 obtain⟨μ,h,ρ,fl,h',R,er,e,k⟩:=q0
 unfold sFor at e
 split at e
 .rename_i l h1 e1
  refine⟨μ,h,ρ,.items l,h1,R,er,e1,fun μ1 H1 J E1 R1 j=>?_⟩
  have q:=forN_items (g:=g) (b:=b) l (l.length+1) 0 ρ h1 (by omega) (by omega)
  rw[List.drop_zero,e] at q
  exact for_read R1 (er.ext R E1) j q (k.ext E1)
 .rename_i n h1 e1
  exact⟨μ,h,ρ,.live n,h1,R,er,e1,fun μ1 H1 J E1 R1 j=>for_read R1 (er.ext R E1) j e (k.ext E1)⟩
 .cases e
end
noncomputable def fnM(np k:Nat)(b:MS):List W→M W:=fun ws h=>if ws.length=np then (match b (ws.map some++List.replicate k none) h with
 | some (.ret w,h')=>some (w,h')
 | some (.nx _,h')=>some (.non,h')
 | _=>none) else none
section
variable{P:Program}{w:World}{K:PySem.W.Frag}{mg:Str→Option Value}{base:Heap}{cl:Nat→Addr}
theorem start_er{μ:List Addr}{H:Hp}{N:List Str}{ws:List W}{vs:List V}{k:Nat}(rs:RWs K μ H ws vs)(hk:N.length-vs.length=k):ER K μ H (ws.map some++List.replicate k none) (L2.start N vs):=by
 subst hk
 unfold L2.start
 refine⟨by simp[rs.length],fun i w e=>?_⟩
 by_cases hi:i<ws.length
 .rw[List.getElem?_append_left (by simpa using hi),List.getElem?_map] at e
  cases e1:ws[i]? with
  | none=>rw[e1] at e; cases e
  | some w'=>
   rw[e1] at e
   cases e
   obtain⟨v,e2,r⟩:=rs.get e1
   exact⟨v,by rw[List.getElem?_append_left (by rw[List.length_map,←rs.length]; exact hi),List.getElem?_map,e2]; rfl,r⟩
 .rw[List.getElem?_append_right (by simpa using hi),List.getElem?_replicate] at e
  split at e<;>cases e
theorem fn_ok{x qual:Str}{st:Stmt}{f:Addr}{fd:FuncData}{N ps:List Str}{k np ns:Nat}{b:MS}(F:Fun K x qual st f fd)(S:FnScope N ps (defScope st))(hnp:ps.length=np)(hns:N.length-np=ns)
  (hb:∀(cdv:Value) (A:Around) (outer:List Env) (s:Shared) (H:Hp) (E:XK),Room k (A.deeper (envOfC qual (defScope st) s.heap.objs.size f cdv))→
   SB (cxOf CX0 P w K mg base N qual (defScope st) f cdv A outer s H E).nox cl (defBody st) b):FnOk P w K mg base CX0 (k+1) f fd ps (spM K cl (gc (fnM np ns b))):=by
 have len:∀vs H Q E,spM K cl (fnM np ns b) vs H Q E→vs.length=ps.length:=by
  rintro vs H Q E ⟨μ,h,ws,w,h',R,rs,e,k⟩
  unfold fnM at e
  split at e
  .rename_i hl
   rw[hnp,←hl,rs.length]
  .cases e
 refine FnOk.imp (sp:=spM K cl (fnM np ns b)) (F.ok S len fun cdv A outer s H vs Q E hr hsp=>⟨_,hb cdv A outer s H E hr,?_⟩) fun vs H Q E q=>gc_ok (E:=E) q
 have hlen:=len _ _ _ _ hsp
 obtain⟨μ,h,ws,w,h',R,rs,e,k⟩:=hsp
 unfold fnM at e
 split at e
 .rename_i hl
  split at e
  .rename_i w1 h1 e1
   cases e
   exact⟨μ,h,_,_,_,R,start_er rs (by rw[hlen,hnp]; exact hns),e1,fun μ1 H1 E1 R1 v rv=>k μ1 H1 v E1 R1 rv⟩
  .rename_i ρ1 h1 e1
   cases e
   exact⟨μ,h,_,_,_,R,start_er rs (by rw[hlen,hnp]; exact hns),e1,fun μ1 H1 E1 R1 σ1 _=>k μ1 H1 .non E1 R1 .non⟩
  .cases e
 .cases e
end
noncomputable def getL(h:MH):W→Option (List W)
 | .fls l=>some l
 | .ref n=>match h[n]? with
  | some (.lst l)=>some l
  | _=>none
 | _=>none
section
variable{K:PySem.W.Frag}{cl:Nat→Addr}{μ:List Addr}{H:Hp}{h:MH}
theorem getL_of{w:W}{v:V}{l:List W}(R:HR K cl μ H h)(r:RW K μ H w v)(e:getL h w=some l):∃a vs,v=.ref a∧SqL K H a vs∧RWs K μ H l vs:=by
 cases r with
 | @fls a vs l' s rs=>cases e; exact⟨a,vs,rfl,s.sq,rs⟩
 | @ref n a hn=>
  simp only[getL] at e
  split at e
  .rename_i l' ho
   cases e
   obtain⟨vs,hv,rs⟩:=R.ob n a _ hn ho
   exact⟨a,vs,rfl,SqL.of hv,rs⟩
  .cases e
 | _=>cases e
theorem RW.int_of{i:Int}{v:V}(r:RW K μ H (.int i) v):v=.int i:=by cases r; rfl
theorem RW.str_of{i:Str}{v:V}(r:RW K μ H (.str i) v):v=.str i:=by cases r; rfl
theorem RW.tup_of{l:List W}{v:V}(r:RW K μ H (.tup l) v):∃a vs,v=.ref a∧SqT K H a vs∧RWs K μ H l vs:=by cases r with | @tup a vs l s rs=>exact⟨a,vs,rfl,s,rs⟩
end
noncomputable def addI(x y:W):Option W:=match x,y with
 | .int i,.int j=>some (.int (i+j))
 | .str i,.str j=>if i.length+j.length≤cap then some (.str (i++j)) else none
 | .tup l,.tup l'=>if l.length+l'.length≤cap then some (.tup (l++l')) else none
 | _,_=>none
noncomputable def addW(x y:W):M W:=fun h=>match addI x y with
 | some w=>some (w,h)
 | none=>match getL h x,getL h y with
  | some l,some l'=>if l.length+l'.length≤cap then some (.fls (l++l'),h) else none
  | _,_=>none
noncomputable def addM(x y:W):M W:=fun h=>match getL h x,getL h y with
 | some l,some l'=>if l.length+l'.length≤cap then some (.ref h.length,h++[.lst (l++l')]) else none
 | _,_=>none
section
variable{prog:Program}{w:World}{A:Around}{E:Value→Shared→Prop}{s:Shared}
theorem cat_list{t b:Addr}{vs ws:List Value}{Q:Value→Shared→Prop}(ht:s.heap.IsList t vs.toArray)(hb:s.heap.IsList b ws.toArray)
  (h2:Q (.ref s.heap.objs.size) { s with heap:=s.heap.push { cls:=.type "list",data:=.seq (vs++ws).toArray } })
  (hsz:vs.length+ws.length≤sizeLine):wpAny (model prog w) A (binaryOp .Add (.ref t) (.ref b)) Q E s:=by
 obtain⟨⟨cls,dd,data,sl⟩,ho,hc,n,hd⟩:=id ht
 obtain⟨⟨cls2,dd2,data2,sl2⟩,ho2,hc2,n2,hd2⟩:=id hb
 simp only at hc hd hc2 hd2
 subst hc hd hc2 hd2
 have e:vs.toArray++ws.toArray=(vs++ws).toArray:=by simp
 refine concat_meets ⟨_,ho,rfl⟩ ⟨_,ho2,rfl⟩ noFill_list_add seq_list_add PySem.F.slot_list_add PySem.F.entry_list_add (PySem.F.args_list_add_2 _ _)
  (list_addW t b vs.toArray ws.toArray n n2 dd dd2 sl sl2 (by rw[List.size_toArray,List.size_toArray]; exact hsz)) ⟨ho,ho2,?_⟩
 rw[e]
 exact h2
theorem cat_tup0{t b:Addr}{ws:List Value}{Q:Value→Shared→Prop}(ht:IsTup s.heap t ([]:List Value).toArray)(hb:IsTup s.heap b ws.toArray)(h1:Q (.ref b) s) :
  wpAny (model prog w) A (binaryOp .Add (.ref t) (.ref b)) Q E s:=by
 obtain⟨⟨cls,dd,data,sl⟩,ho,hc,n,hd⟩:=id ht
 obtain⟨⟨cls2,dd2,data2,sl2⟩,ho2,hc2,n2,hd2⟩:=id hb
 simp only at hc hd hc2 hd2
 subst hc hd hc2 hd2
 exact concat_meets ⟨_,ho,rfl⟩ ⟨_,ho2,rfl⟩ noFill_tuple_add seq_tuple_add PySem.F.slot_tuple_add PySem.F.entry_tuple_add (PySem.F.args_tuple_add_2 _ _)
  (tuple_addW0 t b _ ws.toArray n n2 dd dd2 sl sl2 rfl) ⟨ho,ho2,h1⟩
end
section
variable{X:Cx}{cl:Nat→Addr}
theorem op_addL{P:List W→MH→W→MH→Prop}{pins:List (Addr×Obj)}{s:Shared}{σ:L2.St}{H:Hp}{x y:V}{v u:Value}{Q:VK}{μ:List Addr}{h:MH}{wx wy:W}{l l':List W}(I:Inv X pins σ H s)(rx:RelV x v)(ry:RelV y u)
  (R:HR X.K cl μ H h) (ax:RW X.K μ H wx x) (ay:RW X.K μ H wy y) (e1:getL h wx=some l) (e2:getL h wy=some l') (hl:l.length+l'.length≤cap)
  (k:∀p xs,H p=none→RWs X.K μ H (l++l') xs→Q (.ref p) (upd H p (.lst xs))):wpAny (model X.prog X.w) X.A (binaryOp .Add v u) (EP X pins σ Q) X.xe s:=by
 obtain⟨a,vs,rfl,sa,ra⟩:=getL_of R ax e1
 obtain⟨b,vs',rfl,sb,rb⟩:=getL_of R ay e2
 cases rx
 cases ry
 obtain⟨its,r1,p1,_⟩:=I.list sa
 obtain⟨its2,r2,p2,_⟩:=I.list sb
 have hz:vs.length+vs'.length≤sizeLine:=Nat.le_trans (by rw[←ra.length,←rb.length]; exact hl) cap_le
 refine cat_list p1.isList p2.isList ?_ (by rw[←r1.length,←r2.length]; exact hz)
 exact⟨.ref _,_,I.lnew (t':=s.toks) (r1.append r2) (by rw[List.length_append]; exact hz),rfl,k _ _ I.fresh (ra.append rb)⟩
theorem op_addW:OpR X (binaryOp .Add) (rM X.K cl addW):=by
 rintro pins s σ H x y v u Q I rx ry ⟨μ,h,wx,wy,w,h',R,ax,ay,e,k⟩
 unfold addW at e
 split at e
 .rename_i w' e'
  cases e
  unfold addI at e'
  split at e'
  .rename_i i j
   cases e'
   exact op_add pins s σ H x y v u Q I rx ry ⟨i,j,ax.int_of,ay.int_of,k.pure R (.int _)⟩
  .rename_i i j
   split at e'
   .rename_i hl
    cases e'
    exact op_add_str pins s σ H x y v u Q I rx ry ⟨i,j,ax.str_of,ay.str_of,Nat.le_trans hl cap_le,k.pure R (.str _)⟩
   .cases e'
  .rename_i l l'
   split at e'
   .rename_i hl
    cases e'
    obtain⟨a,vs,rfl,sa,ra⟩:=ax.tup_of
    obtain⟨b,vs',rfl,sb,rb⟩:=ay.tup_of
    by_cases hv:vs=[]
    .subst hv
     cases ra
     cases rx
     cases ry
     obtain⟨its,r1,p1,_⟩:=I.tuple sa
     obtain⟨its2,r2,p2,_⟩:=I.tuple sb
     cases r1
     exact cat_tup0 p1 p2 ⟨.ref b,H,I,rfl,k.pure R (.tup sb rb)⟩
    .refine op_catT pins s σ H _ _ v u Q I rx ry ⟨a,b,vs,vs',rfl,rfl,sa,sb,hv,Nat.le_trans (by rw[←ra.length,←rb.length]; exact hl) cap_le,fun z=>?_,fun _ p hp=>k.tup R (ra.append rb) hp⟩
     subst z
     cases rb
     rw[List.append_nil] at k
     exact k.pure R (.tup sa ra)
   .cases e'
  .cases e'
 .split at e
  .rename_i l l' e1 e2
   split at e
   .rename_i hl
    cases e
    exact op_addL (P:=fun _ _ _ _=>True) I rx ry R ax ay e1 e2 hl fun p xs hp rs=>k.fls R rs hp
   .cases e
  .cases e
theorem op_addM:OpR X (binaryOp .Add) (rM X.K cl addM):=by
 rintro pins s σ H x y v u Q I rx ry ⟨μ,h,wx,wy,w,h',R,ax,ay,e,k⟩
 unfold addM at e
 split at e
 .rename_i l l' e1 e2
  split at e
  .rename_i hl
   cases e
   exact op_addL (P:=fun _ _ _ _=>True) I rx ry R ax ay e1 e2 hl fun p xs hp rs=>k.lst R rs hp
  .cases e
 .cases e
end
noncomputable def subW(x y:W):M W:=fun h=>match x,y with
 | .int i,.int j=>some (.int (i-j),h)
 | _,_=>none
noncomputable def small(i:Int):Bool:=decide (-(2 ^ 64)<i∧i<2 ^ 64)
noncomputable def mulW(x y:W):M W:=fun h=>match x,y with
 | .int i,.int j=>if (small i||small j)=true then some (.int (i*j),h) else none
 | .tup l,.int j=>if 0≤j∧j≤1000∧l.length≤1000 then some (.tup (List.replicate j.toNat l).flatten,h) else none
 | _,_=>none
noncomputable def modW(x y:W):M W:=fun h=>match x,y with
 | .int i,.int j=>if 0<j then some (.int (i%j),h) else none
 | _,_=>none
noncomputable def divW(x y:W):M W:=fun h=>match x,y with
 | .int i,.int j=>if 0<j∧j<1073741824 then some (.int (i/j),h) else none
 | _,_=>none
noncomputable def powW(x y:W):M W:=fun h=>match x,y with
 | .int i,.int j=>if 0≤j∧j≤100∧i.natAbs<1000 then some (.int (i ^ j.toNat),h) else none
 | _,_=>none
noncomputable def cmpI(p:Int→Int→Bool)(x y:W):M W:=fun h=>match x,y with
 | .int i,.int j=>some (.bl (p i j),h)
 | _,_=>none
noncomputable def negW(x:W):M W:=fun h=>match x with
 | .int i=>some (.int (-i),h)
 | _=>none
noncomputable def isNonW(b:Bool)(x y:W):M W:=fun h=>match x,y with
 | .non,.non=>some (.bl b,h)
 | .tup _,.non=>some (.bl (!b),h)
 | .fls _,.non=>some (.bl (!b),h)
 | .int _,.non=>some (.bl (!b),h)
 | .str _,.non=>some (.bl (!b),h)
 | .bl _,.non=>some (.bl (!b),h)
 | .ref _,.non=>some (.bl (!b),h)
 | _,_=>none
section
variable{X:Cx}{cl:Nat→Addr}
theorem op_subW:OpR X (binaryOp .Sub) (rM X.K cl subW):=by
 rintro pins s σ H x y v u Q I rx ry ⟨μ,h,wx,wy,w,h',R,ax,ay,e,k⟩
 unfold subW at e
 split at e
 .cases e; exact op_sub pins s σ H x y v u Q I rx ry ⟨_,_,ax.int_of,ay.int_of,k.pure R (.int _)⟩
 .cases e
theorem op_modW:OpR X (binaryOp .Mod) (rM X.K cl modW):=by
 rintro pins s σ H x y v u Q I rx ry ⟨μ,h,wx,wy,w,h',R,ax,ay,e,k⟩
 unfold modW at e
 split at e
 .split at e
  .rename_i hj; cases e; exact op_mod pins s σ H x y v u Q I rx ry ⟨_,_,ax.int_of,ay.int_of,hj,k.pure R (.int _)⟩
  .cases e
 .cases e
theorem op_divW:OpR X (binaryOp .FloorDiv) (rM X.K cl divW):=by
 rintro pins s σ H x y v u Q I rx ry ⟨μ,h,wx,wy,w,h',R,ax,ay,e,k⟩
 unfold divW at e
 split at e
 .split at e
  .rename_i hj; cases e; exact op_fdiv pins s σ H x y v u Q I rx ry ⟨_,_,ax.int_of,ay.int_of,hj,k.pure R (.int _)⟩
  .cases e
 .cases e
theorem op_powW:OpR X (binaryOp .Pow) (rM X.K cl powW):=by
 rintro pins s σ H x y v u Q I rx ry ⟨μ,h,wx,wy,w,h',R,ax,ay,e,k⟩
 unfold powW at e
 split at e
 .split at e
  .rename_i hj; cases e; exact op_pow pins s σ H x y v u Q I rx ry ⟨_,_,ax.int_of,ay.int_of,⟨hj.1,by omega,Nat.lt_of_lt_of_le hj.2.2 (by decide)⟩,k.pure R (.int _)⟩
  .cases e
 .cases e
theorem op_cmpI{op:CmpOp}{p:Int→Int→Bool}(ho:OpR X (compareOp op) (rI0 fun i j=>.bl (p i j))):OpR X (compareOp op) (rM X.K cl (cmpI p)):=by
 rintro pins s σ H x y v u Q I rx ry ⟨μ,h,wx,wy,w,h',R,ax,ay,e,k⟩
 unfold cmpI at e
 split at e
 .cases e; exact ho pins s σ H x y v u Q I rx ry ⟨_,_,ax.int_of,ay.int_of,k.pure R (.bl _)⟩
 .cases e
theorem op_ltW:OpR X (compareOp .Lt) (rM X.K cl (cmpI fun i j=>decide (i<j))):=op_cmpI op_lt
theorem op_leW:OpR X (compareOp .LtE) (rM X.K cl (cmpI fun i j=>decide (i≤j))):=op_cmpI op_le
theorem op_gtW:OpR X (compareOp .Gt) (rM X.K cl (cmpI fun i j=>decide (j<i))):=op_cmpI op_gt
theorem op_geW:OpR X (compareOp .GtE) (rM X.K cl (cmpI fun i j=>decide (j≤i))):=op_cmpI op_ge
theorem un_negW:UnR X (unaryOp .USub) (rM1 X.K cl negW):=by
 rintro pins s σ H x v Q I rx ⟨μ,h,wx,w,h',R,ax,e,k⟩
 unfold negW at e
 split at e
 .cases e; exact un_neg pins s σ H x v Q I rx ⟨_,ax.int_of,k.pure R (.int _)⟩
 .cases e
theorem ip_addW:PIp X .Add (rM X.K cl (fun x y=>match x,y with | .int i,.int j=>fun h=>some (.int (i+j),h) | _,_=>fun _=>none)):=by
 rintro pins s σ H x y v u Q I rx ry ⟨μ,h,wx,wy,w,h',R,ax,ay,e,k⟩
 try dsimp only at e
 split at e
 .cases e; exact ip_add pins s σ H x y v u Q I rx ry ⟨_,_,ax.int_of,ay.int_of,k.pure R (.int _)⟩
 .cases e
theorem isNon_read{K:PySem.W.Frag}{μ:List Addr}{H:Hp}{h h':MH}{wx wy w:W}{x y:V}{b:Bool}(ax:RW K μ H wx x)(ay:RW K μ H wy y)(e:isNonW b wx wy h=some (w,h')):h=h'∧y=.non∧w=.bl (if b then decide (x=.non) else !decide (x=.non)):=by
 unfold isNonW at e
 split at e<;>first | (cases e; cases ax; cases ay; refine⟨rfl,rfl,?_⟩; cases b<;>simp) | cases e
theorem op_isW:OpR X (compareOp .Is) (rM X.K cl (isNonW true)):=by
 rintro pins s σ H x y v u Q I rx ry ⟨μ,h,wx,wy,w,h',R,ax,ay,e,k⟩
 obtain⟨rfl,hy,rfl⟩:=isNon_read ax ay e
 exact op_isN pins s σ H x y v u Q I rx ry ⟨hy,k.pure R (.bl _)⟩
theorem op_isNotW:OpR X (compareOp .IsNot) (rM X.K cl (isNonW false)):=by
 rintro pins s σ H x y v u Q I rx ry ⟨μ,h,wx,wy,w,h',R,ax,ay,e,k⟩
 obtain⟨rfl,hy,rfl⟩:=isNon_read ax ay e
 exact op_notN pins s σ H x y v u Q I rx ry ⟨hy,k.pure R (.bl _)⟩
end
noncomputable def lenW(ws:List W):M W:=fun h=>match ws with
 | [.tup l]=>some (.int l.length,h)
 | [.str x]=>if x.length≤cap then some (.int x.length,h) else none
 | [w]=>match getL h w with
  | some l=>some (.int l.length,h)
  | none=>none
 | _=>none
noncomputable def ixW(x y:W):M W:=fun h=>match x,y with
 | .tup l,.int i=>match atI l i with
  | some w=>some (w,h)
  | none=>none
 | .str z,.int i=>if z.length≤cap then (match atI z.cps.toList i with
  | some c=>some (.str ⟨#[c]⟩,h)
  | none=>none) else none
 | x,.int i=>match getL h x with
  | some l=>match atI l i with
   | some w=>some (w,h)
   | none=>none
  | none=>none
 | _,_=>none
noncomputable def cutW(l:List W)(lo hi:Option Int):List W:=(l.drop (HT.sIx l.length 0 lo)).take (HT.sIx l.length l.length hi-HT.sIx l.length 0 lo)
theorem RWs.atI{K:PySem.W.Frag}{μ:List Addr}{H:Hp}{l:List W}{vs:List V}{i:Int}{w:W}(rs:RWs K μ H l vs)(e:L2.atI l i=some w):∃v,L2.atI vs i=some v∧RW K μ H w v:=by
 unfold L2.atI at e ⊢
 rw[←rs.length]
 cases q:ixN l.length i with
 | none=>rw[q] at e; cases e
 | some j=>
  rw[q] at e
  exact rs.get e
theorem RWs.cutW{K:PySem.W.Frag}{μ:List Addr}{H:Hp}{l:List W}{vs:List V}(rs:RWs K μ H l vs)(lo hi:Option Int):RWs K μ H (cutW l lo hi) (cutV vs lo hi):=by
 unfold ML.cutW cutV
 rw[←rs.length]
 exact(rs.drop _).take _
section
variable{X:Cx}{cl:Nat→Addr}{a b:Expr}{ma mb:ME}{pos:Pos}
theorem call_lenW:CallR X (.builtin "len") (rMs X.K cl lenW):=by
 rintro pins s σ H xs us Q I rs ⟨μ,h,ws,w,h',R,ax,e,k⟩
 unfold lenW at e
 split at e
 .rename_i l
  cases e
  cases ax with | cons r t=>cases t with | nil=>
   obtain⟨a,vs,rfl,sa,ra⟩:=r.tup_of
   exact call_len_seq pins s σ H _ us Q I rs ⟨a,vs,rfl,.inr sa,by rw[←ra.length]; exact k.pure R (.int _)⟩
 .rename_i z
  split at e
  .rename_i hl
   cases e
   cases ax with | cons r t=>cases t with | nil=>
    cases r.str_of
    exact call_len_str pins s σ H _ us Q I rs ⟨z,rfl,Nat.le_trans hl cap_le,k.pure R (.int _)⟩
  .cases e
 .split at e
  .rename_i l el
   cases e
   cases ax with | cons r t=>cases t with | nil=>
    obtain⟨a,vs,rfl,sa,ra⟩:=getL_of R r el
    exact call_len_seq pins s σ H _ us Q I rs ⟨a,vs,rfl,.inl sa,by rw[←ra.length]; exact k.pure R (.int _)⟩
  .cases e
 .cases e
theorem ix_W:IxR X (rM X.K cl ixW):=by
 rintro value slice pins s σ H x y v u Q I rx ry ⟨μ,h,wx,wy,w,h',R,ax,ay,e,k⟩ hs
 unfold ixW at e
 split at e
 .rename_i l i
  split at e
  .rename_i w' e'
   cases e
   obtain⟨a,vs,rfl,sa,ra⟩:=ax.tup_of
   obtain⟨v',ev,rv⟩:=ra.atI e'
   exact ix_tup value slice pins s σ H _ y v u Q I rx ry ⟨a,vs,i,v',rfl,ay.int_of,sa,ev,k.pure R rv⟩ hs
  .cases e
 .rename_i z i
  split at e
  .rename_i hl
   split at e
   .rename_i c e'
    cases e
    exact ix_str value slice pins s σ H _ y v u Q I rx ry ⟨z,i,c,ax.str_of,ay.int_of,Nat.le_trans hl cap_le,e',k.pure R (.str _)⟩ hs
   .cases e
  .cases e
 .rename_i i hn1 hn2
  split at e
  .rename_i l el
   split at e
   .rename_i w' e'
    cases e
    obtain⟨a,vs,rfl,sa,ra⟩:=getL_of R ax el
    obtain⟨v',ev,rv⟩:=ra.atI e'
    exact ix_list value slice pins s σ H _ y v u Q I rx ry ⟨a,vs,i,v',rfl,ay.int_of,sa,ev,k.pure R rv⟩ hs
   .cases e
  .cases e
 .cases e
theorem se_ix(ha:SE X cl a ma)(hb:SE X cl b mb)(hs:PlainIx b:=by exact fun _ _=>rfl):SE X cl (.Subscript a b pos) (eOp ixW ma mb):=
 PE.wk (pe_ix ix_W ha hb hs) fun σ H Q q=>eop_read q
end
section
variable{prog:Program}{w:World}{A:Around}{E:Value→Shared→Prop}{s:Shared}
open HT in
theorem getItem_tuple_whole{t sl:Addr}{items:Array Value}{vl vu:Value}{lo hi:Option Int}{Q:Value→Shared→Prop}(ht:IsTup s.heap t items)(hs:s.heap.IsSliceOf sl vl vu .none)(pl:IsPart vl lo)(pu:IsPart vu hi)
  (hw:sIx items.size 0 lo=0∧sIx items.size items.size hi=items.size) (h:Q (.ref t) s):wpAny (model prog w) A (getItem (.ref t) (.ref sl)) Q E s:=by
 obtain⟨os,hos,hcs,hds⟩:=id hs
 have hTs:s.TypeIs (.ref sl) "slice":=⟨os,hos,hcs⟩
 unfold getItem
 try with_reducible refine wpAny_holding ?_
 first | refine wpAny_bind (wpAny_pure ?_) | skip
 refine wpAny_bind (wpAny_sequenceKey ht.typeIs (by decide) ?_)
 refine wpAny_bind (wpAny_callSpecial?_slot (name:=Str.ofString "__getitem__") ht.typeIs PyProof.Rows.slot_tuple_getitem
  (wpAny_call_entry PyProof.Rows.slot_tuple_getitem ht.typeIs entry_tuple_getitem ?_ (args_tuple_getitem _ _)))
 show wpAny _ _ (Builtin.Tuple.tupleItemsOf (.ref t) >>= _) _ _ s
 refine wpAny_bind (tupleItemsOf_ ht ?_)
 refine wpAny_bind (wpAny_typeOf hTs ?_)
 rw[if_pos (by decide)]
 refine wpAny_bind (sliceApplied_gen hs pl pu ?_)
 have hno:((((sIx items.size 0 lo:Nat):Int)==0&&(1:Int)==1&&(sIx items.size items.size hi-sIx items.size 0 lo)==items.size)=true):=by
  rw[hw.1,hw.2]; simp
 show wpAny _ _ (if (((sIx items.size 0 lo:Nat):Int)==0&&(1:Int)==1&&(sIx items.size items.size hi-sIx items.size 0 lo)==items.size)=true then _ else _) _ _ s
 rw[if_pos hno]
 unfold Builtin.Tuple.tupleIsExact
 refine wpAny_bind (wpAny_bind (wpAny_typeOf ht.typeIs (wpAny_pure ?_)))
 rw[if_pos (by decide)]
 first
  | exact wpAny_bind (wpAny_rule (wpAny_pure ⟨_,rfl,wpAny_pure h⟩))
  | exact wpAny_bind (wpAny_rule (wpAny_bind (wpAny_pure (wpAny_pure ⟨_,rfl,wpAny_pure h⟩))))
  | exact wpAny_bind (wpAny_bind (wpAny_rule (wpAny_pure ⟨_,rfl,wpAny_pure h⟩)))
end
noncomputable def slW(x:W)(lo hi:Option Int):M W:=fun h=>match x with
 | .tup l=>some (.tup (cutW l lo hi),h)
 | .str z=>if z.length≤cap then some (.str (Txt.slice z lo hi),h) else none
 | x=>match getL h x with
  | some l=>some (.fls (cutW l lo hi),h)
  | none=>none
noncomputable def mPart(m:Option ME):En→M (Option Int):=fun ρ=>match m with
 | none=>fun h=>some (none,h)
 | some m=>bnd (m ρ) fun w h=>match w with
  | .int i=>some (some i,h)
  | _=>none
noncomputable def eSl(a:ME)(lo hi:Option ME):ME:=fun ρ=>bnd (a ρ) fun x=>bnd (mPart lo ρ) fun l=>bnd (mPart hi ρ) fun u=>slW x l u
section
variable{X:Cx}{cl:Nat→Addr}{a:Expr}{ma:ME}{pos p2:Pos}
inductive tMO(K:PySem.W.Frag)(cl:Nat→Addr)(m:Option ME)(σ:L2.St)(H:Hp)(Q:Option Int→Hp→Prop):Prop
 | mk (μ:List Addr) (h:MH) (ρ:En) (o:Option Int) (h':MH) (p0:HR K cl μ H h) (p1:ER K μ H ρ σ) (p2:mPart m ρ h=some (o,h')) (p3:∀μ' H',Ext μ H μ' H'→HR K cl μ' H' h'→Q o H'):tMO K cl m σ H Q
abbrev SO(X:Cx)(cl:Nat→Addr)(e:Option Expr)(m:Option ME):Prop:=PO X e (tMO X.K cl m)
theorem PO.wk{e:Option Expr}{t t':TO}(h:PO X e t)(w:∀σ H Q,t' σ H Q→t σ H Q):PO X e t':=fun pins s σ H Q I q=>h pins s σ H Q I (w σ H Q q)
theorem so_none:SO X cl none none:=PO.wk po_none fun σ H Q q0=>by
 obtain⟨μ,h,ρ,o,h',R,er,e,k⟩:=q0
 cases e
 exact k μ H .refl R
theorem so_some(ha:SE X cl a ma):SO X cl (some a) (some ma):=PO.wk (po_some ha) fun σ H Q q0=>by
 obtain⟨μ,h,ρ,o,h',R,er,e,k⟩:=q0
 obtain⟨x,h1,e1,e⟩:=of_bnd e
 split at e
 .rename_i i
  cases e
  exact⟨μ,h,ρ,_,_,R,er,e1,fun μ1 H1 v E1 R1 r=>⟨i,r.int_of,k μ1 H1 E1 R1⟩⟩
 .cases e
theorem sl_tupW{pins:List (Addr×Obj)}{s:Shared}{σ:L2.St}{H:Hp}{a:Addr}{v vl vu:Value}{lo hi:Option Int}{sl:Addr}{Q:VK}{xs:List V}(I:Inv X pins σ H s)(rx:RelV (.ref a) v)(hs:s.heap.IsSliceOf sl vl vu .none)(pl:IsPart vl lo)(pu:IsPart vu hi)
  (hx:SqT X.K H a xs) (q1:cutV xs lo hi=xs→Q (.ref a) H) (q2:∀p,H p=none→Q (.ref p) (upd H p (.tup (cutV xs lo hi)))) :
  ∃T id,typeLookup (.type T) "__getitem__" = pure (some (.builtin id))∧s.TypeIs v T∧wpAny (model X.prog X.w) X.A (getItem v (.ref sl)) (EP X pins σ Q) X.xe s:=by
 by_cases hw:HT.sIx xs.length 0 lo=0∧HT.sIx xs.length xs.length hi=xs.length
 .cases rx
  obtain⟨its,r,ht,hz⟩:=I.tuple hx
  have hlen:its.toArray.size=xs.length:=by rw[List.size_toArray]; exact r.length.symm
  refine⟨"tuple",_,PyProof.Rows.slot_tuple_getitem.lookup,ht.typeIs,?_⟩
  refine getItem_tuple_whole ht hs pl pu (by rw[hlen]; exact hw) ⟨.ref a,H,I,rfl,q1 ?_⟩
  unfold cutV
  rw[hw.1,hw.2]
  simp
 .exact sl_tup pins s σ H _ v vl vu lo hi sl Q I rx hs pl pu ⟨a,xs,rfl,hx,hw,q2⟩
theorem se_sl{lo hi:Option Expr}{ml mh:Option ME}(ha:SE X cl a ma)(hl:SO X cl lo ml)(hh:SO X cl hi mh):SE X cl (.Subscript a (.Slice lo hi none p2) pos) (eSl ma ml mh):=by
 have hr:SlR X (fun x lo hi H Q=>∃μ h wx w h',HR X.K cl μ H h∧RW X.K μ H wx x∧slW wx lo hi h=some (w,h')∧KQ X.K cl μ H h' w Q):=by
  rintro pins s σ H x v vl vu lo hi sl Q I rx hs pl pu ⟨μ,h,wx,w,h',R,ax,e,k⟩
  unfold slW at e
  split at e
  .rename_i l
   cases e
   obtain⟨a,vs,rfl,sa,ra⟩:=ax.tup_of
   refine sl_tupW I rx hs pl pu sa (fun z=>k.pure R (.tup sa ?_)) fun p hp=>k.tup R (ra.cutW lo hi) hp
   have q:=ra.cutW lo hi
   rw[z] at q
   exact q
  .rename_i z
   split at e
   .rename_i hl
    cases e
    cases ax.str_of
    obtain⟨tk,rfl⟩:=rx
    refine⟨"str",_,F.slot_str_getitem.lookup,typeIs_str _ _ _,?_⟩
    obtain⟨l,el⟩:∃l:Option (Int×Tok),vl=partValue l∧lo=l.map (·.1):=by
     cases pl with
     | none=>exact⟨none,rfl,rfl⟩
     | int i t=>exact⟨some (i,t),rfl,rfl⟩
    obtain⟨u,eu⟩:∃l:Option (Int×Tok),vu=partValue l∧hi=l.map (·.1):=by
     cases pu with
     | none=>exact⟨none,rfl,rfl⟩
     | int i t=>exact⟨some (i,t),rfl,rfl⟩
    obtain⟨rfl,rfl⟩:=el
    obtain⟨rfl,rfl⟩:=eu
    exact wpAny_getItem_str_slice (l:=l) (u:=u) (st:=none) hs rfl (post_val_or_str ⟨Nat.le_trans (Txt.slice_le z _ _) (Nat.le_trans hl cap_le),fun t' k'=>⟨.str _,H,I.tok k',⟨t',rfl⟩,k.pure R (.str _)⟩⟩)
   .cases e
  .split at e
   .rename_i l el
    cases e
    obtain⟨a,vs,rfl,sa,ra⟩:=getL_of R ax el
    exact sl_list pins s σ H _ v vl vu lo hi sl Q I rx hs pl pu ⟨a,vs,rfl,sa,fun p hp=>k.fls R (ra.cutW lo hi) hp⟩
   .cases e
 refine PE.wk (pe_slice hr ha hl hh) fun σ H Q ⟨μ,h,ρ,w,h',R,er,e,k⟩=>?_
 obtain⟨x,h1,e1,e⟩:=of_bnd e
 obtain⟨l,h2,e2,e⟩:=of_bnd e
 obtain⟨u,h3,e3,e⟩:=of_bnd e
 exact⟨μ,h,ρ,x,h1,R,er,e1,fun μ1 H1 vx E1 R1 rx=>⟨μ1,h1,ρ,l,h2,R1,er.ext R E1,e2,fun μ2 H2 E2 R2=>⟨μ2,h2,ρ,u,h3,R2,(er.ext R E1).ext R1 E2,e3,fun μ3 H3 E3 R3=>
  ⟨μ3,h3,x,w,h',R3,(rx.ext R1 E2).ext R2 E3,e,k.ext (E1.trans (E2.trans E3))⟩⟩⟩⟩
end
theorem noFill_tuple_mul:fillsNumberSlot (.type "tuple") "mul" = pure false:=
 PySem.fillsNumberSlot_seq (id:="tuple.__mul__") (r:=some (.builtin "tuple.__rmul__")) F.slot_tuple_mul.lookup (by decide +kernel) F.slot_tuple_rmul.lookup (by decide +kernel)
theorem repeat_tuple:seqRepeat? (.type "tuple")=pure (some (.builtin "tuple.__mul__")):=by
 unfold seqRepeat?
 rw[PySem.seqSlot_of (T:="tuple") (name:="__mul__") (id:="tuple.__mul__") F.slot_tuple_mul.lookup (by decide +kernel),PySem.seqSlot_of (T:="tuple") (name:="__rmul__") (id:="tuple.__rmul__") F.slot_tuple_rmul.lookup (by decide +kernel)]
 rfl
theorem int___rmul___int_tuple(a:Int)(t:Tok)(l:Addr)(items:Array Value)(n:Nat)(dd:Option Addr)(sl:Array (Option Value)) :
  Meets (Builtin.«int.__rmul__» ⟨[.int a t,.ref l],[]⟩) (fun _ R s=>s.heap.get? l=some { cls:=.type "tuple",dict:=dd,data:=.seq items n,slots:=sl }∧R (.ok (.ret Value.notImplemented)) s):=
 .of_wp fun prog w A R s h=>by obtain⟨hp,g,d,tk,os⟩:=s; obtain⟨hl,h⟩:=h; wp_walk; exact⟨_,rfl,h⟩
theorem tuple_mulA(l:Addr)(items:Array Value)(n:Nat)(dd:Option Addr)(sl:Array (Option Value))(x:Int)(u:Tok)(hf:¬((decide (x < -2 ^ 63)||decide (x≥2 ^ 63))=true))(hc:(items.isEmpty||x==1)=true) :
  Meets (Builtin.«tuple.__mul__» ⟨[.ref l,.int x u],[]⟩) (fun _ R s=>s.heap.get? l=some { cls:=.type "tuple",dict:=dd,data:=.seq items n,slots:=sl }∧R (.ok (.ret (.ref l))) s):=
 .of_wp fun prog w A R s h=>by
  obtain⟨hp,g,d,tk,os⟩:=s; obtain⟨hl,h⟩:=h
  have f1:=AutoSeq1.idx_int
  have ht:IsTup ({ heap:=hp,gens:=g,drawn:=d,toks:=tk,os:=os }:Shared).heap l items:=⟨_,hl,rfl,n,rfl⟩
  wp_walk using wpAny_loadPart' hl
  rw[if_neg hf]
  try dsimp only
  refine wpAny_bind (tupleItemsOf_ ht ?_)
  try dsimp only
  rw[if_pos hc]
  unfold Builtin.Tuple.tupleIsExact
  refine wpAny_bind (wpAny_bind (wpAny_typeOf ht.typeIs (wpAny_pure ?_)))
  rw[if_pos (by decide)]
  exact wpAny_bind (wpAny_rule (wpAny_pure ⟨_,rfl,h⟩))
theorem tuple_mulB (l : Addr) (items : Array Value) (n : Nat) (dd : Option Addr) (sl : Array (Option Value)) (x : Int) (u : Tok) (hf : ¬ ((decide (x < -2 ^ 63) || decide (x ≥ 2 ^ 63)) = true)) (hc : ¬ (items.isEmpty || x == 1) = true) (h0 : ¬ (decide (x ≤ 0) || items.isEmpty) = true)
   (h1 : ¬ (items.size * x > (2 ^ 63 - 1) / 8)) (h2 : ¬ Builtin.Tuple.tupleTooMany (items.size * x) = true) (hz : sizeOk (Data.seq (List.foldl (fun x1 x2 => x1 ++ x2) #[] (List.replicate x.toNat items)))) :
    Meets (Builtin.«tuple.__mul__» ⟨[.ref l, .int x u], []⟩) (fun _ R s => s.heap.get? l = some { cls := .type "tuple", dict := dd, data := .seq items n, slots := sl } ∧
      R (.ok (.ret (.ref s.heap.objs.size))) { s with heap := s.heap.push { cls := Value.type "tuple", data := Data.seq (List.foldl (fun x1 x2 => x1 ++ x2) #[] (List.replicate x.toNat items)) } }) :=
  .of_wp fun prog w A R s h => by
    obtain ⟨hp, g, d, tk, os⟩ := s; obtain ⟨hl, h⟩ := h
    have f1 := AutoSeq1.idx_int
    have ht : IsTup ({ heap := hp, gens := g, drawn := d, toks := tk, os := os } : Shared).heap l items := ⟨_, hl, rfl, n, rfl⟩
    wp_walk using wpAny_loadPart' hl
    rw [if_neg hf]
    try dsimp only
    refine wpAny_bind (tupleItemsOf_ ht ?_)
    try dsimp only
    rw [if_neg hc, if_neg h0, if_neg h1, if_neg h2]
    refine wpAny_bind (m := Builtin.Tuple.tupleExact _) (wpAny_newObj_type (wpAny_pure ⟨_, rfl, h⟩) hz)
theorem tuple_mulC(l:Addr)(items:Array Value)(n:Nat)(dd:Option Addr)(sl:Array (Option Value))(x:Int)(u:Tok)(hf:¬((decide (x < -2 ^ 63)||decide (x≥2 ^ 63))=true))(hc:¬(items.isEmpty||x==1)=true)(h0:(decide (x≤0)||items.isEmpty)=true) :
  Meets (Builtin.«tuple.__mul__» ⟨[.ref l,.int x u],[]⟩) (fun _ R s=>s.heap.get? l=some { cls:=.type "tuple",dict:=dd,data:=.seq items n,slots:=sl } ∧
   R (.ok (.ret (.ref s.heap.objs.size))) { s with heap:=s.heap.push { cls:=Value.type "tuple",data:=Data.seq #[] } }):=
 .of_wp fun prog w A R s h=>by
  obtain⟨hp,g,d,tk,os⟩:=s; obtain⟨hl,h⟩:=h
  have f1:=AutoSeq1.idx_int
  have ht:IsTup ({ heap:=hp,gens:=g,drawn:=d,toks:=tk,os:=os }:Shared).heap l items:=⟨_,hl,rfl,n,rfl⟩
  wp_walk using wpAny_loadPart' hl
  rw[if_neg hf]
  try dsimp only
  refine wpAny_bind (tupleItemsOf_ ht ?_)
  try dsimp only
  rw[if_neg hc,if_pos h0]
  refine wpAny_bind (m:=Builtin.Tuple.tupleExact _) (wpAny_newObj_type (wpAny_pure ⟨_,rfl,h⟩) (by show 0≤sizeLine; decide))
section
variable{X:Cx}{cl:Nat→Addr}
theorem op_repT{pins:List (Addr×Obj)}{s:Shared}{σ:L2.St}{H:Hp}{a:Addr}{k:Int}{v u:Value}{Q:VK}{xs:List V}(I:Inv X pins σ H s)(rx:RelV (.ref a) v)(ry:RelV (.int k) u)(hx:SqT X.K H a xs)(h1:0≤k)(h2:k≤1000)(hz:xs.length≤1000)
  (q1:(List.replicate k.toNat xs).flatten=xs→Q (.ref a) H) (q2:∀p,H p=none→Q (.ref p) (upd H p (.tup (List.replicate k.toNat xs).flatten))):wpAny (model X.prog X.w) X.A (binaryOp .Mult v u) (EP X pins σ Q) X.xe s:=by
 cases rx
 obtain⟨t,rfl⟩:=ry
 obtain⟨its,r,ht,_⟩:=I.tuple hx
 have hlen:=r.length
 obtain⟨⟨cls,dd,data,sl⟩,e,hc,n,hd⟩:=id ht
 simp only at hc hd
 subst hc hd
 have hsl:(sizeLine:Nat)=16777216:=sizeLine_eq
 have hnew:List.foldl (fun x1 x2=>x1++x2) #[] (List.replicate k.toNat its.toArray)=(List.replicate k.toNat its).flatten.toArray:=by
  have:=foldl_rep its k.toNat []
  rw[List.nil_append] at this
  exact this
 have hrl:k.toNat*its.length≤1000*1000:=Nat.mul_le_mul (by omega) (by omega)
 have hf:¬((decide (k < -2 ^ 63)||decide (k≥2 ^ 63))=true):=by
  simp only[Bool.or_eq_true,decide_eq_true_eq]; omega
 have road:∀{R:Value→Shared→Prop},wpAny (model X.prog X.w) X.A (call (.builtin "tuple.__mul__") [.ref a,.int k t]) R X.xe s→wpAny (model X.prog X.w) X.A (binaryOp .Mult (.ref a) (.int k t)) R X.xe s:=fun hcall=>
  wpAny_binaryOp_repeat_ref (T:="tuple") (U:="int") (by decide) ⟨_,e,rfl⟩ (fun s'=>typeIs_int s' k t) noFill_tuple_mul F.fills_int_mul F.slot_int_rmul repeat_tuple F.slot_int_index.lookup
   (call_meets F.slot_int_rmul (typeIs_int s k t) F.entry_int_rmul (F.args_int_rmul_2 _ _) (int___rmul___int_tuple k t a its.toArray n dd sl) ⟨e,rfl,⟨_,e,rfl⟩,hcall⟩)
 refine road ?_
 by_cases c1:(its.toArray.isEmpty||k==1)=true
 .refine call_meets F.slot_tuple_mul ⟨_,e,rfl⟩ F.entry_tuple_mul (F.args_tuple_mul_2 _ _) (tuple_mulA a its.toArray n dd sl k t hf c1) ⟨e,.ref a,H,I,rfl,q1 ?_⟩
  rcases Bool.or_eq_true_iff.mp c1 with c | c
  .have:its=[]:=by simpa using c
   subst this
   cases r
   simp
  .have:k=1:=by simpa using c
   subst this
   simp
 .by_cases c2:(decide (k≤0)||its.toArray.isEmpty)=true
  .refine call_meets F.slot_tuple_mul ⟨_,e,rfl⟩ F.entry_tuple_mul (F.args_tuple_mul_2 _ _) (tuple_mulC a its.toArray n dd sl k t hf c1 c2) ⟨e,?_⟩
   have hk:k=0:=by
    have ne:its.toArray.isEmpty=false:=by
     cases z:its.toArray.isEmpty with
     | false=>rfl
     | true=>exact absurd (by rw[z]; rfl) c1
    rw[ne,Bool.or_false] at c2
    have:=of_decide_eq_true c2
    omega
   subst hk
   exact⟨.ref _,_,I.laid (t':=s.toks) (o:=.tup (List.replicate (0:Int).toNat xs).flatten) (fun b ob q=>Heap.get?_push_of_some _ q) (Nat.le_refl _) ⟨by simp,[],by simpa using Paired.nil,IsTup.new _ _⟩,rfl,q2 _ I.fresh⟩
  .refine call_meets F.slot_tuple_mul ⟨_,e,rfl⟩ F.entry_tuple_mul (F.args_tuple_mul_2 _ _) (tuple_mulB a its.toArray n dd sl k t hf c1 c2 ?_ ?_ ?_) ⟨e,?_⟩
   .rw[List.size_toArray]
    have:(its.length:Int)*k≤1000*1000:=by
     have:(its.length:Int)*k=((k.toNat*its.length:Nat):Int):=by
      rw[Nat.mul_comm]; push_cast; rw[Int.toNat_of_nonneg h1]
     omega
    omega
   .rw[List.size_toArray]
    unfold Builtin.Tuple.tupleTooMany
    have:(its.length:Int)*k≤1000*1000:=by
     have:(its.length:Int)*k=((k.toNat*its.length:Nat):Int):=by
      rw[Nat.mul_comm]; push_cast; rw[Int.toNat_of_nonneg h1]
     omega
    simp only[decide_eq_true_eq]
    omega
   .rw[hnew]
    show((List.replicate k.toNat its).flatten.toArray).size≤sizeLine
    rw[List.size_toArray,len_rep]
    omega
   .rw[hnew]
    exact⟨.ref _,_,I.laid (t':=s.toks) (o:=.tup (List.replicate k.toNat xs).flatten) (fun b ob q=>Heap.get?_push_of_some _ q) (Nat.le_refl _) ⟨by rw[len_rep,hlen]; omega,_,r.rep k.toNat,IsTup.new _ _⟩,rfl,q2 _ I.fresh⟩
theorem op_mulW:OpR X (binaryOp .Mult) (rM X.K cl mulW):=by
 rintro pins s σ H x y v u Q I rx ry ⟨μ,h,wx,wy,w,h',R,ax,ay,e,k⟩
 unfold mulW at e
 split at e
 .rename_i i j
  split at e
  .rename_i hj
   cases e
   refine op_mul pins s σ H x y v u Q I rx ry ⟨_,_,ax.int_of,ay.int_of,?_,k.pure R (.int _)⟩
   unfold small at hj
   rw[Bool.or_eq_true,decide_eq_true_eq,decide_eq_true_eq] at hj
   exact hj
  .cases e
 .rename_i l j
  split at e
  .rename_i hj
   cases e
   obtain⟨a,vs,rfl,sa,ra⟩:=ax.tup_of
   cases ay.int_of
   refine op_repT I rx ry sa hj.1 hj.2.1 (by rw[←ra.length]; exact hj.2.2) (fun z=>k.pure R (.tup sa ?_)) fun p hp=>k.tup R (ra.rep _) hp
   have q:=ra.rep j.toNat
   rw[z] at q
   exact q
  .cases e
 .cases e
end
noncomputable def mapO{α β:Type}(f:α→Option β):List α→Option (List β)
 | []=>some []
 | x::r=>match f x,mapO f r with
  | some y,some ys=>some (y::ys)
  | _,_=>none
noncomputable def dataW:Nat→MH→W→Option PyData
 | 0,_,_=>none
 | _+1,_,.non=>some .none
 | _+1,_,.bl b=>some (.bool b)
 | _+1,_,.int i=>some (.int i)
 | _+1,_,.str x=>if PyData.strOk x then some (.str x) else none
 | n+1,h,.tup l=>(mapO (dataW n h) l).map .tuple
 | n+1,h,.fls l=>(mapO (dataW n h) l).map .list
 | n+1,h,.ref k=>match h[k]? with
  | some (.lst l)=>(mapO (dataW n h) l).map .list
  | _=>none
 | _+1,_,.fdc _=>none
 | _+1,_,.fn _=>none
section
variable{X:Cx}{cl:Nat→Addr}{pins:List (Addr×Obj)}{σ:L2.St}{μ:List Addr}{H:Hp}{s:Shared}{h:MH}
theorem dataW_reads(I:Inv X pins σ H s)(R:HR X.K cl μ H h):∀(n:Nat) {w:W} {x:V} {v:Value} {d:PyData},RW X.K μ H w x→RelV x v→dataW n h w=some d→(∃as,Reads s.heap v d as)∧d.canLay0=true∧d.depth≤n:=by
 intro n
 induction n with
 | zero=>intro w x v d _ _ e; cases e
 | succ n ih=>
  have all:∀{l:List W} {vs:List V} {us:List Value} {ds:List PyData},RWs X.K μ H l vs→Vals vs us→mapO (dataW n h) l=some ds→(∃as,ReadsAll s.heap us ds as)∧PyData.canLayAll0 ds=true∧PyData.depthAll ds≤n:=by
   intro l
   induction l with
   | nil=>intro vs us ds r t e; cases r; cases t; cases e; exact⟨⟨_,.nil⟩,by unfold PyData.canLayAll0; rfl,by unfold PyData.depthAll; omega⟩
   | cons w l ihl=>
    intro vs us ds r t e
    cases r with | cons r rs=>cases t with | cons t ts=>
    unfold mapO at e
    split at e
    .rename_i y ys e1 e2
     cases e
     obtain⟨⟨as,h1⟩,h2,h3⟩:=ih r t e1
     obtain⟨⟨bs,g1⟩,g2,g3⟩:=ihl rs ts e2
     refine⟨⟨_,.cons h1 g1⟩,by unfold PyData.canLayAll0; rw[h2,g2]; rfl,?_⟩
     unfold PyData.depthAll
     omega
    .cases e
  have lists:∀{l:List W} {a:Addr} {vs:List V} {d:PyData},SqL X.K H a vs→RWs X.K μ H l vs→(mapO (dataW n h) l).map PyData.list=some d→(∃as,Reads s.heap (.ref a) d as)∧d.canLay0=true∧d.depth≤n+1:=by
   intro l a vs d sq rs e
   cases e1:mapO (dataW n h) l with
   | none=>rw[e1] at e; cases e
   | some ds=>
    rw[e1] at e
    cases e
    obtain⟨its,rv,⟨o,m,h1,h2,h3,h4⟩,_⟩:=I.list sq
    obtain⟨⟨as,g1⟩,g2,g3⟩:=all rs rv e1
    exact⟨⟨_,.list h1 h2 h4 (by simpa using g1)⟩,by unfold PyData.canLay0; exact g2,by unfold PyData.depth; omega⟩
  intro w x v d r t e
  cases r with
  | non=>cases e; cases t; exact⟨⟨_,.none⟩,by unfold PyData.canLay0; rfl,by unfold PyData.depth; omega⟩
  | bl b=>cases e; cases t; exact⟨⟨_,.bool b⟩,by unfold PyData.canLay0; rfl,by unfold PyData.depth; omega⟩
  | int i=>cases e; obtain⟨tk,rfl⟩:=t; exact⟨⟨_,.int i tk⟩,by unfold PyData.canLay0; rfl,by unfold PyData.depth; omega⟩
  | str z=>
   simp only[dataW] at e
   split at e
   .rename_i ok
    cases e; obtain⟨tk,rfl⟩:=t; exact⟨⟨_,.str z tk⟩,by unfold PyData.canLay0; exact ok,by unfold PyData.depth; omega⟩
   .cases e
  | @tup a vs l sq rs=>
   simp only[dataW] at e
   cases t
   cases e1:mapO (dataW n h) l with
   | none=>rw[e1] at e; cases e
   | some ds=>
    rw[e1] at e
    cases e
    obtain⟨its,rv,⟨o,h1,h2,m,h4⟩,_⟩:=I.tuple sq
    obtain⟨⟨as,g1⟩,g2,g3⟩:=all rs rv e1
    exact⟨⟨_,.tuple h1 h2 h4 (by simpa using g1)⟩,by unfold PyData.canLay0; exact g2,by unfold PyData.depth; omega⟩
  | @fls a vs l sq rs=>cases t; simp only[dataW] at e; exact lists sq.sq rs e
  | fdc=>cases e
  | fn=>cases e
  | @ref k a hk=>
   cases t
   simp only[dataW] at e
   split at e
   .rename_i l ho
    obtain⟨vs,hv,rs⟩:=R.ob k a _ hk ho
    exact lists (SqL.of hv) rs e
   .cases e
end
section
variable{X:Cx}{cl:Nat→Addr}{pins:List (Addr×Obj)}{σ:L2.St}{μ:List Addr}{H:Hp}{s:Shared}{h:MH}
theorem datas_reads(I:Inv X pins σ H s)(R:HR X.K cl μ H h)(n:Nat):∀{l:List W} {vs:List V} {us:List Value} {ds:List PyData},RWs X.K μ H l vs→Vals vs us→mapO (dataW n h) l=some ds→(∃as,ReadsAll s.heap us ds as)∧PyData.canLayAll0 ds=true:=by
 intro l
 induction l with
 | nil=>intro vs us ds r t e; cases r; cases t; cases e; exact⟨⟨_,.nil⟩,by unfold PyData.canLayAll0; rfl⟩
 | cons w l ihl=>
  intro vs us ds r t e
  cases r with | cons r rs=>cases t with | cons t ts=>
  unfold mapO at e
  split at e
  .rename_i y ys e1 e2
   cases e
   obtain⟨⟨as,h1⟩,h2,h3⟩:=dataW_reads I R n r t e1
   obtain⟨⟨bs,g1⟩,g2⟩:=ihl rs ts e2
   exact⟨⟨_,.cons h1 g1⟩,by unfold PyData.canLayAll0; rw[h2,g2]; rfl⟩
  .cases e
end
noncomputable def deep:Nat:=60
noncomputable def eqF(x y:W):Option Bool:=match x,y with
 | .str a,.str b=>some (a==b)
 | .int a,.int b=>some (a==b)
 | .bl a,.bl b=>some (a==b)
 | _,_=>none
noncomputable def eqB(h:MH)(x y:W):Option Bool:=match eqF x y with
 | some b=>some b
 | none=>match dataW deep h x,dataW deep h y with
  | some d,some e=>some (PyData.eqv d e)
  | _,_=>none
noncomputable def eqW(neg:Bool)(x y:W):M W:=fun h=>match eqB h x y with
 | some b=>some (.bl (if neg then !b else b),h)
 | none=>none
noncomputable def seqOf(h:MH):W→Option (List W)
 | .tup l=>some l
 | w=>getL h w
noncomputable def inStr(j i:Str):Bool:=!(Builtin.Str.occurrences j i 0 j.length 1).isEmpty
noncomputable def inB(h:MH)(x y:W):Option Bool:=match x,y with
 | .str i,.str j=>some (inStr j i)
 | x,y=>match seqOf h y with
  | some l=>match dataW deep h x,mapO (dataW deep h) l with
   | some d,some ds=>some (ds.any fun e=>PyData.eqv e d)
   | _,_=>none
  | none=>none
noncomputable def inW(neg:Bool)(x y:W):M W:=fun h=>match inB h x y with
 | some b=>some (.bl (if neg then !b else b),h)
 | none=>none
section
variable{X:Cx}{cl:Nat→Addr}
theorem eqB_ok(hu:X.A.units+64<cLine){pins:List (Addr×Obj)}{s:Shared}{σ:L2.St}{H:Hp}{x y:V}{v u:Value}{Q:VK}{μ:List Addr}{h:MH}{wx wy:W}{b:Bool}(I:Inv X pins σ H s)(rx:RelV x v)(ry:RelV y u)
  (R:HR X.K cl μ H h) (ax:RW X.K μ H wx x) (ay:RW X.K μ H wy y) (e:eqB h wx wy=some b) :
  (Q (.bl b) H→wpAny (model X.prog X.w) X.A (compareOp .Eq v u) (EP X pins σ Q) X.xe s)∧(Q (.bl (!b)) H→wpAny (model X.prog X.w) X.A (compareOp .NotEq v u) (EP X pins σ Q) X.xe s):=by
 unfold eqB at e
 split at e
 .rename_i b' e'
  cases e
  unfold eqF at e'
  split at e'
  .rename_i i j
   cases e'
   cases ax.str_of
   cases ay.str_of
   exact⟨fun q=>op_eq pins s σ H _ _ v u Q I rx ry ⟨rfl,by rw[dec_str]; exact q⟩,fun q=>op_ne pins s σ H _ _ v u Q I rx ry ⟨rfl,by rw[dec_str]; exact q⟩⟩
  .rename_i i j
   cases e'
   cases ax.int_of
   cases ay.int_of
   exact⟨fun q=>op_eq pins s σ H _ _ v u Q I rx ry ⟨rfl,by rw[dec_int]; exact q⟩,fun q=>op_ne pins s σ H _ _ v u Q I rx ry ⟨rfl,by rw[dec_int]; exact q⟩⟩
  .rename_i i j
   cases e'
   cases ax.bl_of
   cases ay.bl_of
   exact⟨fun q=>op_eq pins s σ H _ _ v u Q I rx ry ⟨rfl,by rw[dec_bl]; exact q⟩,fun q=>op_ne pins s σ H _ _ v u Q I rx ry ⟨rfl,by rw[dec_bl]; exact q⟩⟩
  .cases e'
 .split at e
  .rename_i d d' e1 e2
   cases e
   obtain⟨⟨as,r1⟩,c1,d1⟩:=dataW_reads I R deep ax rx e1
   obtain⟨⟨bs,r2⟩,c2,d2⟩:=dataW_reads I R deep ay ry e2
   have hr:X.A.units+min d.depth d'.depth<cLine:=by
    have:min d.depth d'.depth≤d.depth:=Nat.min_le_left _ _
    unfold deep at d1
    omega
   exact⟨fun q=>SeqAt.compareEq_reads r1 r2 c1 c2 hr ⟨.bl _,H,I,rfl,q⟩,fun q=>SeqAt.compareNe_reads r1 r2 c1 c2 hr ⟨.bl _,H,I,rfl,q⟩⟩
  .cases e
theorem op_eqW(hu:X.A.units+64<cLine):OpR X (compareOp .Eq) (rM X.K cl (eqW false)):=by
 rintro pins s σ H x y v u Q I rx ry ⟨μ,h,wx,wy,w,h',R,ax,ay,e,k⟩
 unfold eqW at e
 split at e
 .rename_i b eb
  cases e
  exact(eqB_ok hu I rx ry R ax ay eb).1 (k.pure R (.bl _))
 .cases e
theorem op_neW(hu:X.A.units+64<cLine):OpR X (compareOp .NotEq) (rM X.K cl (eqW true)):=by
 rintro pins s σ H x y v u Q I rx ry ⟨μ,h,wx,wy,w,h',R,ax,ay,e,k⟩
 unfold eqW at e
 split at e
 .rename_i b eb
  cases e
  exact(eqB_ok hu I rx ry R ax ay eb).2 (k.pure R (.bl _))
 .cases e
theorem seqOf_of{K:PySem.W.Frag}{μ:List Addr}{H:Hp}{h:MH}{w:W}{v:V}{l:List W}(R:HR K cl μ H h)(r:RW K μ H w v)(e:seqOf h w=some l):∃a vs,v=.ref a∧(SqL K H a vs∨SqT K H a vs)∧RWs K μ H l vs:=by
 unfold seqOf at e
 split at e
 .cases e
  obtain⟨a,vs,rfl,sa,ra⟩:=r.tup_of
  exact⟨a,vs,rfl,.inr sa,ra⟩
 .obtain⟨a,vs,rfl,sa,ra⟩:=getL_of R r e
  exact⟨a,vs,rfl,.inl sa,ra⟩
theorem inB_ok(hu:X.A.units+64<cLine){pins:List (Addr×Obj)}{s:Shared}{σ:L2.St}{H:Hp}{x y:V}{v u:Value}{Q:VK}{μ:List Addr}{h:MH}{wx wy:W}{b:Bool}(I:Inv X pins σ H s)(rx:RelV x v)(ry:RelV y u)
  (R:HR X.K cl μ H h) (ax:RW X.K μ H wx x) (ay:RW X.K μ H wy y) (e:inB h wx wy=some b) :
  (Q (.bl b) H→wpAny (model X.prog X.w) X.A (compareOp .In v u) (EP X pins σ Q) X.xe s)∧(Q (.bl (!b)) H→wpAny (model X.prog X.w) X.A (compareOp .NotIn v u) (EP X pins σ Q) X.xe s):=by
 unfold inB at e
 split at e
 .rename_i i j
  cases e
  exact⟨fun q=>op_in_str pins s σ H x y v u Q I rx ry ⟨i,j,ax.str_of,ay.str_of,q⟩,fun q=>op_notin_str pins s σ H x y v u Q I rx ry ⟨i,j,ax.str_of,ay.str_of,q⟩⟩
 .split at e
  .rename_i l el
   split at e
   .rename_i d ds e1 e2
    cases e
    obtain⟨a,vs,rfl,sa,ra⟩:=seqOf_of R ay el
    cases ry
    obtain⟨⟨as,r1⟩,c1,d1⟩:=dataW_reads I R deep ax rx e1
    have big:dataW (deep+1) h (.tup l)=some (.tuple ds):=by simp only[dataW]; rw[e2]; rfl
    have big2:dataW (deep+1) h (.fls l)=some (.list ds):=by simp only[dataW]; rw[e2]; rfl
    have hr:X.A.units+1+min (PyData.depthAll ds) d.depth<cLine:=by
     have:min (PyData.depthAll ds) d.depth≤d.depth:=Nat.min_le_right _ _
     unfold deep at d1
     omega
    rcases sa with sa | sa
    .obtain⟨its,rv,⟨o,m,h1,h2,h3,h4⟩,_⟩:=I.list sa
     obtain⟨⟨as2,g1⟩,c2⟩:=datas_reads I R deep ra rv e2
     have r2:Reads s.heap (.ref a) (.list ds) _:=.list h1 h2 h4 (by simpa using g1)
     exact⟨fun q=>SeqAt.in_list_reads r2 r1 c2 c1 hr ⟨.bl _,H,I,rfl,q⟩,fun q=>SeqAt.notIn_list_reads r2 r1 c2 c1 hr ⟨.bl _,H,I,rfl,q⟩⟩
    .obtain⟨⟨bs,r2⟩,c2,_⟩:=dataW_reads I R (deep+1) (.tup sa ra) rfl big
     have c2':PyData.canLayAll0 ds=true:=by unfold PyData.canLay0 at c2; exact c2
     exact⟨fun q=>SeqAt.in_tuple_reads r2 r1 c2' c1 hr ⟨.bl _,H,I,rfl,q⟩,fun q=>SeqAt.notIn_tuple_reads r2 r1 c2' c1 hr ⟨.bl _,H,I,rfl,q⟩⟩
   .cases e
  .cases e
theorem op_inW(hu:X.A.units+64<cLine):OpR X (compareOp .In) (rM X.K cl (inW false)):=by
 rintro pins s σ H x y v u Q I rx ry ⟨μ,h,wx,wy,w,h',R,ax,ay,e,k⟩
 unfold inW at e
 split at e
 .rename_i b eb
  cases e
  exact(inB_ok hu I rx ry R ax ay eb).1 (k.pure R (.bl _))
 .cases e
theorem op_notInW(hu:X.A.units+64<cLine):OpR X (compareOp .NotIn) (rM X.K cl (inW true)):=by
 rintro pins s σ H x y v u Q I rx ry ⟨μ,h,wx,wy,w,h',R,ax,ay,e,k⟩
 unfold inW at e
 split at e
 .rename_i b eb
  cases e
  exact(inB_ok hu I rx ry R ax ay eb).2 (k.pure R (.bl _))
 .cases e
end
inductive Ty where
 | int | str | bool | tuple | list | dict
 deriving DecidableEq
noncomputable def Ty.name:Ty→String
 | .int=>"int" | .str=>"str" | .bool=>"bool" | .tuple=>"tuple" | .list=>"list" | .dict=>"dict"
noncomputable def tyW(h:MH):W→Option Ty
 | .bl _=>some .bool
 | .int _=>some .int
 | .str _=>some .str
 | .tup _=>some .tuple
 | .fls _=>some .list
 | .ref n=>match h[n]? with
  | some (.lst _)=>some .list
  | some (.dic _)=>some .dict
  | _=>none
 | .fdc _=>some .dict
 | .fn _=>none
 | .non=>none
noncomputable def isTy(T:Ty)(x:W)(h:MH):Option Bool:=match x with
 | .non=>some false
 | x=>match tyW h x with
  | some t=>some (decide (t=T)||(decide (t=.bool)&&decide (T=.int)))
  | none=>none
noncomputable def isW(T:Ty)(x:W):M W:=fun h=>match isTy T x h with
 | some b=>some (.bl b,h)
 | none=>none
theorem kit_pairs(K:PySem.W.Frag):∀(t T:Ty),PySem.W.kitOne K (.type t.name) (.type T.name)=some (decide (t=T)||(decide (t=.bool)&&decide (T=.int))):=by
 intro t T
 cases t<;>cases T<;>kernel_rfl
theorem kit_none(K:PySem.W.Frag):∀(T:Ty),PySem.W.kitOne K (.type "NoneType") (.type T.name)=some false:=by
 intro T
 cases T<;>kernel_rfl
section
variable{X:Cx}{cl:Nat→Addr}{a:Expr}{ma:ME}{pos p p2:Pos}
theorem call_isiW(T:Ty):CallR X (.builtin "isinstance") (fun xs H Q=>∃x,xs=[x,.ty T.name]∧rM1 X.K cl (isW T) x H Q):=by
 rintro pins s σ H xs us Q I rs ⟨x,rfl,μ,h,wx,w,h',R,ax,e,k⟩
 obtain⟨u,u2,rfl,ru,ru2⟩:=vals2 rs
 obtain rfl:u2=.type T.name:=ru2
 unfold isW at e
 split at e
 .rename_i b eb
  cases e
  have q:Q (.bl b) H:=k.pure R (.bl _)
  have fin:∀tk,EP X pins σ Q (.bool b) { s with toks:=tk }:=fun tk=>⟨.bl b,H,I.tok tk,rfl,q⟩
  have go:∀{t:Ty},tyW h wx=some t→PySem.W.kitOne X.K (.type t.name) (.type T.name)=some b:=fun {t} e1=>by
   rw[kit_pairs]
   unfold isTy at eb
   split at eb
   .cases e1
   .rw[e1] at eb; exact eb
  cases ax with
  | non=>
   cases eb
   cases ru
   exact PySem.W.kia_one PySem.W.kitx_none I.kIn True.intro (kit_none X.K T) (fun z=>nomatch z) fin
  | bl y=>cases ru; exact PySem.W.kia_one PySem.W.kitx_bool I.kIn True.intro (go (t:=.bool) rfl) (fun z=>nomatch z) fin
  | int i=>obtain⟨t,rfl⟩:=ru; exact PySem.W.kia_one PySem.W.kitx_int I.kIn True.intro (go (t:=.int) rfl) (fun z=>nomatch z) fin
  | str y=>obtain⟨t,rfl⟩:=ru; exact PySem.W.kia_one PySem.W.kitx_str I.kIn True.intro (go (t:=.str) rfl) (fun z=>nomatch z) fin
  | @tup a vs l sa ra=>
   cases ru
   obtain⟨its,_,⟨o,h1,h2,_⟩,_⟩:=I.tuple sa
   exact PySem.W.kia_one PySem.W.kitx_tuple I.kIn ⟨o,h1,h2⟩ (go (t:=.tuple) rfl) (fun z=>nomatch z) fin
  | @fls a vs l sa ra=>
   cases ru
   obtain⟨its,_,⟨o,n,h1,h2,_⟩,_⟩:=I.list sa.sq
   exact PySem.W.kia_one PySem.W.kitx_list I.kIn ⟨o,h1,h2⟩ (go (t:=.list) rfl) (fun z=>nomatch z) fin
  | @fdc a l l' ws vs sa kk e1 e2 ra=>
   cases ru
   have g:=go (t:=.dict) rfl
   obtain⟨_,_,vs',_,dd⟩:=dk_rd I.hok sa.1
   obtain⟨o,es,ep,h1,h2,_⟩:=dd
   exact PySem.W.kia_one PySem.W.kitx_dict I.kIn ⟨o,h1,h2.1⟩ g (fun z=>nomatch z) fin
  | @fn a=>
   simp only[isTy,tyW] at eb
   cases eb
  | @ref n a hn=>
   cases ru
   cases et:tyW h (.ref n) with
   | none=>simp only[isTy,et] at eb; cases eb
   | some t=>
    have g:=go et
    simp only[tyW] at et
    split at et
    .rename_i l ho
     cases et
     obtain⟨vs,hv,_⟩:=R.ob n a _ hn ho
     obtain⟨its,_,⟨o,n,h1,h2,_⟩,_⟩:=I.list (SqL.of hv)
     exact PySem.W.kia_one PySem.W.kitx_list I.kIn ⟨o,h1,h2⟩ g (fun z=>nomatch z) fin
    .rename_i l ho
     cases et
     obtain⟨l',hv,_⟩:=R.ob n a _ hn ho
     exact isinst_ok (x:=.ref a) I rfl (.dK hv) g fin
    .cases et
 .cases e
theorem se_isi(T:Ty){y:Str}(ha:SE X cl a ma)(hi:X.mg "isinstance" = none)(ht:X.mg y=none)(hv:bootBuiltins y=some (.type T.name))(hg:Gl X "isinstance":=by rfl)(hg2:Gl X y:=by rfl)
  (hn:y≠"__name__":=by decide) (hdb:(y==("__debug__":Str))=false:=by decide)
  (hs1:starEach [a,.Name y p2] X.env=(false,eval a X.env)::starEach [.Name y p2] X.env:=by rfl) (hs2:starEach [.Name y p2] X.env=(false,eval (.Name y p2) X.env)::starEach [] X.env:=by rfl)
  (hpl:(backTo pos (starEach [.Name y p2] X.env)).any (·.1)=false:=by rfl):SE X cl (.Call (.Name "isinstance" p) [a,.Name y p2] [] pos) (eUn (isW T) ma):=
 PE.wk (pe_callB (call_isiW (cl:=cl) T) hg hi PyProof.Rows.boot_isinstance (pa_cons ha (pa_cons (pe_bltn hg2 ht hv (show RelV (.ty T.name) (.type T.name) from rfl) hn hdb) pa_nil hs2) hs1) (by decide) (by decide) hs1 hpl) fun σ H Q q0=>by
  obtain⟨μ,h,ρ,w,h',R,er,e,k⟩:=q0
  obtain⟨x,h1,e1,e⟩:=of_bnd e
  exact⟨μ,h,ρ,x,h1,R,er,e1,fun μ1 H1 vx E1 R1 rx=>⟨vx,rfl,μ1,h1,x,w,h',R1,rx,e,k.ext E1⟩⟩
noncomputable def intW(ws:List W):M W:=fun h=>match ws with
 | [.int i]=>some (.int i,h)
 | [.bl b]=>some (.int (if b then 1 else 0),h)
 | _=>none
noncomputable def strW(ws:List W):M W:=fun h=>match ws with
 | [.int i]=>if i.natAbs.log2<1920 then some (.str (toString i),h) else none
 | _=>none
noncomputable def tupleW(ws:List W):M W:=fun h=>match ws with
 | [.tup l]=>some (.tup l,h)
 | [w]=>match getL h w with
  | some l=>some (.tup l,h)
  | none=>none
 | _=>none
noncomputable def listW(ws:List W):M W:=fun h=>match ws with
 | [w]=>match seqOf h w with
  | some l=>some (.fls l,h)
  | none=>none
 | _=>none
noncomputable def listM(ws:List W):M W:=fun h=>match ws with
 | [w]=>match seqOf h w with
  | some l=>some (.ref h.length,h++[.lst l])
  | none=>none
 | _=>none
theorem call_intW:CallR X (.type "int") (rMs X.K cl intW):=by
 rintro pins s σ H xs us Q I rs ⟨μ,h,ws,w,h',R,ax,e,k⟩
 unfold intW at e
 split at e
 .cases e
  cases ax with | cons r t=>cases t with | nil=>
   cases r.int_of
   exact call_int1 pins s σ H _ us Q I rs (.inl ⟨_,rfl,k.pure R (.int _)⟩)
 .cases e
  cases ax with | cons r t=>cases t with | nil=>
   cases r.bl_of
   exact call_int1 pins s σ H _ us Q I rs (.inr ⟨_,rfl,k.pure R (.int _)⟩)
 .cases e
theorem call_strW:CallR X (.type "str") (rMs X.K cl strW):=by
 rintro pins s σ H xs us Q I rs ⟨μ,h,ws,w,h',R,ax,e,k⟩
 unfold strW at e
 split at e
 .split at e
  .rename_i hl
   cases e
   cases ax with | cons r t=>cases t with | nil=>
    cases r.int_of
    exact call_str_int pins s σ H _ us Q I rs ⟨_,rfl,hl,k.pure R (.str _)⟩
  .cases e
 .cases e
theorem call_tupleW:CallR X (.type "tuple") (rMs X.K cl tupleW):=by
 rintro pins s σ H xs us Q I rs ⟨μ,h,ws,w,h',R,ax,e,k⟩
 unfold tupleW at e
 split at e
 .rename_i l
  cases e
  cases ax with | cons r t=>cases t with | nil=>
   obtain⟨a,vs,rfl,sa,ra⟩:=r.tup_of
   exact call_tuple_of pins s σ H _ us Q I rs ⟨a,vs,rfl,.inr ⟨sa,k.pure R (.tup sa ra)⟩⟩
 .split at e
  .rename_i l el
   cases e
   cases ax with | cons r t=>cases t with | nil=>
    obtain⟨a,vs,rfl,sa,ra⟩:=getL_of R r el
    exact call_tuple_of pins s σ H _ us Q I rs ⟨a,vs,rfl,.inl ⟨sa,fun p hp=>k.tup R ra hp⟩⟩
  .cases e
 .cases e
theorem call_listW:CallR X (.type "list") (rMs X.K cl listW):=by
 rintro pins s σ H xs us Q I rs ⟨μ,h,ws,w,h',R,ax,e,k⟩
 unfold listW at e
 split at e
 .split at e
  .rename_i l el
   cases e
   cases ax with | cons r t=>cases t with | nil=>
    obtain⟨a,vs,rfl,sa,ra⟩:=seqOf_of R r el
    exact call_list_of pins s σ H _ us Q I rs ⟨a,vs,rfl,sa,fun p hp=>k.fls R ra hp⟩
  .cases e
 .cases e
theorem call_listM:CallR X (.type "list") (rMs X.K cl listM):=by
 rintro pins s σ H xs us Q I rs ⟨μ,h,ws,w,h',R,ax,e,k⟩
 unfold listM at e
 split at e
 .split at e
  .rename_i l el
   cases e
   cases ax with | cons r t=>cases t with | nil=>
    obtain⟨a,vs,rfl,sa,ra⟩:=seqOf_of R r el
    exact call_list_of pins s σ H _ us Q I rs ⟨a,vs,rfl,sa,fun p hp=>k.lst R ra hp⟩
  .cases e
 .cases e
end
noncomputable def appendM(x:W)(ws:List W):M W:=fun h=>match x,ws with
 | .ref n,[y]=>match h[n]? with
  | some (.lst l)=>if l.length<cap then some (.non,h.set n (.lst (l++[y]))) else none
  | _=>none
 | _,_=>none
noncomputable def extendM(x:W)(ws:List W):M W:=fun h=>match x,ws with
 | .ref n,[y]=>match h[n]?,seqOf h y with
  | some (.lst l),some l'=>if l.length+l'.length≤cap then some (.non,h.set n (.lst (l++l'))) else none
  | _,_=>none
 | _,_=>none
noncomputable def popM(x:W)(ws:List W):M W:=fun h=>match x,ws with
 | .ref n,[]=>match h[n]? with
  | some (.lst l)=>match l[l.length-1]? with
   | some y=>some (y,h.set n (.lst l.dropLast))
   | none=>none
  | _=>none
 | _,_=>none
noncomputable def eMethL(f:W→List W→M W)(o:ME)(ms:List ME):ME:=fun ρ=>bnd (o ρ) fun x h=>if (getL h x).isSome=true then bnd (mArgs ms ρ) (fun ws=>f x ws) h else none
section
variable{X:Cx}{cl:Nat→Addr}{o e:Expr}{es:List Expr}{mo:ME}{ms:List ME}{apos cpos:Pos}{f:W→List W→M W}
inductive rMm(K:PySem.W.Frag)(cl:Nat→Addr)(f:W→List W→M W)(x:V)(xs:List V)(H:Hp)(Q:VK):Prop
 | mk (μ:List Addr) (h:MH) (wx:W) (ws:List W) (w:W) (h':MH) (p0:HR K cl μ H h) (p1:RW K μ H wx x) (p2:RWs K μ H ws xs) (p3:f wx ws h=some (w,h')) (p4:KQ K cl μ H h' w Q):rMm K cl f x xs H Q
theorem meth_read{σ:L2.St}{H:Hp}{Q:VK}(q:tM X.K cl (eMethL f mo ms) σ H Q):tBM X.K "list" (rMm X.K cl f) (tM X.K cl mo) (tMA X.K cl ms) σ H Q:=by
 obtain⟨μ,h,ρ,w,h',R,er,e,k⟩:=q
 obtain⟨x,h1,e1,e⟩:=of_bnd e
 split at e
 .rename_i hl
  obtain⟨ws,h2,e2,e⟩:=of_bnd e
  refine⟨μ,h,ρ,x,h1,R,er,e1,fun μ1 H1 vx E1 R1 rx=>?_⟩
  obtain⟨l,hl⟩:=Option.isSome_iff_exists.mp hl
  obtain⟨a,vs,rfl,sa,ra⟩:=getL_of R1 rx hl
  exact⟨.inl ⟨rfl,vs,sa⟩,μ1,h1,ρ,ws,h2,R1,er.ext R E1,e2,fun μ2 H2 xs E2 R2 rs=>⟨μ2,h2,x,ws,w,h',R2,rx.ext R1 E2,rs,e,k.ext (E1.trans E2)⟩⟩
 .cases e
theorem meth_read0{σ:L2.St}{H:Hp}{Q:VK}(q:tM X.K cl (eMethL f mo []) σ H Q):tBM0 X.K "list" (rMm X.K cl f) (tM X.K cl mo) σ H Q:=by
 obtain⟨μ,h,ρ,w,h',R,er,e,k⟩:=q
 obtain⟨x,h1,e1,e⟩:=of_bnd e
 split at e
 .rename_i hl
  obtain⟨ws,h2,e2,e⟩:=of_bnd e
  cases e2
  refine⟨μ,h,ρ,x,h1,R,er,e1,fun μ1 H1 vx E1 R1 rx=>?_⟩
  obtain⟨l,hl⟩:=Option.isSome_iff_exists.mp hl
  obtain⟨a,vs,rfl,sa,ra⟩:=getL_of R1 rx hl
  exact⟨.inl ⟨rfl,vs,sa⟩,μ1,h1,x,[],w,h',R1,rx,.nil,e,k.ext E1⟩
 .cases e
theorem KQ.put{K:PySem.W.Frag}{μ:List Addr}{H:Hp}{h:MH}{n:Nat}{a:Addr}{l:List W}{vs:List V}{w:W}{v:V}{Q:VK}(k:KQ K cl μ H (h.set n (.lst l)) w Q)(R:HR K cl μ H h)(hn:μ[n]?=some a)(rs:RWs K μ H l vs)(r:RW K μ H w v):Q v (upd H a (.lst vs)):=
 k μ _ v (.put hn) (R.put hn ⟨vs,upd_same,rs.ext R (.put hn)⟩) (r.ext R (.put hn))
theorem mt_appendM:MtM X "list.append" (rMm X.K cl appendM):=by
 rintro pins s σ H x xs v us Q I rx rs ⟨μ,h,wx,ws,w,h',R,ax,as,e,k⟩
 unfold appendM at e
 split at e
 .rename_i n y
  split at e
  .rename_i l ho
   split at e
   .rename_i hl
    cases e
    cases ax with | @ref _ a hn=>
    cases as with | cons r t=>cases t with | nil=>
    obtain⟨vs,hv,rl⟩:=R.ob n a _ hn ho
    exact mt_append pins s σ H _ _ v us Q I rx rs ⟨a,vs,_,rfl,rfl,hv,Nat.lt_of_lt_of_le (by rw[←rl.length]; exact hl) cap_le,k.put R hn (rl.append (.cons r .nil)) .non⟩
   .cases e
  .cases e
 .cases e
theorem mt_popM:MtM X "list.pop" (rMm X.K cl popM):=by
 rintro pins s σ H x xs v us Q I rx rs ⟨μ,h,wx,ws,w,h',R,ax,as,e,k⟩
 unfold popM at e
 split at e
 .rename_i n
  split at e
  .rename_i l ho
   split at e
   .rename_i y hy
    cases e
    cases ax with | @ref _ a hn=>
    cases as
    obtain⟨vs,hv,rl⟩:=R.ob n a _ hn ho
    obtain⟨v',ev,rv⟩:=rl.get hy
    exact mt_pop pins s σ H _ _ v us Q I rx rs ⟨a,vs,v',rfl,rfl,hv,by rw[←rl.length]; exact ev,k.put R hn rl.dropLast rv⟩
   .cases e
  .cases e
 .cases e
theorem list_extendW(T:String)(hT:T="list" ∨ T="tuple")(l:Addr)(items:Array Value)(n:Nat)(b:Addr)(items2:Array Value)(n2:Nat)(dd2:Option Addr)(sl2:Array (Option Value))(hc0:¬(!items.isEmpty&&Builtin.List.listTooLong (items.size+items2.size))=true)(hc1:items.size≤sizeLine)(hs2:items.size+items2.size≤sizeLine+1) :
  Meets (Builtin.«list.extend» ⟨[.ref l,.ref b],[]⟩) (fun _ R s=>s.heap.get? l=some { cls:=.type "list",dict:=none,data:=.seq items n,slots:=#[] }∧s.heap.get? b=some { cls:=.type T,dict:=dd2,data:=.seq items2 n2,slots:=sl2 }∧R (.ok (.ret Value.none)) { s with heap:=s.heap.update l (Obj.mapSeq fun x=>x++items2),toks:=s.toks }):=by
 rcases hT with rfl | rfl
 .exact .of_wp fun prog w A R s h=>by
   obtain⟨hp,g,d,tk,os⟩:=s; obtain⟨hl,hb,h⟩:=h; have f1:=AutoSeq1.idx_int; have f2:=AutoSeq1.sub_tuple_tuple; have f3:=AutoSeq1.sub_list_list; have f4:=AutoSeq1.sub_tuple_list; have f5:=AutoSeq1.sub_list_tuple
   have hz':(items++items2).size≤sizeLine+1:=by rw[Array.size_append]; exact hs2
   wp_walk using (wpAny_updateSeq hl rfl (hz:=hc1) (_hz':=hz')),wpAny_loadPart' hl,wpAny_loadPart' hb; exact⟨_,rfl,h⟩
 .exact .of_wp fun prog w A R s h=>by
   obtain⟨hp,g,d,tk,os⟩:=s; obtain⟨hl,hb,h⟩:=h; have f1:=AutoSeq1.idx_int; have f2:=AutoSeq1.sub_tuple_tuple; have f3:=AutoSeq1.sub_list_list; have f4:=AutoSeq1.sub_tuple_list; have f5:=AutoSeq1.sub_list_tuple
   have hz':(items++items2).size≤sizeLine+1:=by rw[Array.size_append]; exact hs2
   wp_walk using (wpAny_updateSeq hl rfl (hz:=hc1) (_hz':=hz')),wpAny_loadPart' hl,wpAny_loadPart' hb; exact⟨_,rfl,h⟩
theorem extend_seq{pins:List (Addr×Obj)}{s:Shared}{σ:L2.St}{H:Hp}{l b:Addr}{v u:Value}{Q:VK}{xs zs:List V}(I:Inv X pins σ H s)(rx:RelV (.ref l) v)(ru:RelV (.ref b) u)(hH:H l=some (.lst xs))(hB:SqL X.K H b zs∨SqT X.K H b zs)(hz:xs.length+zs.length≤sizeLine)
  (q:Q .non (upd H l (.lst (xs++zs)))):wpAny (model X.prog X.w) X.A (call (.builtin "list.extend") [v,u]) (EP X pins σ Q) X.xe s:=by
 cases rx
 cases ru
 obtain⟨z,its,n,r,hl,e⟩:=I.lstM hH
 have go:∀{T:String} {its2:List Value} {n2:Nat} {dd2:Option Addr} {sl2:Array (Option Value)},(T="list" ∨ T="tuple")→Vals zs its2→s.heap.get? b=some { cls:=.type T,dict:=dd2,data:=.seq its2.toArray n2,slots:=sl2 }→
   wpAny (model X.prog X.w) X.A (call (.builtin "list.extend") [.ref l,.ref b]) (EP X pins σ Q) X.xe s:=by
  intro T its2 n2 dd2 sl2 hT r2 e2
  have hl2:=r2.length
  have hsz:its.toArray.size+its2.toArray.size≤sizeLine:=by rw[List.size_toArray,List.size_toArray]; omega
  have hlong:¬(!its.toArray.isEmpty&&Builtin.List.listTooLong (its.toArray.size+its2.toArray.size))=true:=by
   rw[notLongL hsz,Bool.and_false]
   exact Bool.false_ne_true
  refine call_meets F.slot_list_extend ⟨_,e,rfl⟩ F.entry_list_extend (F.args_list_extend_2 _ _) (list_extendW T hT l its.toArray n b its2.toArray n2 dd2 sl2 hlong (by rw[List.size_toArray]; omega) (by omega)) ⟨e,e2,?_⟩
  refine⟨.non,_,I.lset (its':=its++its2) hH e (by simp) (r.append r2) ?_,rfl,q⟩
  rw[List.length_append]
  omega
 rcases hB with hB | hB
 .obtain⟨its2,r2,⟨⟨c2,d2,dt2,sl2⟩,n2,h1,h2,h3,h4⟩,_⟩:=I.list hB
  simp only at h2 h4
  subst h2 h4
  exact go (.inl rfl) r2 h1
 .obtain⟨its2,r2,⟨⟨c2,d2,dt2,sl2⟩,h1,h2,n2,h4⟩,_⟩:=I.tuple hB
  simp only at h2 h4
  subst h2 h4
  exact go (.inr rfl) r2 h1
theorem mt_extendM:MtM X "list.extend" (rMm X.K cl extendM):=by
 rintro pins s σ H x xs v us Q I rx rs ⟨μ,h,wx,ws,w,h',R,ax,as,e,k⟩
 unfold extendM at e
 split at e
 .rename_i n y
  split at e
  .rename_i l l' ho el
   split at e
   .rename_i hl
    cases e
    cases ax with | @ref _ a hn=>
    cases as with | cons r t=>cases t with | nil=>
    obtain⟨vs,hv,rl⟩:=R.ob n a _ hn ho
    obtain⟨b,zs,rfl,sb,rb⟩:=seqOf_of R r el
    obtain⟨u,rfl,ru⟩:=rs.one
    exact extend_seq I rx ru hv sb (Nat.le_trans (by rw[←rl.length,←rb.length]; exact hl) cap_le) (k.put R hn (rl.append rb) .non)
   .cases e
  .cases e
 .cases e
theorem se_append(ho:SE X cl o mo)(ha:SA X cl (e::es) ms)(hbase:attributeBase o "append" X.env (eval o X.env)=eval o X.env:=by rfl)
  (hfew:((backTo cpos (starEach (e::es) X.env)).all (fun x=>!x.1)&&(backToKw cpos (keywordEach [] X.env)).all (fun x=>x.1.isSome)
   && decide ((e::es).length+([]:List Keyword).length+(if ([]:List Keyword).isEmpty then 0 else 1)<30))=true:=by rfl)
  (hline:(apos.endLine==cpos.line)=true:=by rfl) (hs:starEach (e::es) X.env=(false,eval e X.env)::starEach es X.env:=by rfl) (hplain:(backTo cpos (starEach es X.env)).any (·.1)=false:=by rfl) :
  SE X cl (.Call (.Attribute o "append" apos) (e::es) [] cpos) (eMethL appendM mo ms):=
 PE.wk (pe_bm PySem.F.plainAttrs_list PySem.F.slot_list_append PySem.F.type_list_append mt_appendM ho ha hbase hfew hline hs hplain) fun σ H Q q=>meth_read q
theorem se_extend(ho:SE X cl o mo)(ha:SA X cl (e::es) ms)(hbase:attributeBase o "extend" X.env (eval o X.env)=eval o X.env:=by rfl)
  (hfew:((backTo cpos (starEach (e::es) X.env)).all (fun x=>!x.1)&&(backToKw cpos (keywordEach [] X.env)).all (fun x=>x.1.isSome)
   && decide ((e::es).length+([]:List Keyword).length+(if ([]:List Keyword).isEmpty then 0 else 1)<30))=true:=by rfl)
  (hline:(apos.endLine==cpos.line)=true:=by rfl) (hs:starEach (e::es) X.env=(false,eval e X.env)::starEach es X.env:=by rfl) (hplain:(backTo cpos (starEach es X.env)).any (·.1)=false:=by rfl) :
  SE X cl (.Call (.Attribute o "extend" apos) (e::es) [] cpos) (eMethL extendM mo ms):=
 PE.wk (pe_bm PySem.F.plainAttrs_list PySem.F.slot_list_extend PySem.F.type_list_extend mt_extendM ho ha hbase hfew hline hs hplain) fun σ H Q q=>meth_read q
theorem se_pop(ho:SE X cl o mo)(hbase:attributeBase o "pop" X.env (eval o X.env)=eval o X.env:=by rfl)(hline:(apos.endLine==cpos.line)=true:=by rfl) :
  SE X cl (.Call (.Attribute o "pop" apos) [] [] cpos) (eMethL popM mo []):=
 PE.wk (pe_bm0 PySem.F.plainAttrs_list PySem.F.slot_list_pop PySem.F.type_list_pop mt_popM ho hbase hline) fun σ H Q q=>meth_read0 q
end
noncomputable def srcOf(x:W):M Src:=fun h=>match x with
 | .tup l=>some (.items l,h)
 | .fls l=>some (.items l,h)
 | .ref n=>match h[n]? with
  | some (.lst _)=>some (.live n,h)
  | _=>none
 | _=>none
noncomputable def iSeq(m:ME):MI:=fun ρ=>bnd (m ρ) srcOf
noncomputable def upto(n:Nat):List W:=(_root_.List.range n).map fun(i:Nat)=>W.int (i:Int)
noncomputable def rngW(ws:List W):M Src:=fun h=>match ws with
 | [.int j]=>if -(2 ^ 62)≤j∧j<2 ^ 62 then some (.items (upto j.toNat),h) else none
 | _=>none
noncomputable def iRng(ms:List ME):MI:=fun ρ=>bnd (mArgs ms ρ) rngW
section
variable{X:Cx}{cl:Nat→Addr}{tg e:Expr}{m:ME}{ms:List ME}{p pos:Pos}
theorem pi_seq{tl:TE}(hl:PE X e tl):PI X tg e (fun σ H R=>tl σ H fun x H1=>∃a,x=.ref a∧(((∃xs,SqL X.K H1 a xs)∧R (Itl X.K a) H1)∨((∃xs,SqT X.K H1 a xs)∧R (Itt X.K a) H1))):=by
 intro pins s σ H R I h
 refine thn (hl pins s σ H _ I h) fun v s1 ⟨x,H1,I1,r1,q1⟩=>?_
 obtain⟨a,e,q1⟩:=q1
 subst e
 cases r1
 rcases q1 with ⟨⟨xs,hq⟩,q⟩ | ⟨⟨xs,hq⟩,q⟩
 .obtain⟨its,rv,p,hz⟩:=I1.list hq
  refine wpAny_pyIter_list p.isList ?_
  refine⟨s1.heap.objs.size,[s1.heap.objs.size],_,_,H1,rfl,I1.kept (t':=s1.toks) fun b o e=>Heap.get?_push_of_some _ e,turn_list a _,⟨_,Heap.get?_push_size _ rfl,rfl,rfl⟩,fun b hb=>?_,q⟩
  have e:b=s1.heap.objs.size:=by simpa using hb
  subst e
  exact I1.fpOk (Nat.le_refl _) (I1.hok.fresh (Nat.le_refl _))
 .obtain⟨its,rv,p,hz⟩:=I1.tuple hq
  refine wpAny_pyIter_tuple (show s1.heap.IsTuple a its.toArray from p) ?_
  refine⟨s1.heap.objs.size,[s1.heap.objs.size],_,_,H1,rfl,I1.kept (t':=s1.toks) fun b o e=>Heap.get?_push_of_some _ e,turn_tuple a _,⟨_,Heap.get?_push_size _ rfl,rfl,rfl⟩,fun b hb=>?_,q⟩
  have e:b=s1.heap.objs.size:=by simpa using hb
  subst e
  exact I1.fpOk (Nat.le_refl _) (I1.hok.fresh (Nat.le_refl _))
theorem jr_tup{K:PySem.W.Frag}{μ:List Addr}{H:Hp}{h:MH}{a:Addr}{vs:List V}{l:List W}(R:HR K cl μ H h)(sa:SqT K H a vs)(ra:RWs K μ H l vs):JR K cl (Itt K a) (.items l) μ H:=by
 intro μ2 H2 h2 E2 R2 i
 have sa2:=SqT.ext R E2 sa
 have ra2:=ra.ext R E2
 refine⟨fun w ew=>?_,fun es=>?_⟩
 .have ew':l[i]?=some w:=Option.some.inj ew
  obtain⟨v,ev,rv⟩:=ra2.get ew'
  refine⟨⟨vs,v,sa2,ev⟩,fun x H3 y=>?_⟩
  obtain⟨rfl,y⟩:=y
  have:=y vs sa2
  rw[ev] at this
  cases this
  exact⟨.refl,R2,rv⟩
 .have es':l[i]?=none:=Option.some.inj es
  exact⟨vs,sa2,by rw[←ra.length]; exact List.getElem?_eq_none_iff.mp es'⟩
theorem jr_fls{K:PySem.W.Frag}{μ:List Addr}{H:Hp}{h:MH}{a:Addr}{vs:List V}{l:List W}(R:HR K cl μ H h)(sa:SqF K μ H a vs)(ra:RWs K μ H l vs):JR K cl (Itl K a) (.items l) μ H:=by
 intro μ2 H2 h2 E2 R2 i
 have sa2:=(SqF.ext E2 sa).sq
 have ra2:=ra.ext R E2
 refine⟨fun w ew=>?_,fun es=>?_⟩
 .have ew':l[i]?=some w:=Option.some.inj ew
  obtain⟨v,ev,rv⟩:=ra2.get ew'
  refine⟨⟨vs,v,sa2,ev⟩,fun x H3 y=>?_⟩
  obtain⟨rfl,y⟩:=y
  have:=y vs sa2
  rw[ev] at this
  cases this
  exact⟨.refl,R2,rv⟩
 .have es':l[i]?=none:=Option.some.inj es
  exact⟨vs,sa2,by rw[←ra.length]; exact List.getElem?_eq_none_iff.mp es'⟩
theorem jr_live{K:PySem.W.Frag}{μ:List Addr}{H:Hp}{a:Addr}{n:Nat}(hn:μ[n]?=some a):JR K cl (Itl K a) (.live n) μ H:=by
 intro μ2 H2 h2 E2 R2 i
 have hn2:=E2.get hn
 refine⟨fun w ew=>?_,fun es=>?_⟩
 .unfold srcAt at ew
  dsimp only at ew
  split at ew
  .rename_i l ho
   have ew':l[i]?=some w:=Option.some.inj ew
   obtain⟨vs,hv,ra⟩:=R2.ob n a _ hn2 ho
   obtain⟨v,ev,rv⟩:=ra.get ew'
   refine⟨⟨vs,v,SqL.of hv,ev⟩,fun x H3 y=>?_⟩
   obtain⟨rfl,y⟩:=y
   have:=y vs (SqL.of hv)
   rw[ev] at this
   cases this
   exact⟨.refl,R2,rv⟩
  .cases ew
 .unfold srcAt at es
  dsimp only at es
  split at es
  .rename_i l ho
   have es':l[i]?=none:=Option.some.inj es
   obtain⟨vs,hv,ra⟩:=R2.ob n a _ hn2 ho
   exact⟨vs,SqL.of hv,by rw[←ra.length]; exact List.getElem?_eq_none_iff.mp es'⟩
  .cases es
theorem si_seq(he:SE X cl e m):SI X cl tg e (iSeq m):=PI.wk (pi_seq he) fun σ H Q q0=>by
 obtain⟨μ,h,ρ,src,h',R,er,e,k⟩:=q0
 obtain⟨x,h1,e1,e⟩:=of_bnd e
 refine⟨μ,h,ρ,x,h1,R,er,e1,fun μ1 H1 v E1 R1 r=>?_⟩
 unfold srcOf at e
 split at e
 .cases e
  obtain⟨a,vs,rfl,sa,ra⟩:=r.tup_of
  exact⟨a,rfl,.inr ⟨⟨vs,sa⟩,k μ1 H1 _ E1 R1 (jr_tup R1 sa ra)⟩⟩
 .cases e
  cases r with | @fls a vs l sa ra=>
  exact⟨a,rfl,.inl ⟨⟨vs,sa.sq⟩,k μ1 H1 _ E1 R1 (jr_fls R1 sa ra)⟩⟩
 .rename_i n
  split at e
  .rename_i l ho
   cases e
   cases r with | @ref _ a hn=>
   obtain⟨vs,hv,ra⟩:=R1.ob n a _ hn ho
   exact⟨a,rfl,.inl ⟨⟨vs,SqL.of hv⟩,k μ1 H1 _ E1 R1 (jr_live hn)⟩⟩
  .cases e
 .cases e
theorem jr_rng{K:PySem.W.Frag}{μ:List Addr}{H:Hp}{n:Nat}:JR K cl (Itr 0 n) (.items (upto n)) μ H:=by
 intro μ2 H2 h2 E2 R2 i
 refine⟨fun w ew=>?_,fun es=>?_⟩
 .have ew':(upto n)[i]?=some w:=Option.some.inj ew
  unfold upto at ew'
  rw[List.getElem?_map] at ew'
  by_cases hi:i<n
  .rw[List.getElem?_range hi] at ew'
   cases ew'
   refine⟨hi,fun x H3 y=>?_⟩
   obtain⟨rfl,rfl⟩:=y
   exact⟨.refl,R2,by rw[Int.zero_add]; exact .int _⟩
  .rw[List.getElem?_eq_none (by simpa using hi)] at ew'
   cases ew'
 .have es':(upto n)[i]?=none:=Option.some.inj es
  have:=List.getElem?_eq_none_iff.mp es'
  unfold upto at this
  rw[List.length_map,List.length_range] at this
  exact this
theorem si_rng(hm:X.mg "range" = none)(ha:SA X cl [e] ms)(hg:Gl X "range":=by rfl)(hs:starEach [e] X.env=[(false,eval e X.env)]:=by rfl):SI X cl tg (.Call (.Name "range" p) [e] [] pos) (iRng ms):=
 PI.wk (pi_range1 hg hm ha hs) fun σ H Q q0=>by
  obtain⟨μ,h,ρ,src,h',R,er,e,k⟩:=q0
  obtain⟨ws,h1,e1,e⟩:=of_bnd e
  refine⟨μ,h,ρ,ws,h1,R,er,e1,fun μ1 H1 vs E1 R1 rs=>?_⟩
  unfold rngW at e
  split at e
  .rename_i j
   split at e
   .rename_i hj
    cases e
    cases rs with | cons r t=>cases t with | nil=>
    cases r.int_of
    exact⟨j,rfl,hj.1,hj.2,k μ1 H1 _ E1 R1 jr_rng⟩
   .cases e
  .cases e
end
noncomputable def relS(sc scope:Scope):Scope:={ scope with names:=scope.names.map fun(n,k)=>if (k==.free&&sc.kind==.function&&sc.names.lookup n==some .cell) then (n,.cell) else (n,k) }
noncomputable def cof(sc:Scope)(x:Str):Bool:=sc.names.lookup x==some .cell||sc.names.lookup x==some .free
noncomputable def compOkB(sc:Scope)(N:List Str)(scope:Scope)(N':List Str)(nl:Nat)(ks:List Nat):Bool:=
 scope.kind==.function&&scope.names.all (fun y=>y.2 != .cell)&&scope.names.all (fun y=>y.2 != .local||scope.names.lookup y.1==some .local)
 && N'.length==nl+ks.length&&scope.names.all (fun y=>y.2 != .free||cof sc y.1)
 && (List.range ks.length).all fun j=>match ks[j]?,N'[nl+j]? with
  | some k,some x=>N[k]?==some x&&cof sc x&&cof (relS sc scope) x
  | _,_=>false
structure CompOk(sc:Scope)(N:List Str)(scope:Scope)(N':List Str)(nl:Nat)(ks:List Nat):Prop where
 kind:scope.kind=.function
 ncell:∀y∈scope.names,y.2≠.cell
 names:∀y∈scope.names,y.2=.local→scope.names.lookup y.1=some .local
 len:N'.length=nl+ks.length
 fall:∀y∈scope.names,y.2=.free→cof sc y.1=true
 fr:∀j k,ks[j]?=some k→∃x,N[k]?=some x∧N'[nl+j]?=some x∧cof sc x=true∧cof (relS sc scope) x=true
theorem compOk_of{sc:Scope}{N:List Str}{scope:Scope}{N':List Str}{nl:Nat}{ks:List Nat}(h:compOkB sc N scope N' nl ks=true):CompOk sc N scope N' nl ks:=by
 unfold compOkB at h
 simp only[Bool.and_eq_true] at h
 obtain⟨⟨⟨⟨⟨h1,h2⟩,h3⟩,h4⟩,h5⟩,h6⟩:=h
 refine⟨by simpa using h1,fun y hy=>?_,fun y hy e=>?_,by simpa using h4,fun y hy e=>?_,fun j k e=>?_⟩
 .have:=List.all_eq_true.mp h2 y hy; simpa using this
 .have:=List.all_eq_true.mp h3 y hy; simpa[e] using this
 .have:=List.all_eq_true.mp h5 y hy; simpa[e] using this
 .have hj:j<ks.length:=(List.getElem?_eq_some_iff.mp e).1
  have:=List.all_eq_true.mp h6 j (List.mem_range.mpr hj)
  rw[e] at this
  cases e2:N'[nl+j]? with
  | none=>rw[e2] at this; simp at this
  | some x=>
   rw[e2] at this
   simp only[Bool.and_eq_true] at this
   exact⟨x,by simpa using this.1.1,rfl,this.1.2,this.2⟩
theorem cof_or{sc:Scope}{x:Str}(h:cof sc x=true):sc.names.lookup x=some .cell∨sc.names.lookup x=some .free:=by
 unfold cof at h
 rcases Bool.or_eq_true_iff.mp h with h | h
 .exact .inl (by simpa using h)
 .exact .inr (by simpa using h)
noncomputable def cxC(X:Cx)(scope:Scope)(cs:List (Str×Addr))(C:Addr)(N:List Str)(s₀:Shared)(H₀:Hp)(ex:List Addr):Cx:=
 { X with N:=N,s₀:=s₀,H₀:=H₀,env:=compEnvC scope cs C X.env,outer:=X.stack,ex:=ex,fn:=fun _=>false,pn:=[],xe:=fun _ _=>False }
theorem closure_of{env:Env}(names:List (Str×NameKind))(h:∀y∈names,y.2=.free→∃c,env.cells.lookup y.1=some c):∀cs0:List (Str×Addr),(∀x c,cs0.lookup x=some c→env.cells.lookup x=some c)→
  ∃cs,(forIn names cs0 fun(x:Str×NameKind) (r:List (Str×Addr))=>if (x.2==NameKind.free)=true then do
    let a ←cellOf env x.1
    pure (ForInStep.yield ((x.1,a)::r)) else pure (ForInStep.yield r):Sem (List (Str×Addr)))=pure cs∧(∀x c,cs.lookup x=some c→env.cells.lookup x=some c)∧(∀y∈names,y.2=.free→∃c,cs.lookup y.1=some c)∧∀x c,cs0.lookup x=some c→∃c',cs.lookup x=some c':=by
 induction names with
 | nil=>intro cs0 h0; exact⟨cs0,by simp,h0,fun y hy=>by simp at hy,fun x c e=>⟨c,e⟩⟩
 | cons y r ih=>
  intro cs0 h0
  have hr:∀z∈r,z.2=.free→∃c,env.cells.lookup z.1=some c:=fun z hz=>h z (List.mem_cons_of_mem _ hz)
  by_cases hy:(y.2==NameKind.free)=true
  .obtain⟨c,hc⟩:=h y List.mem_cons_self (by simpa using hy)
   have h1:∀x c',((y.1,c)::cs0).lookup x=some c'→env.cells.lookup x=some c':=fun x c' e=>by
    rw[List.lookup_cons] at e
    split at e
    .rename_i q
     have:x=y.1:=by simpa using q
     subst this
     rw[←e]; exact hc
    .exact h0 x c' e
   obtain⟨cs,e1,e2,e3,e4⟩:=ih hr ((y.1,c)::cs0) h1
   have hself:∃c',cs.lookup y.1=some c':=e4 y.1 c (by rw[List.lookup_cons]; simp)
   refine⟨cs,?_,e2,fun z hz e=>?_,fun x c' e=>?_⟩
   .rw[List.forIn_cons,if_pos hy]
    have:cellOf env y.1=pure c:=by unfold cellOf; rw[hc]
    rw[this]
    simp only[pure_bind]
    exact e1
   .rcases List.mem_cons.mp hz with rfl | hz
    .exact hself
    .exact e3 z hz e
   .by_cases q:x=y.1
    .subst q; exact hself
    .refine e4 x c' ?_
     rw[List.lookup_cons]
     have:(x==y.1)=false:=by simpa using q
     rw[this]; exact e
  .obtain⟨cs,e1,e2,e3,e4⟩:=ih hr cs0 h0
   refine⟨cs,?_,e2,fun z hz e=>?_,e4⟩
   .rw[List.forIn_cons,if_neg hy]
    simp only[pure_bind]
    exact e1
   .rcases List.mem_cons.mp hz with rfl | hz
    .exact absurd (by simpa using e) hy
    .exact e3 z hz e
theorem closureFor_of{env:Env}{scope:Scope}(h:∀y∈scope.names,y.2=.free→∃c,env.cells.lookup y.1=some c) :
  ∃cs,closureFor scope env=pure cs∧(∀x c,cs.lookup x=some c→env.cells.lookup x=some c)∧(∀y∈scope.names,y.2=.free→∃c,cs.lookup y.1=some c):=by
 obtain⟨cs,e1,e2,e3,_⟩:=closure_of scope.names h [] (fun x c e=>by simp at e)
 refine⟨cs,?_,e2,e3⟩
 have q:closureFor scope env=((forIn scope.names ([]:List (Str×Addr)) fun(x:Str×NameKind) (r:List (Str×Addr))=>if (x.2==NameKind.free)=true then do
    let a ←cellOf env x.1
    pure (ForInStep.yield ((x.1,a)::r)) else pure (ForInStep.yield r):Sem (List (Str×Addr))) >>= fun cs=>pure cs):=rfl
 rw[q,e1]
 rfl
section
variable{X:Cx}{pins:List (Addr×Obj)}{σ:L2.St}{H:Hp}{s:Shared}
theorem relS_mem{sc scope:Scope}(nc:∀y∈scope.names,y.2≠.cell){x:Str}(h:cof (relS sc scope) x=true):∃y∈scope.names,y.1=x∧y.2=.free:=by
 have go:∀l:List (Str×NameKind),(∀y∈l,y.2≠.cell)→∀k:NameKind,(k=.cell∨k=.free)→(l.map fun(n,k)=>if (k==NameKind.free&&sc.kind==ScopeKind.function&&sc.names.lookup n==some NameKind.cell) then (n,NameKind.cell) else (n,k)).lookup x=some k→∃y∈l,y.1=x∧y.2=.free:=by
  intro l
  induction l with
  | nil=>intro _ k _ e; simp at e
  | cons y r ih=>
   obtain⟨n,k0⟩:=y
   intro nc k hk e
   rw[List.map_cons,List.lookup_cons] at e
   have fstq:(if (k0==NameKind.free&&sc.kind==ScopeKind.function&&sc.names.lookup n==some NameKind.cell)=true then (n,NameKind.cell) else (n,k0)).1=n:=by split<;>rfl
   by_cases q:x=n
   .refine⟨(n,k0),List.mem_cons_self,q.symm,?_⟩
    have:(x==n)=true:=by simpa using q
    simp only[fstq,this] at e
    split at e
    .rename_i c
     simp only[Bool.and_eq_true] at c
     simpa using c.1.1
    .have e':k0=k:=by simpa using e
     rcases hk with rfl | rfl
     .exact absurd e' (nc (n,k0) List.mem_cons_self)
     .exact e'
   .have:(x==n)=false:=by simpa using q
    simp only[fstq,this] at e
    obtain⟨y,hy,e1,e2⟩:=ih (fun y hy=>nc y (List.mem_cons_of_mem _ hy)) k hk e
    exact⟨y,List.mem_cons_of_mem _ hy,e1,e2⟩
 rcases cof_or h with h | h
 .exact go scope.names nc _ (.inl rfl) h
 .exact go scope.names nc _ (.inr rfl) h
theorem cxC_ok{sc scope:Scope}{N N':List Str}{nl:Nat}{ks:List Nat}{cs:List (Str×Addr)}{C:Addr}{ex:List Addr}(I:Inv X pins σ H s)(hsc:X.env.scope=sc)(ok:CompOk sc N scope N' nl ks)
  (hcs:∀x c,cs.lookup x=some c→X.env.cells.lookup x=some c) (hall:∀y∈scope.names,y.2=.free→∃c,cs.lookup y.1=some c) (hC:s.heap.objs.size≤C) (hex:∀b∈ex,FpOk X pins H b) (hob:∀b∈ex,b<s.heap.objs.size):(cxC X scope cs C N' s H ex).Ok:=by
 subst hsc
 refine⟨I.ok.mod,ok.kind,I.ok.glob,I.ok.blt,hC,fun x y c h1 h2=>I.ok.inj x y c (hcs x c h1) (hcs y c h2),fun x hx=>?_,fun x c h=>?_,I.ok.hd,I.ok.frames,.inl rfl,fun b hb=>?_,I.bs,Nat.le_trans I.ok.bsz I.sz,fun b o e hb=>?_,fun b hb z=>?_,I.stack,I.stkFree⟩
 .have hc:cof (relS X.env.scope scope) x=true:=by
   unfold cof
   rcases hx with hx | hx
   .rw[show(relS X.env.scope scope).names.lookup x=some .cell from hx]; rfl
   .rw[show(relS X.env.scope scope).names.lookup x=some .free from hx]; rfl
  obtain⟨y,hy,rfl,e⟩:=relS_mem ok.ncell hc
  exact hall y hy e
 .cases h
 .obtain⟨h0,h1,h2,h3,h4,h5⟩:=hex b hb
  exact⟨fun z=>absurd (Nat.lt_of_lt_of_le (hob b hb) (z▸hC)) (Nat.lt_irrefl _),fun x c e=>h4 x c (hcs x c e)⟩
 .obtain⟨h0,h1,h2,h3,h4,h5⟩:=hex b hb
  rcases h3 with h3 | h3
  .exact I.ok.noex b o e h3
  .exact absurd (Nat.lt_of_lt_of_le (Heap.lt_size e) (Nat.le_trans I.ok.bsz h3)) (Nat.lt_irrefl _)
 .obtain⟨h0,h1,h2,h3,h4,h5⟩:=hex b hb
  rcases List.mem_cons.mp (I.stkSub b z) with e | e
  .exact h1 e
  .exact h2 e
end
section
variable{prog:Program}{w:World}{A:Around}{R:Result→Shared→Prop}{s:Shared}
noncomputable def testsOf(ifs:List Expr)(env:Env):Sem Bool:=forIn ifs true fun c r=>if r=true then do let ok ←isTrue c env (eval c env); pure (ForInStep.yield ok) else pure (ForInStep.yield r)
theorem compLoop_gen{elt target iter:Expr}{ifs:List Expr}{scope:Scope}{pos:Pos}{it acc:Value}{env:Env}(I:Nat→Shared→Prop)
  (turn:∀n s,I n s→wpAny (model prog w) A (pyNext it) (fun r s₁=>match r with
   | none=>R (.ok .next) s₁
   | some v=>wpAny (model prog w) A (letOwnedTupleGo target it v) (fun _ s₁'=>wpAny (model prog w) A (assign target env v) (fun _ s₂=>
     wpAny (model prog w) A (testsOf ifs env) (fun ok s₃=>
      if ok=true then wpAny (model prog w) A (eval elt env) (fun x s₄=>
       wpAny (model prog w) A (call (.builtin "list.append") [acc,x]) (fun _ s₅=>∃m,m<n∧I m s₅) (fun _ _=>False) s₄) (fun _ _=>False) s₃
      else ∃m,m<n∧I m s₃) (fun _ _=>False) s₂) (fun _ _=>False) s₁') (fun _ _=>False) s₁) (fun _ _=>False) s)
  (n:Nat) (h:I n s) :
  codeAny (model prog w) A (.compLoop (.ListComp elt [⟨target,iter,ifs,0⟩] scope pos) 0 it acc env) R s:=by
 refine codeAny_loop rfl I (fun n s hI=>?_) n h
 show wpAny _ A ((compTurn (.ListComp elt [⟨target,iter,ifs,0⟩] scope pos) 0 it acc env).onRaise (fun x=>do noteFrame x env; theTreesLotGoes x)) _ _ s
 refine wpAny_noted ?_
 rw[compTurn_list]
 refine wpAny_bind (wpAny_standAt (wpAny_bind (wpAny_mono (turn n s hI) (fun r s₁ h₁=>?_) fun _ _ h'=>h'.elim)))
 cases r with
 | none=>exact wpAny_pure h₁
 | some v=>
  refine wpAny_bind (wpAny_mono h₁ (fun _ s₁' h₁'=>?_) fun _ _ h'=>h'.elim)
  refine wpAny_bind (wpAny_mono h₁' (fun _ s₂ h₂=>wpAny_bind (wpAny_mono h₂ (fun ok s₃ h₃=>?_) fun _ _ h'=>h'.elim)) fun _ _ h'=>h'.elim)
  cases ok with
  | false=>exact wpAny_pure ⟨rfl,h₃⟩
  | true=>
   exact wpAny_bind (wpAny_bind (wpAny_mono h₃ (fun x s₄ h₄=>wpAny_bind (wpAny_mono h₄ (fun _ s₅ h₅=>wpAny_pure (wpAny_pure ⟨rfl,h₅⟩)) fun _ _ h'=>h'.elim)) fun _ _ h'=>h'.elim))
end
noncomputable def STs(X:Cx)(cl:Nat→Addr)(ifs:List Expr)(t:MT):Prop:=∀(pins:List (Addr×Obj)) (s:Shared) (σ:L2.St) (H:Hp) (Q:Bool→Hp→Prop),Inv X pins σ H s→tMT X.K cl t σ H Q→wpAny (model X.prog X.w) X.A (testsOf ifs X.env) (TP X pins σ Q) X.xe s
noncomputable def tTrue:MT:=fun _ h=>some (true,h)
section
variable{X:Cx}{cl:Nat→Addr}{c:Expr}{t:MT}
theorem sts_nil:STs X cl [] tTrue:=fun pins s σ H Q I q0=>by
 obtain⟨μ,h,ρ,b,h',R,er,e,k⟩:=q0
 cases e
 exact wpAny_tests_nil ⟨H,I,k μ H .refl R⟩
theorem sts_one(h:ST X cl c t):STs X cl [c] t:=fun pins s σ H Q I q=>wpAny_tests_one (h pins s σ H Q I q)
end
noncomputable def blank(nl:Nat)(ρ:En):En:=List.replicate nl none++ρ.drop nl
noncomputable def compN(src:Src)(nl:Nat)(g:MG)(t:MT)(m:ME)(n0:Nat):Nat→Nat→En→MH→Option MH
 | 0,_,_,_=>none
 | k+1,i,ρ,h=>match srcAt src i h with
  | none=>none
  | some none=>some h
  | some (some w)=>match g w ρ h with
   | none=>none
   | some (ρ1,h1)=>match t ρ1 h1 with
    | none=>none
    | some (false,h2)=>compN src nl g t m n0 k (i+1) (blank nl ρ1) h2
    | some (true,h2)=>match m ρ1 h2 with
     | none=>none
     | some (y,h3)=>match h3[n0]? with
      | some (.lst acc)=>if acc.length<cap then compN src nl g t m n0 k (i+1) (blank nl ρ1) (h3.set n0 (.lst (acc++[y]))) else none
      | _=>none
noncomputable def compL(nl:Nat)(g:MG)(t:MT)(m:ME)(n0:Nat):List W→En→MH→Option MH
 | [],_,h=>some h
 | w::r,ρ,h=>match g w ρ h with
   | none=>none
   | some (ρ1,h1)=>match t ρ1 h1 with
    | none=>none
    | some (false,h2)=>compL nl g t m n0 r (blank nl ρ1) h2
    | some (true,h2)=>match m ρ1 h2 with
     | none=>none
     | some (y,h3)=>match h3[n0]? with
      | some (.lst acc)=>if acc.length<cap then compL nl g t m n0 r (blank nl ρ1) (h3.set n0 (.lst (acc++[y]))) else none
      | _=>none
theorem compN_items{nl:Nat}{g:MG}{t:MT}{m:ME}{n0:Nat}(l:List W):∀(k i:Nat) (ρ:En) (h:MH),l.length+1≤i+k→i≤l.length→compN (.items l) nl g t m n0 k i ρ h=compL nl g t m n0 (l.drop i) ρ h
 | 0,i,ρ,h,hk,hi=>by omega
 | k+1,i,ρ,h,hk,hi=>by
  by_cases hl:i<l.length
  .rw[List.drop_eq_getElem_cons hl]
   unfold compN compL
   simp only[srcAt,List.getElem?_eq_getElem hl]
   cases e1:g l[i] ρ h with
   | none=>rfl
   | some p=>
    obtain⟨ρ1,h1⟩:=p
    simp only
    cases e2:t ρ1 h1 with
    | none=>rfl
    | some q=>
     obtain⟨b,h2⟩:=q
     cases b with
     | false=>exact compN_items l k (i+1) _ h2 (by omega) hl
     | true=>
      simp only
      cases e3:m ρ1 h2 with
      | none=>rfl
      | some q3=>
       obtain⟨y,h3⟩:=q3
       simp only
       split
       .split
        .exact compN_items l k (i+1) _ _ (by omega) hl
        .rfl
       .rfl
  .have hi':i=l.length:=by omega
   subst hi'
   rw[List.drop_length]
   unfold compN compL
   simp[srcAt]
noncomputable def compR(mi:MI)(nl:Nat)(ks:List Nat)(g:MG)(t:MT)(m:ME):En→MH→Option (Nat×MH×MH):=fun ρ h=>match mi ρ h with
 | none=>none
 | some (.items l,h1)=>match compL nl g t m h1.length l (List.replicate nl none++ks.map fun k=>(ρ[k]?).join) (h1++[.lst []]) with
  | some h2=>some (h1.length,h1,h2)
  | none=>none
 | some (.live n,h1)=>match compN (.live n) nl g t m h1.length (srcLen (.live n) h1+1) 0 (List.replicate nl none++ks.map fun k=>(ρ[k]?).join) (h1++[.lst []]) with
  | some h2=>some (h1.length,h1,h2)
  | none=>none
noncomputable def eCompM(mi:MI)(nl:Nat)(ks:List Nat)(g:MG)(t:MT)(m:ME):ME:=fun ρ h=>match compR mi nl ks g t m ρ h with
 | some (n,_,h2)=>some (.ref n,h2)
 | none=>none
open Classical in
noncomputable def eComp(mi:MI)(nl:Nat)(ks:List Nat)(g:MG)(t:MT)(m:ME):ME:=fun ρ h=>match compR mi nl ks g t m ρ h with
 | some (n,h1,h2)=>match h2[n]? with
  | some (.lst l)=>if h1<+:h2∧lows h1.length l=true then some (.fls l,h1) else none
  | _=>none
 | none=>none
theorem ER.blank{K:PySem.W.Frag}{μ:List Addr}{H:Hp}{ρ:En}{σ:L2.St}{nl:Nat}(er:ER K μ H ρ σ)(hl:nl≤ρ.length):ER K μ H (ML.blank nl ρ) σ:=by
 unfold ML.blank
 refine⟨by simp; rw[←er.len]; omega,fun i w e=>?_⟩
 by_cases hi:i<nl
 .rw[List.getElem?_append_left (by simpa using hi),List.getElem?_replicate] at e
  split at e<;>cases e
 .rw[List.getElem?_append_right (by simpa using hi),List.length_replicate,List.getElem?_drop] at e
  exact er.at_ i w (by rw[←e]; congr 1; omega)
section
variable{X:Cx}{cl:Nat→Addr}{pins:List (Addr×Obj)}{σ:L2.St}
noncomputable def σC(nl:Nat)(ks:List Nat)(σ:L2.St):L2.St:=List.replicate nl none++ks.map fun k=>(σ[k]?).join
noncomputable def ρC(nl:Nat)(ks:List Nat)(ρ:En):En:=List.replicate nl none++ks.map fun k=>(ρ[k]?).join
theorem erC{K:PySem.W.Frag}{μ:List Addr}{H:Hp}{ρ:En}{nl:Nat}{ks:List Nat}(er:ER K μ H ρ σ):ER K μ H (ρC nl ks ρ) (σC nl ks σ):=by
 unfold ρC σC
 refine⟨by simp,fun i w e=>?_⟩
 by_cases hi:i<nl
 .rw[List.getElem?_append_left (by simpa using hi),List.getElem?_replicate] at e
  split at e<;>cases e
 .rw[List.getElem?_append_right (by simpa using hi),List.length_replicate,List.getElem?_map] at e
  rw[List.getElem?_append_right (by simpa using hi),List.length_replicate,List.getElem?_map]
  cases e1:ks[i-nl]? with
  | none=>rw[e1] at e; cases e
  | some k=>
   rw[e1] at e
   have e2:(ρ[k]?).join=some w:=Option.some.inj e
   have e3:ρ[k]?=some (some w):=by
    cases q:ρ[k]? with
    | none=>rw[q] at e2; cases e2
    | some o=>rw[q] at e2; cases o with
     | none=>cases e2
     | some z=>cases e2; rfl
   obtain⟨v,ev,r⟩:=er.at_ k w e3
   exact⟨v,by simp[ev],r⟩
theorem inv_block{sc scope:Scope}{N N':List Str}{nl:Nat}{ks:List Nat}{cs:List (Str×Addr)}{ex:List Addr}{H:Hp}{s:Shared}{h₁:Heap}{tk:Nat}(I:Inv X pins σ H s)(hsc:X.env.scope=sc)(hN:X.N=N)(ok:CompOk sc N scope N' nl ks)
  (hcs:∀x c,cs.lookup x=some c→X.env.cells.lookup x=some c) (hall:∀y∈scope.names,y.2=.free→∃c,cs.lookup y.1=some c) (hex:∀b∈ex,FpOk X pins H b) (hob:∀b∈ex,b<s.heap.objs.size)
  {m0:Str→Option Value} (hns:h₁.Ns (s.heap.objs.size+1) m0) (old:∀b o,s.heap.get? b=some o→h₁.get? b=some o) (hD:h₁.get? s.heap.objs.size=some { cls:=.type "list",data:=.seq ([]:List Value).toArray }) :
  Inv (cxC X scope cs (s.heap.objs.size+1) N' s H ex) [] (σC nl ks σ) (upd H s.heap.objs.size (.lst [])) { s with heap:=h₁,toks:=tk }:=by
 have hfr:H s.heap.objs.size=none:=I.hok.fresh (Nat.le_refl _)
 have ltD:∀{b:Addr} {o:Obj},s.heap.get? b=some o→b≠s.heap.objs.size:=fun e=>Nat.ne_of_lt (Heap.lt_size e)
 refine⟨cxC_ok I hsc ok hcs hall (Nat.le_succ _) hex hob,rfl,I.bare,Un.laid old (Nat.le_refl _) hfr,⟨m0,hns,fun i x v e1 e2 e3=>?_⟩,fun x c e=>?_,?_,fun x c e=>?_,fun p hp=>absurd (show p∈([]:List (Addr×Obj)) from hp) (by simp),I.hok.laid old (Nat.le_refl _) ⟨by simp,[],_,.nil,hD⟩,?_⟩
 .have e1':N'[i]?=some x:=e1
  unfold σC at e2
  by_cases hi:i<nl
  .rw[List.getElem?_append_left (by simpa using hi),List.getElem?_replicate] at e2
   split at e2<;>cases e2
  .rw[List.getElem?_append_right (by simpa using hi),List.length_replicate,List.getElem?_map] at e2
   cases q1:ks[i-nl]? with
   | none=>rw[q1] at e2; cases e2
   | some k=>
    rw[q1] at e2
    have q2:(σ[k]?).join=some v:=Option.some.inj e2
    have q3:σ[k]?=some (some v):=by
     cases q:σ[k]? with
     | none=>rw[q] at q2; cases q2
     | some o=>rw[q] at q2; cases o with
      | none=>cases q2
      | some z=>cases q2; rfl
    obtain⟨x',hx1,hx2,hx3,hx4⟩:=ok.fr (i-nl) k q1
    have:x'=x:=by
     rw[show nl+(i-nl)=i by omega,e1'] at hx2
     exact(Option.some.inj hx2).symm
    subst this
    subst hsc
    obtain⟨m,hn,hl⟩:=I.loc
    have vis:Vis X.env.scope x':=by rcases cof_or hx3 with z | z; exact .inr (.inl z); exact .inr (.inr z)
    obtain⟨u,ru,lk⟩:=hl k x' v (by rw[hN]; exact hx1) q3 vis
    refine⟨u,ru,?_⟩
    rcases lk with ⟨z,_⟩ | ⟨_,c,hc,ic⟩
    .rcases cof_or hx3 with y | y<;>(rw[show X.env.kindOf x'=X.env.scope.names.lookup x' from rfl,y] at z; cases z)
    .refine .inr ⟨cof_or hx4,?_⟩
     obtain⟨y,hy,rfl,hyf⟩:=relS_mem ok.ncell hx4
     obtain⟨c',hc'⟩:=hall y hy hyf
     have:=hcs _ _ hc'
     rw[hc] at this
     cases this
     obtain⟨o,ho,hd⟩:=ic
     exact⟨c,hc',o,old _ _ ho,hd⟩
 .obtain⟨v,o,ho,hd⟩:=I.cell x c (hcs x c e)
  exact⟨v,o,old _ _ ho,hd⟩
 .show(upd H s.heap.objs.size (.lst [])) (s.heap.objs.size+1)=none
  rw[upd_ne (Nat.succ_ne_self _)]
  exact I.hok.fresh (Nat.le_succ _)
 .obtain⟨v,o,ho,hd⟩:=I.cell x c (hcs x c e)
  rw[upd_ne (ltD ho)]
  exact I.freeC x c (hcs x c e)
 .show(σC nl ks σ).length=N'.length
  unfold σC
  rw[ok.len]
  simp
theorem comp_core{elt tg iter:Expr}{ifs:List Expr}{scope sc:Scope}{pos:Pos}{N N':List Str}{nl:Nat}{ks:List Nat}{cs:List (Str×Addr)}{J:It}{it:Addr}{fp:List Addr}{tn:Nat→Heap→Prop}{g:MG}{t:MT}{m:ME}{src:Src}{k0:Nat}
  {H2:Hp} {s2:Shared} {μ:List Addr} {h h':MH} {ρ:En} {RR:Value→Addr→Result→Shared→Prop} {E:Value→Shared→Prop}
  (hc:X.calm=true) (hsc:X.env.scope=sc) (hN:X.N=N) (ok:CompOk sc N scope N' nl ks)
  (hg:∀cs C s₀ H₀ ex,SG (cxC X scope cs C N' s₀ H₀ ex) cl tg g) (ht:∀cs C s₀ H₀ ex,STs (cxC X scope cs C N' s₀ H₀ ex) cl ifs t) (he:∀cs C s₀ H₀ ex,SE (cxC X scope cs C N' s₀ H₀ ex) cl elt m)
  (I2:Inv X pins σ H2 s2) (T:Turn X.prog X.w X.K tg J fp it tn) (st2:tn 0 s2.heap) (f2:∀b∈fp,FpOk X pins H2 b)
  (hcs:∀x c,cs.lookup x=some c→X.env.cells.lookup x=some c) (hall:∀y∈scope.names,y.2=.free→∃c,cs.lookup y.1=some c)
  (R2:HR X.K cl μ H2 h) (er:ER X.K μ H2 ρ σ) (j:JR X.K cl J src μ H2) (e:compN src nl g t m h.length k0 0 (ρC nl ks ρ) (h++[.lst []])=some h')
  (hRR:∀D C s' H' μ' m',D≠C→s'.heap.Ns C m'→Inv X pins σ H' s'→H' C=none→s2.heap.objs.size≤C→Ext μ H2 μ' H'→HR X.K cl μ' H' h'→μ'[h.length]?=some D→RR (.ref D) C (.ok .next) s') :
  wpAny (model X.prog X.w) X.A (newList []) (fun acc s₃=>wpAny (model X.prog X.w) X.A (newFunctionEnv scope X.env.globals cs [] X.env.qual none .none (some X.env)) (fun cenv s₄=>
   codeAny (model X.prog X.w) X.A (.compStart (.ListComp elt [⟨tg,iter,ifs,0⟩] scope pos) 0 (.ref it) acc { cenv with scope:=relabel scope X.env }) (RR acc cenv.locals) s₄) E s₃) E s2:=by
 refine wpAny_newObj_type (wpAny_newFunctionEnv ok.ncell (by intro y hy; simp at hy) (fun h₁ hns₁ hsb₁=>?_) ok.kind)
 dsimp only at hns₁ hsb₁ ⊢
 generalize hP:s2.heap.push { cls:=.type "list",dict:=none,data:=.seq ([]:List Value).toArray }=P at hns₁ hsb₁ ⊢
 have hC:P.objs.size=s2.heap.objs.size+1:=by rw[←hP,Heap.size_push]
 rw[hC] at hns₁ hsb₁ ⊢
 have old:∀b o,s2.heap.get? b=some o→h₁.get? b=some o:=fun b o e=>hsb₁.extBut b o (Nat.ne_of_lt (Nat.lt_succ_of_lt (Heap.lt_size e))) (Heap.get?_push_of_some _ (hP▸Heap.get?_push_of_some _ e))
 have hD:h₁.get? s2.heap.objs.size=some { cls:=.type "list",data:=.seq ([]:List Value).toArray }:=hsb₁.extBut _ _ (Nat.ne_of_lt (Nat.lt_succ_self _)) (Heap.get?_push_of_some _ (hP▸Heap.get?_push_size _ rfl))
 have hob:∀b∈fp,b<s2.heap.objs.size:=fun b hb=>by
  obtain⟨o,ho,_⟩:=T.obj 0 _ st2 b hb
  exact Heap.lt_size ho
 have fr2:H2 s2.heap.objs.size=none:=I2.hok.fresh (Nat.le_refl _)
 have I3:=inv_block (X:=X) (tk:=s2.toks+([]:List (Str×Value)).length) I2 hsc hN ok hcs hall f2 hob hns₁ old hD
 have st3:tn 0 h₁:=T.keep 0 _ _ st2 fun b _ o e=>old b o e
 have fr3:∀b∈fp,(upd H2 s2.heap.objs.size (.lst [])) b=none:=fun b hb=>by
  rw[upd_ne (Nat.ne_of_lt (hob b hb))]
  exact(f2 b hb).1
 have fpk:∀{H:Hp},(∀b∈fp,H b=none)→∀b∈fp,FpOk (cxC X scope cs (s2.heap.objs.size+1) N' s2 H2 fp) [] H b:=fun hn b hb=>by
  obtain⟨g0,g1,g2,g3,g4,g5⟩:=f2 b hb
  refine⟨hn b hb,Nat.ne_of_lt (Nat.lt_succ_of_lt (hob b hb)),fun z=>?_,.inl hb,fun x c e=>g4 x c (hcs x c e),fun p hp=>absurd (show p∈([]:List (Addr×Obj)) from hp) (by simp)⟩
  rcases List.mem_cons.mp (I2.stkSub b z) with q | q
  .exact g1 q
  .exact g2 q
 have loop:∀s:Shared,s={ s2 with heap:=h₁,toks:=s2.toks+([]:List (Str×Value)).length }→
   codeAny (model X.prog X.w) X.A (.compLoop (.ListComp elt [⟨tg,iter,ifs,0⟩] scope pos) 0 (.ref it) (.ref s2.heap.objs.size) (compEnvC scope cs (s2.heap.objs.size+1) X.env)) (RR (.ref s2.heap.objs.size) (s2.heap.objs.size+1)) s:=by
  rintro s rfl
  refine compLoop_gen (fun n s=>∃i σ' H ρ' μ' hh,Inv (cxC X scope cs (s2.heap.objs.size+1) N' s2 H2 fp) [] σ' H s∧tn i s.heap∧(∀b∈fp,H b=none)∧HR X.K cl μ' H hh∧ER X.K μ' H ρ' σ'∧Ext μ H2 μ' H∧nl≤ρ'.length∧μ'[h.length]?=some s2.heap.objs.size ∧
   compN src nl g t m h.length n i ρ' hh=some h') ?_ k0 ?_
  .rintro n s ⟨i,σ',H,ρ',μ',hh,I,st,fr,R,er',E',hl,hm,e⟩
   cases n with
   | zero=>cases e
   | succ n=>
    unfold compN at e
    obtain⟨jg,js⟩:=j μ' H hh E' R i
    cases es:srcAt src i hh with
    | none=>rw[es] at e; cases e
    | some o=>
     rw[es] at e
     cases o with
     | none=>
      cases e
      refine thn (T.done (cxC X scope cs (s2.heap.objs.size+1) N' s2 H2 fp) rfl rfl rfl hc i [] s σ' H _ I (fpk fr) st (js es)) fun r s1 ⟨hr,I1⟩=>?_
      subst hr
      obtain⟨m1,hn1,_⟩:=I1.loc
      refine hRR _ _ s1 H μ' m1 (Nat.ne_of_lt (Nat.lt_succ_self _)) hn1 ?_ I1.free (Nat.le_succ _) E' R hm
      exact I2.call' I1.os I1.base I1.hok I1.bare fun b hb=>⟨(f2 b hb).2.2.2.1,(f2 b hb).2.1,(f2 b hb).2.2.2.2.1,(f2 b hb).2.2.2.2.2⟩
     | some w=>
      obtain⟨go,yl⟩:=jg w es
      simp only at e
      cases e1:g w ρ' hh with
      | none=>rw[e1] at e; cases e
      | some p=>
       obtain⟨ρ1,h1⟩:=p
       rw[e1] at e
       simp only at e
       refine thn (T.item (cxC X scope cs (s2.heap.objs.size+1) N' s2 H2 fp) rfl rfl rfl hc i [] s σ' H _ I (fpk fr) st go) fun r s1 ⟨u,hr,q1⟩=>?_
       subst hr
       refine thn q1 fun _ s5 ⟨x,H5,I5,r5,y5,st5,fr5⟩=>?_
       obtain⟨E5,R5,rx⟩:=yl x H5 y5
       have I5':=I5.pinned (fpk fr5) (T.obj _ _ st5)
       refine thn (hg cs _ s2 H2 fp _ s5 σ' H5 x u (fun σ6 H6=>∃μ6,Ext μ' H5 μ6 H6∧HR X.K cl μ6 H6 h1∧ER X.K μ6 H6 ρ1 σ6) I5' r5 ⟨μ',hh,ρ',w,ρ1,h1,R5,er'.ext R E5,rx,e1,fun μ6 H6 σ6 E6 R6 er6=>⟨μ6,E6,R6,er6⟩⟩) fun _ s6 ⟨σ6,H6,I6,μ6,E6,R6,er6⟩=>?_
       have hl6:nl≤ρ1.length:=by
        rw[er6.len,I6.len]
        show nl≤N'.length
        rw[ok.len]; omega
       have E06:Ext μ H2 μ6 H6:=E'.trans (E5.trans E6)
       have fin:∀{s9:Shared} {H9:Hp} {μ9:List Addr} {h9:MH},Inv (cxC X scope cs (s2.heap.objs.size+1) N' s2 H2 fp) ([]++pinsAt fp s5.heap) σ6 H9 s9→Ext μ6 H6 μ9 H9→HR X.K cl μ9 H9 h9→compN src nl g t m h.length n (i+1) (ML.blank nl ρ1) h9=some h'→
         ∃k,k<n+1∧∃i σ' H ρ' μ' hh,Inv (cxC X scope cs (s2.heap.objs.size+1) N' s2 H2 fp) [] σ' H s9∧tn i s9.heap∧(∀b∈fp,H b=none)∧HR X.K cl μ' H hh∧ER X.K μ' H ρ' σ'∧Ext μ H2 μ' H∧nl≤ρ'.length∧μ'[h.length]?=some s2.heap.objs.size∧compN src nl g t m h.length k i ρ' hh=some h':=by
        intro s9 H9 μ9 h9 I9 E9 R9 e9
        refine⟨n,Nat.lt_succ_self n,i+1,σ6,H9,ML.blank nl ρ1,μ9,h9,I9.unpinned,T.keep _ _ _ st5 fun b hb o e=>(I9.pin (b,o) (List.mem_append_right _ (List.mem_append_right _ (mem_pinsAt hb e)))).1,fun b hb=>?_,R9,(er6.ext R6 E9).blank hl6,E06.trans E9,?_,E9.get (E6.get (E5.get hm)),e9⟩
        .obtain⟨o,e,d⟩:=T.obj _ _ st5 b hb
         exact(I9.pin (b,o) (List.mem_append_right _ (List.mem_append_right _ (mem_pinsAt hb e)))).2.1
        .unfold ML.blank; simp
       cases e2:t ρ1 h1 with
       | none=>rw[e2] at e; cases e
       | some p2=>
        obtain⟨bb,h2⟩:=p2
        rw[e2] at e
        refine thn (ht cs _ s2 H2 fp _ s6 σ6 H6 (fun b' H7=>b'=bb∧∃μ7,Ext μ6 H6 μ7 H7∧HR X.K cl μ7 H7 h2) I6 ⟨μ6,h1,ρ1,bb,h2,R6,er6,e2,fun μ7 H7 E7 R7=>⟨rfl,μ7,E7,R7⟩⟩) fun b' s7 ⟨H7,I7,hb',μ7,E7,R7⟩=>?_
        subst hb'
        cases b' with
        | false=>
         rw[if_neg Bool.false_ne_true]
         exact fin I7 E7 R7 e
        | true=>
         rw[if_pos rfl]
         simp only at e
         cases e3:m ρ1 h2 with
         | none=>rw[e3] at e; cases e
         | some p3=>
          obtain⟨y,h3⟩:=p3
          rw[e3] at e
          simp only at e
          refine thn (he cs _ s2 H2 fp _ s7 σ6 H7 (fun v H8=>∃μ8,Ext μ7 H7 μ8 H8∧HR X.K cl μ8 H8 h3∧RW X.K μ8 H8 y v) I7 ⟨μ7,h2,ρ1,y,h3,R7,er6.ext R6 E7,e3,fun μ8 H8 v E8 R8 r8=>⟨μ8,E8,R8,r8⟩⟩) fun xv s8 ⟨v,H8,I8,rv,μ8,E8,R8,r8⟩=>?_
          split at e
          .rename_i acc ho
           split at e
           .rename_i hlt
            have hm8:μ8[h.length]?=some s2.heap.objs.size:=E8.get (E7.get (E6.get (E5.get hm)))
            obtain⟨vs,hv,ra⟩:=R8.ob _ _ _ hm8 ho
            refine thn (mt_append (X:=cxC X scope cs (s2.heap.objs.size+1) N' s2 H2 fp) _ s8 σ6 H8 (.ref s2.heap.objs.size) [v] (.ref s2.heap.objs.size) [xv] (fun _ H9=>H9=upd H8 s2.heap.objs.size (.lst (vs++[v]))) I8 rfl (.cons rv .nil) ⟨_,vs,v,rfl,rfl,hv,Nat.lt_of_lt_of_le (by rw[←ra.length]; exact hlt) cap_le,rfl⟩) fun _ s9 ⟨_,H9,I9,_,hH9⟩=>?_
            subst hH9
            exact fin I9 (E7.trans (E8.trans (.put hm8))) (R8.put (o:=.lst (acc++[y])) hm8 ⟨vs++[v],upd_same,(ra.append (.cons r8 .nil)).ext R8 (.put hm8)⟩) e
           .cases e
          .cases e
  .have R3:HR X.K cl (μ++[s2.heap.objs.size]) (upd H2 s2.heap.objs.size (.lst [])) (h++[.lst []]):=R2.new fr2 ⟨[],upd_same,.nil⟩
   exact⟨0,σC nl ks σ,_,ρC nl ks ρ,_,_,I3,st3,fr3,R3,(erC er).ext R2 (.new fr2),.new fr2,by unfold ρC; simp,by rw[←R2.len]; simp,e⟩
 exact codeAny_compStart_list (loop _ rfl) (T.self _ 0 _ _ _ st3 (loop _ rfl))
theorem comp_any{elt tg iter:Expr}{ifs:List Expr}{scope sc:Scope}{pos:Pos}{N N':List Str}{nl:Nat}{ks:List Nat}{mi:MI}{g:MG}{t:MT}{m:ME}{H:Hp}{s:Shared}{μ:List Addr}{h h1 h2:MH}{n0:Nat}{ρ:En}{use:Option (Value→Sem Unit)}{Q:Value→Shared→Prop}{p2:Pos}
  (hc:X.calm=true) (hsc:X.env.scope=sc) (hN:X.N=N) (ok:CompOk sc N scope N' nl ks) (hi:SI X cl tg iter mi)
  (hg:∀cs C s₀ H₀ ex,SG (cxC X scope cs C N' s₀ H₀ ex) cl tg g) (ht:∀cs C s₀ H₀ ex,STs (cxC X scope cs C N' s₀ H₀ ex) cl ifs t) (he:∀cs C s₀ H₀ ex,SE (cxC X scope cs C N' s₀ H₀ ex) cl elt m)
  (I:Inv X pins σ H s) (R:HR X.K cl μ H h) (er:ER X.K μ H ρ σ) (e:compR mi nl ks g t m ρ h=some (n0,h1,h2)) (hs:∀x,foldedSetIterable iter X.env x=pure x)
  (k:∀D C s' H' μ' m' s2 H1 μ1,D≠C→s'.heap.Ns C m'→Inv X pins σ H' s'→H' C=none→X.env.locals≠C→(∀x c,X.env.cells.lookup x=some c→c≠C)→(X.s₀.heap.objs.size≤C)→(∀p∈X.pn++pins,p.1≠C)→Inv X pins σ H1 s2→Ext μ H μ1 H1→HR X.K cl μ1 H1 h1→Ext μ1 H1 μ' H'→HR X.K cl μ' H' h2→h1.length=n0→μ'[n0]?=some D→
   compPost (model X.prog X.w) X.A X.xe use Q (.ref D) C (.ok .next) s') :
  wpAny (model X.prog X.w) X.A (comprehension (.ListComp elt [⟨tg,iter,ifs,0⟩] scope pos) scope X.env p2 (newList []) false (eval iter X.env) use) Q X.xe s:=by
 subst hsc
 have hcell:∀y∈scope.names,y.2=.free→∃c,X.env.cells.lookup y.1=some c:=fun y hy e=>I.ok.has y.1 (cof_or (ok.fall y hy e))
 obtain⟨cs,hclos,hcs,hall⟩:=closureFor_of hcell
 have key:∀{src:Src} {k0:Nat},mi ρ h=some (src,h1)→compN src nl g t m h1.length k0 0 (ρC nl ks ρ) (h1++[.lst []])=some h2→n0=h1.length→
   wpAny (model X.prog X.w) X.A (comprehension (.ListComp elt [⟨tg,iter,ifs,0⟩] scope pos) scope X.env p2 (newList []) false (eval iter X.env) use) Q X.xe s:=by
  intro src k0 e1 e2 hn0
  subst hn0
  refine wpAny_comprehension_free (use:=use) rfl hs hclos ok.kind ok.names ?_
  refine thn (hi pins s σ H (fun J H1=>∃μ1,Ext μ H μ1 H1∧HR X.K cl μ1 H1 h1∧JR X.K cl J src μ1 H1) I ⟨μ,h,ρ,src,h1,R,er,e1,fun μ1 H1 J E1 R1 j=>⟨μ1,E1,R1,j⟩⟩) fun v s1 q1=>thn q1 fun itv s2 q2=>?_
  obtain⟨it,fp,tn,J,H2,rfl,I2,T,st2,f2,μ2,E2,R2,j⟩:=q2
  refine comp_core (RR:=fun acc C=>compPost (model X.prog X.w) X.A X.xe use Q acc C) hc rfl hN ok hg ht he I2 T st2 f2 hcs hall R2 (er.ext R E2) j e2 ?_
  intro D C s' H' μ' m' hDC hns I' hfC hC E' R' hm
  refine k D C s' H' μ' m' s2 H2 μ2 hDC hns I' hfC (Nat.ne_of_lt (Nat.lt_of_lt_of_le I2.lt hC)) (fun x c e z=>?_) (Nat.le_trans I2.sz hC) (fun p hp z=>?_) I2 E2 R2 E' R' rfl hm
  .obtain⟨v,o,ho,_⟩:=I2.cell x c e
   exact absurd (Nat.lt_of_lt_of_le (Heap.lt_size ho) (z▸hC)) (Nat.lt_irrefl _)
  .exact absurd (Nat.lt_of_lt_of_le (Heap.lt_size (I2.pin p hp).1) (z▸hC)) (Nat.lt_irrefl _)
 unfold compR at e
 split at e
 .cases e
 .rename_i l h1' e1
  split at e
  .rename_i h2' e2
   cases e
   have q:=compN_items (nl:=nl) (g:=g) (t:=t) (m:=m) (n0:=h1.length) l (l.length+1) 0 (ρC nl ks ρ) (h1++[.lst []]) (by omega) (by omega)
   rw[List.drop_zero] at q
   exact key e1 (q.trans e2) rfl
  .cases e
 .rename_i n h1' e1
  split at e
  .rename_i h2' e2
   cases e
   exact key e1 e2 rfl
  .cases e
theorem se_compM(sc:Scope)(N N':List Str)(nl:Nat)(ks:List Nat){elt tg iter:Expr}{ifs:List Expr}{scope:Scope}{pos:Pos}{mi:MI}{g:MG}{t:MT}{m:ME}(hc:X.calm=true)(ok:compOkB sc N scope N' nl ks=true)(hi:SI X cl tg iter mi)
  (hg:∀cs C s₀ H₀ ex,SG (cxC X scope cs C N' s₀ H₀ ex) cl tg g) (ht:∀cs C s₀ H₀ ex,STs (cxC X scope cs C N' s₀ H₀ ex) cl ifs t) (he:∀cs C s₀ H₀ ex,SE (cxC X scope cs C N' s₀ H₀ ex) cl elt m)
  (hsc:X.env.scope=sc:=by rfl) (hN:X.N=N:=by rfl) (hs:∀x,foldedSetIterable iter X.env x=pure x:=by intro _; rfl):SE X cl (.ListComp elt [⟨tg,iter,ifs,0⟩] scope pos) (eCompM mi nl ks g t m):=by
 rintro pins s σ H Q I ⟨μ,h,ρ,w,h',R,er,e,k⟩
 unfold eCompM at e
 split at e
 .rename_i n0 h1 h2 e1
  cases e
  rw[eval_ListComp]
  refine comp_any (use:=none) hc hsc hN (compOk_of ok) hi hg ht he I R er e1 hs fun D C s' H' μ' m' s2 H1 μ1 hDC hns I' hfC hL hcl hs0 hpn I2 E1 R1 E' R' hn hm=>?_
  exact⟨m',hns,fun h'' hsb=>⟨.ref D,H',I'.turned (t':=s'.toks) (fun b o hb e=>(hsb.2 b hb).trans e) hfC (Ne.symm hL) (.inr hs0) hcl hpn,rfl,k μ' H' _ (E1.trans E') R' (.ref hm)⟩⟩
 .cases e
theorem comp_value{K:PySem.W.Frag}{μ μ1 μ':List Addr}{H H1 H':Hp}{h1 h2:MH}{n0:Nat}{l:List W}{D:Addr}{Q:VK}(k:KQ K cl μ H h1 (.fls l) Q)(E1:Ext μ H μ1 H1)(R1:HR K cl μ1 H1 h1)(E':Ext μ1 H1 μ' H')(R':HR K cl μ' H' h2)(hn:h1.length=n0)(hm:μ'[n0]?=some D)
  (ho:h2[n0]?=some (.lst l)) (pre:h1<+:h2) (lo:lows h1.length l=true):Q (.ref D) H':=by
 obtain⟨vs,hv,rv⟩:=R'.ob _ _ _ hm ho
 have cut:Ext μ1 H1 μ1 H':=⟨List.prefix_refl _,fun b o e n=>⟨(E'.fr b o e n).1,n⟩⟩
 refine k μ1 H' _ (E1.trans cut) (R1.cut E' R' pre) (.fls (.inl ⟨.inl hv,fun z=>?_⟩) (RWs.cut E'.pre (by rw[R1.len]; exact lo) rv))
 obtain⟨q,hq⟩:=List.mem_iff_getElem?.mp z
 have h3:=E'.get hq
 have hlt:q<μ1.length:=(List.getElem?_eq_some_iff.mp hq).1
 obtain⟨z1,z2⟩:=List.getElem?_eq_some_iff.mp h3
 obtain⟨z3,z4⟩:=List.getElem?_eq_some_iff.mp hm
 have:q=n0:=(List.getElem_inj R'.nd).mp (z2.trans z4.symm)
 subst this
 rw[R1.len] at hlt
 omega
theorem se_comp(sc:Scope)(N N':List Str)(nl:Nat)(ks:List Nat){elt tg iter:Expr}{ifs:List Expr}{scope:Scope}{pos:Pos}{mi:MI}{g:MG}{t:MT}{m:ME}(hc:X.calm=true)(ok:compOkB sc N scope N' nl ks=true)(hi:SI X cl tg iter mi)
  (hg:∀cs C s₀ H₀ ex,SG (cxC X scope cs C N' s₀ H₀ ex) cl tg g) (ht:∀cs C s₀ H₀ ex,STs (cxC X scope cs C N' s₀ H₀ ex) cl ifs t) (he:∀cs C s₀ H₀ ex,SE (cxC X scope cs C N' s₀ H₀ ex) cl elt m)
  (hsc:X.env.scope=sc:=by rfl) (hN:X.N=N:=by rfl) (hs:∀x,foldedSetIterable iter X.env x=pure x:=by intro _; rfl):SE X cl (.ListComp elt [⟨tg,iter,ifs,0⟩] scope pos) (eComp mi nl ks g t m):=by
 rintro pins s σ H Q I ⟨μ,h,ρ,w,h',R,er,e,k⟩
 unfold eComp at e
 split at e
 .rename_i n0 h1 h2 e1
  split at e
  .rename_i l ho
   split at e
   .rename_i c
    cases e
    rw[eval_ListComp]
    refine comp_any (use:=none) hc hsc hN (compOk_of ok) hi hg ht he I R er e1 hs fun D C s' H' μ' m' s2 H1 μ1 hDC hns I' hfC hL hcl hs0 hpn I2 E1 R1 E' R' hn hm=>?_
    exact⟨m',hns,fun h'' hsb=>⟨.ref D,H',I'.turned (t':=s'.toks) (fun b o hb e=>(hsb.2 b hb).trans e) hfC (Ne.symm hL) (.inr hs0) hcl hpn,rfl,comp_value k E1 R1 E' R' hn hm ho c.1 c.2⟩⟩
   .cases e
  .cases e
 .cases e
theorem comp_store{elt tg iter:Expr}{ifs:List Expr}{scope sc:Scope}{pos spos:Pos}{N N':List Str}{nl:Nat}{ks:List Nat}{mi:MI}{g:MG}{t:MT}{m:ME}{H:Hp}{s:Shared}{μ:List Addr}{h h1 h2:MH}{n0:Nat}{ρ:En}{i:Nat}{x:Str}{px:Pos}{D:Ends}
  (hNd:X.N.Nodup) (hix:X.N[i]?=some x) (hx:X.env.kindOf x=some .local) (hsw:swapsWith (.ListComp elt [⟨tg,iter,ifs,0⟩] scope pos) (some (.Name x px)) spos.line X.env=pure true)
  (hc:X.calm=true) (hsc:X.env.scope=sc) (hN:X.N=N) (ok:CompOk sc N scope N' nl ks) (hi:SI X cl tg iter mi)
  (hg:∀cs C s₀ H₀ ex,SG (cxC X scope cs C N' s₀ H₀ ex) cl tg g) (ht:∀cs C s₀ H₀ ex,STs (cxC X scope cs C N' s₀ H₀ ex) cl ifs t) (he:∀cs C s₀ H₀ ex,SE (cxC X scope cs C N' s₀ H₀ ex) cl elt m)
  (I:Inv X pins σ H s) (R:HR X.K cl μ H h) (er:ER X.K μ H ρ σ) (e:compR mi nl ks g t m ρ h=some (n0,h1,h2)) (hs:∀x,foldedSetIterable iter X.env x=pure x)
  (k:∀A H' μ' H1 μ1,Ext μ H μ1 H1→HR X.K cl μ1 H1 h1→Ext μ1 H1 μ' H'→HR X.K cl μ' H' h2→h1.length=n0→μ'[n0]?=some A→D.nx (σ.set i (some (.ref A))) H') :
  wpAny (model X.prog X.w) X.A (exec (.Assign [.Name x px] (.ListComp elt [⟨tg,iter,ifs,0⟩] scope pos) spos) X.env) (SP X pins D) X.xe s:=by
 rw[exec_Assign_Name_used _ _ _ _ hsw]
 refine wpAny_bind (wpAny_standAt (wpAny_bind ?_))
 show wpAny _ X.A (do let _ ←comprehension (.ListComp elt [⟨tg,iter,ifs,0⟩] scope pos) scope X.env _ (newList []) false (eval iter X.env) (some (assign (.Name x px) X.env))) _ _ s
 refine wpAny_bind (wpAny_mono (comp_any (use:=some (assign (.Name x px) X.env)) (Q:=fun _ s'=>SP X pins D .next s') hc hsc hN ok hi hg ht he I R er e hs ?_) (fun _ s' hq=>wpAny_pure (wpAny_pure hq)) fun _ _ e=>e)
 intro A C s' H' μ' m' s2 H1 μ1 hDC hns I' hfC hL hcl hs0 hpn I2 E1 R1 E' R' hn hm
 show wpAny _ X.A (assign (.Name x px) X.env (.ref A)) _ _ _
 refine wpAny_assign_Name (store_ok2 (v:=.ref A) I' hNd hix (.inl hx) rfl (fun s'' I'' hsb=>?_) (.inr hx))
 obtain⟨a,sb,ha⟩:=hsb
 have hCa:C≠a:=by
  rcases ha with rfl | ha
  .exact Ne.symm hL
  .exact fun z=>hcl x a ha z.symm
 refine⟨m',hns.sameBut sb hCa,fun h3 sb3=>⟨_,H',I''.turned (t':=s''.toks) (fun b o hb e=>(sb3.2 b hb).trans e) hfC (Ne.symm hL) (.inr hs0) hcl hpn,k A H' μ' H1 μ1 E1 R1 E' R' hn hm⟩⟩
theorem ss_compM(i:Nat)(sc:Scope)(N N':List Str)(nl:Nat)(ks:List Nat){elt tg iter:Expr}{ifs:List Expr}{scope:Scope}{pos spos px:Pos}{x:Str}{mi:MI}{g:MG}{t:MT}{m:ME}(hNd:X.N.Nodup)(hc:X.calm=true)(ok:compOkB sc N scope N' nl ks=true)(hi:SI X cl tg iter mi)
  (hg:∀cs C s₀ H₀ ex,SG (cxC X scope cs C N' s₀ H₀ ex) cl tg g) (ht:∀cs C s₀ H₀ ex,STs (cxC X scope cs C N' s₀ H₀ ex) cl ifs t) (he:∀cs C s₀ H₀ ex,SE (cxC X scope cs C N' s₀ H₀ ex) cl elt m)
  (hsc:X.env.scope=sc:=by rfl) (hN:X.N=N:=by rfl) (hs:∀x,foldedSetIterable iter X.env x=pure x:=by intro _; rfl) (hix:X.N[i]?=some x:=by rfl) (hx:X.env.kindOf x=some .local:=by rfl)
  (hsw:swapsWith (.ListComp elt [⟨tg,iter,ifs,0⟩] scope pos) (some (.Name x px)) spos.line X.env=pure true:=by rfl):SS X cl (.Assign [.Name x px] (.ListComp elt [⟨tg,iter,ifs,0⟩] scope pos) spos) (sAsg (eCompM mi nl ks g t m) (gNm i)):=by
 rintro pins s σ H D I ⟨μ,h,ρ,fl,h',R,er,e,k⟩
 unfold sAsg at e
 split at e
 .rename_i w h2 e1
  split at e
  .rename_i ρ2 h3 e2
   cases e
   unfold eCompM at e1
   split at e1
   .rename_i n0 h1 h2' e0
    cases e1
    unfold gNm at e2
    split at e2
    .rename_i hi'
     cases e2
     exact comp_store hNd hix hx hsw hc hsc hN (compOk_of ok) hi hg ht he I R er e0 hs fun A H' μ' H1 μ1 E1 R1 E' R' hn hm=>k μ' H' (E1.trans E') R' _ ((er.ext R (E1.trans E')).set hi' (.ref hm))
    .cases e2
   .cases e1
  .cases e
 .cases e
theorem ss_comp(i:Nat)(sc:Scope)(N N':List Str)(nl:Nat)(ks:List Nat){elt tg iter:Expr}{ifs:List Expr}{scope:Scope}{pos spos px:Pos}{x:Str}{mi:MI}{g:MG}{t:MT}{m:ME}(hNd:X.N.Nodup)(hc:X.calm=true)(ok:compOkB sc N scope N' nl ks=true)(hi:SI X cl tg iter mi)
  (hg:∀cs C s₀ H₀ ex,SG (cxC X scope cs C N' s₀ H₀ ex) cl tg g) (ht:∀cs C s₀ H₀ ex,STs (cxC X scope cs C N' s₀ H₀ ex) cl ifs t) (he:∀cs C s₀ H₀ ex,SE (cxC X scope cs C N' s₀ H₀ ex) cl elt m)
  (hsc:X.env.scope=sc:=by rfl) (hN:X.N=N:=by rfl) (hs:∀x,foldedSetIterable iter X.env x=pure x:=by intro _; rfl) (hix:X.N[i]?=some x:=by rfl) (hx:X.env.kindOf x=some .local:=by rfl)
  (hsw:swapsWith (.ListComp elt [⟨tg,iter,ifs,0⟩] scope pos) (some (.Name x px)) spos.line X.env=pure true:=by rfl):SS X cl (.Assign [.Name x px] (.ListComp elt [⟨tg,iter,ifs,0⟩] scope pos) spos) (sAsg (eComp mi nl ks g t m) (gNm i)):=by
 rintro pins s σ H D I ⟨μ,h,ρ,fl,h',R,er,e,k⟩
 unfold sAsg at e
 split at e
 .rename_i w h2 e1
  split at e
  .rename_i ρ2 h3 e2
   cases e
   unfold eComp at e1
   split at e1
   .rename_i n0 h1 h2' e0
    split at e1
    .rename_i l ho
     split at e1
     .rename_i c
      cases e1
      unfold gNm at e2
      split at e2
      .rename_i hi'
       cases e2
       refine comp_store hNd hix hx hsw hc hsc hN (compOk_of ok) hi hg ht he I R er e0 hs fun A H' μ' H1 μ1 E1 R1 E' R' hn hm=>?_
       exact comp_value (Q:=fun v H'=>D.nx (σ.set i (some v)) H') (fun μ3 H3 v E3 R3 r3=>k μ3 H3 E3 R3 _ ((er.ext R E3).set hi' r3)) E1 R1 E' R' hn hm ho c.1 c.2
      .cases e2
     .cases e1
    .cases e1
   .cases e1
  .cases e
 .cases e
end
theorem inv_turned{X:Cx}{pins:List (Addr×Obj)}{σ:L2.St}{H:Hp}{s:Shared}{h':Heap}{t':Nat}{fp:List Addr}(I:Inv X pins σ H s)(k:∀b o,b∉fp→s.heap.get? b=some o→h'.get? b=some o)(hf:∀b∈fp,FpOk X pins H b) :
  Inv X pins σ H { s with heap:=h',toks:=t' }:=by
 have away:∀b u,H b=some u→b∉fp:=fun b u e z=>by rw[(hf b z).1] at e; cases e
 refine I.step (g':=s.gens) (d':=s.drawn) (ch:=fp) (fun b hb=>⟨(hf b hb).2.2.2.1,(hf b hb).2.1,(hf b hb).2.2.2.2.1,(hf b hb).2.2.2.2.2⟩) (fun b o _ _ hc e _=>k b o hc e) (fun b o _ _ hc e _=>⟨o.slots,k b o hc e⟩) (fun _ _ _ _ n=>n)
  (fun b o hc e=>⟨o,k b o hc e⟩) (fun _ _ e=>e) (fun _ _ _ e=>e) (fun b ps e=>⟨#[],by rw[e]; simp⟩) (fun m hm=>?_) (fun b u e=>?_) I.bare
 .obtain⟨o,es,ep,ho,r⟩:=hm
  exact⟨o,es,ep,k _ o (fun z=>(hf _ z).2.1 rfl) ho,r⟩
 .refine(I.hok b u e).stay (fun c v hc q=>k c v ?_ q) (fun _ q=>q) fun _ _ q=>q
  rcases hc with z | z
  .rw[z]; exact away b u e
  .exact away c _ z
structure Stp(it a:Addr)(P:Nat→Heap→Prop)(C:Heap→List Value→Prop):Prop where
 keep:∀{i:Nat} {h h':Heap},P i h→(∀o,h.get? it=some o→h'.get? it=some o)→P i h'
 keepC:∀{h h':Heap} {l:List Value},C h l→(∀o,h.get? a=some o→h'.get? a=some o)→C h' l
 obj:∀{i:Nat} {h:Heap},P i h→∃o,h.get? it=some o∧∀v,o.data≠.cell v
 item:∀{prog:Program} {w:World} {A:Around} {E:Value→Shared→Prop} {s:Shared} {i:Nat} {l:List Value} {x:Value} {Q:Value→Shared→Prop},P i s.heap→C s.heap l→l[i]?=some x→
  (∀h',P (i+1) h'→Heap.SameBut it s.heap h'→Q x { s with heap:=h' })→wpAny (model prog w) A (Builtin.SmallTypes.nextOf (.ref it)) Q E s
 last:∀{prog:Program} {w:World} {A:Around} {E:Value→Shared→Prop} {s:Shared} {i:Nat} {l:List Value} {Q:Value→Shared→Prop},A.handled=none→P i s.heap→C s.heap l→l[i]?=none→
  (∀h' e,Heap.ExtBut it s.heap h'→(∃o,h'.get? e=some o∧o.cls=.type "StopIteration")→E (.ref e) { s with heap:=h' })→wpAny (model prog w) A (Builtin.SmallTypes.nextOf (.ref it)) Q E s
theorem stp_list(it a:Addr):Stp it a (fun i h=>h.IsListIter it a i) (fun h l=>h.IsList a l.toArray) where
 keep:=fun p k=>p.at fun o e=>k o e
 keepC:=fun p k=>p.at fun o e=>k o e
 obj:=fun⟨o,e,_,d⟩=>⟨o,e,fun v z=>by rw[d] at z; cases z⟩
 item:=fun p c e q=>wpAny_nextOf_list_item p c (by simpa using e) q
 last:=fun hh p c e q=>wpAny_nextOf_list_end hh p c (by simpa using e) q
section
variable{prog:Program}{w:World}{A:Around}{E:Value→Shared→Prop}{s:Shared}
theorem nextOf_tuple_item{it t:Addr}{i:Nat}{items:Array Value}{x:Value}{Q:Value→Shared→Prop}(hit:s.heap.IsTupleIter it t i)(ht:s.heap.IsTuple t items)(hx:items[i]?=some x)
  (hQ:∀h',h'.IsTupleIter it t (i+1)→Heap.SameBut it s.heap h'→Q x { s with heap:=h' }):wpAny (model prog w) A (Builtin.SmallTypes.nextOf (.ref it)) Q E s:=by
 obtain⟨oi,gi,ci,di⟩:=id hit; obtain⟨ot,gt,_,nt,dt⟩:=ht; unfold Builtin.SmallTypes.nextOf
 refine wpAny_bind (wpAny_callSpecial?_slot (name:=Str.ofString "__next__") hit.typeIs F.slot_tuple_iterator_next (wpAny_call_entry F.slot_tuple_iterator_next hit.typeIs F.entry_tuple_iterator_next ?_ (F.args_tuple_iterator_next_1 _)))
 show wpAny _ _ (field (.ref it) 0 >>= _) _ _ s; refine wpAny_bind (wpAny_field gi di (x:=.ref t) rfl ?_)
 show wpAny _ _ (if (Value.ref t==Value.none)=true then _ else _) _ _ s; rw[if_neg (show ¬((Value.ref t==Value.none)=true) from Bool.false_ne_true)]
 show wpAny _ _ (field (.ref it) 1 >>= _) _ _ s; refine wpAny_bind (wpAny_field gi di (x:=.int i 0) rfl ?_)
 show wpAny _ _ (seqItems? (.ref t) >>= _) _ _ s; refine wpAny_bind (wpAny_seqItems gt dt ?_)
 simp only[Int.toNat_natCast,hx]; refine wpAny_bind (wpAny_setField gi di (by simp) (wpAny_pure ⟨x,rfl,wpAny_pure (hQ _ ?_ (Heap.SameBut.update ..))⟩))
 exact⟨_,Heap.get?_update_self _ gi (Obj.isFreed_of_fields (Obj.data_mapFields di _)),(Obj.cls_mapFields ..).trans ci,by rw[Obj.data_mapFields di]; simp[rawInt]⟩
theorem nextOf_tuple_end{it t:Addr}{i:Nat}{items:Array Value}{Q:Value→Shared→Prop}(hh:A.handled=none)(hit:s.heap.IsTupleIter it t i)(ht:s.heap.IsTuple t items)(hx:items[i]?=none)
  (hE:∀h' e,Heap.ExtBut it s.heap h'→(∃o,h'.get? e=some o∧o.cls=.type "StopIteration")→E (.ref e) { s with heap:=h' }):wpAny (model prog w) A (Builtin.SmallTypes.nextOf (.ref it)) Q E s:=by
 obtain⟨oi,gi,ci,di⟩:=id hit; obtain⟨ot,gt,_,nt,dt⟩:=ht; unfold Builtin.SmallTypes.nextOf
 refine wpAny_bind (wpAny_callSpecial?_slot (name:=Str.ofString "__next__") hit.typeIs F.slot_tuple_iterator_next (wpAny_call_entry F.slot_tuple_iterator_next hit.typeIs F.entry_tuple_iterator_next ?_ (F.args_tuple_iterator_next_1 _)))
 show wpAny _ _ (field (.ref it) 0 >>= _) _ _ s; refine wpAny_bind (wpAny_field gi di (x:=.ref t) rfl ?_)
 show wpAny _ _ (if (Value.ref t==Value.none)=true then _ else _) _ _ s; rw[if_neg (show ¬((Value.ref t==Value.none)=true) from Bool.false_ne_true)]
 show wpAny _ _ (field (.ref it) 1 >>= _) _ _ s; refine wpAny_bind (wpAny_field gi di (x:=.int i 0) rfl ?_)
 show wpAny _ _ (seqItems? (.ref t) >>= _) _ _ s; refine wpAny_bind (wpAny_seqItems gt dt ?_)
 simp only[Int.toNat_natCast,hx]; refine wpAny_bind (wpAny_rule (wpAny_bind (wpAny_setField gi di (by simp) ?_))); show wpAny _ _ (newExc (.type "StopIteration") [] >>= _) _ _ _
 refine wpAny_bind ?_; simp only[newExc,newTuple]; refine wpAny_bind (wpAny_newObj_type ?_ (by size_fits))
 refine wpAny_bind (m:=firstArgMember _ _) (wpAny_of_eq (a:=Value.none) (by first | rfl | (simp only[firstArgMember]; rfl)) ?_); refine wpAny_newObj_type ?_ (by size_fits)
 simp only[raiseNew]; refine wpAny_bind (wpAny_handled ?_); first | rw[show A.in1.handled=none from hh] | rw[hh]
 refine wpAny_bind (wpAny_pure (wpAny_throw ?_)); exact hE _ _ (((Heap.SameBut.update ..).extBut.push _).push _) ⟨_,Heap.get?_push_size _ rfl,rfl⟩
end
theorem stp_tuple(it a:Addr):Stp it a (fun i h=>h.IsTupleIter it a i) (fun h l=>h.IsTuple a l.toArray) where
 keep:=fun p k=>p.at fun o e=>k o e
 keepC:=fun p k=>p.at fun o e=>k o e
 obj:=fun⟨o,e,_,d⟩=>⟨o,e,fun v z=>by rw[d] at z; cases z⟩
 item:=fun p c e q=>nextOf_tuple_item p c (by simpa using e) q
 last:=fun hh p c e q=>nextOf_tuple_end hh p c (by simpa using e) q
structure ZApart(z TI TO i1 i2 a1 a2:Addr):Prop where
 nd:[z,TI,TO,i1,i2].Nodup
 f1:a1∉[z,TI,TO,i1,i2]
 f2:a2∉[z,TI,TO,i1,i2]
noncomputable def ZSt(z TI TO i1 i2:Addr)(P1 P2:Nat→Heap→Prop)(f0:Value)(k1 k2:Nat)(h:Heap):Prop:=IsZip h z TI TO f0∧IsPair h TI (.ref i1) (.ref i2)∧(∃a b,IsPair h TO a b)∧P1 k1 h∧P2 k2 h
section
variable{prog:Program}{w:World}{A:Around}{E:Value→Shared→Prop}{s:Shared}{z TI TO i1 i2 a1 a2:Addr}{P1 P2:Nat→Heap→Prop}{C1 C2:Heap→List Value→Prop}
theorem zip_next(S1:Stp i1 a1 P1 C1)(S2:Stp i2 a2 P2 C2)(D:ZApart z TI TO i1 i2 a1 a2){k:Nat}{l1 l2:List Value}{x y:Value}{Q:Option Value→Shared→Prop}(st:ZSt z TI TO i1 i2 P1 P2 .none k k s.heap)(c1:C1 s.heap l1)(c2:C2 s.heap l2)(hx:l1[k]?=some x)(hy:l2[k]?=some y)
  (hQ:∀h',ZSt z TI TO i1 i2 P1 P2 (rawInt s.heap.objs.size) (k+1) (k+1) h'→h'.get? s.heap.objs.size=some { cls:=.type "tuple",data:=.seq #[x,y] }→(∀c o,c∉[z,TI,TO,i1,i2]→s.heap.get? c=some o→h'.get? c=some o)→Q (some (.ref s.heap.objs.size)) { s with heap:=h' }) :
  wpAny (model prog w) A (pyNext (.ref z)) Q E s:=by
 obtain⟨hz,hTI,⟨a,b,hTO⟩,p1,p2⟩:=st
 have n:=D.nd
 simp only[List.nodup_cons,List.mem_cons,List.not_mem_nil,or_false,not_or] at n
 obtain⟨⟨n1,n2,n3,n4⟩,⟨n5,n6,n7⟩,⟨n8,n9⟩,n10,_⟩:=n
 have g1:=D.f1; have g2:=D.f2
 simp only[List.mem_cons,List.not_mem_nil,or_false,not_or] at g1 g2
 obtain⟨g11,g12,g13,g14,g15⟩:=g1
 obtain⟨g21,g22,g23,g24,g25⟩:=g2
 have hT:s.TypeIs (.ref z) "zip":=⟨_,hz,rfl⟩
 unfold pyNext
 refine wpAny_bind (wpAny_attempt (wpAny_callSpecial?_slot (name:=Str.ofString "__next__") hT F.slot_zip_next (wpAny_call_entry F.slot_zip_next hT F.entry_zip_next ?_ (F.args_zip_next_1 _))))
 show wpAny _ _ (field (.ref z) 2 >>= _) _ _ _; refine wpAny_bind (wpAny_field hz rfl (x:=.bool false) rfl ?_)
 show wpAny _ _ (field (.ref z) 3 >>= _) _ _ _; refine wpAny_bind (wpAny_field hz rfl (x:=.ref TI) rfl ?_)
 refine wpAny_bind (wpAny_seqItems hTI rfl ?_); show wpAny _ _ (Builtin.SmallTypes.ownedTupleIsFree (.ref z) >>= _) _ _ _
 refine wpAny_bind ?_; unfold Builtin.SmallTypes.ownedTupleIsFree
 refine wpAny_bind (wpAny_field hz rfl (x:=.none) rfl (wpAny_pure ?_)); simp only[if_true]
 refine wpAny_bind (wpAny_rule ?_); refine wpAny_bind (wpAny_field hz rfl (x:=.ref TO) rfl ?_)
 refine wpAny_bind (wpAny_setField_rec hz (by simp) fun h1 q1 e1=>?_); replace q1:IsZip h1 z TI TO .ellipsis:=q1
 refine wpAny_bind ?_; simp only[List.zipIdx_cons,List.zipIdx_nil,List.forIn_cons,List.forIn_nil]
 refine wpAny_bind (wpAny_bind (wpAny_onRaise ?_)); show wpAny _ _ (Builtin.SmallTypes.nextOf (.ref i1) >>= _) _ _ _
 refine wpAny_bind (S1.item (S1.keep p1 fun o e=>e1.extBut _ _ (Ne.symm n3) e) (S1.keepC c1 fun o e=>e1.extBut _ _ g11 e) hx fun h2 r1 e2=>wpAny_pure ?_)
 have t2:IsPair h2 TO a b:=e2.extBut _ _ n8 (e1.extBut _ _ (Ne.symm n2) hTO)
 refine wpAny_bind (wpAny_seqItems t2 rfl ?_); refine wpAny_bind (wpAny_updateSeq_pair t2 fun h3 t3 e3=>?_)
 replace t3:IsPair h3 TO x b:=t3
 refine wpAny_bind (wpAny_letGo (wpAny_pure ?_)); refine wpAny_bind (wpAny_bind (wpAny_onRaise ?_)); show wpAny _ _ (Builtin.SmallTypes.nextOf (.ref i2) >>= _) _ _ _
 refine wpAny_bind (S2.item (S2.keep p2 fun o e=>e3.extBut _ _ (Ne.symm n9) (e2.extBut _ _ (Ne.symm n10) (e1.extBut _ _ (Ne.symm n4) e))) (S2.keepC c2 fun o e=>e3.extBut _ _ g23 (e2.extBut _ _ g24 (e1.extBut _ _ g21 e))) hy fun h4 r2 e4=>wpAny_pure ?_)
 have t4:IsPair h4 TO x b:=e4.extBut _ _ n9 t3
 refine wpAny_bind (wpAny_seqItems t4 rfl ?_); refine wpAny_bind (wpAny_updateSeq_pair t4 fun h5 t5 e5=>?_)
 replace t5:IsPair h5 TO x y:=t5
 refine wpAny_bind (wpAny_letGo (wpAny_pure (wpAny_pure ?_))); refine wpAny_bind (wpAny_seqItems t5 rfl ?_); refine wpAny_bind (wpAny_newTuple ?_)
 have sz:h5.objs.size=s.heap.objs.size:=by rw[e5.1,e4.1,e3.1,e2.1,e1.1]
 have all:∀c o,c∉[z,TI,TO,i1,i2]→s.heap.get? c=some o→h5.get? c=some o:=fun c o hc e=>by
  simp only[List.mem_cons,List.not_mem_nil,or_false,not_or] at hc
  exact e5.extBut _ _ hc.2.2.1 (e4.extBut _ _ hc.2.2.2.2 (e3.extBut _ _ hc.2.2.1 (e2.extBut _ _ hc.2.2.2.1 (e1.extBut _ _ hc.1 e))))
 have z5:IsZip h5 z TI TO .ellipsis:=e5.extBut _ _ n2 (e4.extBut _ _ n4 (e3.extBut _ _ n2 (e2.extBut _ _ n3 q1)))
 have ti5:IsPair h5 TI (.ref i1) (.ref i2):=e5.extBut _ _ n5 (e4.extBut _ _ n7 (e3.extBut _ _ n5 (e2.extBut _ _ n6 (e1.extBut _ _ (Ne.symm n1) hTI))))
 have u1:P1 (k+1) h5:=S1.keep r1 fun o e=>e5.extBut _ _ (Ne.symm n8) (e4.extBut _ _ n10 (e3.extBut _ _ (Ne.symm n8) e))
 have u2:P2 (k+1) h5:=S2.keep r2 fun o e=>e5.extBut _ _ (Ne.symm n9) e
 have zlt:z<h5.objs.size:=Heap.lt_size z5
 show wpAny _ _ (Builtin.SmallTypes.ownedTupleHandOut (.ref z) (.ref h5.objs.size) >>= _) _ _ _
 refine wpAny_bind ?_; unfold Builtin.SmallTypes.ownedTupleHandOut
 have z6:IsZip (h5.push { cls:=.type "tuple",data:=.seq #[x,y] }) z TI TO .ellipsis:=Heap.get?_push_of_some _ z5
 refine wpAny_bind (wpAny_setField_rec z6 (by simp) fun h7 z7 e7=>?_); replace z7:IsZip h7 z TI TO (rawInt h5.objs.size):=z7
 refine wpAny_setField_rec z7 (by simp) fun h8 z8 e8=>?_
 replace z8:IsZip h8 z TI TO (rawInt h5.objs.size):=z8
 have up:∀c o,c≠z→h5.get? c=some o→h8.get? c=some o:=fun c o c1 e=>e8.extBut _ _ c1 (e7.extBut _ _ c1 (Heap.get?_push_of_some _ e))
 have t8:h8.get? h5.objs.size=some { cls:=.type "tuple",data:=.seq #[x,y] }:=e8.extBut _ _ (Nat.ne_of_gt zlt) (e7.extBut _ _ (Nat.ne_of_gt zlt) (Heap.get?_push_size _ rfl))
 rw[sz] at z8 t8
 refine wpAny_pure ⟨_,rfl,wpAny_pure ?_⟩
 show Q (some (.ref h5.objs.size)) _
 rw[sz]
 exact hQ h8 ⟨z8,up _ _ (Ne.symm n1) ti5,⟨x,y,up _ _ (Ne.symm n2) t5⟩,S1.keep u1 fun o e=>up _ o (Ne.symm n3) e,S2.keep u2 fun o e=>up _ o (Ne.symm n4) e⟩ t8 fun c o hc e=>up c o (fun q=>hc (by simp[q])) (all c o hc e)
theorem zip_last(S1:Stp i1 a1 P1 C1)(S2:Stp i2 a2 P2 C2)(D:ZApart z TI TO i1 i2 a1 a2){k:Nat}{l1 l2:List Value}{Q:Option Value→Shared→Prop}(hh:A.handled=none)(st:ZSt z TI TO i1 i2 P1 P2 .none k k s.heap)(c1:C1 s.heap l1)(c2:C2 s.heap l2)(he:l1[k]?=none∨l2[k]?=none)
  (hQ:∀h',(∀c o,c∉[z,TI,TO,i1,i2]→s.heap.get? c=some o→h'.get? c=some o)→Q none { s with heap:=h' }):wpAny (model prog w) A (pyNext (.ref z)) Q E s:=by
 obtain⟨hz,hTI,⟨a,b,hTO⟩,p1,p2⟩:=st
 have n:=D.nd
 simp only[List.nodup_cons,List.mem_cons,List.not_mem_nil,or_false,not_or] at n
 obtain⟨⟨n1,n2,n3,n4⟩,⟨n5,n6,n7⟩,⟨n8,n9⟩,n10,_⟩:=n
 have g1:=D.f1; have g2:=D.f2
 simp only[List.mem_cons,List.not_mem_nil,or_false,not_or] at g1 g2
 obtain⟨g11,g12,g13,g14,g15⟩:=g1
 obtain⟨g21,g22,g23,g24,g25⟩:=g2
 have hT:s.TypeIs (.ref z) "zip":=⟨_,hz,rfl⟩
 have stop:∀{h':Heap} {e:Addr},(∃o,h'.get? e=some o∧o.cls=.type "StopIteration")→(∀c o,c∉[z,TI,TO,i1,i2]→s.heap.get? c=some o→h'.get? c=some o)→
   wpAny (model prog w) A (isInstance (.ref e) (.type "StopIteration") >>= fun x=>if x=true then pure none else throw (.ref e)) Q E { s with heap:=h' }:=fun {h' e} ⟨o,ho,hc⟩ kk=>
  wpAny_bind (wpAny_isInstance (T:="StopIteration") (b:=true) ⟨o,ho,hc⟩ isSubtype_stop (wpAny_pure (hQ _ kk)))
 unfold pyNext
 refine wpAny_bind (wpAny_attempt (wpAny_callSpecial?_slot (name:=Str.ofString "__next__") hT F.slot_zip_next (wpAny_call_entry F.slot_zip_next hT F.entry_zip_next ?_ (F.args_zip_next_1 _))))
 show wpAny _ _ (field (.ref z) 2 >>= _) _ _ _; refine wpAny_bind (wpAny_field hz rfl (x:=.bool false) rfl ?_)
 show wpAny _ _ (field (.ref z) 3 >>= _) _ _ _; refine wpAny_bind (wpAny_field hz rfl (x:=.ref TI) rfl ?_)
 refine wpAny_bind (wpAny_seqItems hTI rfl ?_); show wpAny _ _ (Builtin.SmallTypes.ownedTupleIsFree (.ref z) >>= _) _ _ _
 refine wpAny_bind ?_; unfold Builtin.SmallTypes.ownedTupleIsFree
 refine wpAny_bind (wpAny_field hz rfl (x:=.none) rfl (wpAny_pure ?_)); simp only[if_true]
 refine wpAny_bind (wpAny_rule ?_); refine wpAny_bind (wpAny_field hz rfl (x:=.ref TO) rfl ?_)
 refine wpAny_bind (wpAny_setField_rec hz (by simp) fun h1 q1 e1=>?_); replace q1:IsZip h1 z TI TO .ellipsis:=q1
 refine wpAny_bind ?_; simp only[List.zipIdx_cons,List.zipIdx_nil,List.forIn_cons,List.forIn_nil]
 refine wpAny_bind (wpAny_bind (wpAny_onRaise ?_)); show wpAny _ _ (Builtin.SmallTypes.nextOf (.ref i1) >>= _) _ _ _
 have p1':=S1.keep (h':=h1) p1 fun o e=>e1.extBut _ _ (Ne.symm n3) e
 have c1':=S1.keepC (h':=h1) c1 fun o e=>e1.extBut _ _ g11 e
 cases hx:l1[k]? with
 | none=>
  refine wpAny_bind (S1.last hh p1' c1' hx fun h2 e e2 ⟨oe,ge,ce⟩=>?_)
  have z2:IsZip h2 z TI TO .ellipsis:=e2 _ _ n3 q1
  have ne:e≠z:=fun q=>by subst q; rw[z2] at ge; cases ge; simp at ce
  refine wpAny_setField_rec z2 (by simp) fun h3 _ e3=>?_
  refine stop ⟨oe,e3.extBut _ _ ne ge,ce⟩ fun c o hc g=>?_
  simp only[List.mem_cons,List.not_mem_nil,or_false,not_or] at hc
  exact e3.extBut _ _ hc.1 (e2 _ _ hc.2.2.2.1 (e1.extBut _ _ hc.1 g))
 | some x=>
  have hy:l2[k]?=none:=by rcases he with h | h; rw[hx] at h; cases h; exact h
  refine wpAny_bind (S1.item p1' c1' hx fun h2 r1 e2=>wpAny_pure ?_)
  have t2:IsPair h2 TO a b:=e2.extBut _ _ n8 (e1.extBut _ _ (Ne.symm n2) hTO)
  refine wpAny_bind (wpAny_seqItems t2 rfl ?_); refine wpAny_bind (wpAny_updateSeq_pair t2 fun h3 t3 e3=>?_)
  refine wpAny_bind (wpAny_letGo (wpAny_pure ?_)); refine wpAny_bind (wpAny_bind (wpAny_onRaise ?_)); show wpAny _ _ (Builtin.SmallTypes.nextOf (.ref i2) >>= _) _ _ _
  refine wpAny_bind (S2.last hh (S2.keep p2 fun o e=>e3.extBut _ _ (Ne.symm n9) (e2.extBut _ _ (Ne.symm n10) (e1.extBut _ _ (Ne.symm n4) e))) (S2.keepC c2 fun o e=>e3.extBut _ _ g23 (e2.extBut _ _ g24 (e1.extBut _ _ g21 e))) hy fun h4 e e4 ⟨oe,ge,ce⟩=>?_)
  have z4:IsZip h4 z TI TO .ellipsis:=e4 _ _ n4 (e3.extBut _ _ n2 (e2.extBut _ _ n3 q1))
  have ne:e≠z:=fun q=>by subst q; rw[z4] at ge; cases ge; simp at ce
  refine wpAny_setField_rec z4 (by simp) fun h5 _ e5=>?_
  refine stop ⟨oe,e5.extBut _ _ ne ge,ce⟩ fun c o hc g=>?_
  simp only[List.mem_cons,List.not_mem_nil,or_false,not_or] at hc
  exact e5.extBut _ _ hc.1 (e4 _ _ hc.2.2.2.2 (e3.extBut _ _ hc.2.2.1 (e2.extBut _ _ hc.2.2.2.1 (e1.extBut _ _ hc.1 g))))
end
noncomputable def Itb(v:Value)(o:Obj)(C:Heap→Prop):Prop:=∀(prog:Program) (w:World) (A:Around) (E:Value→Shared→Prop) (s:Shared) (Q:Value→Shared→Prop),C s.heap→Q (.ref s.heap.objs.size) { s with heap:=s.heap.push o }→wpAny (model prog w) A (pyIter v) Q E s
theorem itb_list(a:Addr)(l:List Value):Itb (.ref a) { cls:=.type "list_iterator",data:=.fields #[.ref a,.int 0 0] } (fun h=>h.IsList a l.toArray):=fun _ _ _ _ _ _ c q=>wpAny_pyIter_list c q
theorem itb_tuple(a:Addr)(l:List Value):Itb (.ref a) { cls:=.type "tuple_iterator",data:=.fields #[.ref a,.int 0 0] } (fun h=>h.IsTuple a l.toArray):=fun _ _ _ _ _ _ c q=>wpAny_pyIter_tuple c q
section
variable{v1 v2:Value}{o1 o2:Obj}{C1 C2:Heap→Prop}
abbrev zp1(h:Heap)(o1:Obj):Heap:=h.push o1
abbrev zp2(h:Heap)(o1 o2:Obj):Heap:=(zp1 h o1).push o2
abbrev zp3(h:Heap)(o1 o2:Obj):Heap:=(zp2 h o1 o2).push { cls:=.type "tuple",data:=.seq #[.ref h.objs.size,.ref (zp1 h o1).objs.size] }
abbrev zp4(h:Heap)(o1 o2:Obj):Heap:=(zp3 h o1 o2).push { cls:=.type "tuple",data:=.seq #[.none,.none] }
abbrev zp5(h:Heap)(o1 o2:Obj):Heap:=(zp4 h o1 o2).push { cls:=.type "zip",data:=.fields #[.none,.bool false,.bool false,.ref (zp2 h o1 o2).objs.size,.ref (zp3 h o1 o2).objs.size] }
theorem zip_new(r1:Itb v1 o1 C1)(r2:Itb v2 o2 C2) :
  Meets (Builtin.«zip.__new__» ⟨[.type "zip",v1,v2],[]⟩) (fun _ R s=>C1 s.heap∧C2 (s.heap.push o1)∧R (.ok (.ret (.ref (zp4 s.heap o1 o2).objs.size))) { s with heap:=zp5 s.heap o1 o2 }):=
 .of_wp fun prog w A R s h=>by
  obtain⟨hp,g,d,tk,os⟩:=s; obtain⟨k1,k2,h⟩:=h
  have hsub:=sub_zip
  have q1:∀{A:Around} {E:Value→Shared→Prop} {Q:Value→Shared→Prop},Q (.ref hp.objs.size) ⟨hp.push o1,g,d,tk,os⟩→wpAny (model prog w) A (pyIter v1) Q E ⟨hp,g,d,tk,os⟩:=fun q=>r1 prog w _ _ _ _ k1 q
  have q2:∀{A:Around} {E:Value→Shared→Prop} {Q:Value→Shared→Prop},Q (.ref (hp.push o1).objs.size) ⟨(hp.push o1).push o2,g,d,tk,os⟩→wpAny (model prog w) A (pyIter v2) Q E ⟨hp.push o1,g,d,tk,os⟩:=fun q=>r2 prog w _ _ _ _ k2 q
  wp_walk using q1,q2
  exact⟨_,rfl,h⟩
end
section
variable{prog:Program}{w:World}{A:Around}{E:Value→Shared→Prop}{s:Shared}{v1 v2:Value}{o1 o2:Obj}{C1 C2:Heap→Prop}
theorem zip_call(r1:Itb v1 o1 C1)(r2:Itb v2 o2 C2){Q:Value→Shared→Prop}(k1:C1 s.heap)(k2:C2 (s.heap.push o1))(hf1:o1.isFreed=false)(hf2:o2.isFreed=false)
  (h:∀h',IsZip h' (s.heap.objs.size+4) (s.heap.objs.size+2) (s.heap.objs.size+3) .none→IsPair h' (s.heap.objs.size+2) (.ref s.heap.objs.size) (.ref (s.heap.objs.size+1))→
   IsPair h' (s.heap.objs.size+3) .none .none→h'.get? s.heap.objs.size=some o1→h'.get? (s.heap.objs.size+1)=some o2→(∀c o,s.heap.get? c=some o→h'.get? c=some o)→Q (.ref (s.heap.objs.size+4)) { s with heap:=h' }) :
  wpAny (model prog w) A (call (.type "zip") [v1,v2]) Q E s:=by
 refine callType_new F.called_zip (by decide) (F.typeCall_zip_2 _ _) (F.newCall_zip_2 _ _) (fun obj=>F.args_object_init_3 obj _ _) F.entry_zip_new (zip_new r1 r2) ⟨k1,k2,?_⟩
 have y1:(zp1 s.heap o1).objs.size=s.heap.objs.size+1:=Heap.size_push ..
 have y2:(zp2 s.heap o1 o2).objs.size=s.heap.objs.size+2:=by rw[Heap.size_push,y1]
 have y3:(zp3 s.heap o1 o2).objs.size=s.heap.objs.size+3:=by rw[Heap.size_push,y2]
 have y4:(zp4 s.heap o1 o2).objs.size=s.heap.objs.size+4:=by rw[Heap.size_push,y3]
 have b5:(zp5 s.heap o1 o2).get? (zp4 s.heap o1 o2).objs.size=some _:=Heap.get?_push_size _ rfl
 have b4:(zp5 s.heap o1 o2).get? (zp3 s.heap o1 o2).objs.size=some _:=Heap.get?_push_of_some _ (Heap.get?_push_size _ rfl)
 have b3:(zp5 s.heap o1 o2).get? (zp2 s.heap o1 o2).objs.size=some _:=Heap.get?_push_of_some _ (Heap.get?_push_of_some _ (Heap.get?_push_size _ rfl))
 have b2:(zp5 s.heap o1 o2).get? (zp1 s.heap o1).objs.size=some _:=Heap.get?_push_of_some _ (Heap.get?_push_of_some _ (Heap.get?_push_of_some _ (Heap.get?_push_size _ hf2)))
 have b1:(zp5 s.heap o1 o2).get? s.heap.objs.size=some _:=Heap.get?_push_of_some _ (Heap.get?_push_of_some _ (Heap.get?_push_of_some _ (Heap.get?_push_of_some _ (Heap.get?_push_size _ hf1))))
 show _∧_
 rw[y2,y3,y4] at b5; rw[y1,y2] at b3; rw[y3] at b4; rw[y1] at b2; rw[y4]
 exact⟨⟨_,b5,rfl⟩,h _ b5 b3 b4 b1 b2 fun c o x=>Heap.get?_push_of_some _ (Heap.get?_push_of_some _ (Heap.get?_push_of_some _ (Heap.get?_push_of_some _ (Heap.get?_push_of_some _ x))))⟩
end
theorem inv_turned_new{X:Cx}{pins:List (Addr×Obj)}{σ:L2.St}{H:Hp}{s:Shared}{h':Heap}{t':Nat}{fp:List Addr}{p:Addr}{o:HO}(I:Inv X pins σ H s)(k:∀b o,b∉fp→s.heap.get? b=some o→h'.get? b=some o)(hf:∀b∈fp,FpOk X pins H b)
  (hp:s.heap.objs.size≤p) (new:ObjOk X.prog X.w (upd H p o) h' p o):Inv X pins σ (upd H p o) { s with heap:=h',toks:=t' }:=by
 have hn:H p=none:=I.hok.fresh hp
 have away:∀b u,H b=some u→b∉fp:=fun b u e z=>by rw[(hf b z).1] at e; cases e
 have lt:∀b u,s.heap.get? b=some u→b≠p:=fun b u e=>Nat.ne_of_lt (Nat.lt_of_lt_of_le (Heap.lt_size e) hp)
 refine I.step (g':=s.gens) (d':=s.drawn) (ch:=fp) (fun b hb=>⟨(hf b hb).2.2.2.1,(hf b hb).2.1,(hf b hb).2.2.2.2.1,(hf b hb).2.2.2.2.2⟩) (fun b o _ _ hc e _=>k b o hc e) (fun b o _ _ hc e _=>⟨o.slots,k b o hc e⟩) (fun b u _ e n=>by rw[upd_ne (lt b u e)]; exact n)
  (fun b o hc e=>⟨o,k b o hc e⟩) (fun b xs e=>by rw[upd_ne (ne_of_none e hn)]; exact e) (fun b u v e=>by rw[upd_ne (ne_of_none e hn)]; exact e) (fun b ps e=>⟨#[],by rw[upd_ne (ne_of_none e hn),e]; simp⟩) (fun m hm=>?_) (fun b u e=>?_) I.bare
 .obtain⟨o,es,ep,ho,r⟩:=hm
  exact⟨o,es,ep,k _ o (fun z=>(hf _ z).2.1 rfl) ho,r⟩
 .by_cases hb:b=p
  .subst hb; rw[upd_same] at e; cases e; exact new
  .rw[upd_ne hb] at e
   refine(I.hok b u e).stay (fun c v hc q=>k c v ?_ q) (fun c q=>by rw[upd_ne (ne_of_none q hn)]; exact q) fun c xs q=>by rw[upd_ne (ne_of_none q hn)]; exact q
   rcases hc with z | z
   .rw[z]; exact away b u e
   .exact away c _ z
noncomputable def SqX(K:PySem.W.Frag)(tp:Bool)(H:Hp)(a:Addr)(xs:List V):Prop:=if tp=true then SqT K H a xs else SqL K H a xs
noncomputable def Ctn(tp:Bool)(a:Addr)(h:Heap)(l:List Value):Prop:=if tp=true then h.IsTuple a l.toArray else h.IsList a l.toArray
noncomputable def Pit(tp:Bool)(it a:Addr)(i:Nat)(h:Heap):Prop:=if tp=true then h.IsTupleIter it a i else h.IsListIter it a i
noncomputable def itO(tp:Bool)(a:Addr):Obj:=if tp=true then { cls:=.type "tuple_iterator",data:=.fields #[.ref a,.int 0 0] } else { cls:=.type "list_iterator",data:=.fields #[.ref a,.int 0 0] }
theorem stp_x(tp:Bool)(it a:Addr):Stp it a (Pit tp it a) (Ctn tp a):=by
 cases tp
 .exact stp_list it a
 .exact stp_tuple it a
theorem itb_x(tp:Bool)(a:Addr)(l:List Value):Itb (.ref a) (itO tp a) (fun h=>Ctn tp a h l):=by
 cases tp
 .exact itb_list a l
 .exact itb_tuple a l
theorem itO_free(tp:Bool)(a:Addr):(itO tp a).isFreed=false:=by cases tp<;>rfl
theorem pit_new{tp:Bool}{it a:Addr}{h:Heap}(e:h.get? it=some (itO tp a)):Pit tp it a 0 h:=by
 cases tp
 .exact⟨_,e,rfl,rfl⟩
 .exact⟨_,e,rfl,rfl⟩
section
variable{X:Cx}{pins:List (Addr×Obj)}{σ:L2.St}{H:Hp}{s:Shared}
theorem inv_ctn{tp:Bool}{a:Addr}{xs:List V}(I:Inv X pins σ H s)(h:SqX X.K tp H a xs):∃l,Vals xs l∧Ctn tp a s.heap l:=by
 cases tp
 .obtain⟨its,r,p,_⟩:=I.list (show SqL X.K H a xs from h)
  exact⟨its,r,p.isList⟩
 .obtain⟨its,r,p,_⟩:=I.tuple (show SqT X.K H a xs from h)
  exact⟨its,r,p⟩
theorem sqx_inj{tp:Bool}{a:Addr}{xs ys:List V}(I:Inv X pins σ H s)(h:SqX X.K tp H a xs)(h':SqX X.K tp H a ys):xs=ys:=by
 cases tp
 .exact I.list_inj (show SqL X.K H a xs from h) h'
 .exact I.tuple_inj (show SqT X.K H a xs from h) h'
theorem sqx_away{tp:Bool}{a b:Addr}{xs:List V}(I:Inv X pins σ H s)(h:SqX X.K tp H a xs)(f:FpOk X pins H b):a≠b:=by
 have k:∀o,X.K.lookup a=some o→a≠b:=fun o e z=>by
  subst z
  have eb:X.base.get? a=some o:=I.mod.kin _ _ e
  rcases f.2.2.2.1 with q | q
  .exact I.ok.noex _ _ eb q
  .exact absurd (Nat.lt_of_lt_of_le (Heap.lt_size eb) (Nat.le_trans I.ok.bsz q)) (Nat.lt_irrefl _)
 have r:∀u,Rd H a u→a≠b:=fun u q=>by
  rcases q with q | ⟨o,q⟩<;>exact ne_of_none q f.1
 cases tp
 .rcases(show SqL X.K H a xs from h) with q | ⟨o,_,_,e,_⟩
  .exact r _ q
  .exact k o e
 .rcases(show SqT X.K H a xs from h) with q | ⟨o,_,_,e,_⟩
  .exact r _ q
  .exact k o e
end
noncomputable def Itz (K : PySem.W.Frag) (t1 t2 : Bool) (a1 a2 : Addr) : It :=
  ⟨fun i H => ∃ xs ys x y, SqX K t1 H a1 xs ∧ SqX K t2 H a2 ys ∧ xs[i]? = some x ∧ ys[i]? = some y,
   fun i H v H' => ∃ p x y, H p = none ∧ v = .ref p ∧ H' = upd H p (.tup [x, y]) ∧ (∀ xs, SqX K t1 H a1 xs → xs[i]? = some x) ∧ ∀ ys, SqX K t2 H a2 ys → ys[i]? = some y,
   fun i H => ∃ xs ys, SqX K t1 H a1 xs ∧ SqX K t2 H a2 ys ∧ (xs.length ≤ i ∨ ys.length ≤ i)⟩
theorem turn_zip{P:Program}{w:World}{K:PySem.W.Frag}{elts:List Expr}{n:Nat}{tpos:Pos}(t1 t2:Bool)(z TI TO i1 i2 a1 a2:Addr)(nd:[z,TI,TO,i1,i2].Nodup) :
  Turn P w K (.Tuple elts n tpos) (Itz K t1 t2 a1 a2) [z,TI,TO,i1,i2] z (fun i h=>ZSt z TI TO i1 i2 (Pit t1 i1 a1) (Pit t2 i2 a2) .none i i h) where
 mem:=by simp
 obj:=fun i h st b hb=>by
  obtain⟨hz,hTI,⟨a,b',hTO⟩,p1,p2⟩:=st
  simp only[List.mem_cons,List.not_mem_nil,or_false] at hb
  rcases hb with rfl | rfl | rfl | rfl | rfl
  .exact⟨_,hz,fun v q=>by cases q⟩
  .exact⟨_,hTI,fun v q=>by cases q⟩
  .exact⟨_,hTO,fun v q=>by cases q⟩
  .exact(stp_x t1 _ a1).obj p1
  .exact(stp_x t2 _ a2).obj p2
 keep:=fun i h h' st k=>by
  obtain⟨hz,hTI,⟨a,b',hTO⟩,p1,p2⟩:=st
  exact⟨k z (by simp) _ hz,k TI (by simp) _ hTI,⟨a,b',k TO (by simp) _ hTO⟩,(stp_x t1 i1 a1).keep p1 fun o e=>k i1 (by simp) o e,(stp_x t2 i2 a2).keep p2 fun o e=>k i2 (by simp) o e⟩
 item:=by
  intro X hP hw hK hc i pins s σ H E I hf st hg
  subst hP hw hK
  obtain⟨xs,ys,x,y,d1,d2,hx,hy⟩:=hg
  obtain⟨l1,r1,c1⟩:=inv_ctn I d1
  obtain⟨l2,r2,c2⟩:=inv_ctn I d2
  obtain⟨u1,e1,ru1⟩:=r1.get hx
  obtain⟨u2,e2,ru2⟩:=r2.get hy
  have D:ZApart z TI TO i1 i2 a1 a2:=⟨nd,fun q=>sqx_away I d1 (hf _ q) rfl,fun q=>sqx_away I d2 (hf _ q) rfl⟩
  refine zip_next (stp_x t1 i1 a1) (stp_x t2 i2 a2) D st c1 c2 e1 e2 fun h' st' ht kp=>⟨_,rfl,?_⟩
  obtain⟨hz,hTI,⟨a,b',hTO⟩,p1,p2⟩:=st'
  have n:=nd
  simp only[List.nodup_cons,List.mem_cons,List.not_mem_nil,or_false,not_or] at n
  obtain⟨⟨n1,n2,n3,n4⟩,_⟩:=n
  refine wpAny_letOwnedTupleGo_zip hz fun h2 hz2 sb=>?_
  have zlt:z<s.heap.objs.size:=by obtain⟨q,_⟩:=st; exact Heap.lt_size q
  have ht2:h2.get? s.heap.objs.size=some { cls:=.type "tuple",data:=.seq #[u1,u2] }:=sb.extBut _ _ (Nat.ne_of_gt zlt) ht
  have I2:Inv X pins σ (upd H s.heap.objs.size (.tup [x,y])) { s with heap:=h2 }:=inv_turned_new (t':=s.toks) (fp:=[z,TI,TO,i1,i2]) I (fun b o hb e=>sb.extBut _ _ (fun q=>hb (by simp[q])) (kp b o hb e)) hf (Nat.le_refl _)
   ⟨by show 2≤sizeLine; decide,[u1,u2],.cons ru1 (.cons ru2 .nil),_,ht2,rfl,_,rfl⟩
  refine⟨.ref s.heap.objs.size,_,I2,rfl,⟨_,x,y,I.hok.fresh (Nat.le_refl _),rfl,rfl,fun xs' q=>by rw[sqx_inj I q d1]; exact hx,fun ys' q=>by rw[sqx_inj I q d2]; exact hy⟩,?_,fun b hb=>?_⟩
  .exact⟨hz2,sb.extBut _ _ (Ne.symm n1) hTI,⟨a,b',sb.extBut _ _ (Ne.symm n2) hTO⟩,(stp_x t1 i1 a1).keep p1 fun o e=>sb.extBut _ _ (Ne.symm n3) e,(stp_x t2 i2 a2).keep p2 fun o e=>sb.extBut _ _ (Ne.symm n4) e⟩
  .obtain⟨o,ho,_⟩:∃o,s.heap.get? b=some o∧True:=by
    obtain⟨hz0,hTI0,⟨a0,b0,hTO0⟩,p10,p20⟩:=st
    simp only[List.mem_cons,List.not_mem_nil,or_false] at hb
    rcases hb with rfl | rfl | rfl | rfl | rfl
    .exact⟨_,hz0,trivial⟩
    .exact⟨_,hTI0,trivial⟩
    .exact⟨_,hTO0,trivial⟩
    .obtain⟨o,q,_⟩:=(stp_x t1 _ a1).obj p10; exact⟨o,q,trivial⟩
    .obtain⟨o,q,_⟩:=(stp_x t2 _ a2).obj p20; exact⟨o,q,trivial⟩
   rw[upd_ne (Nat.ne_of_lt (Heap.lt_size ho))]
   exact(hf b hb).1
 done:=by
  intro X hP hw hK hc i pins s σ H E I hf st hg
  subst hP hw hK
  obtain⟨xs,ys,d1,d2,he⟩:=hg
  obtain⟨l1,r1,c1⟩:=inv_ctn I d1
  obtain⟨l2,r2,c2⟩:=inv_ctn I d2
  have D:ZApart z TI TO i1 i2 a1 a2:=⟨nd,fun q=>sqx_away I d1 (hf _ q) rfl,fun q=>sqx_away I d2 (hf _ q) rfl⟩
  refine zip_last (stp_x t1 i1 a1) (stp_x t2 i2 a2) D (I.ok.hd hc) st c1 c2 ?_ fun h' kp=>⟨rfl,inv_turned (t':=s.toks) I kp hf⟩
  rcases he with he | he
  .exact .inl (List.getElem?_eq_none (by rw[←r1.length]; exact he))
  .exact .inr (List.getElem?_eq_none (by rw[←r2.length]; exact he))
 self:=fun _ _ _ _ _ st h=>wpAny_pyIter_zip st.1 h
noncomputable def sndOf(h:MH)(w:W):Option (List W):=match w with
 | .tup l=>some l
 | .fls l=>some l
 | _=>none
noncomputable def zipW(ws:List W):M Src:=fun h=>match ws with
 | [x,y]=>match sndOf h x,sndOf h y with
  | some l,some l'=>some (.items ((l.zip l').map fun p=>.tup [p.1,p.2]),h)
  | _,_=>none
 | _=>none
noncomputable def iZip(ms:List ME):MI:=fun ρ=>bnd (mArgs ms ρ) zipW
section
variable{X:Cx}{cl:Nat→Addr}{elts:List Expr}{n:Nat}{tpos p pos:Pos}{e1 e2:Expr}{ms:List ME}
theorem sndOf_of{K:PySem.W.Frag}{μ:List Addr}{H:Hp}{h:MH}{w:W}{v:V}{l:List W}(r:RW K μ H w v)(e:sndOf h w=some l):∃tp a vs,v=.ref a∧RWs K μ H l vs∧SqX K tp H a vs∧(∀μ2 H2 h2,HR K cl μ H h→Ext μ H μ2 H2→HR K cl μ2 H2 h2→SqX K tp H2 a vs):=by
 unfold sndOf at e
 split at e
 .cases e
  obtain⟨a,vs,rfl,sa,ra⟩:=r.tup_of
  exact⟨true,a,vs,rfl,ra,sa,fun μ2 H2 h2 R E R2=>SqT.ext R E sa⟩
 .cases e
  cases r with | @fls a vs l sa ra=>
  exact⟨false,a,vs,rfl,ra,sa.sq,fun μ2 H2 h2 R E R2=>(SqF.ext E sa).sq⟩
 .cases e
theorem si_zip(hm:X.mg "zip" = none)(ha:SA X cl [e1,e2] ms)(hg:Gl X "zip":=by rfl)(hst:starEach [e1,e2] X.env=(false,eval e1 X.env)::starEach [e2] X.env:=by rfl)(hpl:(backTo pos (starEach [e2] X.env)).any (·.1)=false:=by rfl) :
  SI X cl (.Tuple elts n tpos) (.Call (.Name "zip" p) [e1,e2] [] pos) (iZip ms):=by
 rintro pins s σ H R I ⟨μ,h,ρ,src,h',R0,er,e,k⟩
 obtain⟨ws,h1,e1',e⟩:=of_bnd e
 have hv:bootBuiltins "zip" = some (.type "zip"):=by decide +kernel
 refine wpAny_Call_Name_kw (ld_blt I hg hm hv ?_ (by decide) (by decide))
 refine PyProof.Rows.callWith_type1 (thn (ha pos pins s σ H (fun vs H1=>∃μ1,Ext μ H μ1 H1∧HR X.K cl μ1 H1 h1∧RWs X.K μ1 H1 ws vs) I ⟨μ,h,ρ,ws,h1,R0,er,e1',fun μ1 H1 vs E1 R1 rs=>⟨μ1,E1,R1,rs⟩⟩) fun us s1 ⟨vs,H1,I1,r1,μ1,E1,R1,rs⟩=>?_) hst hpl
 unfold zipW at e
 split at e
 .rename_i x y
  split at e
  .rename_i l l' q1 q2
   cases e
   cases rs with | cons rx t=>cases t with | cons ry t=>cases t with | nil=>
   obtain⟨t1,a1,xs,rfl,ra1,d1,f1⟩:=sndOf_of (cl:=cl) rx q1
   obtain⟨t2,a2,ys,rfl,ra2,d2,f2⟩:=sndOf_of (cl:=cl) ry q2
   obtain⟨u1,u2,rfl,ru1,ru2⟩:=vals2 r1
   cases ru1
   cases ru2
   obtain⟨l1,v1,c1⟩:=inv_ctn I1 d1
   obtain⟨l2,v2,c2⟩:=inv_ctn I1 d2
   refine zip_call (itb_x t1 a1 l1) (itb_x t2 a2 l2) c1 ((stp_x t2 0 a2).keepC c2 fun o e=>Heap.get?_push_of_some _ e) (itO_free t1 a1) (itO_free t2 a2) fun h2 b5 b3 b4 b1 b2 kp=>?_
   refine wpAny_pyIter_zip b5 ?_
   have nd:[s1.heap.objs.size+4,s1.heap.objs.size+2,s1.heap.objs.size+3,s1.heap.objs.size,s1.heap.objs.size+1].Nodup:=by
    simp only[List.nodup_cons,List.mem_cons,List.not_mem_nil,or_false,not_or,List.nodup_nil,and_true,not_false_eq_true]
    omega
   refine⟨_,_,_,_,H1,rfl,I1.kept (t':=s1.toks) kp,turn_zip t1 t2 _ _ _ _ _ a1 a2 nd,⟨b5,b3,⟨_,_,b4⟩,pit_new b1,pit_new b2⟩,fun b hb=>?_,k μ1 H1 _ E1 R1 ?_⟩
   .have hge:s1.heap.objs.size≤b:=by
     simp only[List.mem_cons,List.not_mem_nil,or_false] at hb
     rcases hb with rfl | rfl | rfl | rfl | rfl<;>omega
    exact I1.fpOk hge (I1.hok.fresh hge)
   .intro μ2 H2 h3 E2 R2 i
    have d1':=f1 μ2 H2 h3 R1 E2 R2
    have d2':=f2 μ2 H2 h3 R1 E2 R2
    have ra1':=ra1.ext R1 E2
    have ra2':=ra2.ext R1 E2
    refine⟨fun w ew=>?_,fun es=>?_⟩
    .have ew':((l.zip l').map fun p=>W.tup [p.1,p.2])[i]?=some w:=Option.some.inj ew
     rw[List.getElem?_map] at ew'
     cases ez:(l.zip l')[i]? with
     | none=>rw[ez] at ew'; cases ew'
     | some pr=>
      rw[ez] at ew'
      cases ew'
      obtain⟨ea,eb⟩:=List.getElem?_zip_eq_some.mp ez
      obtain⟨vx,evx,rvx⟩:=ra1'.get ea
      obtain⟨vy,evy,rvy⟩:=ra2'.get eb
      refine⟨⟨xs,ys,vx,vy,d1',d2',evx,evy⟩,fun v H3 yl=>?_⟩
      obtain⟨pp,x',y',hp,rfl,rfl,w1,w2⟩:=yl
      have z1:=w1 xs d1'
      have z2:=w2 ys d2'
      rw[evx] at z1; rw[evy] at z2
      cases z1; cases z2
      exact⟨.side hp,R2.side hp,.tup (SqT.of upd_same) (.cons (rvx.ext R2 (.side hp)) (.cons (rvy.ext R2 (.side hp)) .nil))⟩
    .have es':((l.zip l').map fun p=>W.tup [p.1,p.2])[i]?=none:=Option.some.inj es
     have hl:=List.getElem?_eq_none_iff.mp es'
     rw[List.length_map,List.length_zip] at hl
     refine⟨xs,ys,d1',d2',?_⟩
     rw[←ra1.length,←ra2.length]
     omega
  .cases e
 .cases e
end
noncomputable def blsOf:List W→Option (List Bool)
 | []=>some []
 | .bl b::r=>match blsOf r with
  | some l=>some (b::l)
  | none=>none
 | _=>none
noncomputable def intsOf:List W→Option (List Int)
 | []=>some []
 | .int b::r=>match intsOf r with
  | some l=>some (b::l)
  | none=>none
 | _=>none
noncomputable def foldB(f:List Bool→Bool)(ws:List W):M W:=fun h=>match ws with
 | [w]=>match seqOf h w with
  | some l=>match blsOf l with
   | some bs=>some (.bl (f bs),h)
   | none=>none
  | none=>none
 | _=>none
noncomputable def allW:List W→M W:=foldB fun l=>l.all id
noncomputable def anyW:List W→M W:=foldB fun l=>l.any id
noncomputable def sumL:List Int→Int
 | []=>0
 | i::r=>i+sumL r
noncomputable def sumW(ws:List W):M W:=fun h=>match ws with
 | [w]=>match seqOf h w with
  | some l=>match intsOf l with
   | some bs=>some (.int (sumL bs),h)
   | none=>none
  | none=>none
 | _=>none
section
variable{K:PySem.W.Frag}{μ:List Addr}{H:Hp}
theorem bls_vals:∀{l:List W} {vs:List V} {us:List Value} {bs:List Bool},blsOf l=some bs→RWs K μ H l vs→Vals vs us→us=bs.map Value.bool
 | [],_,_,_,e,.nil,.nil=>by cases e; rfl
 | .bl b::r,_,_,_,e,.cons rb rr,.cons tb tr=>by
  unfold blsOf at e
  split at e
  .rename_i l e'
   cases e
   cases rb
   cases tb
   rw[bls_vals e' rr tr]
   rfl
  .cases e
 | .non::r,_,_,_,e,_,_=>by cases e
 | .int _::r,_,_,_,e,_,_=>by cases e
 | .str _::r,_,_,_,e,_,_=>by cases e
 | .tup _::r,_,_,_,e,_,_=>by cases e
 | .fls _::r,_,_,_,e,_,_=>by cases e
 | .ref _::r,_,_,_,e,_,_=>by cases e
 | .fdc _::r,_,_,_,e,_,_=>by cases e
 | .fn _::r,_,_,_,e,_,_=>by cases e
theorem ints_vals:∀{l:List W} {vs:List V} {us:List Value} {bs:List Int},intsOf l=some bs→RWs K μ H l vs→Vals vs us→us.length=bs.length∧∀i u,us[i]?=some u→∃t,u=Value.int (bs.getD i 0) t
 | [],_,_,_,e,.nil,.nil=>by cases e; exact⟨rfl,fun i u e=>by simp at e⟩
 | .int b::r,_,_,_,e,.cons rb rr,.cons tb tr=>by
  unfold intsOf at e
  split at e
  .rename_i l e'
   cases e
   cases rb
   obtain⟨t,rfl⟩:=tb
   obtain⟨h1,h2⟩:=ints_vals e' rr tr
   refine⟨by simp[h1],fun i u e=>?_⟩
   cases i with
   | zero=>simp at e; subst e; exact⟨t,rfl⟩
   | succ i=>simpa using h2 i u (by simpa using e)
  .cases e
 | .non::r,_,_,_,e,_,_=>by cases e
 | .bl _::r,_,_,_,e,_,_=>by cases e
 | .str _::r,_,_,_,e,_,_=>by cases e
 | .tup _::r,_,_,_,e,_,_=>by cases e
 | .fls _::r,_,_,_,e,_,_=>by cases e
 | .ref _::r,_,_,_,e,_,_=>by cases e
 | .fdc _::r,_,_,_,e,_,_=>by cases e
 | .fn _::r,_,_,_,e,_,_=>by cases e
end
theorem sumL_append(a b:List Int):sumL (a++b)=sumL a+sumL b:=by
 induction a with
 | nil=>simp[sumL]
 | cons x r ih=>simp only[List.cons_append,sumL,ih]; omega
theorem preSum_eq(bs:List Int):∀n,n≤bs.length→preSum (fun i=>bs.getD i 0) n=sumL (bs.take n)
 | 0,_=>by simp[preSum,sumL]
 | n+1,h=>by
  have ih:=preSum_eq bs n (by omega)
  have:preSum (fun i=>bs.getD i 0) (n+1)=preSum (fun i=>bs.getD i 0) n+bs.getD n 0:=rfl
  rw[this,ih,List.take_succ,sumL_append]
  simp[List.getElem?_eq_getElem (show n<bs.length by omega),sumL]
section
variable{X:Cx}{cl:Nat→Addr}
theorem walk_seq{pins:List (Addr×Obj)}{s:Shared}{σ:L2.St}{H:Hp}{a:Addr}{vs:List V}{A:Around}{E:Value→Shared→Prop}{R:Value→Shared→Prop}(I:Inv X pins σ H s)(sq:SqL X.K H a vs∨SqT X.K H a vs)(hh:A.handled=none)
  (k:∀(us:List Value) (it:Addr) (fp wr:List Addr) (St:Nat→Heap→Prop) (h1:Heap),Vals vs us→Walks X.prog X.w A it fp wr us.length (fun i v=>us[i]?=some v) St→St 0 h1→(∀b∈fp,b<h1.objs.size)→
   (∀b∈wr,s.heap.objs.size≤b)→(∀b o,s.heap.get? b=some o→h1.get? b=some o)→R (.ref it) { s with heap:=h1 }) :
  wpAny (model X.prog X.w) A (pyIter (.ref a)) R E s:=by
 rcases sq with sq | sq
 .obtain⟨its,rv,p,hz⟩:=I.list sq
  refine wpAny_pyIter_list p.isList ?_
  have hlt:a<s.heap.objs.size:=by obtain⟨o,ho,_⟩:=p.isList; exact Heap.lt_size ho
  have W0:=Walks.list (prog:=X.prog) (w:=X.w) hh s.heap.objs.size a (Nat.ne_of_lt hlt) its.toArray
  have W1:Walks X.prog X.w A s.heap.objs.size [s.heap.objs.size,a] [s.heap.objs.size] its.length (fun i v=>its[i]?=some v) (fun i h=>h.IsListIter s.heap.objs.size a i∧h.IsList a its.toArray):=by simpa using W0
  refine k its _ _ _ _ _ rv W1 ⟨⟨_,Heap.get?_push_size _ rfl,rfl,rfl⟩,p.isList.at fun o e=>Heap.get?_push_of_some _ e⟩ (fun b hb=>?_) (fun b hb=>?_) fun b o e=>Heap.get?_push_of_some _ e
  .simp only[List.mem_cons,List.not_mem_nil,or_false] at hb
   simp only[Heap.size_push]
   rcases hb with rfl | rfl
   .exact Nat.lt_succ_self _
   .exact Nat.lt_succ_of_lt hlt
  .simp only[List.mem_cons,List.not_mem_nil,or_false] at hb
   rw[hb]
   exact Nat.le_refl _
 .obtain⟨its,rv,p,hz⟩:=I.tuple sq
  refine wpAny_pyIter_tuple (show s.heap.IsTuple a its.toArray from p) ?_
  have hlt:a<s.heap.objs.size:=by obtain⟨o,ho,_⟩:=id p; exact Heap.lt_size ho
  have p':s.heap.IsTuple a its.toArray:=p
  have W0:=Walks.tuple (prog:=X.prog) (w:=X.w) hh s.heap.objs.size a (Nat.ne_of_lt hlt) its.toArray
  have W1:Walks X.prog X.w A s.heap.objs.size [s.heap.objs.size,a] [s.heap.objs.size] its.length (fun i v=>its[i]?=some v) (fun i h=>h.IsTupleIter s.heap.objs.size a i∧h.IsTuple a its.toArray):=by simpa using W0
  refine k its _ _ _ _ _ rv W1 ⟨⟨_,Heap.get?_push_size _ rfl,rfl,rfl⟩,p'.at fun o e=>Heap.get?_push_of_some _ e⟩ (fun b hb=>?_) (fun b hb=>?_) fun b o e=>Heap.get?_push_of_some _ e
  .simp only[List.mem_cons,List.not_mem_nil,or_false] at hb
   simp only[Heap.size_push]
   rcases hb with rfl | rfl
   .exact Nat.lt_succ_self _
   .exact Nat.lt_succ_of_lt hlt
  .simp only[List.mem_cons,List.not_mem_nil,or_false] at hb
   rw[hb]
   exact Nat.le_refl _
theorem inv_walked{pins:List (Addr×Obj)}{s:Shared}{σ:L2.St}{H:Hp}{h1 h2:Heap}{tk:Nat}{wr:List Addr}(I:Inv X pins σ H s)(k1:∀b o,s.heap.get? b=some o→h1.get? b=some o)(hw:∀b∈wr,s.heap.objs.size≤b)(k2:∀b o,b∉wr→h1.get? b=some o→h2.get? b=some o) :
  Inv X pins σ H { s with heap:=h2,toks:=tk }:=
 I.kept (t':=tk) fun b o e=>k2 b o (fun z=>absurd (Heap.lt_size e) (Nat.not_lt.mpr (hw b z))) (k1 b o e)
theorem call_foldB{f:List Bool→Bool}{id:String}(hcall:∀{A:Around} {E:Value→Shared→Prop} {s:Shared} {x:Value} {Q:Value→Shared→Prop},A.handled=none→wpAny (model X.prog X.w) A.in1 (pyIter x) (fun it s₂=>∃I fp wr n P St tr,it=.ref I∧Walks X.prog X.w A.in1 I fp wr n P St∧St 0 s₂.heap∧TruthOf X.prog X.w A.in1 P tr ∧
   ∀h' tk,(∀b o,b∉wr→s₂.heap.get? b=some o→h'.get? b=some o)→Q (.bool (f ((List.range n).map tr))) { s₂ with heap:=h',toks:=tk }) E s→wpAny (model X.prog X.w) A (call (.builtin id) [x]) Q E s) (hc:X.calm=true):CallR X (.builtin id) (rMs X.K cl (foldB f)):=by
 rintro pins s σ H xs us Q I rs ⟨μ,h,ws,w,h',R,ax,e,k⟩
 unfold foldB at e
 split at e
 .split at e
  .rename_i l el
   split at e
   .rename_i bs eb
    cases e
    cases ax with | cons r t=>cases t with | nil=>
    obtain⟨a,vs,rfl,sa,ra⟩:=seqOf_of R r el
    obtain⟨u,rfl,ru⟩:=rs.one
    cases ru
    have hh:=I.ok.hd hc
    refine hcall hh (walk_seq (A:=X.A.in1) I sa hh fun us it fp wr St h1 rv W hst hfp hwr k1=>?_)
    have hu:=bls_vals eb ra rv
    subst hu
    refine⟨it,fp,wr,_,_,St,fun i=>bs.getD i false,rfl,W,hst,?_,fun h2 tk k2=>?_⟩
    .intro i v s Q E hP hQ
     rw[List.getElem?_map] at hP
     cases eb:bs[i]? with
     | none=>rw[eb] at hP; cases hP
     | some b=>
      rw[eb] at hP
      cases hP
      have:bs.getD i false=b:=by simp[List.getD,eb]
      have hQ':Q (bs.getD i false) s:=hQ
      rw[this] at hQ'
      exact wpAny_truthy_bool hQ'
    .have e2:(List.range (bs.map Value.bool).length).map (fun i=>bs.getD i false)=bs:=by
      apply List.ext_getElem
      .simp
      .intro i h1 h2; simp at h1; simp[h1]
     rw[e2]
     exact⟨.bl _,H,(show Inv X pins σ H { s with heap:=h2,toks:=tk } from inv_walked I k1 hwr k2),rfl,k.pure R (.bl _)⟩
   .cases e
  .cases e
 .cases e
theorem call_allW(hc:X.calm=true):CallR X (.builtin "all") (rMs X.K cl allW):=by
 refine call_foldB (fun {A E s x Q} hh h=>call_all_walk (wpAny_mono h (fun it s₂ h₂=>?_) fun _ _ e=>e)) hc
 obtain⟨I,fp,wr,n,P,St,tr,rfl,W,hst,htr,hQ⟩:=h₂
 refine⟨I,fp,wr,n,P,St,tr,rfl,W,hst,htr,fun h' tk hk=>?_⟩
 have:=hQ h' tk hk
 rw[List.all_map] at this
 exact this
theorem call_anyW(hc:X.calm=true):CallR X (.builtin "any") (rMs X.K cl anyW):=by
 refine call_foldB (fun {A E s x Q} hh h=>call_any_walk (wpAny_mono h (fun it s₂ h₂=>?_) fun _ _ e=>e)) hc
 obtain⟨I,fp,wr,n,P,St,tr,rfl,W,hst,htr,hQ⟩:=h₂
 refine⟨I,fp,wr,n,P,St,tr,rfl,W,hst,htr,fun h' tk hk=>?_⟩
 have:=hQ h' tk hk
 rw[List.any_map] at this
 exact this
theorem call_sumW(hc:X.calm=true):CallR X (.builtin "sum") (rMs X.K cl sumW):=by
 rintro pins s σ H xs us Q I rs ⟨μ,h,ws,w,h',R,ax,e,k⟩
 unfold sumW at e
 split at e
 .split at e
  .rename_i l el
   split at e
   .rename_i bs eb
    cases e
    cases ax with | cons r t=>cases t with | nil=>
    obtain⟨a,vs,rfl,sa,ra⟩:=seqOf_of R r el
    obtain⟨u,rfl,ru⟩:=rs.one
    cases ru
    have hh:=I.ok.hd hc
    refine call_sum_walkG (walk_seq (A:=X.A.in1) I sa hh fun us it fp wr St h1 rv W hst hfp hwr k1=>?_)
    obtain⟨hl,hv⟩:=ints_vals eb ra rv
    refine⟨it,fp,wr,_,_,St,fun i=>bs.getD i 0,rfl,W,hst,hfp,hv,fun h2 tk t' k2=>?_⟩
    rw[hl,preSum_eq bs _ (Nat.le_refl _),List.take_length]
    exact⟨.int _,H,(show Inv X pins σ H { s with heap:=h2,toks:=tk } from inv_walked I k1 hwr k2),⟨t',rfl⟩,k.pure R (.int _)⟩
   .cases e
  .cases e
 .cases e
theorem boot_all:bootBuiltins "all" = some (.builtin "all"):=by decide +kernel
theorem boot_any:bootBuiltins "any" = some (.builtin "any"):=by decide +kernel
theorem boot_sum:bootBuiltins "sum" = some (.builtin "sum"):=by decide +kernel
theorem tyb_int:bootBuiltins "int" = some (.type Ty.int.name):=by decide +kernel
theorem tyb_str:bootBuiltins "str" = some (.type Ty.str.name):=by decide +kernel
theorem tyb_bool:bootBuiltins "bool" = some (.type Ty.bool.name):=by decide +kernel
theorem tyb_tuple:bootBuiltins "tuple" = some (.type Ty.tuple.name):=by decide +kernel
theorem tyb_list:bootBuiltins "list" = some (.type Ty.list.name):=by decide +kernel
theorem tyb_dict:bootBuiltins "dict" = some (.type Ty.dict.name):=by decide +kernel
end
noncomputable abbrev ltW:W→W→M W:=cmpI fun i j=>decide (i<j)
noncomputable abbrev leW:W→W→M W:=cmpI fun i j=>decide (i≤j)
noncomputable abbrev gtW:W→W→M W:=cmpI fun i j=>decide (j<i)
noncomputable abbrev geW:W→W→M W:=cmpI fun i j=>decide (j≤i)
noncomputable abbrev augI:W→W→M W:=fun x y=>match x,y with | .int i,.int j=>fun h=>some (.int (i+j),h) | _,_=>fun _=>none
noncomputable def Itc(x:Str):It:=
 ⟨fun i _=>i<x.cps.size,fun i H v H'=>H'=H∧∃c,x.cps[i]?=some c∧v=.str ⟨#[c]⟩,fun i _=>x.cps.size≤i⟩
section
variable{P:Program}{w:World}{K:PySem.W.Frag}{tg:Expr}
theorem turn_sign{T:String}(hn:["enumerate","zip","dict_itemiterator","dict_reverseitemiterator","odict_iterator","itertools.zip_longest","itertools.pairwise"].contains T=false)(it:Addr)(x:Str)(t:Tok)
  (W:∀A:Around,A.handled=none→Walks P w A it [it] [it] x.cps.size (SignAt x) (fun i h=>h.IsStrIter it T x t i))
  (sf:∀(A:Around) (i:Nat) (s:Shared) (Q:Value→Shared→Prop) (E:Value→Shared→Prop),s.heap.IsStrIter it T x t i→Q (.ref it) s→wpAny (model P w) A (pyIter (.ref it)) Q E s) :
  Turn P w K tg (Itc x) [it] it (fun i h=>i≤x.cps.size∧h.IsStrIter it T x t i) where
 mem:=by simp
 obj:=fun i h st b hb=>by
  have e:b=it:=by simpa using hb
  subst e
  obtain⟨_,o,e,c,d⟩:=st
  exact⟨o,e,fun v z=>by rw[d] at z; cases z⟩
 keep:=fun i h h' st k=>by
  obtain⟨hi,o,e,c,d⟩:=st
  exact⟨hi,o,k it (by simp) o e,c,d⟩
 item:=by
  intro X hP hw hK hc i pins s σ H E I hf st hg
  subst hP hw hK
  obtain⟨f0,f1,f2,f3,f4,f5⟩:=hf it (by simp)
  refine(W X.A (I.ok.hd hc)).item i s _ _ hg st.2 fun v h' tk hv st' kk=>?_
  obtain⟨c,u,hcx,rfl⟩:=hv
  have I1:Inv X pins σ H { s with heap:=h',toks:=tk }:=I.turned (t':=tk) (fun b o hb e=>kk b o (by simpa using hb) e) f0 f1 f3 f4 f5
  obtain⟨o,e,cc,d⟩:=id st'
  exact⟨_,rfl,go_of (s:={ s with heap:=h',toks:=tk }) e cc d hn ⟨.str ⟨#[c]⟩,H,I1,⟨u,rfl⟩,⟨rfl,c,hcx,rfl⟩,⟨hg,st'⟩,fun b hb=>(hf b hb).1⟩⟩
 done:=by
  intro X hP hw hK hc i pins s σ H E I hf st hg
  subst hP hw hK
  obtain⟨f0,f1,f2,f3,f4,f5⟩:=hf it (by simp)
  have hi:i=x.cps.size:=Nat.le_antisymm st.1 hg
  have st2:=st.2
  rw[hi] at st2
  exact(W X.A (I.ok.hd hc)).done s _ _ st2 fun h' tk kk=>⟨rfl,I.turned (t':=tk) (fun b o hb e=>kk b o (by simpa using hb) e) f0 f1 f3 f4 f5⟩
 self:=fun A i s Q E st h=>sf A i s Q E st.2 h
end
noncomputable def signs(x:Str):List W:=x.cps.toList.map fun c=>.str ⟨#[c]⟩
noncomputable def iStr(m:ME):MI:=fun ρ=>bnd (m ρ) fun w h=>match w with
 | .str x=>some (.items (signs x),h)
 | _=>none
section
variable{X:Cx}{cl:Nat→Addr}{tg e:Expr}{m:ME}
theorem jr_sign{K:PySem.W.Frag}{μ:List Addr}{H:Hp}{x:Str}:JR K cl (Itc x) (.items (signs x)) μ H:=by
 intro μ2 H2 h2 E2 R2 i
 refine⟨fun w ew=>?_,fun es=>?_⟩
 .have ew':(signs x)[i]?=some w:=Option.some.inj ew
  unfold signs at ew'
  rw[List.getElem?_map] at ew'
  cases ec:x.cps.toList[i]? with
  | none=>rw[ec] at ew'; cases ew'
  | some c=>
   rw[ec] at ew'
   cases ew'
   have ec':x.cps[i]?=some c:=by rw[←Array.getElem?_toList]; exact ec
   refine⟨(Array.getElem?_eq_some_iff.mp ec').1,fun v H3 y=>?_⟩
   obtain⟨rfl,c',hc',rfl⟩:=y
   rw[ec'] at hc'
   cases hc'
   exact⟨.refl,R2,.str _⟩
 .have es':(signs x)[i]?=none:=Option.some.inj es
  have:=List.getElem?_eq_none_iff.mp es'
  unfold signs at this
  rw[List.length_map,Array.length_toList] at this
  exact this
theorem si_str(he:SE X cl e m):SI X cl tg e (iStr m):=by
 rintro pins s σ H R I ⟨μ,h,ρ,src,h',R0,er,e,k⟩
 obtain⟨x,h1,e1,e⟩:=of_bnd e
 refine thn (he pins s σ H (fun v H1=>∃μ1,Ext μ H μ1 H1∧HR X.K cl μ1 H1 h1∧RW X.K μ1 H1 x v) I ⟨μ,h,ρ,x,h1,R0,er,e1,fun μ1 H1 v E1 R1 r=>⟨μ1,E1,R1,r⟩⟩) fun u s1 ⟨v,H1,I1,r1,μ1,E1,R1,rv⟩=>?_
 cases x with
 | str z=>
  cases e
  cases rv.str_of
  obtain⟨tk,rfl⟩:=r1
  have fin:∀{o:Obj} {T:String},["enumerate","zip","dict_itemiterator","dict_reverseitemiterator","odict_iterator","itertools.zip_longest","itertools.pairwise"].contains T=false→(∀A:Around,A.handled=none→Walks X.prog X.w A s1.heap.objs.size [s1.heap.objs.size] [s1.heap.objs.size] z.cps.size (SignAt z) (fun i h=>h.IsStrIter s1.heap.objs.size T z tk i))→
    (∀(A:Around) (i:Nat) (s:Shared) (Q:Value→Shared→Prop) (E:Value→Shared→Prop),s.heap.IsStrIter s1.heap.objs.size T z tk i→Q (.ref s1.heap.objs.size) s→wpAny (model X.prog X.w) A (pyIter (.ref s1.heap.objs.size)) Q E s)→
    (s1.heap.push o).IsStrIter s1.heap.objs.size T z tk 0→PIE X pins σ tg R (.ref s1.heap.objs.size) { s1 with heap:=s1.heap.push o }:=fun {o T} hn W sf st=>
   ⟨_,[s1.heap.objs.size],_,_,H1,rfl,I1.kept (t':=s1.toks) fun b o e=>Heap.get?_push_of_some _ e,turn_sign hn _ z tk W sf,⟨Nat.zero_le _,st⟩,fun b hb=>by
    have e:b=s1.heap.objs.size:=by simpa using hb
    subst e
    exact I1.fpOk (Nat.le_refl _) (I1.hok.fresh (Nat.le_refl _)),k μ1 H1 _ E1 R1 jr_sign⟩
  cases ha:z.cps.all (· < 128)
  .exact wpAny_pyIter_wide ha (fin (T:="str_iterator") (by decide) (fun A' hA=>Walks.strWide hA _ z tk) (fun A i s Q E st q=>wpAny_pyIter_striter_wide st q) ⟨_,Heap.get?_push_size _ rfl,rfl,rfl⟩)
  .exact wpAny_pyIter_ascii ha (fin (T:="str_ascii_iterator") (by decide) (fun A' hA=>Walks.strAscii hA _ z tk) (fun A i s Q E st q=>wpAny_pyIter_striter_ascii st q) ⟨_,Heap.get?_push_size _ rfl,rfl,rfl⟩)
 | _=>cases e
end
structure Glob(K:PySem.W.Frag)(mg:Str→Option Value)(x:Str)(w:W):Prop where
 ex:∃(v:V) (u:Value),mg x=some u∧RelV v u∧∀μ H,RW K μ H w v
theorem Glob.se{X:Cx}{cl:Nat→Addr}{x:Str}{w:W}{pos:Pos}(G:Glob X.K X.mg x w)(hg:Gl X x:=by rfl)(hd:(x==("__debug__":Str))=false:=by decide):SE X cl (.Name x pos) (eC w):=by
 obtain⟨v,u,hm,r,rw⟩:=G.ex
 exact se_glob hm r rw hg hd
mutual
inductive KW(K:PySem.W.Frag):W→Value→Prop
 | int {i:Int} {t:Tok}:KW K (.int i) (.int i t)
 | str {i:Str} {t:Tok}:KW K (.str i) (.str i t)
 | fn {a:Addr}:KW K (.fn a) (.ref a)
 | tup {a:Addr} {l:List W} {o:Obj} {its:Array Value} {n:Nat}:K.lookup a=some o→o.cls=.type "tuple"→o.data=.seq its n→its.size≤sizeLine→KWs K l its.toList→KW K (.tup l) (.ref a)
inductive KWs(K:PySem.W.Frag):List W→List Value→Prop
 | nil:KWs K [] []
 | cons {w:W} {v:Value} {l:List W} {vs:List Value}:KW K w v→KWs K l vs→KWs K (w::l) (v::vs)
end
mutual
theorem KW.rw{K:PySem.W.Frag}:∀{w:W} {u:Value},KW K w u→∃v,RelV v u∧∀μ H,RW K μ H w v
 | _,_,.int (i:=i) (t:=t)=>⟨.int i,⟨t,rfl⟩,fun _ _=>.int _⟩
 | _,_,.str (i:=i) (t:=t)=>⟨.str i,⟨t,rfl⟩,fun _ _=>.str _⟩
 | _,_,.fn (a:=a)=>⟨.ref a,rfl,fun _ _=>.fn⟩
 | _,_,.tup (a:=a) e c d z r=>by
  obtain⟨vs,rv,rr⟩:=KWs.rw r
  exact⟨.ref a,rfl,fun μ H=>.tup (.inr ⟨_,_,_,e,c,d,z,rv⟩) (rr μ H)⟩
theorem KWs.rw{K:PySem.W.Frag}:∀{l:List W} {us:List Value},KWs K l us→∃vs,Vals vs us∧∀μ H,RWs K μ H l vs
 | _,_,.nil=>⟨[],.nil,fun _ _=>.nil⟩
 | _,_,.cons r t=>by
  obtain⟨v,r1,r2⟩:=KW.rw r
  obtain⟨vs,t1,t2⟩:=KWs.rw t
  exact⟨v::vs,.cons r1 t1,fun μ H=>.cons (r2 μ H) (t2 μ H)⟩
end
theorem KW.glob{K:PySem.W.Frag}{mg:Str→Option Value}{x:Str}{w:W}{u:Value}(hm:mg x=some u)(k:KW K w u):Glob K mg x w:=by
 obtain⟨v,r1,r2⟩:=k.rw
 exact⟨v,u,hm,r1,r2⟩
inductive TabRel(K:PySem.W.Frag):List (Str×W)→List DictEntry→Prop
 | nil:TabRel K [] []
 | cons {k:Str} {t:Tok} {w:W} {hs:Int} {v:Value} {l:List (Str×W)} {es:List DictEntry} {e:DictEntry}:e.key=.str k t→KW K w e.val→TabRel K l es→TabRel K ((k,w)::l) (e::es)
structure TabOk(K:PySem.W.Frag)(P:Params)(mg:Str→Option Value)(x:Str)(l:List (Str×W)):Prop where
 ex:∃(a:Addr) (es:Array DictEntry) (n:Nat),mg x=some (.ref a)∧K.lookup a=some ⟨.type "dict",none,.dict es n,#[]⟩∧PySem.W.KeysLit P es.toList∧(a==sysModules)=false∧TabRel K l es.toList
theorem TabRel.find{K:PySem.W.Frag}{k:Str}:∀{l:List (Str×W)} {es:List DictEntry},TabRel K l es→match l.lookup k with
  | some w=>∃v,(es.find? fun e=>Value.isStrOf k e.key).map (·.val)=some v∧KW K w v
  | none=>(es.find? fun e=>Value.isStrOf k e.key).map (·.val)=none
 | _,_,.nil=>rfl
 | _,_,.cons (k:=k') (l:=l) (es:=es) (e:=e) hk r t=>by
  have ih:=TabRel.find (k:=k) t
  rw[List.lookup_cons]
  by_cases q:k=k'
  .subst q
   have e1:(k==k)=true:=by simp
   have e2:Value.isStrOf k e.key=true:=by rw[hk]; simp[Value.isStrOf]
   simp only[e1,List.find?_cons,e2]
   exact⟨_,rfl,r⟩
  .have e1:(k==k')=false:=by simpa using q
   have e2:Value.isStrOf k e.key=false:=by rw[hk]; simp[Value.isStrOf]; exact fun z=>q z.symm
   simp only[e1,List.find?_cons,e2]
   exact ih
noncomputable def tabIn(neg:Bool)(l:List (Str×W))(w:W):M W:=fun h=>match w with
 | .str k=>some (.bl (if neg then !(l.lookup k).isSome else (l.lookup k).isSome),h)
 | _=>none
noncomputable def tabGet(l:List (Str×W))(w:W):M W:=fun h=>match w with
 | .str k=>match l.lookup k with
  | some v=>some (v,h)
  | none=>none
 | _=>none
section
variable{X:Cx}{cl:Nat→Addr}{a:Expr}{ma:ME}{x:Str}{l:List (Str×W)}{p pos:Pos}
theorem TabOk.at{pins:List (Addr×Obj)}{s:Shared}{σ:L2.St}{H:Hp}{d:Addr}{es:Array DictEntry}{n:Nat}(I:Inv X pins σ H s)(hl:X.K.lookup d=some ⟨.type "dict",none,.dict es n,#[]⟩)(hk:PySem.W.KeysLit X.w.params es.toList) :
  s.heap.MapOf (strKind X.prog X.w) d (fun k=>findBy Value.isStrOf es k):=PySem.W.mapOf_K I.kIn hl hk
theorem se_tab{op:CmpOp}(neg:Bool)(ho:∀{A:Around} {E:Value→Shared→Prop} {s:Shared} {d:Addr} {f:Str→Option Value} {k:Str} {t:Tok} {Q:Value→Shared→Prop},(d==sysModules)=false→s.heap.MapOf (strKind X.prog X.w) d f→Q (.bool (if neg then !(f k).isSome else (f k).isSome)) { s with toks:=s.toks+1 }→wpAny (model X.prog X.w) A (compareOp op (.str k t) (.ref d)) Q E s)
  (T:TabOk X.K X.w.params X.mg x l) (ha:SE X cl a ma) (hm:behindInMarks op (.Name x p)=false) (hg:Gl X x) (hd:(x==("__debug__":Str))=false):SE X cl (.Compare a [op] [.Name x p] pos) (eUn (tabIn neg l) ma):=by
 obtain⟨d,es,n,e1,e2,e3,e4,e5⟩:=T.ex
 have hop:OpR X (compareOp op) (fun x y H Q=>∃k,x=.str k∧y=.ref d∧Q (.bl (if neg then !(l.lookup k).isSome else (l.lookup k).isSome)) H):=by
  rintro pins s σ H x y v u Q I rx ry ⟨k,rfl,rfl,q⟩
  obtain⟨t,rfl⟩:=rx
  cases ry
  refine ho e4 (TabOk.at I e2 e3) ?_
  have fk:(findBy Value.isStrOf es k).isSome=(l.lookup k).isSome:=by
   have:=e5.find (k:=k)
   unfold findBy
   rw[←Array.find?_toList]
   cases ek:l.lookup k with
   | none=>rw[ek] at this; rw[this]; rfl
   | some w=>rw[ek] at this; obtain⟨v,e,_⟩:=this; rw[e]; rfl
  rw[fk]
  exact⟨.bl _,H,I.tok _,rfl,q⟩
 refine PE.wk (pe_cmpR hop ha (pe_glob hg e1 (show RelV (.ref d) (.ref d) from rfl) hd) hm) fun σ H Q ⟨μ,h,ρ,w,h',R,er,e,k⟩=>?_
 obtain⟨y,h1,f1,e⟩:=of_bnd e
 refine⟨μ,h,ρ,y,h1,R,er,f1,fun μ1 H1 vx E1 R1 rx=>?_⟩
 unfold tabIn at e
 split at e
 .cases e
  exact⟨_,rx.str_of,rfl,k μ1 H1 _ E1 R1 (.bl _)⟩
 .cases e
theorem se_tabIn(hu:X.A.units+64<cLine)(T:TabOk X.K X.w.params X.mg x l)(ha:SE X cl a ma)(hm:behindInMarks .In (.Name x p)=false:=by first | exact nomark _ | rfl)(hg:Gl X x:=by rfl)(hd:(x==("__debug__":Str))=false:=by decide):SE X cl (.Compare a [.In] [.Name x p] pos) (eUn (tabIn false l) ma):=
 se_tab false (fun {A E s d f k t Q} h1 h2 h3=>wpAny_in_of (strKind_is X.prog X.w k t) h1 h2 h3) T ha hm hg hd
theorem se_tabInN(hu:X.A.units+64<cLine)(T:TabOk X.K X.w.params X.mg x l)(ha:SE X cl a ma)(hm:behindInMarks .NotIn (.Name x p)=false:=by first | exact nomark _ | rfl)(hg:Gl X x:=by rfl)(hd:(x==("__debug__":Str))=false:=by decide):SE X cl (.Compare a [.NotIn] [.Name x p] pos) (eUn (tabIn true l) ma):=
 se_tab true (fun {A E s d f k t Q} h1 h2 h3=>wpAny_notIn_of (strKind_is X.prog X.w k t) h1 h2 h3) T ha hm hg hd
theorem se_tabGet(hu:X.A.units+64<cLine)(T:TabOk X.K X.w.params X.mg x l)(ha:SE X cl a ma)(hs:PlainIx a:=by exact fun _ _=>rfl)(hg:Gl X x:=by rfl)(hd:(x==("__debug__":Str))=false:=by decide):SE X cl (.Subscript (.Name x p) a pos) (eUn (tabGet l) ma):=by
 obtain⟨d,es,n,e1,e2,e3,e4,e5⟩:=T.ex
 have hix:IxR X (fun x y H Q=>∃k w,x=.ref d∧y=.str k∧l.lookup k=some w∧∀v,(∀μ H,RW X.K μ H w v)→Q v H):=by
  rintro value slice pins s σ H x y v u Q I rx ry ⟨k,w,rfl,rfl,el,q⟩ hs
  cases rx
  obtain⟨t,rfl⟩:=ry
  have hm:=TabOk.at I e2 e3
  have:=e5.find (k:=k)
  rw[el] at this
  obtain⟨v0,ev,kw⟩:=this
  obtain⟨v1,r1,r2⟩:=kw.rw
  refine tail_any hm.typeIs slot_dict_getitem.lookup (wpAny_getItem_of (v:=v0) (strKind_is X.prog X.w k t) hm ?_ ⟨v1,H,I.tok _,r1,q v1 r2⟩) hs
  unfold findBy
  rw[←Array.find?_toList]
  exact ev
 refine PE.wk (pe_ix hix (pe_glob hg e1 (show RelV (.ref d) (.ref d) from rfl) hd) ha hs) fun σ H Q ⟨μ,h,ρ,w,h',R,er,e,k⟩=>?_
 obtain⟨y,h1,f1,e⟩:=of_bnd e
 refine⟨μ,h,ρ,y,h1,R,er,f1,fun μ1 H1 vx E1 R1 rx=>?_⟩
 unfold tabGet at e
 split at e
 .split at e
  .rename_i k' w' el
   cases e
   exact⟨_,_,rfl,rx.str_of,el,fun v hv=>k μ1 H1 _ E1 R1 (hv μ1 H1)⟩
  .cases e
 .cases e
end
noncomputable def keyOf:W→Option Key
 | .int i=>some (.inl i)
 | .str x=>some (.inr x)
 | _=>none
noncomputable def valW(l:List (Key×W))(k:Key):Option W:=(l.find? fun kv=>decide (kv.1=k)).map (·.2)
noncomputable def putW(l:List (Key×W))(k:Key)(v:W):List (Key×W):=
 if (l.any fun kv=>decide (kv.1=k))=true then l.map (fun kv=>if kv.1=k then (kv.1,v) else kv) else l++[(k,v)]
noncomputable def mergeW(l more:List (Key×W)):List (Key×W):=more.foldl (fun acc kv=>putW acc kv.1 kv.2) l
noncomputable def getDi(h:MH):W→Option (List (Key×W))
 | .fdc l=>some l
 | .ref n=>match h[n]? with
  | some (.dic l)=>some l
  | _=>none
 | _=>none
inductive PR(K:PySem.W.Frag)(μ:List Addr)(H:Hp):List (Key×W)→List (Key×V)→Prop
 | nil:PR K μ H [] []
 | cons {k:Key} {w:W} {v:V} {l:List (Key×W)} {l':List (Key×V)}:RW K μ H w v→PR K μ H l l'→PR K μ H ((k,w)::l) ((k,v)::l')
section
variable{K:PySem.W.Frag}{cl:Nat→Addr}{μ μ':List Addr}{H H':Hp}{h:MH}
theorem RKs.pr:∀{l:List (Key×W)} {l':List (Key×V)},RKs K μ H l l'→PR K μ H l l'
 | [],[],_=>.nil
 | [],_::_,⟨k,_⟩=>by simp at k
 | _::_,[],⟨k,_⟩=>by simp at k
 | (k1,w)::l,(k2,v)::l',⟨k,r⟩=>by
  simp only[List.map_cons,List.cons.injEq] at k
  obtain⟨rfl,k⟩:=k
  simp only[List.map_cons] at r
  cases r with | cons r t=>exact .cons r (RKs.pr ⟨k,t⟩)
theorem PR.rk:∀{l:List (Key×W)} {l':List (Key×V)},PR K μ H l l'→RKs K μ H l l'
 | _,_,.nil=>⟨rfl,.nil⟩
 | _,_,.cons r t=>⟨by simp[t.rk.1],.cons r t.rk.2⟩
theorem PR.len:∀{l:List (Key×W)} {l':List (Key×V)},PR K μ H l l'→l.length=l'.length
 | _,_,.nil=>rfl
 | _,_,.cons _ t=>congrArg (· + 1) t.len
theorem PR.val{k:Key}:∀{l:List (Key×W)} {l':List (Key×V)},PR K μ H l l'→match valW l k with
  | some w=>∃v,valV l' k=some v∧RW K μ H w v
  | none=>valV l' k=none
 | _,_,.nil=>rfl
 | _,_,.cons (k:=k') (l:=l) (l':=l') (w:=w) (v:=v) r t=>by
  have ih:=PR.val (k:=k) t
  by_cases q:k'=k
  .have e1:valW ((k',w)::l) k=some w:=by simp[valW,List.find?_cons,q]
   rw[e1]
   exact⟨v,by simp[valV,List.find?_cons,q],r⟩
  .have e1:valW ((k',w)::l) k=valW l k:=by simp[valW,List.find?_cons,q]
   have e2:valV ((k',v)::l') k=valV l' k:=by simp[valV,List.find?_cons,q]
   rw[e1,e2]
   exact ih
theorem PR.any{k:Key}:∀{l:List (Key×W)} {l':List (Key×V)},PR K μ H l l'→(l.any fun kv=>decide (kv.1=k))=(l'.any fun kv=>decide (kv.1=k))
 | _,_,.nil=>rfl
 | _,_,.cons _ t=>by simp only[List.any_cons]; rw[t.any]
theorem PR.map{k:Key}{w:W}{v:V}(r:RW K μ H w v):∀{l:List (Key×W)} {l':List (Key×V)},PR K μ H l l'→PR K μ H (l.map fun kv=>if kv.1=k then (kv.1,w) else kv) (l'.map fun kv=>if kv.1=k then (kv.1,v) else kv)
 | _,_,.nil=>.nil
 | _,_,.cons (k:=k') q t=>by
  simp only[List.map_cons]
  by_cases z:k'=k
  .simp only[z,if_true]; exact .cons r (t.map r)
  .simp only[z,if_false]; exact .cons q (t.map r)
theorem PR.app:∀{l m:List (Key×W)} {l' m':List (Key×V)},PR K μ H l l'→PR K μ H m m'→PR K μ H (l++m) (l'++m')
 | _,_,_,_,.nil,s=>s
 | _,_,_,_,.cons r t,s=>.cons r (t.app s)
theorem PR.put{k:Key}{w:W}{v:V}{l:List (Key×W)}{l':List (Key×V)}(p:PR K μ H l l')(r:RW K μ H w v):PR K μ H (putW l k w) (putK l' k v):=by
 unfold putW putK
 rw[←p.any (k:=k)]
 split
 .exact p.map r
 .exact p.app (.cons r .nil)
theorem PR.merge{more:List (Key×W)}{more':List (Key×V)}{l:List (Key×W)}{l':List (Key×V)}(q:PR K μ H more more')(p:PR K μ H l l'):PR K μ H (mergeW l more) (mergeK l' more'):=by
 induction q generalizing l l' with
 | nil=>exact p
 | cons r t ih=>exact ih (p.put r)
theorem PR.ext(R:HR K cl μ H h)(E:Ext μ H μ' H'):∀{l:List (Key×W)} {l':List (Key×V)},PR K μ H l l'→PR K μ' H' l l'
 | _,_,.nil=>.nil
 | _,_,.cons r t=>.cons (r.ext R E) (t.ext R E)
theorem getDi_of{w:W}{v:V}{l:List (Key×W)}(R:HR K cl μ H h)(r:RW K μ H w v)(e:getDi h w=some l):∃a l',v=.ref a∧Rd H a (.dK l')∧PR K μ H l l':=by
 cases r with
 | @fdc a l0 l' ws vs s kk e1 e2 rs=>cases e; subst e1; subst e2; exact⟨a,l',rfl,s.1,RKs.pr ⟨kk,rs⟩⟩
 | @ref n a hn=>
  simp only[getDi] at e
  split at e
  .rename_i l' ho
   cases e
   obtain⟨l2,hv,rs⟩:=R.ob n a _ hn ho
   exact⟨a,l2,rfl,.inl hv,RKs.pr rs⟩
  .cases e
 | _=>cases e
theorem key_of_rw{w:W}{v:V}{k:Key}(r:RW K μ H w v)(e:keyOf w=some k):v=kV k:=by
 cases r<;>cases e<;>rfl
theorem KQ.fdc{l:List (Key×W)}{l':List (Key×V)}{Q:VK}{p:Addr}(k:KQ K cl μ H h (.fdc l) Q)(R:HR K cl μ H h)(pr:PR K μ H l l')(hp:H p=none):Q (.ref p) (upd H p (.dK l')):=
 k μ _ _ (.side hp) (R.side hp) (.fdc ⟨.inl upd_same,R.fresh hp⟩ (pr.rk.1) rfl rfl ((pr.ext R (.side hp)).rk.2))
end
noncomputable def eDget2(md mk mv:ME):ME:=fun ρ=>bnd (md ρ) fun x h=>if (getDi h x).isSome=true then bnd (mk ρ) (fun y=>bnd (mv ρ) fun z h=>match getDi h x,keyOf y with
  | some l,some k=>some ((valW l k).getD z,h)
  | _,_=>none) h else none
section
variable{X:Cx}{cl:Nat→Addr}{o a b:Expr}{mo ma mb:ME}{apos cpos pos:Pos}
theorem se_dget2(hu:X.A.units+64<cLine)(ho:SE X cl o mo)(ha:SE X cl a ma)(hb:SE X cl b mb)(m:M2 X o "get" apos a b cpos:=by exact⟨rfl,rfl,rfl,rfl⟩):SE X cl (.Call (.Attribute o "get" apos) [a,b] [] cpos) (eDget2 mo ma mb):=
 PE.wk (pe_dget2 (by omega) ho ha hb m) fun σ H Q q0=>by
  obtain⟨μ,h,ρ,w,h',R,er,e,k⟩:=q0
  obtain⟨x,h1,e1,e⟩:=of_bnd e
  split at e
  .rename_i hd
   obtain⟨y,h2,e2,e⟩:=of_bnd e
   obtain⟨z,h3,e3,e⟩:=of_bnd e
   refine⟨μ,h,ρ,x,h1,R,er,e1,fun μ1 H1 vx E1 R1 rx=>?_⟩
   obtain⟨l0,hd⟩:=Option.isSome_iff_exists.mp hd
   obtain⟨d,l',rfl,rd,_⟩:=getDi_of R1 rx hd
   refine⟨d,rfl,.inl ⟨l',rd⟩,μ1,h1,ρ,y,h2,R1,er.ext R E1,e2,fun μ2 H2 vy E2 R2 ry=>⟨μ2,h2,ρ,z,h3,R2,(er.ext R E1).ext R1 E2,e3,fun μ3 H3 vz E3 R3 rz=>?_⟩⟩
   split at e
   .rename_i l k' el ek
    cases e
    obtain⟨d2,l2,ed,rd2,pr⟩:=getDi_of R3 ((rx.ext R1 E2).ext R2 E3) el
    cases ed
    have hk:=key_of_rw ry ek
    subst hk
    refine⟨valV l2 k',.inl ⟨l2,k',rd2,rfl,rfl⟩,?_⟩
    have E:=E1.trans (E2.trans E3)
    have:=pr.val (k:=k')
    cases ev:valW l k' with
    | none=>rw[ev] at this k; rw[this]; exact k μ3 H3 _ E R3 rz
    | some w0=>rw[ev] at this k; obtain⟨v0,e0,r0⟩:=this; rw[e0]; exact k μ3 H3 _ E R3 r0
   .cases e
  .cases e
theorem se_dnew:SE X cl (.Dict [] [] pos) (eC (.fdc [])):=
 PE.wk pe_dnewK fun σ H Q q0=>by
  obtain⟨μ,h,ρ,w,h',R,er,e,k⟩:=q0
  cases e
  exact fun p hp=>k.fdc R .nil hp
noncomputable def eDnew:ME:=fun _ h=>some (.ref h.length,h++[.dic []])
theorem se_dnewM:SE X cl (.Dict [] [] pos) eDnew:=
 PE.wk pe_dnewK fun σ H Q q0=>by
  obtain⟨μ,h,ρ,w,h',R,er,e,k⟩:=q0
  cases e
  exact fun p hp=>k (μ++[p]) _ _ (.new hp) (R.new hp ⟨[],upd_same,rfl,.nil⟩) (.ref (by rw[←R.len]; simp))
end
theorem draws_of{prog:Program}{w:World}{A:Around}{it a:Addr}{P:Nat→Heap→Prop}{C:Heap→List Value→Prop}(S:Stp it a P C)(hh:A.handled=none)(hne:a≠it)(l:List Value) :
  Draws prog w A it [it,a] l.length (fun i v=>l[i]?=some v) (fun i h=>P i h∧C h l) where
 live:=fun _ _ st=>let ⟨o,ho,_⟩:=S.obj st.1; ⟨o,ho⟩
 frame:=fun _ _ _ st hk=>⟨S.keep st.1 fun o e=>hk it (by simp) o e,S.keepC st.2 fun o e=>hk a (by simp) o e⟩
 item:=fun i s Q E hi st hQ=>S.item st.1 st.2 (x:=l[i]) (by simp[hi]) fun h' hit' hs'=>hQ _ h' s.toks (by simp[hi]) ⟨hit',S.keepC st.2 fun o e=>hs'.extBut _ _ hne e⟩ hs'
 done:=fun s Q E st hE=>S.last hh st.1 st.2 (by simp) hE
section
variable{prog:Program}{w:World}{A:Around}{E:Value→Shared→Prop}{s:Shared}
theorem enum_last{e it a:Addr}{P:Nat→Heap→Prop}{C:Heap→List Value→Prop}(S:Stp it a P C){i:Nat}{l:List Value}{j:Int}{old:Value}{Q:Option Value→Shared→Prop}(hh:A.handled=none)
  (he:IsEnum s.heap e it j old) (p:P i s.heap) (c:C s.heap l) (hx:l[i]?=none) (hQ:∀h',Heap.ExtBut it s.heap h'→Q none { s with heap:=h' }):wpAny (model prog w) A (pyNext (.ref e)) Q E s:=by
 have hT:s.TypeIs (.ref e) "enumerate":=⟨_,he,rfl⟩
 unfold pyNext
 refine wpAny_bind (wpAny_attempt (wpAny_callSpecial?_slot (name:=Str.ofString "__next__") hT F.slot_enumerate_next (wpAny_call_entry F.slot_enumerate_next hT F.entry_enumerate_next ?_ (F.args_enumerate_next_1 _))))
 show wpAny _ _ (field (.ref e) 2 >>= _) _ _ _; refine wpAny_bind (wpAny_field he rfl (x:=.ref it) rfl ?_)
 refine wpAny_bind (S.last hh p c hx fun h' x he' hx'=>?_)
 obtain⟨o,ho,hc⟩:=hx'; refine wpAny_bind (wpAny_isInstance (T:="StopIteration") (b:=true) ⟨o,ho,hc⟩ isSubtype_stop ?_); exact wpAny_pure (hQ _ he')
end
theorem enum_new{v:Value}{o:Obj}{C:Heap→Prop}(r:Itb v o C) :
  Meets (Builtin.«enumerate.__new__» ⟨[.type "enumerate",v],[]⟩) (fun _ R s=>C s.heap∧R (.ok (.ret (.ref (s.heap.push o).objs.size))) { s with heap:=(s.heap.push o).push { cls:=.type "enumerate",data:=.fields #[.none,.bool false,.ref s.heap.objs.size,rawInt 0,.none,.none] } }):=
 .of_wp fun prog w A R s h=>by
  obtain⟨hp,g,d,tk,os⟩:=s; obtain⟨k1,h⟩:=h
  have hsub:=sub_enumerate
  have q1:∀{A:Around} {E:Value→Shared→Prop} {Q:Value→Shared→Prop},Q (.ref hp.objs.size) ⟨hp.push o,g,d,tk,os⟩→wpAny (model prog w) A (pyIter v) Q E ⟨hp,g,d,tk,os⟩:=fun q=>r prog w _ _ _ _ k1 q
  wp_walk
  refine wpAny_stack_any fun st=>wpAny_pure ?_
  split
  .rename_i c _ _ _ _ _
   cases (c==Value.type "enumerate")<;>(wp_walk using q1; exact⟨_,rfl,h⟩)
  .wp_walk using q1
   exact⟨_,rfl,h⟩
section
variable{prog:Program}{w:World}{A:Around}{E:Value→Shared→Prop}{s:Shared}
theorem enum_call{v:Value}{o:Obj}{C:Heap→Prop}(r:Itb v o C){Q:Value→Shared→Prop}(k1:C s.heap)(hf:o.isFreed=false)
  (h:∀h',IsEnum h' (s.heap.objs.size+1) s.heap.objs.size 0 .none→h'.get? s.heap.objs.size=some o→(∀c o,s.heap.get? c=some o→h'.get? c=some o)→Q (.ref (s.heap.objs.size+1)) { s with heap:=h' }) :
  wpAny (model prog w) A (call (.type "enumerate") [v]) Q E s:=by
 refine callType_new F.called_enumerate (by decide) (F.typeCall_enumerate_1 _) (F.newCall_enumerate_1 _) (fun obj=>F.args_object_init_2 obj _) F.entry_enumerate_new (enum_new r) ⟨k1,?_⟩
 have hz:(s.heap.push o).objs.size=s.heap.objs.size+1:=Heap.size_push ..
 have b2:((s.heap.push o).push { cls:=.type "enumerate",data:=.fields #[.none,.bool false,.ref s.heap.objs.size,rawInt 0,.none,.none] }).get? (s.heap.push o).objs.size=some _:=Heap.get?_push_size _ rfl
 have b1:((s.heap.push o).push { cls:=.type "enumerate",data:=.fields #[.none,.bool false,.ref s.heap.objs.size,rawInt 0,.none,.none] }).get? s.heap.objs.size=some _:=Heap.get?_push_of_some _ (Heap.get?_push_size _ hf)
 show _∧_
 rw[hz] at b2 ⊢
 exact⟨⟨_,b2,rfl⟩,h _ b2 b1 fun c o x=>Heap.get?_push_of_some _ (Heap.get?_push_of_some _ x)⟩
end
noncomputable def Ite (K : PySem.W.Frag) (tp : Bool) (a : Addr) : It :=
  ⟨fun i H => ∃ xs x, SqX K tp H a xs ∧ xs[i]? = some x,
   fun i H v H' => ∃ p x, H p = none ∧ v = .ref p ∧ H' = upd H p (.tup [.int i, x]) ∧ (∀ xs, SqX K tp H a xs → xs[i]? = some x),
   fun i H => ∃ xs, SqX K tp H a xs ∧ xs.length ≤ i⟩
theorem turn_enum{P:Program}{w:World}{K:PySem.W.Frag}{elts:List Expr}{n:Nat}{tpos:Pos}(tp:Bool)(e it a:Addr)(hne:e≠it) :
  Turn P w K (.Tuple elts n tpos) (Ite K tp a) [e,it] e (fun i h=>(∃old,IsEnum h e it i old)∧Pit tp it a i h) where
 mem:=by simp
 obj:=fun i h st b hb=>by
  obtain⟨⟨old,he⟩,p⟩:=st
  simp only[List.mem_cons,List.not_mem_nil,or_false] at hb
  rcases hb with rfl | rfl
  .exact⟨_,he,fun v q=>by cases q⟩
  .exact(stp_x tp _ a).obj p
 keep:=fun i h h' st k=>by
  obtain⟨⟨old,he⟩,p⟩:=st
  exact⟨⟨old,k e (by simp) _ he⟩,(stp_x tp it a).keep p fun o q=>k it (by simp) o q⟩
 item:=by
  intro X hP hw hK hc i pins s σ H E I hf st hg
  subst hP hw hK
  obtain⟨xs,x,d,hx⟩:=hg
  obtain⟨⟨old,he⟩,p⟩:=st
  obtain⟨l,r,c⟩:=inv_ctn I d
  obtain⟨u,eu,ru⟩:=r.get hx
  have ae:a≠e:=sqx_away I d (hf e (by simp))
  have ai:a≠it:=sqx_away I d (hf it (by simp))
  refine wpAny_pyNext_enum_itemD (draws_of (A:=X.A.in1) (stp_x tp it a) (I.ok.hd hc) ai l) he ⟨p,c⟩ (List.getElem?_eq_some_iff.mp eu).1 hne (by simp[hne,Ne.symm ae]) fun x' h' tk hP ho hst' hT hsz hk=>⟨_,rfl,?_⟩
  rw[eu] at hP
  cases hP
  refine wpAny_letOwnedTupleGo_enum ho fun h2 he2 hs2=>?_
  have elt:e<s.heap.objs.size:=Heap.lt_size he
  have hT2:h2.get? s.heap.objs.size=some { cls:=.type "tuple",data:=.seq #[.int i tk,u] }:=hs2.extBut _ _ (Nat.ne_of_gt elt) hT
  have I2:Inv X pins σ (upd H s.heap.objs.size (.tup [.int i,x])) { s with heap:=h2,toks:=tk+1 }:=inv_turned_new (t':=tk+1) (fp:=[e,it]) I (fun b o hb q=>hs2.extBut _ _ (fun z=>hb (by simp[z])) (hk b o (fun z=>hb (by simp[z])) (fun z=>hb (by simp[z])) q)) hf (Nat.le_refl _)
   ⟨by show 2≤sizeLine; decide,[.int i tk,u],.cons ⟨tk,rfl⟩ (.cons ru .nil),_,hT2,rfl,_,rfl⟩
  refine⟨.ref s.heap.objs.size,_,I2,rfl,⟨_,x,I.hok.fresh (Nat.le_refl _),rfl,rfl,fun xs' q=>by rw[sqx_inj I q d]; exact hx⟩,⟨⟨_,he2⟩,(stp_x tp it a).keep hst'.1 fun o q=>hs2.extBut _ _ (Ne.symm hne) q⟩,fun b hb=>?_⟩
  obtain⟨o,q⟩:∃o,s.heap.get? b=some o:=by
   simp only[List.mem_cons,List.not_mem_nil,or_false] at hb
   rcases hb with rfl | rfl
   .exact⟨_,he⟩
   .obtain⟨o,q,_⟩:=(stp_x tp _ a).obj p; exact⟨o,q⟩
  rw[upd_ne (Nat.ne_of_lt (Heap.lt_size q))]
  exact(hf b hb).1
 done:=by
  intro X hP hw hK hc i pins s σ H E I hf st hg
  subst hP hw hK
  obtain⟨xs,d,hx⟩:=hg
  obtain⟨⟨old,he⟩,p⟩:=st
  obtain⟨l,r,c⟩:=inv_ctn I d
  exact enum_last (stp_x tp it a) (I.ok.hd hc) he p c (List.getElem?_eq_none (by rw[←r.length]; exact hx)) fun h' hx'=>⟨rfl,inv_turned (t':=s.toks) (fp:=[e,it]) I (fun b o hb q=>hx' b o (fun z=>hb (by simp[z])) q) hf⟩
 self:=fun _ _ _ _ _ st h=>by obtain⟨⟨old,he⟩,_⟩:=st; exact wpAny_pyIter_enum he h
noncomputable def numbered(l:List W):List W:=l.zipIdx.map fun p=>.tup [.int (p.2:Nat),p.1]
noncomputable def enumW(ws:List W):M Src:=fun h=>match ws with
 | [x]=>match sndOf h x with
  | some l=>some (.items (numbered l),h)
  | none=>none
 | _=>none
noncomputable def iEnum(ms:List ME):MI:=fun ρ=>bnd (mArgs ms ρ) enumW
theorem numbered_get(l:List W)(i:Nat):(numbered l)[i]?=(l[i]?).map fun w=>.tup [.int (i:Nat),w]:=by
 unfold numbered
 rw[List.getElem?_map,List.getElem?_zipIdx]
 cases l[i]?<;>simp
section
variable{X:Cx}{cl:Nat→Addr}{elts:List Expr}{n:Nat}{tpos p pos:Pos}{e1:Expr}{ms:List ME}
theorem si_enum(hm:X.mg "enumerate" = none)(ha:SA X cl [e1] ms)(hg:Gl X "enumerate":=by rfl)(hst:starEach [e1] X.env=(false,eval e1 X.env)::starEach [] X.env:=by rfl)(hpl:(backTo pos (starEach [] X.env)).any (·.1)=false:=by rfl) :
  SI X cl (.Tuple elts n tpos) (.Call (.Name "enumerate" p) [e1] [] pos) (iEnum ms):=by
 rintro pins s σ H R I ⟨μ,h,ρ,src,h',R0,er,e,k⟩
 obtain⟨ws,h1,e1',e⟩:=of_bnd e
 have hv:bootBuiltins "enumerate" = some (.type "enumerate"):=by decide +kernel
 refine wpAny_Call_Name_kw (ld_blt I hg hm hv ?_ (by decide) (by decide))
 refine PyProof.Rows.callWith_type1 (thn (ha pos pins s σ H (fun vs H1=>∃μ1,Ext μ H μ1 H1∧HR X.K cl μ1 H1 h1∧RWs X.K μ1 H1 ws vs) I ⟨μ,h,ρ,ws,h1,R0,er,e1',fun μ1 H1 vs E1 R1 rs=>⟨μ1,E1,R1,rs⟩⟩) fun us s1 ⟨vs,H1,I1,r1,μ1,E1,R1,rs⟩=>?_) hst hpl
 unfold enumW at e
 split at e
 .rename_i x
  split at e
  .rename_i l q1
   cases e
   cases rs with | cons rx t=>cases t with | nil=>
   obtain⟨t1,a1,xs,rfl,ra1,d1,f1⟩:=sndOf_of (cl:=cl) rx q1
   obtain⟨u1,rfl,ru1⟩:=r1.one
   cases ru1
   obtain⟨l1,v1,c1⟩:=inv_ctn I1 d1
   refine enum_call (itb_x t1 a1 l1) c1 (itO_free t1 a1) fun h2 b2 b1 kp=>?_
   refine wpAny_pyIter_enum b2 ?_
   refine⟨_,_,_,_,H1,rfl,I1.kept (t':=s1.toks) kp,turn_enum t1 _ _ a1 (Nat.succ_ne_self _),⟨⟨_,b2⟩,pit_new b1⟩,fun b hb=>?_,k μ1 H1 _ E1 R1 ?_⟩
   .have hge:s1.heap.objs.size≤b:=by
     simp only[List.mem_cons,List.not_mem_nil,or_false] at hb
     rcases hb with rfl | rfl<;>omega
    exact I1.fpOk hge (I1.hok.fresh hge)
   .intro μ2 H2 h3 E2 R2 i
    have d1':=f1 μ2 H2 h3 R1 E2 R2
    have ra1':=ra1.ext R1 E2
    refine⟨fun w ew=>?_,fun es=>?_⟩
    .have ew':(numbered l)[i]?=some w:=Option.some.inj ew
     rw[numbered_get] at ew'
     cases ez:l[i]? with
     | none=>rw[ez] at ew'; cases ew'
     | some w0=>
      rw[ez] at ew'
      cases ew'
      obtain⟨vx,evx,rvx⟩:=ra1'.get ez
      refine⟨⟨xs,vx,d1',evx⟩,fun v H3 yl=>?_⟩
      obtain⟨pp,x',hp,rfl,rfl,w1⟩:=yl
      have z1:=w1 xs d1'
      rw[evx] at z1
      cases z1
      exact⟨.side hp,R2.side hp,.tup (SqT.of upd_same) (.cons (.int _) (.cons (rvx.ext R2 (.side hp)) .nil))⟩
    .have es':(numbered l)[i]?=none:=Option.some.inj es
     rw[numbered_get] at es'
     refine⟨xs,d1',?_⟩
     rw[←ra1.length]
     cases ez:l[i]? with
     | none=>exact List.getElem?_eq_none_iff.mp ez
     | some w0=>rw[ez] at es'; cases es'
  .cases e
 .cases e
end
noncomputable def met(val:Nat→Str)(i:Nat):List Str:=((List.range i).map val).foldl (fun l v=>if l.any (· == v) then l else l++[v]) []
theorem met_succ(val:Nat→Str)(i:Nat):met val (i+1)=if (met val i).any (· == val i) then met val i else met val i++[val i]:=by
 unfold met; rw[List.range_succ,List.map_append,List.foldl_append]; rfl
theorem met_le(val:Nat→Str):∀i,(met val i).length≤i
 | 0=>Nat.le_refl _
 | i+1=>by
  rw[met_succ]
  have ih:=met_le val i
  split
  .omega
  .rw[List.length_append,List.length_singleton]; omega
theorem met_any(l:List Str)(v k:Str):(if l.any (· == v) then l else l++[v]).any (· == k)=(l.any (· == k)||decide (k=v)):=by
 by_cases h:l.any (· == v)=true
 .rw[if_pos h]
  by_cases e:k=v
  .subst e; rw[h]; simp
  .simp[e]
 .rw[if_neg h,List.any_append]
  by_cases e:k=v
  .subst e; simp
  .have hb:(v==k)=false:=by simpa[beq_iff_eq] using (fun h':v=k=>e h'.symm)
   simp[hb,e]
section
variable{prog:Program}{w:World}{A:Around}{R:Result→Shared→Prop}{I:Addr}{fp wr:List Addr}{G:Array GenState→Array GenState→Prop}{n:Nat}{P:Nat→Value→Prop}{St:Nat→Shared→Prop}
theorem set_loop(W:WalksS prog w A.in1 I fp wr G n P St)(S:Addr)(hSf:S∉fp)(val:Nat→Str)(hval:∀i v,P i v→∃t,v=.str (val i) t)(hb:n+1<scanBound) :
  ∀(k i:Nat) (s:Shared),n-i=k→i≤n→St i s→s.heap.SetOf (strKind prog w) S (fun k'=>(met val i).any (· == k')) (met val i).length→
   (∀s',Moved (S::wr) G s s'→s'.heap.SetOf (strKind prog w) S (fun k'=>(met val n).any (· == k')) (met val n).length→R (.ok (.ret .none)) s')→
   codeAny (model prog w) A (.builtin "set.update.loop" ⟨[.ref S,.ref I],[]⟩) R s:=by
 have hSw:S∉wr:=fun h=>hSf (W.sub _ h)
 have up:∀b∈wr,b∈S::wr:=fun b hb=>List.mem_cons_of_mem _ hb
 have stay:∀{m:Nat} {T:Str→Bool} {s s':Shared},s.heap.SetOf (strKind prog w) S T m→Moved wr G s s'→s'.heap.SetOf (strKind prog w) S T m:=fun hS hm=>by obtain⟨o,es,ep,t,ho,rest⟩:=hS; exact⟨o,es,ep,t,hm.heap S _ hSw ho,rest⟩
 intro k
 induction k with
 | zero=>
  intro i s hk hi hst hS hR
  obtain rfl:i=n:=by omega
  refine codeAny_builtin PyProof.Rows.F.entry_set_update_loop ?_
  rw[Around.under_plainId PyProof.Rows.F.plain_set_update_loop _]
  show wpAny _ A.in1 (pyNext (.ref I) >>= _) _ _ s; refine wpAny_bind (W.done s _ _ hst fun s' hm=>?_)
  show wpAny _ A.in1 (ret Value.none) _ _ s'; exact wpAny_pure (hR s' (hm.mono up) (stay hS hm))
 | succ k ih=>
  intro i s hk hi hst hS hR
  have hlt:i<n:=by omega
  refine codeAny_builtin PyProof.Rows.F.entry_set_update_loop ?_
  rw[Around.under_plainId PyProof.Rows.F.plain_set_update_loop _]
  show wpAny _ A.in1 (pyNext (.ref I) >>= _) _ _ s; refine wpAny_bind (W.item i s _ _ hlt hst fun v s' hP hst' hm=>?_)
  obtain⟨t,rfl⟩:=hval i v hP
  have hS':=stay hS hm
  show wpAny _ A.in1 (holding [Value.str (val i) t] (setAdd S (.str (val i) t)) >>= _) _ _ s'; refine wpAny_bind (wpAny_holding ?_)
  unfold setAdd
  refine wpAny_holding (wpAny_bind ((strKind prog w).pyHash (k:=val i) (strKind_is _ _ _ _) ?_))
  refine wpAny_setAddHashed_of (knd:=strKind prog w) (s:={ s' with toks:=s'.toks+1 }) (strKind_is _ _ _ _) rfl hS' (by have:=met_le val i; omega) fun h' hsb hS2=>?_
  have hSi:h'.SetOf (strKind prog w) S (fun k'=>(met val (i+1)).any (· == k')) (met val (i+1)).length:=SetOf_congr hS2 (fun k'=>by rw[met_succ,met_any]) (by rw[met_succ]; split<;>simp)
  refine wpAny_pure ⟨plainId_quiet PyProof.Rows.F.plain_set_update_loop _,ih (i+1) _ (by omega) hlt (W.frame _ s' _ _ hst' (Nat.le_succ _) fun b hb o e=>?_) hSi fun s'' hm'' hS''=>?_⟩
  .rw[hsb.2 b (fun h:b=S=>hSf (by rw[←h]; exact hb))]; exact e
  .refine hR s'' (Moved.trans W.gtrans ((hm.mono up).then_heap (Nat.le_succ _) fun b o hb e=>?_) hm'') hS''
   rw[hsb.2 b (fun h:b=S=>hb (by rw[h]; exact List.mem_cons_self))]; exact e
end
theorem sub_tuple_set:isSubtype (.type "tuple") (.type "set")=pure false:=by rw[isSubtype_type]; kernel_rfl
theorem sub_tuple_frozenset:isSubtype (.type "tuple") (.type "frozenset")=pure false:=by rw[isSubtype_type]; kernel_rfl
section
variable{prog:Program}{w:World}{A:Around}{E:Value→Shared→Prop}{s:Shared}
set_option maxHeartbeats 3200000 in
theorem call_set{l:Addr}{T:String}{us:List Value}{vals:List Str}{Q:Value→Shared→Prop}(hT:T="list" ∨ T="tuple")(hl:∃o n,s.heap.get? l=some o∧o.cls=.type T∧o.data=.seq us.toArray n)
  (hh:A.handled=none) (hv:∀(i:Nat) (v:Value),us[i]?=some v→∃t,v=Value.str (vals.getD i default) t) (hb:us.length+1<scanBound)
  (h:∀(h':Heap) (tk:Nat),h'.SetOf (strKind prog w) s.heap.objs.size (fun k'=>(met (fun i=>vals.getD i default) us.length).any (· == k')) (met (fun i=>vals.getD i default) us.length).length→
   (∀b o,b<s.heap.objs.size→s.heap.get? b=some o→h'.get? b=some o)→Q (.ref s.heap.objs.size) { s with heap:=h',toks:=tk }):wpAny (model prog w) A (call (.type "set") [.ref l]) Q E s:=by
 obtain⟨c,tl,hmro⟩:=F.called_set.mro
 have f1:=F.called_set.made; have f2:=F.called_set.sub
 refine wpAny_call (codeAny_of_tree ?_)
 show wpAny _ _ (callAny (.type "set") _) _ _ _
 refine wpAny_pure ⟨Code.quiet_builtin _ (by decide +kernel),codeAny_builtin F.entry_type_call ?_⟩
 rw[Around.under_plain (weight_type_call_type "set" [.ref l] []) rfl]
 have f3:=F.called_set.notType; have f4:=F.called_set.canCreate; have f5:=F.typeCall_set_1 (.ref l)
 repeat (any_goals (first | assumption | wp_step))
 refine codeAny_mono (code_set_new_1 (.ref l) (E:=E) (Q₁:=fun obj s₁=>∃led:Bool,obj=.ref s.heap.objs.size∧s₁={ s with heap:=s.heap.push { cls:=.type "set",dict:=none,data:=.set #[] 0 (.fresh 0 0 led) } }) fun led=>⟨led,rfl,rfl⟩) fun r s₁ hr=>?_
 cases r with
 | error e=>exact hr
 | ok fl=>
  cases fl with
  | ret obj=>
   obtain⟨led,rfl,rfl⟩:=hr
   generalize hh1:s.heap.push { cls:=.type "set",dict:=none,data:=.set #[] 0 (.fresh 0 0 led) }=h1
   have old:∀b o,s.heap.get? b=some o→h1.get? b=some o:=fun b o e=>by rw[←hh1]; exact Heap.get?_push_of_some _ e
   have sz:h1.objs.size=s.heap.objs.size+1:=by rw[←hh1,Heap.size_push]
   have hS:h1.get? s.heap.objs.size=some { cls:=.type "set",dict:=none,data:=.set #[] 0 (.fresh 0 0 led) }:=by rw[←hh1]; exact Heap.get?_push_size _ rfl
   have hTy:Shared.TypeIs { s with heap:=h1 } (.ref s.heap.objs.size) "set":=⟨_,hS,rfl⟩
   have g1:=F.called_set.init.lookup; have g2:=F.called_set.init.bind (.ref s.heap.objs.size)
   repeat (any_goals (first | assumption | wp_step))
   refine codeAny_mono (codeAny_call_builtin (R:=wants (fun r s₂=>r=.none∧∃h' tk,s₂={ s with heap:=h',toks:=tk }∧h'.SetOf (strKind prog w) s.heap.objs.size (fun k'=>(met (fun i=>vals.getD i default) us.length).any (· == k')) (met (fun i=>vals.getD i default) us.length).length ∧
     (∀b o,b<s.heap.objs.size→s.heap.get? b=some o→h'.get? b=some o)) E) F.called_set.init.plain F.entry_set_init (check_set_init_1 hTy ?_)) fun r₂ s₂ hr₂=>?_
   .obtain⟨⟨oc,od,odt,osl⟩,nl,hol,hcl,hdl⟩:=hl
    simp only at hcl hdl
    subst hcl hdl
    have hol':=old _ _ hol
    have hlS:l<s.heap.objs.size:=Heap.lt_size hol
    have hh3:A.in1.in1.in1.handled=none:=by simp[hh]
    have hneI:l≠h1.objs.size:=Nat.ne_of_lt (by rw[sz]; exact Nat.lt_succ_of_lt hlS)
    have hSf:s.heap.objs.size∉[h1.objs.size,l]:=by
     simp only[List.mem_cons,List.not_mem_nil,or_false,not_or]
     exact⟨Nat.ne_of_lt (by rw[sz]; exact Nat.lt_succ_self _),Nat.ne_of_gt hlS⟩
    have hS0:∀o,(h1.push o).SetOf (strKind prog w) s.heap.objs.size (fun k'=>(met (fun i=>vals.getD i default) 0).any (· == k')) (met (fun i=>vals.getD i default) 0).length:=fun o=>
     SetOf_congr ((setObjOf_fresh (knd:=strKind prog w) led).setOf (Heap.get?_push_of_some _ hS) (by unfold scanBound; omega)) (fun _=>rfl) rfl
    have fin:∀{o:Obj} (s':Shared) {Q':Flow→Shared→Prop},Moved [s.heap.objs.size,h1.objs.size] (fun a b=>b=a) { s with heap:=h1.push o } s'→s'.heap.SetOf (strKind prog w) s.heap.objs.size (fun k'=>(met (fun i=>vals.getD i default) us.length).any (· == k')) (met (fun i=>vals.getD i default) us.length).length→
      (∃h' tk,s'={ s with heap:=h',toks:=tk }∧h'.SetOf (strKind prog w) s.heap.objs.size (fun k'=>(met (fun i=>vals.getD i default) us.length).any (· == k')) (met (fun i=>vals.getD i default) us.length).length∧(∀b o,b<s.heap.objs.size→s.heap.get? b=some o→h'.get? b=some o)):=by
     intro o s' _ hm hS'
     obtain⟨h',g',d',tk',os'⟩:=s'
     obtain rfl:g'=s.gens:=hm.gens
     obtain rfl:d'=s.drawn:=hm.drawn
     obtain rfl:os'=s.os:=hm.os
     exact⟨h',tk',rfl,hS',fun b o hb e=>hm.heap b o (by simp only[List.mem_cons,List.not_mem_nil,or_false,not_or]; exact⟨Nat.ne_of_lt hb,Nat.ne_of_lt (by rw[sz]; exact Nat.lt_succ_of_lt hb)⟩) (Heap.get?_push_of_some _ (old _ _ e))⟩
    rcases hT with rfl | rfl
    .have a1:=F.sub_list_set; have a2:=F.sub_list_frozenset
     have a3:(Value.type "list" == Value.type "dict")=false:=by decide
     have hl1:h1.IsList l us.toArray:=⟨_,hol',rfl,nl,rfl⟩
     unfold Builtin.«set.__init__» noKeywords Builtin.Frozenset.updateFrom
     generalize hPI:pyIter=PI
     wp_walk
     subst hPI
     refine wpAny_pyIter_list hl1 (wpAny_bind (wpAny_runValue ?_))
     refine set_loop ((Walks.list hh3 _ l hneI us.toArray).toS) s.heap.objs.size hSf (fun i=>vals.getD i default) (fun i v e=>hv i v (by simpa using e)) (by simpa using hb) (us.toArray.size-0) 0 _ (by omega) (Nat.zero_le _) ⟨⟨_,Heap.get?_push_size _ rfl,rfl,rfl⟩,hl1.push _⟩ (hS0 _) fun s' hm hS'=>?_
     show wpAny _ _ _ _ _ _
     refine wpAny_pure ?_
     show wpAny _ _ (ret Value.none) _ _ _
     exact wpAny_pure ⟨rfl,fin (Q':=fun _ _=>True) s' hm (by simpa using hS')⟩
    .have a1:=sub_tuple_set; have a2:=sub_tuple_frozenset
     have a3:(Value.type "tuple" == Value.type "dict")=false:=by decide
     have hl1:h1.IsTuple l us.toArray:=⟨_,hol',rfl,nl,rfl⟩
     unfold Builtin.«set.__init__» noKeywords Builtin.Frozenset.updateFrom
     generalize hPI:pyIter=PI
     wp_walk
     subst hPI
     refine wpAny_pyIter_tuple hl1 (wpAny_bind (wpAny_runValue ?_))
     refine set_loop ((Walks.tuple hh3 _ l hneI us.toArray).toS) s.heap.objs.size hSf (fun i=>vals.getD i default) (fun i v e=>hv i v (by simpa using e)) (by simpa using hb) (us.toArray.size-0) 0 _ (by omega) (Nat.zero_le _) ⟨⟨_,Heap.get?_push_size _ rfl,rfl,rfl⟩,hl1.at fun o e=>Heap.get?_push_of_some _ e⟩ (hS0 _) fun s' hm hS'=>?_
     show wpAny _ _ _ _ _ _
     refine wpAny_pure ?_
     show wpAny _ _ (ret Value.none) _ _ _
     exact wpAny_pure ⟨rfl,fin (Q':=fun _ _=>True) s' hm (by simpa using hS')⟩
   .cases r₂ with
    | error e=>exact hr₂
    | ok fl₂=>
     cases fl₂ with
     | ret r=>
      obtain⟨rfl,h',tk,rfl,hS',hk'⟩:=hr₂
      repeat (any_goals (first | assumption | wp_step))
      exact h _ _ hS' hk'
     | _=>exact hr₂.elim
  | _=>exact hr.elim
end
end ML
namespace ML
open PySem PySem.Spec PyProof.Rows L2
noncomputable def strsOf:List W→Option (List Str)
 | []=>some []
 | .str b::r=>match strsOf r with
  | some l=>some (b::l)
  | none=>none
 | _=>none
noncomputable def unlike(l:List Str):List Str:=l.foldl (fun l v=>if l.any (· == v) then l else l++[v]) []
noncomputable def lenSet(w:W):M W:=fun h=>match seqOf h w with
 | some l=>match strsOf l with
  | some bs=>if bs.length≤1000 then some (.int (unlike bs).length,h) else none
  | none=>none
 | none=>none
section
variable{K:PySem.W.Frag}{μ:List Addr}{H:Hp}
theorem strs_vals:∀{l:List W} {vs:List V} {us:List Value} {bs:List Str},strsOf l=some bs→RWs K μ H l vs→Vals vs us→us.length=bs.length∧∀(i:Nat) (u:Value),us[i]?=some u→∃t,u=Value.str (bs.getD i default) t
 | [],_,_,_,e,.nil,.nil=>by cases e; exact⟨rfl,fun i u e=>by simp at e⟩
 | .str b::r,_,_,_,e,.cons rb rr,.cons tb tr=>by
  unfold strsOf at e
  split at e
  .rename_i l e'
   cases e
   cases rb
   obtain⟨t,rfl⟩:=tb
   obtain⟨h1,h2⟩:=strs_vals e' rr tr
   refine⟨by simp[h1],fun i u e=>?_⟩
   cases i with
   | zero=>simp at e; subst e; exact⟨t,rfl⟩
   | succ i=>simpa using h2 i u (by simpa using e)
  .cases e
 | .non::r,_,_,_,e,_,_=>by cases e
 | .bl _::r,_,_,_,e,_,_=>by cases e
 | .int _::r,_,_,_,e,_,_=>by cases e
 | .tup _::r,_,_,_,e,_,_=>by cases e
 | .fls _::r,_,_,_,e,_,_=>by cases e
 | .ref _::r,_,_,_,e,_,_=>by cases e
 | .fdc _::r,_,_,_,e,_,_=>by cases e
 | .fn _::r,_,_,_,e,_,_=>by cases e
end
theorem met_all(bs:List Str):met (fun i=>bs.getD i default) bs.length=unlike bs:=by
 unfold met unlike
 congr 1
 apply List.ext_getElem
 .simp
 .intro i h1 h2; simp at h1; simp[h1]
section
variable{X:Cx}{cl:Nat→Addr}{a:Expr}{ma:ME}{p p2 p3 pos:Pos}
theorem se_lenSet(hc:X.calm=true)(hl:X.mg "len" = none)(hs:X.mg "set" = none)(ha:SE X cl a ma)(hg:Gl X "len":=by rfl)(hg2:Gl X "set":=by rfl)
  (he1:starEach [a] X.env=(false,eval a X.env)::starEach [] X.env:=by rfl) (hpl1:(backTo p3 (starEach [] X.env)).any (·.1)=false:=by rfl)
  (he2:starEach [.Call (.Name "set" p2) [a] [] p3] X.env=(false,eval (.Call (.Name "set" p2) [a] [] p3) X.env)::starEach [] X.env:=by rfl) (hpl2:(backTo pos (starEach [] X.env)).any (·.1)=false:=by rfl) :
  SE X cl (.Call (.Name "len" p) [.Call (.Name "set" p2) [a] [] p3] [] pos) (eUn lenSet ma):=by
 rintro pins s σ H Q I ⟨μ,h,ρ,w,h',R,er,e,k⟩
 obtain⟨x,h1,e1,e⟩:=of_bnd e
 have hv:bootBuiltins "set" = some (.type "set"):=by decide +kernel
 refine wpAny_Call_Name_kw (ld_blt I hg hl PySem.boot_len ?_ (by decide) (by decide))
 refine PyProof.Rows.callWith_builtin1 ?_ he2 hpl2
 rw[he2]
 show wpAny _ _ (spliced ((false,eval (.Call (.Name "set" p2) [a] [] p3) X.env)::backTo pos (starEach [] X.env))) _ _ s
 have h0:∀{q:Pos},backTo q (starEach [] X.env)=[]:=fun {q}=>rfl
 rw[h0]
 refine Calls.spliced_cons ?_
 refine wpAny_Call_Name_kw (ld_blt I hg2 hs hv ?_ (by decide) (by decide))
 refine PyProof.Rows.callWith_type1 ?_ he1 hpl1
 rw[he1]
 show wpAny _ _ (spliced ((false,eval a X.env)::backTo p3 (starEach [] X.env))) _ _ s
 rw[h0]
 refine Calls.spliced_cons (thn (ha pins s σ H (fun v H1=>∃μ1,Ext μ H μ1 H1∧HR X.K cl μ1 H1 h1∧RW X.K μ1 H1 x v) I ⟨μ,h,ρ,x,h1,R,er,e1,fun μ1 H1 v E1 R1 r=>⟨μ1,E1,R1,r⟩⟩) fun u s1 ⟨v,H1,I1,r1,μ1,E1,R1,rv⟩=>Calls.spliced_nil ?_)
 unfold lenSet at e
 split at e
 .rename_i l el
  split at e
  .rename_i bs eb
   split at e
   .rename_i hlen
    cases e
    obtain⟨d,vs,rfl,sq,ra⟩:=seqOf_of R1 rv el
    cases r1
    have fin:∀{us:List Value} {T:String},(T="list" ∨ T="tuple")→Vals vs us→(∃o n,s1.heap.get? d=some o∧o.cls=.type T∧o.data=.seq us.toArray n)→wpAny (model X.prog X.w) X.A (call (.type "set") [.ref d]) (fun v s₂=>wpAny (model X.prog X.w) X.A (call (.builtin "len") [v]) (EP X pins σ Q) X.xe s₂) X.xe s1:=by
     intro us T hT rv ho
     obtain⟨hlu,hvu⟩:=strs_vals eb ra rv
     refine call_set hT ho (I1.ok.hd hc) hvu (by unfold scanBound; omega) fun h2 tk hS kp=>?_
     rw[hlu,met_all] at hS
     have I2:Inv X pins σ H1 { s1 with heap:=h2,toks:=tk }:=I1.kept (t':=tk) fun b o e=>kp b o (Heap.lt_size e) e
     obtain⟨o,es,ep,t,go,hex,hd,hel,hmem,hlt,hf,hn⟩:=hS
     refine call_len_set (s:={ s1 with heap:=h2,toks:=tk }) go hex hd hf (by unfold scanBound at hlt; omega) ⟨.int _,H1,I2.tok _,⟨_,rfl⟩,?_⟩
     rw[hn]
     exact k μ1 H1 _ E1 R1 (.int _)
    rcases sq with sq | sq
    .obtain⟨its,rv,⟨o,n,g1,g2,g3,g4⟩,_⟩:=I1.list sq
     exact wpAny_mono (fin (.inl rfl) rv ⟨o,n,g1,g2,g4⟩) (fun v s₂ q=>Calls.spliced_nil q) fun _ _ e=>e
    .obtain⟨its,rv,⟨o,g1,g2,n,g4⟩,_⟩:=I1.tuple sq
     exact wpAny_mono (fin (.inr rfl) rv ⟨o,n,g1,g2,g4⟩) (fun v s₂ q=>Calls.spliced_nil q) fun _ _ e=>e
   .cases e
  .cases e
 .cases e
end
noncomputable def mPairs:List (ME×ME)→En→M (List (W×W))
 | [],_=>fun h=>some ([],h)
 | (a,b)::r,ρ=>bnd (a ρ) fun x=>bnd (b ρ) fun y=>bnd (mPairs r ρ) fun ps h=>some ((x,y)::ps,h)
noncomputable def keysOf:List (W×W)→Option (List (Key×W))
 | []=>some []
 | (x,y)::r=>match keyOf x,keysOf r with
  | some k,some l=>some ((k,y)::l)
  | _,_=>none
open Classical in
noncomputable def eDisp(ms:List (ME×ME)):ME:=fun ρ h=>match mPairs ms ρ (h++[.dic []]) with
 | some (ps,h2)=>match keysOf ps with
  | some l=>if h2=h++[.dic []]∧l.length≤15∧lows h.length (l.map (·.2))=true then some (.fdc (mergeW [] l),h) else none
  | none=>none
 | none=>none
section
variable{K:PySem.W.Frag}{cl:Nat→Addr}{μ μ':List Addr}{H H':Hp}{h:MH}
inductive PW2(K:PySem.W.Frag)(μ:List Addr)(H:Hp):List (W×W)→List (V×V)→Prop
 | nil:PW2 K μ H [] []
 | cons {x y:W} {u v:V} {l:List (W×W)} {l':List (V×V)}:RW K μ H x u→RW K μ H y v→PW2 K μ H l l'→PW2 K μ H ((x,y)::l) ((u,v)::l')
theorem PW2.keys:∀{l:List (W×W)} {l':List (V×V)} {ks:List (Key×W)},PW2 K μ H l l'→keysOf l=some ks→∃ks':List (Key×V),l'=ks'.map (fun kv=>(kV kv.1,kv.2))∧PR K μ H ks ks'
 | _,_,_,.nil,e=>by cases e; exact⟨[],rfl,.nil⟩
 | _,_,_,.cons rx ry t,e=>by
  unfold keysOf at e
  split at e
  .rename_i k l e1 e2
   cases e
   obtain⟨ks',h1,h2⟩:=t.keys e2
   have:=key_of_rw rx e1
   subst this
   exact⟨(k,_)::ks',by simp[h1],.cons ry h2⟩
  .cases e
theorem PR.cut(pre:μ<+:μ'){l:List (Key×W)}{l':List (Key×V)}(p:lows μ.length (l.map (·.2))=true)(q:PR K μ' H l l'):PR K μ H l l':=by
 induction q with
 | nil=>exact .nil
 | @cons k w v l l' r t ih=>
  have p':ML.low μ.length w=true∧lows μ.length (l.map (·.2))=true:=by
   simp only[List.map_cons] at p; unfold lows at p; simpa using p
  exact .cons (RW.cut pre p'.1 r) (ih p'.2)
theorem pairs_read:∀{ms:List (ME×ME)} {μ:List Addr} {H:Hp} {h:MH} {σ:L2.St} {Q:List (V×V)→Hp→Prop} {ρ:En} {ps:List (W×W)} {h':MH},HR K cl μ H h→ER K μ H ρ σ→mPairs ms ρ h=some (ps,h')→
  (∀μ' H' ps',Ext μ H μ' H'→HR K cl μ' H' h'→PW2 K μ' H' ps ps'→Q ps' H')→tPairs (ms.map fun p=>(tM K cl p.1,tM K cl p.2)) σ H Q
 | [],μ,H,h,σ,Q,ρ,ps,h',R,er,e,k=>by cases e; exact k μ H [] .refl R .nil
 | (a,b)::r,μ,H,h,σ,Q,ρ,ps,h',R,er,e,k=>by
  obtain⟨x,h1,e1,e⟩:=of_bnd e
  obtain⟨y,h2,e2,e⟩:=of_bnd e
  obtain⟨qs,h3,e3,e⟩:=of_bnd e
  cases e
  exact⟨μ,h,ρ,x,h1,R,er,e1,fun μ1 H1 vx E1 R1 rx=>⟨μ1,h1,ρ,y,h2,R1,er.ext R E1,e2,fun μ2 H2 vy E2 R2 ry=>
   pairs_read R2 ((er.ext R E1).ext R1 E2) e3 fun μ3 H3 ps' E3 R3 pw=>k μ3 H3 _ (E1.trans (E2.trans E3)) R3 (.cons ((rx.ext R1 E2).ext R2 E3) (ry.ext R2 E3) pw)⟩⟩
end
section
variable{X:Cx}{cl:Nat→Addr}{pos:Pos}{keys:List (Option Expr)}{values:List Expr}{ms:List (ME×ME)}{k v:Expr}{mk mv:ME}
noncomputable def SPs(X:Cx)(cl:Nat→Addr)(pos:Pos)(keys:List (Option Expr))(values:List Expr)(ms:List (ME×ME)):Prop:=PPs X pos keys values (ms.map fun p=>(tM X.K cl p.1,tM X.K cl p.2))
theorem sp_nil:SPs X cl pos [] [] []:=pps_nil
theorem sp_cons(hk:SE X cl k mk)(hv:SE X cl v mv)(hr:SPs X cl pos keys values ms):SPs X cl pos (some k::keys) (v::values) ((mk,mv)::ms):=pps_cons hk hv hr
theorem se_disp(hp:SPs X cl pos keys values ms)(hall:keys.all (·.isSome)=true:=by rfl)(hl:keys.length=values.length:=by rfl)(h0:keys≠[]:=by exact fun z=>nomatch z)(h15:keys.length≤15:=by decide):SE X cl (.Dict keys values pos) (eDisp ms):=
 PE.wk (pe_disp hp hall hl h0 h15) fun σ H Q q0=>by
  obtain⟨μ,h,ρ,w,h',R,er,e,kq⟩:=q0
  unfold eDisp at e
  split at e
  .rename_i ps h2 e1
   split at e
   .rename_i l el
    split at e
    .rename_i c
     obtain⟨rfl,c2,c3⟩:=c
     cases e
     intro p hp
     have R1:HR X.K cl (μ++[p]) (upd H p (.dK [])) (h++[.dic []]):=R.new hp ⟨[],upd_same,rfl,.nil⟩
     refine pairs_read R1 (er.ext R (.new hp)) e1 fun μ2 H2 ps' E2 R2 pw=>?_
     have hμ:μ2[h.length]?=some p:=E2.get (by rw[←R.len]; simp)
     obtain⟨l0,ho,r0⟩:=R2.ob h.length p (.dic []) hμ (by simp)
     have hl0:l0=[]:=by
      have:=r0.1
      cases l0 with
      | nil=>rfl
      | cons=>simp at this
     subst hl0
     obtain⟨ks',rfl,pr⟩:=pw.keys el
     refine⟨ho,ks',rfl,by rw[←pr.len]; exact c2,?_⟩
     have E3:Ext μ2 H2 μ2 (upd H2 p (.dK (mergeK [] ks'))):=.put hμ
     have pm:PR X.K μ2 (upd H2 p (.dK (mergeK [] ks'))) (mergeW [] l) (mergeK [] ks'):=(pr.ext R2 E3).merge .nil
     have R3:=R2.put (o:=.dic (mergeW [] l)) hμ ⟨mergeK [] ks',upd_same,pm.rk⟩
     have E:Ext μ H μ2 (upd H2 p (.dK (mergeK [] ks'))):=(Ext.new hp).trans (E2.trans E3)
     have pre:h<+:(h++[MO.dic []]).set h.length (.dic (mergeW [] l)):=by
      rw[List.set_append_right _ _ (Nat.le_refl _)]
      exact List.prefix_append _ _
     have R4:=R.cut E R3 pre
     have pc:=((PR.cut E.pre (by rw[R.len]; exact c3) (pr.ext R2 E3)).merge (.nil:PR X.K μ _ [] []))
     exact kq μ _ _ ⟨List.prefix_refl _,fun b o e n=>⟨(E.fr b o e n).1,n⟩⟩ R4 (.fdc ⟨.inl upd_same,R.fresh hp⟩ pc.rk.1 rfl rfl pc.rk.2)
    .cases e
   .cases e
  .cases e
end
theorem pick_rev(l:List Value):(List.range l.length).filterMap (fun(k:Nat)=>l.toArray[(((l.length:Int)-1)+(k:Int)*(-1)).toNat]?)=l.reverse:=by
 apply List.ext_getElem?
 intro i
 have e:(List.range l.length).filterMap (fun(k:Nat)=>l.toArray[(((l.length:Int)-1)+(k:Int)*(-1)).toNat]?)=(List.range l.length).map (fun k=>l.getD (l.length-1-k) default):=by
  have fm:∀{f:Nat→Option Value} {g:Nat→Value} (l:List Nat),(∀x∈l,f x=some (g x))→l.filterMap f=l.map g:=by
   intro f g l
   induction l with
   | nil=>intro _; rfl
   | cons x r ih=>
    intro hx
    rw[List.filterMap_cons,hx x List.mem_cons_self,List.map_cons,ih fun y hy=>hx y (List.mem_cons_of_mem _ hy)]
  refine fm _ fun k hk=>?_
  rw[List.mem_range] at hk
  have e1:(((l.length:Int)-1)+(k:Int)*(-1)).toNat=l.length-1-k:=by omega
  rw[e1]
  simp[List.getD,List.getElem?_eq_getElem (show l.length-1-k<l.length by omega)]
 rw[e,List.getElem?_map]
 by_cases hi:i<l.length
 .rw[List.getElem?_range hi,List.getElem?_reverse hi]
  simp[List.getD,List.getElem?_eq_getElem (show l.length-1-i<l.length by omega)]
 .rw[List.getElem?_eq_none (by simpa using hi),List.getElem?_eq_none (by simpa using hi)]
  rfl
section
variable{prog:Program}{w:World}{A:Around}{E:Value→Shared→Prop}{s:Shared}
open HT in
theorem applied_rev{sl:Addr}{n:Nat}{t:Tok}{Q:Int×Int×Nat→Shared→Prop}(hs:s.heap.IsSliceOf sl .none .none (.int (-1) t))(h:Q ((n:Int)-1,-1,n) s):wpAny (model prog w) A (Builtin.Slice.sliceApplied (.ref sl) (pure (n:Int))) Q E s:=by
 obtain⟨os,hos,hcs,hds⟩:=id hs
 unfold Builtin.Slice.sliceApplied Builtin.Slice.sliceFields
 refine wpAny_bind (wpAny_bind (wpAny_field hos hds (x:=.none) rfl (wpAny_bind (wpAny_field hos hds (x:=.none) rfl (wpAny_bind (wpAny_field hos hds (x:=.int (-1) t) rfl (wpAny_pure ?_)))))))
 refine wpAny_bind (slicePart_int ?_)
 show wpAny _ _ (if ((-1:Int)==0)=true then _ else _) _ _ s
 rw[if_neg (by decide)]
 refine wpAny_bind (slicePart_none (wpAny_bind (slicePart_none (wpAny_bind (wpAny_pure ?_)))))
 show wpAny _ _ (match Builtin.Slice.sliceAdjust none none (-1) (n:Int) with | (lo,hi)=>pure (lo,(-1:Int),Builtin.Slice.slicePlaces lo hi (-1))) _ _ s
 have e1:Builtin.Slice.sliceAdjust none none (-1) (n:Int)=((n:Int)-1,-1):=by
  unfold Builtin.Slice.sliceAdjust
  simp
 rw[e1]
 have e2:Builtin.Slice.slicePlaces ((n:Int)-1) (-1) (-1)=n:=by
  unfold Builtin.Slice.slicePlaces
  by_cases h0:n=0
  .subst h0; decide
  .rw[if_neg (by decide),if_pos (by omega)]
   show(((n:Int)-1 - -1-1)/(- -1)+1).toNat=n
   rw[show(- -1:Int)=1 by decide,Int.ediv_one]
   omega
 refine wpAny_pure ?_
 rw[e2]
 exact h
theorem getItem_tuple_rev{t sl:Addr}{items:List Value}{tk:Tok}{Q:Value→Shared→Prop}(ht:IsTup s.heap t items.toArray)(hs:s.heap.IsSliceOf sl .none .none (.int (-1) tk))(hz:items.length≤sizeLine)
  (h:Q (.ref s.heap.objs.size) { s with heap:=s.heap.push { cls:=.type "tuple",data:=.seq items.reverse.toArray } }):wpAny (model prog w) A (getItem (.ref t) (.ref sl)) Q E s:=by
 obtain⟨os,hos,hcs,hds⟩:=id hs
 have hTs:s.TypeIs (.ref sl) "slice":=⟨os,hos,hcs⟩
 unfold getItem
 try with_reducible refine wpAny_holding ?_
 first | refine wpAny_bind (wpAny_pure ?_) | skip
 refine wpAny_bind (wpAny_sequenceKey ht.typeIs (by decide) ?_)
 refine wpAny_bind (wpAny_callSpecial?_slot (name:=Str.ofString "__getitem__") ht.typeIs PyProof.Rows.slot_tuple_getitem
  (wpAny_call_entry PyProof.Rows.slot_tuple_getitem ht.typeIs entry_tuple_getitem ?_ (args_tuple_getitem _ _)))
 show wpAny _ _ (Builtin.Tuple.tupleItemsOf (.ref t) >>= _) _ _ s
 refine wpAny_bind (tupleItemsOf_ ht ?_)
 refine wpAny_bind (wpAny_typeOf hTs ?_)
 rw[if_pos (by decide)]
 refine wpAny_bind (applied_rev hs ?_)
 have hno:¬((((items.toArray.size:Int)-1)==0&&(-1:Int)==1&&items.toArray.size==items.toArray.size)=true):=by simp
 show wpAny _ _ (if ((((items.toArray.size:Int)-1)==0&&(-1:Int)==1&&items.toArray.size==items.toArray.size)=true) then _ else _) _ _ s
 rw[if_neg hno]
 have hp:((List.range items.toArray.size).filterMap fun(k:Nat)=>items.toArray[(((items.toArray.size:Int)-1)+(k:Int)*(-1)).toNat]?)=items.reverse:=by
  rw[List.size_toArray]; exact pick_rev items
 rw[hp]
 have htake:sizeOk (Data.seq items.reverse.toArray):=by
  show items.reverse.toArray.size≤sizeLine
  simpa using hz
 first
  | exact wpAny_bind (m:=Builtin.Tuple.tupleExact _) (wpAny_newObj_type (wpAny_pure ⟨_,rfl,wpAny_pure h⟩) htake)
  | exact wpAny_bind (m:=Builtin.Tuple.tupleExact _) (wpAny_newObj_type (wpAny_bind (wpAny_pure (wpAny_pure ⟨_,rfl,wpAny_pure h⟩))) htake)
  | exact wpAny_bind (wpAny_bind (m:=Builtin.Tuple.tupleExact _) (wpAny_newObj_type (wpAny_pure (wpAny_pure ⟨_,rfl,wpAny_pure h⟩)) htake))
  | exact wpAny_bind (wpAny_bind (m:=Builtin.Tuple.tupleExact _) (wpAny_newObj_type (wpAny_pure ⟨_,rfl,wpAny_pure h⟩) htake))
end
noncomputable def revW(w:W):M W:=fun h=>match w with
 | .tup l=>some (.tup l.reverse,h)
 | w=>match getL h w with
  | some l=>some (.fls l.reverse,h)
  | none=>none
theorem pick_back(its:List Value):slicePick its.toArray none none (some (-1))=its.reverse.toArray:=by
 have b:sliceBounds none none (some (-1)) its.toArray.size=((its.length:Int)-1,-1,-1):=by
  simp[sliceBounds]
 unfold slicePick
 rw[b]
 refine congrArg List.toArray ?_
 rw[←pick_rev its]
 have r:sliceRange ((its.length:Int)-1) (-1) (-1)=(List.range its.length).map fun(k:Nat)=>(((its.length:Int)-1)+(k:Int)*(-1)).toNat:=by
  unfold sliceRange
  have c:(if (-1:Int)>0 then (if (its.length:Int)-1 < -1 then (-1-((its.length:Int)-1) + -1-1) / -1 else 0) else (if (its.length:Int)-1 > -1 then ((its.length:Int)-1 - -1 - -1-1)/(- -1) else 0))=(its.length:Int):=by
   rw[if_neg (by decide)]
   by_cases h:its.length=0
   .rw[h]; decide
   .rw[if_pos (by omega),show(- -1:Int)=1 by decide,Int.ediv_one]; omega
  simp only[c,Int.toNat_natCast]
  refine List.map_congr_left fun k _=>?_
  congr 1
  omega
 simp only[r,List.filterMap_map]
 rfl
section
variable{X:Cx}{cl:Nat→Addr}{a:Expr}{ma:ME}{pos p2 p3 p4:Pos}{j:Nat}
theorem se_rev(ha:SE X cl a ma):SE X cl (.Subscript a (.Slice none none (some (.UnaryOp .USub (.Constant (.int 1) j p4) p3)) p2) pos) (eUn revW ma):=by
 rintro pins s σ H Q I ⟨μ,h,ρ,w,h',R,er,e,k⟩
 obtain⟨x,h1,e1,e⟩:=of_bnd e
 refine Subscript_ (thn (ha pins s σ H (fun v H1=>∃μ1,Ext μ H μ1 H1∧HR X.K cl μ1 H1 h1∧RW X.K μ1 H1 x v) I ⟨μ,h,ρ,x,h1,R,er,e1,fun μ1 H1 v E1 R1 r=>⟨μ1,E1,R1,r⟩⟩) fun u s1 ⟨v,H1,I1,r1,μ1,E1,R1,rv⟩=>?_)
 have step:PO X (some (.UnaryOp .USub (.Constant (.int 1) j p4) p3)) (fun _ H Q=>Q (some (-1)) H):=by
  refine PO.wk (po_some (pe_un (X:=X) un_neg pe_int)) fun σ H Q q=>?_
  exact⟨1,rfl,-1,rfl,q⟩
 refine wpAny_Slice ?_
 rw[evalPart_none]
 refine wpAny_pure ?_
 refine wpAny_pure ?_
 refine thn (step pins s1 σ H1 (fun o H2=>o=some (-1)∧H2=H1) I1 ⟨rfl,rfl⟩) fun vs s2 ⟨o,H2,I2,ps,eo,eH⟩=>?_
 subst eo eH
 have hsl:=Heap.IsSliceOf.new s2.heap .none .none vs
 cases ps with | int i t=>
 have I3:Inv X pins σ H2 { s2 with heap:=s2.heap.push { cls:=.type "slice",data:=.fields #[.none,.none,.int (-1) t] } }:=I2.kept (t':=s2.toks) fun b ob q=>Heap.get?_push_of_some _ q
 unfold revW at e
 split at e
 .rename_i l
  cases e
  obtain⟨d,vs,rfl,sq,ra⟩:=rv.tup_of
  cases r1
  obtain⟨its,rr,ht,hz⟩:=I3.tuple sq
  refine tail_any (ops:=[.ref d,.ref s2.heap.objs.size]) ht.typeIs PyProof.Rows.slot_tuple_getitem.lookup (getItem_tuple_rev ht hsl (by rw[←rr.length]; exact hz) ?_) (by with_unfolding_all rfl)
  refine⟨.ref _,_,I3.laid (t':=s2.toks) (o:=.tup vs.reverse) (fun b ob q=>Heap.get?_push_of_some _ q) (Nat.le_refl _) ⟨by rw[List.length_reverse]; exact hz,_,rr.reverse,IsTup.new _ _⟩,rfl,(k.ext E1).tup R1 ra.reverse I3.fresh⟩
 .split at e
  .rename_i l el
   cases e
   obtain⟨d,vs,rfl,sq,ra⟩:=getL_of R1 rv el
   cases r1
   obtain⟨its,rr,ht,hz⟩:=I3.list sq
   refine tail_any (ops:=[.ref d,.ref s2.heap.objs.size]) ht.isList.typeIs slot_list_getitem.lookup (wpAny_getItem_list_slice ht.isList hsl .none .none (.int (-1) t) (by decide) ?_ (by rw[List.size_toArray,←rr.length]; exact hz)) (by with_unfolding_all rfl)
   rw[pick_back]
   refine⟨.ref _,_,I3.laid (t':=s2.toks) (o:=.lst vs.reverse) (fun b ob q=>Heap.get?_push_of_some _ q) (Nat.le_refl _) ⟨by rw[List.length_reverse]; exact hz,_,0,rr.reverse,Heap.get?_push_size _ rfl⟩,rfl,(k.ext E1).fls R1 ra.reverse I3.fresh⟩
  .cases e
end
noncomputable def pairsOf:List W→Option (List (W×W))
 | []=>some []
 | .tup [x,y]::r=>match pairsOf r with
  | some l=>some ((x,y)::l)
  | none=>none
 | _=>none
noncomputable def dictW(ws:List W):M W:=fun h=>match ws with
 | [w]=>match getDi h w with
  | some l=>some (.fdc l,h)
  | none=>match getL h w with
   | some l=>match pairsOf l with
    | some ps=>match keysOf ps with
     | some ks=>if ks.length≤1000 then some (.fdc (mergeW [] ks),h) else none
     | none=>none
    | none=>none
   | none=>none
 | _=>none
theorem lk_keys{T:String}(h:T="list" ∨ T="tuple" ∨ T="zip"):typeLookup (.type T) "keys" = pure none:=by
 rcases h with rfl | rfl | rfl<;>(rw[typeLookup_type,builtinLookup_eq_fast]; kernel_rfl)
theorem lk_hook{T:String}(h:T="list" ∨ T="tuple" ∨ T="zip"):typeLookup (.type T) "__getattr__" = pure none:=by
 rcases h with rfl | rfl | rfl<;>(rw[typeLookup_type,builtinLookup_eq_fast]; kernel_rfl)
theorem sub_attr:isSubtype (.type "AttributeError") (.type "AttributeError")=pure true:=by rw[isSubtype_type]; kernel_rfl
section
variable{prog:Program}{w:World}{A:Around}{E:Value→Shared→Prop}{s:Shared}
theorem note_ok{e:Addr}{v0 v1 v2 v3 v4 v5 o name:Value}{Q:Unit→Shared→Prop}(he:s.heap.get? e=some { cls:=.type "AttributeError",data:=.fields #[v0,v1,v2,v3,v4,v5,rawInt 0,rawInt 0] })
  (hq:∀h' ob,Heap.ExtBut e s.heap h'→h'.get? e=some ob→ob.cls=.type "AttributeError"→Q () { s with heap:=h' }):wpAny (model prog w) A (noteAttr (.ref e) o name) Q E s:=by
 have hT:s.TypeIs (.ref e) "AttributeError":=⟨_,he,rfl⟩
 unfold noteAttr
 refine wpAny_bind ?_
 unfold lacksNameAndObj
 refine wpAny_bind (wpAny_isInstance hT sub_attr ?_)
 simp only[Bool.not_true,Bool.false_eq_true,if_false]
 refine wpAny_bind (wpAny_load he ?_)
 refine wpAny_pure ?_
 simp only[if_true]
 refine wpAny_bind (wpAny_rule (wpAny_bind (wpAny_typeOf hT ?_)))
 show wpAny _ _ (layMembers e 6 #[name,o]) _ _ s
 unfold layMembers
 refine wpAny_bind (wpAny_load he ?_)
 refine wpAny_update he (hq _ _ (Heap.SameBut.update ..).extBut (Heap.get?_update_self _ he ?_) ?_)
 .rfl
 .rfl
theorem raise_attr{α:Type}{o:Value}{x msg:Str}{Q:α→Shared→Prop}(hh:A.handled=none)(hm:msg.length≤sizeLine)
  (hq:∀h' tk' e,(∀b ob,s.heap.get? b=some ob→h'.get? b=some ob)→(∃ob,h'.get? e=some ob∧ob.cls=.type "AttributeError")→E (.ref e) { s with heap:=h',toks:=tk' }):wpAny (model prog w) A (raiseAttrError o x msg:Sem α) Q E s:=by
 unfold raiseAttrError
 refine wpAny_bind (wpAny_mkStr (wpAny_bind ?_) hm)
 unfold newExc newTuple
 refine wpAny_bind (wpAny_newObj_type ?_)
 refine wpAny_bind (m:=firstArgMember _ _) (wpAny_of_eq (a:=Value.none) (by first | rfl | kernel_rfl) ?_)
 refine wpAny_newObj_type ?_
 refine wpAny_bind (wpAny_mkText (wpAny_bind ?_))
 refine note_ok (Heap.get?_push_size _ rfl) fun h' ob hx ho hc=>?_
 unfold raiseNew
 refine wpAny_bind (wpAny_handled ?_)
 rw[hh]
 first
  | refine wpAny_throw ?_
  | refine wpAny_bind (wpAny_pure (wpAny_throw ?_))
 refine hq _ _ _ (fun b ob' hb=>hx b ob' ?_ (Heap.get?_push_of_some _ (Heap.get?_push_of_some _ hb))) ⟨ob,ho,hc⟩
 refine Nat.ne_of_lt (Nat.lt_of_lt_of_le (Heap.lt_size hb) ?_)
 simp
end
section
variable{prog:Program}{w:World}{A:Around}{E:Value→Shared→Prop}{h:Heap}{g:Array GenState}{d:Drawn}{t:Nat}{os:OsState}{a:Addr}{items:Array Value}{n:Nat}{sl:Array (Option Value)}{dd:Option Addr}
noncomputable def errK(h:Heap)(g:Array GenState)(d:Drawn)(os:OsState)(E:Value→Shared→Prop):Prop:=∀h' tk' e,(∀b ob,h.get? b=some ob→h'.get? b=some ob)→(∃ob,h'.get? e=some ob∧ob.cls=.type "AttributeError")→E (.ref e) ⟨h',g,d,tk',os⟩
set_option maxHeartbeats 1000000 in
theorem keys_list{tk:Tok}{Q:Fin→Shared→Prop}(hh:A.handled=none)(hx:h.get? a=some { cls:=.type "list",dict:=none,data:=.seq items n,slots:=sl })(hq:errK h g d os E) :
  wpAny (model prog w) A (Builtin.«object.__getattribute__» ⟨[.ref a,.str "keys" tk],[]⟩) Q E ⟨h,g,d,t,os⟩:=by
 have hT:(⟨h,g,d,t,os⟩:Shared).TypeIs (.ref a) "list":=⟨_,hx,rfl⟩
 have f4:=lk_keys (T:="list") (.inl rfl)
 repeat (any_goals (first | assumption | wp_step))
 refine raise_attr hh (by decide +kernel) fun h' tk' e k1 k2=>hq h' tk' e k1 k2
theorem keys_by_list{tk:Tok}{Q:Value→Shared→Prop}(hh:A.handled=none)(hx:h.get? a=some { cls:=.type "list",dict:=none,data:=.seq items n,slots:=sl })(hq:errK h g d os E):wpAny (model prog w) A (getAttrBy (.ref a) (.str "keys" tk) false) Q E ⟨h,g,d,t,os⟩:=by
 have hT:(⟨h,g,d,t,os⟩:Shared).TypeIs (.ref a) "list":=⟨_,hx,rfl⟩
 have f2:=F.slot_list_getattribute.lookup
 have f3:=F.slot_list_getattribute.bind (.ref a)
 unfold getAttrBy
 refine wpAny_holding (wpAny_bind (wpAny_typeOf hT (wpAny_bind (wpAny_of_eq f2 ?_))))
 show wpAny _ _ (getAttrByItsOwn (.ref a) (.str "keys" tk) (.type "list") (.builtin "list.__getattribute__") false false) _ _ _
 unfold getAttrByItsOwn
 refine wpAny_bind (wpAny_pure ?_)
 refine wpAny_bind (wpAny_attempt ?_)
 refine wpAny_holding ?_
 show wpAny _ _ (boundAndCalled (.builtin "list.__getattribute__") (.ref a) (.str "keys" tk)) _ _ _
 unfold boundAndCalled
 refine wpAny_bind (wpAny_of_eq f3 ?_)
 refine wpAny_call_entry F.slot_list_getattribute hT F.entry_list_ga ?_ (F.args_list_getattribute_2 _ _)
 refine keys_list hh hx fun h' tk' e k1 k2=>?_
 obtain⟨ob,ho,hc⟩:=k2
 have hTe:(⟨h',g,d,tk',os⟩:Shared).TypeIs (.ref e) "AttributeError":=⟨_,ho,hc⟩
 show wpAny _ _ (getattributeRaised (.ref a) (.str "keys" tk) (.type "list") (.ref e) none false false) _ _ _
 unfold getattributeRaised
 refine wpAny_bind (wpAny_isInstance hTe sub_attr ?_)
 simp only[if_true]
 refine wpAny_bind (wpAny_of_eq (show hookBehind (.type "list") none=pure none from lk_hook (.inl rfl)) ?_)
 show wpAny _ _ (attributeErrorLeaves (.ref a) (.str "keys" tk) (.ref e) false false) _ _ _
 unfold attributeErrorLeaves
 simp only[Bool.not_false,if_true]
 exact wpAny_throw (hq h' tk' e k1 ⟨ob,ho,hc⟩)
theorem no_keys_list{Q:Option Value→Shared→Prop}(hh:A.handled=none)(hx:h.get? a=some { cls:=.type "list",dict:=none,data:=.seq items n,slots:=sl })(hq:∀h' tk',(∀b ob,h.get? b=some ob→h'.get? b=some ob)→Q none ⟨h',g,d,tk',os⟩):wpAny (model prog w) A (getAttr? (.ref a) "keys") Q E ⟨h,g,d,t,os⟩:=by
 unfold getAttr? getAttrBy?
 refine wpAny_bind (wpAny_mkText ?_)
 refine wpAny_bind (wpAny_attempt (keys_by_list hh hx fun h' tk' e k1 k2=>?_))
 obtain⟨ob,ho,hc⟩:=k2
 refine wpAny_bind (wpAny_isInstance (T:="AttributeError") (b:=true) ⟨ob,ho,hc⟩ sub_attr ?_)
 exact wpAny_pure (hq h' tk' k1)
end
theorem entry_dul:entryFor table "dict.update.loop" = some Builtin.«dict.update.loop»:=entryFor_of_tree (by kernel_rfl)
theorem plain_dul:plainId "dict.update.loop" = true:=by decide +kernel
section
variable{prog:Program}{w:World}{A:Around}{R:Result→Shared→Prop}{I D:Addr}{fp wr:List Addr}{n:Nat}{P:Nat→Value→Prop}{St:Nat→Heap→Prop}{h0:Heap}{us:List Value}{kvs:List (Key×Value)}
noncomputable def PairsAt(knd:KeyKind prog w Key)(h:Heap)(us:List Value)(kvs:List (Key×Value)):Prop:=us.length=kvs.length∧∀(i:Nat) (u:Value) (kv:Key×Value),us[i]?=some u→kvs[i]?=some kv→∃T k,u=.ref T∧IsTup h T #[k,kv.2]∧knd.is kv.1 k=true
theorem upd_loop(knd:KeyKind prog w Key)(W:Walks prog w A.in1 I fp wr us.length (fun i v=>us[i]?=some v) St)(hDf:D∉fp)(hD0:h0.get? D=none)(hw0:∀b∈wr,h0.get? b=none)(hp:PairsAt knd h0 us kvs)(hz:kvs.length≤1000) :
  ∀(k i:Nat) (tk:Tok) (s:Shared),us.length-i=k→i≤us.length→St i s.heap→s.heap.DictOf knd D (merged [] (kvs.take i))→(∀b o,h0.get? b=some o→s.heap.get? b=some o)→
   (∀h' tk',h'.DictOf knd D (merged [] kvs)→(∀b o,h0.get? b=some o→h'.get? b=some o)→R (.ok (.ret .none)) { s with heap:=h',toks:=tk' })→
   codeAny (model prog w) A (.builtin "dict.update.loop" ⟨[.ref D,.ref I,.int i tk,.none],[]⟩) R s:=by
 have hDw:D∉wr:=fun h=>hDf (W.sub _ h)
 intro k
 induction k with
 | zero=>
  intro i tk s hk hi hst hd h0k hR
  obtain rfl:i=us.length:=by omega
  refine codeAny_builtin entry_dul ?_
  rw[Around.under_plainId plain_dul _]
  show wpAny _ A.in1 (pyNext (.ref I) >>= _) _ _ s; refine wpAny_bind (W.done s _ _ hst fun h' tk' kk=>?_)
  show wpAny _ A.in1 (Builtin.Dict.addKeywords D [] >>= _) _ _ _
  refine wpAny_bind (wpAny_pure (wpAny_pure (hR h' tk' ?_ fun b o e=>kk b o (fun z=>by rw[hw0 b z] at e; cases e) (h0k b o e))))
  rw[hp.1,List.take_length] at hd
  obtain⟨o,es,ep,ho,rest⟩:=hd
  exact⟨o,es,ep,kk D o hDw ho,rest⟩
 | succ k ih=>
  intro i tk s hk hi hst hd h0k hR
  have hlt:i<us.length:=by omega
  refine codeAny_builtin entry_dul ?_
  rw[Around.under_plainId plain_dul _]
  show wpAny _ A.in1 (pyNext (.ref I) >>= _) _ _ s; refine wpAny_bind (W.item i s _ _ hlt hst fun v h' tk' hv hst' kk=>?_)
  have hkl:i<kvs.length:=by rw[←hp.1]; exact hlt
  obtain⟨T,key,rfl,hT,hk1⟩:=hp.2 i v kvs[i] hv (List.getElem?_eq_getElem hkl)
  have keep:∀b o,h0.get? b=some o→h'.get? b=some o:=fun b o e=>kk b o (fun z=>by rw[hw0 b z] at e; cases e) (h0k b o e)
  have hT':IsTup h' T #[key,kvs[i].2]:=by obtain⟨o,ho,r⟩:=hT; exact⟨o,keep T o ho,r⟩
  have hd':h'.DictOf knd D (merged [] (kvs.take i)):=by obtain⟨o,es,ep,ho,rest⟩:=hd; exact⟨o,es,ep,kk D o hDw ho,rest⟩
  show wpAny _ A.in1 (holding [Value.ref T] _ >>= _) _ _ _
  refine wpAny_bind (wpAny_holding (wpAny_bind (wpAny_tryCatch ?_)))
  unfold Builtin.Dict.pairItems
  refine wpAny_bind (wpAny_typeOf hT'.typeIs ?_)
  rw[if_pos (by decide)]
  obtain⟨oT,hoT,hcT,nT,hdT⟩:=hT'
  refine wpAny_bind (wpAny_seqItems hoT hdT (wpAny_pure ?_))
  show wpAny _ _ (holding [key,kvs[i].2] (dictSet D key kvs[i].2)) _ _ _
  refine wpAny_holding ?_
  unfold dictSet
  try with_reducible refine wpAny_holding ?_
  refine wpAny_bind (knd.pyHash hk1 ?_)
  refine wpAny_dictSetHashed_pairs (s:={ s with heap:=h',toks:=tk'+1 }) hk1 hd' (fun h2 hd2 sb=>?_) (by have:=merged_length_le ([]:List (Key×Value)) (kvs.take i); rw[List.length_take] at this; simp at this; exact Nat.le_trans (Nat.le_trans this (by omega)) (show 1000≤sizeLine by decide))
  refine wpAny_pure ⟨plainId_quiet plain_dul _,ih (i+1) _ _ (by omega) hlt (W.frame _ _ _ hst' fun b hb o e=>?_) ?_ (fun b o e=>?_) fun h3 tk3 hd3 k3=>?_⟩
  .rw[sb.2 b (fun z:b=D=>hDf (by rw[←z]; exact hb))]; exact e
  .rw[merged_take_succ [] kvs i kvs[i] (List.getElem?_eq_getElem hkl)]; exact hd2
  .rw[sb.2 b (fun z:b=D=>by rw[z,hD0] at e; cases e)]; exact keep b o e
  .exact hR h3 tk3 hd3 k3
end
section
variable{prog:Program}{w:World}{A:Around}{E:Value→Shared→Prop}{s:Shared}{us:List Value}{kvs:List (Key×Value)}{l:Addr}{n:Nat}{sl:Array (Option Value)}
theorem call_dict_list(knd:KeyKind prog w Key)(hh:A.handled=none)(hl:s.heap.get? l=some { cls:=.type "list",dict:=none,data:=.seq us.toArray n,slots:=sl })(hp:PairsAt knd s.heap us kvs)(hz:kvs.length≤1000){Q:Value→Shared→Prop}
  (h:∀h' tk',h'.DictOf knd s.heap.objs.size (merged [] kvs)→(∀b o,s.heap.get? b=some o→h'.get? b=some o)→Q (.ref s.heap.objs.size) { s with heap:=h',toks:=tk' }):wpAny (model prog w) A (call (.type "dict") [.ref l]) Q E s:=by
 refine callType_codes (Q₁:=fun obj s₁=>obj=.ref s.heap.objs.size∧s₁={ s with heap:=s.heap.push { cls:=.type "dict",data:=.dict #[] } }) F.kt_called_dict (F.kt_typeCall_dict_1 _) F.entry_dict_init (kt_code_dict_new _ ⟨rfl,rfl⟩) ?_
 rintro obj s₁ ⟨rfl,rfl⟩
 have hnew:(s.heap.push { cls:=.type "dict",data:=.dict #[] }).DictOf knd s.heap.objs.size []:=Heap.DictOf.new s.heap
 refine⟨hnew.typeIs,F.args_dict_init_2 _ _,?_⟩
 unfold Builtin.«dict.__init__»
 refine wpAny_bind ?_
 unfold Builtin.Dict.selfAndRest
 refine wpAny_bind (wpAny_notOrdered_dict hnew.typeIs ?_)
 show wpAny _ _ (pure (s.heap.objs.size,[Value.ref l])) _ _ _
 refine wpAny_pure ?_
 show wpAny _ _ (Builtin.Dict.updateFrom "dict.__init__" s.heap.objs.size (.ref l) [] .none) _ _ _
 unfold Builtin.Dict.updateFrom
 have hl1:(s.heap.push { cls:=.type "dict",data:=.dict #[] }).get? l=some _:=Heap.get?_push_of_some _ hl
 refine wpAny_bind (wpAny_typeOf (T:="list") ⟨_,hl1,rfl⟩ ?_)
 rw[if_pos (by decide)]
 have hh2:A.in1.in1.handled=none:=by simpa using hh
 refine wpAny_bind (no_keys_list hh2 hl1 fun h1 tk1 k1=>?_)
 simp only[Option.isNone_none,if_true]
 have hl2:=k1 _ _ hl1
 have hL:h1.IsList l us.toArray:=⟨_,hl2,rfl,n,rfl⟩
 refine wpAny_bind (wpAny_rule ?_)
 refine wpAny_bind (wpAny_pyIter_list hL ?_)
 have k0:∀b o,s.heap.get? b=some o→h1.get? b=some o:=fun b o e=>k1 b o (Heap.get?_push_of_some _ e)
 have hDlt:s.heap.objs.size<h1.objs.size:=by obtain⟨o,es,ep,ho,_⟩:=hnew; exact Heap.lt_size (k1 _ _ ho)
 have hllt:l<s.heap.objs.size:=Heap.lt_size hl
 have hd1:h1.DictOf knd s.heap.objs.size []:=by obtain⟨o,es,ep,ho,rest⟩:=hnew; exact⟨o,es,ep,k1 _ _ ho,rest⟩
 have hne:l≠h1.objs.size:=Nat.ne_of_lt (Nat.lt_trans hllt hDlt)
 have W0:=Walks.list (prog:=prog) (w:=w) (A:=A.in1.in1) (by simpa using hh) h1.objs.size l hne us.toArray
 have W1:Walks prog w A.in1.in1 h1.objs.size [h1.objs.size,l] [h1.objs.size] us.length (fun i v=>us[i]?=some v) (fun i h=>h.IsListIter h1.objs.size l i∧h.IsList l us.toArray):=by simpa using W0
 refine wpAny_pure ⟨plainId_quiet plain_dul _,upd_loop (h0:=s.heap) knd W1 ?_ ?_ ?_ hp hz us.length 0 _ _ rfl (Nat.zero_le _) ⟨⟨_,Heap.get?_push_size _ rfl,rfl,rfl⟩,hL.at fun o e=>Heap.get?_push_of_some _ e⟩ ?_ (fun b o e=>Heap.get?_push_of_some _ (k0 b o e)) fun h' tk' hd' k'=>?_⟩
 .simp only[List.mem_cons,List.not_mem_nil,or_false,not_or]
  exact⟨Nat.ne_of_lt hDlt,Nat.ne_of_gt hllt⟩
 .exact Heap.get?_none_of_le (Nat.le_refl _)
 .intro b hb
  simp only[List.mem_cons,List.not_mem_nil,or_false] at hb
  rw[hb]
  exact Heap.get?_none_of_le (Nat.le_of_lt hDlt)
 .obtain⟨o,es,ep,ho,rest⟩:=hd1
  exact⟨o,es,ep,Heap.get?_push_of_some _ ho,rest⟩
 .exact⟨rfl,h h' tk' hd' k'⟩
end
end ML
namespace ML
open PySem PySem.Spec PyProof.Rows L2
section
variable{X:Cx}{cl:Nat→Addr}
theorem pairs_rw{K:PySem.W.Frag}{μ:List Addr}{H:Hp}:∀{l:List W} {vs:List V} {ps:List (W×W)} {ks:List (Key×W)},RWs K μ H l vs→pairsOf l=some ps→keysOf ps=some ks→
  ∃ks':List (Key×V),PR K μ H ks ks'∧vs.length=ks'.length∧∀(i:Nat) (v:V) (kv:Key×V),vs[i]?=some v→ks'[i]?=some kv→∃T,v=.ref T∧SqT K H T [kV kv.1,kv.2]
 | [],_,_,_,.nil,e1,e2=>by
  cases e1; cases e2
  exact⟨[],.nil,rfl,fun i v kv e=>by simp at e⟩
 | w::l,_,ps,ks,.cons (v:=v) r t,e1,e2=>by
  have hw:∃x y,w=.tup [x,y]:=by
   unfold pairsOf at e1
   split at e1
   .rename_i hd; cases hd
   .rename_i x y r' hd; cases hd; exact⟨x,y,rfl⟩
   .cases e1
  obtain⟨x,y,rfl⟩:=hw
  unfold pairsOf at e1
  split at e1
  .rename_i l' e3
   cases e1
   unfold keysOf at e2
   split at e2
   .rename_i k lk e4 e5
    cases e2
    obtain⟨ks',p,hl,hi⟩:=pairs_rw t e3 e5
    obtain⟨T,vs2,rfl,sq,rr⟩:=r.tup_of
    cases rr with | cons r1 rr=>cases rr with | @cons _ v2 _ _ r2 rr=>cases rr with | nil=>
    have:=key_of_rw r1 e4
    subst this
    refine⟨(k,v2)::ks',.cons r2 p,by simp[hl],fun i v kv ev ek=>?_⟩
    cases i with
    | zero=>simp at ev ek; subst ev; subst ek; exact⟨T,rfl,sq⟩
    | succ i=>exact hi i v kv (by simpa using ev) (by simpa using ek)
   .cases e2
  .cases e1
theorem pairs_at{pins:List (Addr×Obj)}{s:Shared}{σ:L2.St}{H:Hp}(I:Inv X pins σ H s):∀{vs:List V} {its:List Value} {ks':List (Key×V)},Vals vs its→vs.length=ks'.length→
  (∀(i:Nat) (v:V) (kv:Key×V),vs[i]?=some v→ks'[i]?=some kv→∃T,v=.ref T∧SqT X.K H T [kV kv.1,kv.2])→∃kvs,KV ks' kvs∧PairsAt (mixKind X.prog X.w) s.heap its kvs
 | _,_,[],.nil,_,_=>⟨[],.nil,rfl,fun i u kv e=>by simp at e⟩
 | _,_,_::_,.nil,hl,_=>by simp at hl
 | _,_,[],.cons _ _,hl,_=>by simp at hl
 | _,_,(k,v2)::ks',.cons (a:=v) (b:=u) r t,hl,hi=>by
  obtain⟨kvs,q1,q2,q3⟩:=pairs_at I t (by simpa using hl) fun i v kv e1 e2=>hi (i+1) v kv (by simpa using e1) (by simpa using e2)
  obtain⟨T,rfl,sq⟩:=hi 0 v (k,v2) (by simp) (by simp)
  obtain⟨it2,rv,ht,_⟩:=I.tuple sq
  obtain⟨u1,u2,rfl,ru1,ru2⟩:=vals2 rv
  cases r
  refine⟨(k,u2)::kvs,.cons ⟨rfl,ru2⟩ q1,by simp[q2],fun i u kv e1 e2=>?_⟩
  cases i with
  | zero=>simp at e1 e2; subst e1; subst e2; exact⟨T,u1,rfl,ht,kV_is ru1⟩
  | succ i=>exact q3 i u kv (by simpa using e1) (by simpa using e2)
theorem call_dictW(hc:X.calm=true):CallR X (.type "dict") (rMs X.K cl dictW):=by
 rintro pins s σ H xs us Q I rs ⟨μ,h,ws,w,h',R,ax,e,k⟩
 unfold dictW at e
 split at e
 .cases ax with | cons r t=>cases t with | nil=>
  obtain⟨u,rfl,ru⟩:=rs.one
  split at e
  .rename_i l el
   cases e
   obtain⟨a,l',rfl,rd,pr⟩:=getDi_of R r el
   cases ru
   exact d_copyOf I rd fun p s' hp I'=>⟨.ref p,_,I',rfl,k.fdc R pr hp⟩
  .split at e
   .rename_i l el
    split at e
    .rename_i ps ep
     split at e
     .rename_i ks ek
      split at e
      .rename_i hlen
       cases e
       obtain⟨a,vs,rfl,sa,ra⟩:=getL_of R r el
       cases ru
       obtain⟨ks',pr,hl,hi⟩:=pairs_rw ra ep ek
       obtain⟨its,rv,⟨⟨oc,od,odt,osl⟩,n,g1,g2,g3,g4⟩,_⟩:=I.list sa
       simp only at g2 g3 g4
       subst g2 g3 g4
       obtain⟨kvs,q1,q2⟩:=pairs_at I rv hl hi
       have hkl:ks'.length=kvs.length:=q1.length
       refine call_dict_list (mixKind X.prog X.w) (I.ok.hd hc) g1 q2 (by rw[←hkl,←pr.len]; exact hlen) fun h2 tk dd kp=>?_
       have rel:KV (mergeK [] ks') (merged [] kvs):=q1.merge .nil
       have hz:(mergeK [] ks').length≤sizeLine:=by
        have h1:=length_mergeK ks' []
        rw[List.length_nil] at h1
        rw[sizeLine_eq]
        have:=pr.len
        omega
       exact⟨.ref _,_,I.laid (a:=s.heap.objs.size) (o:=.dK (mergeK [] ks')) (t':=tk) kp (Nat.le_refl _) (dk_new hz (beq_eq_false_iff_ne.mpr (Ne.symm (Nat.ne_of_lt I.big))) rel dd),rfl,k.fdc R (pr.merge .nil) (I.hok.fresh (Nat.le_refl _))⟩
      .cases e
     .cases e
    .cases e
   .cases e
 .cases e
end
theorem fn_ok2{P:Program}{w:World}{K:PySem.W.Frag}{mg:Str→Option Value}{base:Heap}{cl:Nat→Addr}{x qual:Str}{st:Stmt}{sc:Scope}{bd:List Stmt}{f:Addr}{fd:FuncData}{N ps:List Str}{k np ns:Nat}{b:MS}(F:Fun K x qual st f fd)(hsc:defScope st=sc)(hbd:defBody st=bd)(S:FnScope N ps sc)(hnp:ps.length=np)(hns:N.length-np=ns)
  (hb:∀(cdv:Value) (A:Around) (outer:List Env) (s:Shared) (H:Hp) (E:XK),Room k (A.deeper (envOfC qual sc s.heap.objs.size f cdv))→
   SB (cxOf CX0 P w K mg base N qual sc f cdv A outer s H E).nox cl bd b):FnOk P w K mg base CX0 (k+1) f fd ps (spM K cl (gc (fnM np ns b))):=by
 subst hsc hbd
 exact fn_ok F S hnp hns hb
noncomputable def visB(sc:Scope)(x:Str):Bool:=match sc.names.lookup x with
 | some .local=>true
 | some .cell=>true
 | some .free=>true
 | _=>false
noncomputable def locB(sc:Scope)(x:Str):Bool:=match sc.names.lookup x with
 | some .local=>true
 | some .cell=>true
 | _=>false
noncomputable def varB(sc:Scope)(N:List Str)(i:Nat)(x:Str):Bool:=N[i]?==some x&&visB sc x && !(x==("__debug__":Str)) && !(x==("__classdict__":Str))
noncomputable def setB(sc:Scope)(N:List Str)(i:Nat)(x:Str):Bool:=N[i]?==some x&&locB sc x
noncomputable def setC(sc:Scope)(N:List Str)(i:Nat)(x:Str):Bool:=N[i]?==some x&&sc.names.lookup x==some .local
noncomputable def glB(sc:Scope)(x:Str):Bool:=sc.names.lookup x==some .globalImplicit && !(x==("__debug__":Str)) && !(x==("__name__":Str))
section
variable{X:Cx}{cl:Nat→Addr}{x:Str}{pos pos' p:Pos}{sc:Scope}{N:List Str}{i:Nat}{e:Expr}{m:ME}
theorem visB_of(h:visB sc x=true):Vis sc x:=by
 unfold visB at h
 split at h
 .rename_i q; exact .inl q
 .rename_i q; exact .inr (.inl q)
 .rename_i q; exact .inr (.inr q)
 .cases h
theorem locB_of(h:locB sc x=true):Loc sc x:=by
 unfold locB at h
 split at h
 .rename_i q; exact .inl q
 .rename_i q; exact .inr q
 .cases h
theorem v_(h:varB sc N i x=true)(hs:X.env.scope=sc:=by rfl)(hN:X.N=N:=by rfl):SE X cl (.Name x pos) (eVar i):=by
 unfold varB at h
 simp only[Bool.and_eq_true,beq_iff_eq,Bool.not_eq_true'] at h
 exact se_var i (by rw[hN]; exact h.1.1.1) (by rw[hs]; exact visB_of h.1.1.2) h.1.2 h.2
theorem g_(h:setB sc N i x=true)(hNd:N.Nodup)(hs:X.env.scope=sc:=by rfl)(hN:X.N=N:=by rfl)(hf:X.fn x=true:=by rfl):SG X cl (.Name x pos) (gNm i):=by
 unfold setB at h
 simp only[Bool.and_eq_true,beq_iff_eq] at h
 exact sg_name i (by rw[hN]; exact hNd) (by rw[hN]; exact h.1) (by rw[hs]; exact locB_of h.2) (.inl hf)
theorem gc_(h:setC sc N i x=true)(hNd:N.Nodup)(hs:X.env.scope=sc:=by rfl)(hN:X.N=N:=by rfl):SG X cl (.Name x pos) (gNm i):=by
 unfold setC at h
 simp only[Bool.and_eq_true,beq_iff_eq] at h
 exact sg_name i (by rw[hN]; exact hNd) (by rw[hN]; exact h.1) (by rw[hs]; exact .inl h.2) (.inr (by rw[hs]; exact h.2))
theorem s_(h:setB sc N i x=true)(hNd:N.Nodup)(he:SE X cl e m)(hs:X.env.scope=sc:=by rfl)(hN:X.N=N:=by rfl)(hf:X.fn x=true:=by rfl)(hsw:swapsWith e (some (.Name x pos')) pos.line X.env=pure false:=by rfl):SS X cl (.Assign [.Name x pos'] e pos) (sAsg m (gNm i)):=by
 unfold setB at h
 simp only[Bool.and_eq_true,beq_iff_eq] at h
 exact ss_set i (by rw[hN]; exact hNd) he (by rw[hN]; exact h.1) (by rw[hs]; exact locB_of h.2) hsw (.inl hf)
theorem au_{op:Operator}{f:W→W→M W}(h:setB sc N i x=true)(hNd:N.Nodup)(ho:PIp X op (rM X.K cl f))(he:SE X cl e m)(hs:X.env.scope=sc:=by rfl)(hN:X.N=N:=by rfl)(hf:X.fn x=true:=by rfl):SS X cl (.AugAssign (.Name x pos') op e pos) (sAug i f m):=by
 unfold setB at h
 simp only[Bool.and_eq_true,beq_iff_eq] at h
 exact ss_aug i (by rw[hN]; exact hNd) ho he (by rw[hN]; exact h.1) (by rw[hs]; exact locB_of h.2) (.inl hf)
theorem gl_of(h:glB sc x=true)(hs:X.env.scope=sc):Gl X x∧(x==("__debug__":Str))=false∧x≠"__name__":=by
 unfold glB at h
 simp only[Bool.and_eq_true,beq_iff_eq,Bool.not_eq_true'] at h
 refine⟨?_,h.1.2,fun z=>?_⟩
 .show X.env.scope.names.lookup x=_
  rw[hs]; exact h.1.1
 .have:=h.2; rw[z] at this; simp at this
variable{k:Nat}{f:Addr}{fd:FuncData}{ps:List Str}{es:List Expr}{g:List W→M W}{ms:List ME}{id:String}
theorem c_(h:glB sc x=true)(F:FnOk X.prog X.w X.K X.mg X.base CX0 k f fd ps (spM X.K cl g))(hr:Room k X.A)(hm:X.mg x=some (.ref f))(hk:PySem.W.keepIn X.K (.ref f)=true)(hb:Binds X.K fd ps [])
  (ha:SA X cl (e::es) ms) (hs:X.env.scope=sc:=by rfl) (hst:starEach (e::es) X.env=(false,eval e X.env)::starEach es X.env:=by rfl) (hpl:(backTo pos (starEach es X.env)).any (·.1)=false:=by rfl):SE X cl (.Call (.Name x p) (e::es) [] pos) (eArgs g ms):=
 se_call F hr hm hk hb ha (gl_of h hs).1 (gl_of h hs).2.1 hst hpl
theorem c0_(h:glB sc x=true)(F:FnOk X.prog X.w X.K X.mg X.base CX0 k f fd ps (spM X.K cl g))(hr:Room k X.A)(hm:X.mg x=some (.ref f))(hk:PySem.W.keepIn X.K (.ref f)=true)(hb:Binds X.K fd ps [])
  (hs:X.env.scope=sc:=by rfl):SE X cl (.Call (.Name x p) [] [] pos) (eArgs g []):=se_call0 F hr hm hk hb (gl_of h hs).1 (gl_of h hs).2.1
theorem cB_(h:glB sc x=true)(hc:CallR X (.builtin id) (rMs X.K cl g))(hm:X.mg x=none)(hv:bootBuiltins x=some (.builtin id))(ha:SA X cl (e::es) ms)(hs:X.env.scope=sc:=by rfl)(hst:starEach (e::es) X.env=(false,eval e X.env)::starEach es X.env:=by rfl)(hpl:(backTo pos (starEach es X.env)).any (·.1)=false:=by rfl) :
  SE X cl (.Call (.Name x p) (e::es) [] pos) (eArgs g ms):=se_callB hc hm hv ha (gl_of h hs).1 (gl_of h hs).2.2 (gl_of h hs).2.1 hst hpl
theorem cT_(h:glB sc x=true)(hc:CallR X (.type id) (rMs X.K cl g))(hm:X.mg x=none)(hv:bootBuiltins x=some (.type id))(ha:SA X cl (e::es) ms)(hs:X.env.scope=sc:=by rfl)(hst:starEach (e::es) X.env=(false,eval e X.env)::starEach es X.env:=by rfl)(hpl:(backTo pos (starEach es X.env)).any (·.1)=false:=by rfl) :
  SE X cl (.Call (.Name x p) (e::es) [] pos) (eArgs g ms):=se_callTy hc hm hv ha (gl_of h hs).1 (gl_of h hs).2.2 (gl_of h hs).2.1 hst hpl
theorem gb_{w:W}(h:glB sc x=true)(G:Glob X.K X.mg x w)(hs:X.env.scope=sc:=by rfl):SE X cl (.Name x pos) (eC w):=G.se (gl_of h hs).1 (gl_of h hs).2.1
theorem isi_(T:Ty){y:Str}{p2:Pos}{a:Expr}{ma:ME}(h:glB sc "isinstance" = true)(h2:glB sc y=true)(ha:SE X cl a ma)(hi:X.mg "isinstance" = none)(ht:X.mg y=none)(hv:bootBuiltins y=some (.type T.name))(hs:X.env.scope=sc:=by rfl)
  (hs1:starEach [a,.Name y p2] X.env=(false,eval a X.env)::starEach [.Name y p2] X.env:=by rfl) (hs2:starEach [.Name y p2] X.env=(false,eval (.Name y p2) X.env)::starEach [] X.env:=by rfl)
  (hpl:(backTo pos (starEach [.Name y p2] X.env)).any (·.1)=false:=by rfl):SE X cl (.Call (.Name "isinstance" p) [a,.Name y p2] [] pos) (eUn (isW T) ma):=
 se_isi T ha hi ht hv (gl_of h hs).1 (gl_of h2 hs).1 (gl_of h2 hs).2.2 (gl_of h2 hs).2.1 hs1 hs2 hpl
variable{a:Expr}{ma:ME}{l:List (Str×W)}
theorem tI_(h:glB sc x=true)(hu:X.A.units+64<cLine)(T:TabOk X.K X.w.params X.mg x l)(ha:SE X cl a ma)(hs:X.env.scope=sc:=by rfl)(hm:behindInMarks .In (.Name x p)=false:=by first | exact nomark _ | rfl):SE X cl (.Compare a [.In] [.Name x p] pos) (eUn (tabIn false l) ma):=se_tabIn hu T ha hm (gl_of h hs).1 (gl_of h hs).2.1
theorem tN_(h:glB sc x=true)(hu:X.A.units+64<cLine)(T:TabOk X.K X.w.params X.mg x l)(ha:SE X cl a ma)(hs:X.env.scope=sc:=by rfl)(hm:behindInMarks .NotIn (.Name x p)=false:=by first | exact nomark _ | rfl):SE X cl (.Compare a [.NotIn] [.Name x p] pos) (eUn (tabIn true l) ma):=se_tabInN hu T ha hm (gl_of h hs).1 (gl_of h hs).2.1
theorem tG_(h:glB sc x=true)(hu:X.A.units+64<cLine)(T:TabOk X.K X.w.params X.mg x l)(ha:SE X cl a ma)(hs:X.env.scope=sc:=by rfl)(hp:PlainIx a:=by exact fun _ _=>rfl):SE X cl (.Subscript (.Name x p) a pos) (eUn (tabGet l) ma):=se_tabGet hu T ha hp (gl_of h hs).1 (gl_of h hs).2.1
theorem rng_{tg:Expr}(h:glB sc "range" = true)(hm:X.mg "range" = none)(ha:SA X cl [e] ms)(hs:X.env.scope=sc:=by rfl)(hst:starEach [e] X.env=[(false,eval e X.env)]:=by rfl):SI X cl tg (.Call (.Name "range" p) [e] [] pos) (iRng ms):=si_rng hm ha (gl_of h hs).1 hst
theorem enu_{elts:List Expr}{n:Nat}{tpos:Pos}(h:glB sc "enumerate" = true)(hm:X.mg "enumerate" = none)(ha:SA X cl [e] ms)(hs:X.env.scope=sc:=by rfl)(hst:starEach [e] X.env=(false,eval e X.env)::starEach [] X.env:=by rfl)(hpl:(backTo pos (starEach [] X.env)).any (·.1)=false:=by rfl) :
  SI X cl (.Tuple elts n tpos) (.Call (.Name "enumerate" p) [e] [] pos) (iEnum ms):=si_enum hm ha (gl_of h hs).1 hst hpl
theorem zip_{elts:List Expr}{n:Nat}{tpos:Pos}{e2:Expr}(h:glB sc "zip" = true)(hm:X.mg "zip" = none)(ha:SA X cl [e,e2] ms)(hs:X.env.scope=sc:=by rfl)(hst:starEach [e,e2] X.env=(false,eval e X.env)::starEach [e2] X.env:=by rfl)(hpl:(backTo pos (starEach [e2] X.env)).any (·.1)=false:=by rfl) :
  SI X cl (.Tuple elts n tpos) (.Call (.Name "zip" p) [e,e2] [] pos) (iZip ms):=si_zip hm ha (gl_of h hs).1 hst hpl
theorem lset_{p2 p3:Pos}(h:glB sc "len" = true)(h2:glB sc "set" = true)(hc:X.calm=true)(hl:X.mg "len" = none)(hse:X.mg "set" = none)(ha:SE X cl a ma)(hs:X.env.scope=sc:=by rfl)
  (he1:starEach [a] X.env=(false,eval a X.env)::starEach [] X.env:=by rfl) (hpl1:(backTo p3 (starEach [] X.env)).any (·.1)=false:=by rfl)
  (he2:starEach [.Call (.Name "set" p2) [a] [] p3] X.env=(false,eval (.Call (.Name "set" p2) [a] [] p3) X.env)::starEach [] X.env:=by rfl) (hpl2:(backTo pos (starEach [] X.env)).any (·.1)=false:=by rfl) :
  SE X cl (.Call (.Name "len" p) [.Call (.Name "set" p2) [a] [] p3] [] pos) (eUn lenSet ma):=se_lenSet hc hl hse ha (gl_of h hs).1 (gl_of h2 hs).1 he1 hpl1 he2 hpl2
end
end ML
namespace ML
open PySem PySem.Spec PyProof.Rows L2
section
variable{X:Cx}{cl:Nat→Addr}{a:Expr}{ma:ME}{x:Str}{l:List (Str×W)}{p pos:Pos}{sc:Scope}
theorem st_tab{op:CmpOp}(neg:Bool)(ho:∀{A:Around} {E:Value→Shared→Prop} {s:Shared} {d:Addr} {f:Str→Option Value} {k:Str} {t:Tok} {Q:Value→Shared→Prop},(d==sysModules)=false→s.heap.MapOf (strKind X.prog X.w) d f→Q (.bool (if neg then !(f k).isSome else (f k).isSome)) { s with toks:=s.toks+1 }→wpAny (model X.prog X.w) A (compareOp op (.str k t) (.ref d)) Q E s)
  (T:TabOk X.K X.w.params X.mg x l) (ha:SE X cl a ma) (hm:behindInMarks op (.Name x p)=false) (hg:Gl X x) (hd:(x==("__debug__":Str))=false):ST X cl (.Compare a [op] [.Name x p] pos) (tVal (eUn (tabIn neg l) ma)):=by
 obtain⟨d,es,n,e1,e2,e3,e4,e5⟩:=T.ex
 have hop:OpR X (compareOp op) (fun x y H Q=>∃k,x=.str k∧y=.ref d∧Q (.bl (if neg then !(l.lookup k).isSome else (l.lookup k).isSome)) H):=by
  rintro pins s σ H x y v u Q I rx ry ⟨k,rfl,rfl,q⟩
  obtain⟨t,rfl⟩:=rx
  cases ry
  refine ho e4 (TabOk.at I e2 e3) ?_
  have fk:(findBy Value.isStrOf es k).isSome=(l.lookup k).isSome:=by
   have:=e5.find (k:=k)
   unfold findBy
   rw[←Array.find?_toList]
   cases ek:l.lookup k with
   | none=>rw[ek] at this; rw[this]; rfl
   | some w=>rw[ek] at this; obtain⟨v,e,_⟩:=this; rw[e]; rfl
  rw[fk]
  exact⟨.bl _,H,I.tok _,rfl,q⟩
 refine PT.wk (pt_cmpR hop ha (pe_glob hg e1 (show RelV (.ref d) (.ref d) from rfl) hd) hm) fun σ H Q q=>?_
 obtain⟨μ,h,ρ,w,h',R,er,e,k⟩:=tval_read q
 obtain⟨y,h1,f1,e⟩:=of_bnd e
 refine⟨μ,h,ρ,y,h1,R,er,f1,fun μ1 H1 vx E1 R1 rx=>?_⟩
 unfold tabIn at e
 split at e
 .cases e
  exact⟨_,rx.str_of,rfl,k μ1 H1 _ E1 R1 (.bl _)⟩
 .cases e
theorem tIt_(h:glB sc x=true)(hu:X.A.units+64<cLine)(T:TabOk X.K X.w.params X.mg x l)(ha:SE X cl a ma)(hs:X.env.scope=sc:=by rfl)(hm:behindInMarks .In (.Name x p)=false:=by first | exact nomark _ | rfl):ST X cl (.Compare a [.In] [.Name x p] pos) (tVal (eUn (tabIn false l) ma)):=
 st_tab false (fun {A E s d f k t Q} h1 h2 h3=>wpAny_in_of (strKind_is X.prog X.w k t) h1 h2 h3) T ha hm (gl_of h hs).1 (gl_of h hs).2.1
theorem tNt_(h:glB sc x=true)(hu:X.A.units+64<cLine)(T:TabOk X.K X.w.params X.mg x l)(ha:SE X cl a ma)(hs:X.env.scope=sc:=by rfl)(hm:behindInMarks .NotIn (.Name x p)=false:=by first | exact nomark _ | rfl):ST X cl (.Compare a [.NotIn] [.Name x p] pos) (tVal (eUn (tabIn true l) ma)):=
 st_tab true (fun {A E s d f k t Q} h1 h2 h3=>wpAny_notIn_of (strKind_is X.prog X.w k t) h1 h2 h3) T ha hm (gl_of h hs).1 (gl_of h hs).2.1
end
noncomputable def nodupB(l:List Str):Bool:=decide l.Nodup
theorem nd_of{l:List Str}(h:nodupB l=true:=by kernel_rfl):l.Nodup:=of_decide_eq_true h
structure FTxt(K:PySem.W.Frag)(mg:Str→Option Value)(x:Str)(st:Stmt)(ps:List Str)(a:Addr)(d:FuncData):Prop where
 F:Fun K x x st a d
 B:Binds K d ps []
 m:mg x=some (.ref a)
theorem ftxt_bindsTo{K:PySem.W.Frag}{x y:Str}{st:Stmt}{f:Addr}{fd:FuncData}(F:Fun K x x st f fd)
  (hb:∀(kV doc pm:Value) (an:Option Addr) (cdv ct:Value) (us:List Value),us.length=[y].length→bindArgs (PySem.W.fnOf x x (defArgs st) (defBody st) (defScope st) .none kV doc pm an cdv ct) ⟨us,[]⟩=pure ([y].zip us)):∀(s:Shared) (v:Value),BindsTo s fd ⟨[v],[]⟩ [(y,v)]:=by
 intro s v
 obtain⟨oc,od,kV,doc,pm,an,cdv,ct,osl,rfl,lk,hcd⟩:=F.ex
 exact .of_eq (hb kV doc pm an cdv ct [v] rfl)
noncomputable def spL(f:List W→M W)(K:PySem.W.Frag):Sp:=spM K (fun _=>0) f
theorem spL_of{f:List W→M W}(hf:∀ns:List Int,ns.length≤63→∃h',f [.fls (ns.map W.int)] []=some (.bl true,h'))(K:PySem.W.Frag)(H:Hp)(a:Addr)(ns:List Int)(hl:ns.length≤63)(hS:SqL K H a (ns.map V.int)):spL f K [.ref a] H (fun v _=>v=.bl true) fun _ _ _=>False:=by
 obtain⟨h',e⟩:=hf ns hl
 refine⟨[],[],[.fls (ns.map W.int)],.bl true,h',⟨rfl,List.nodup_nil,fun n a o e=>by simp at e⟩,.cons (.fls ?_ (RWs.ints ns)) .nil,e,fun μ' H' v E R r=>r.bl_of⟩
 rcases hS with hS | hS
 .exact .inl ⟨hS,by simp⟩
 .exact .inr hS
noncomputable def dgetW(x y:W):M W:=fun h=>match getDi h x,keyOf y with
 | some l,some k=>match valW l k with
  | some w=>some (w,h)
  | none=>none
 | _,_=>none
noncomputable def putM(x y v:W):M W:=fun h=>match x with
 | .ref n=>match h[n]? with
  | some (.dic l)=>match keyOf y with
   | some k=>if l.length<cap then some (.non,h.set n (.dic (putW l k v))) else none
   | none=>none
  | some (.lst l)=>match y with
   | .int i=>match ixN l.length i with
    | some j=>some (.non,h.set n (.lst (l.set j v)))
    | none=>none
   | _=>none
  | _=>none
 | _=>none
noncomputable def gPut(mo mi:ME):MG:=fun v ρ=>bnd (mo ρ) fun x=>bnd (mi ρ) fun y=>bnd (putM x y v) fun _ h=>some (ρ,h)
section
variable{X:Cx}{cl:Nat→Addr}{o i:Expr}{mo mi:ME}{pos:Pos}
inductive rPut(K:PySem.W.Frag)(cl:Nat→Addr)(o:V)(i:V)(v:V)(H:Hp)(Q:Hp→Prop):Prop
 | mk (μ:List Addr) (h:MH) (wo:W) (wi:W) (wv:W) (w:W) (h':MH) (p0:HR K cl μ H h) (p1:RW K μ H wo o) (p2:RW K μ H wi i) (p3:RW K μ H wv v) (p4:putM wo wi wv h=some (w,h')) (p5:∀μ' H',Ext μ H μ' H'→HR K cl μ' H' h'→Q H'):rPut K cl o i v H Q
theorem set_M(hu:X.A.units+64<cLine):PSet X (rPut X.K cl):=by
 rintro pins s σ H o i v ov iv u Q I ro ri rv ⟨μ,h,wo,wi,wv,w,h',R,ao,ai,av,e,k⟩
 unfold putM at e
 split at e
 .rename_i n
  cases ao with | @ref _ p hn=>
  split at e
  .rename_i l ho
   split at e
   .rename_i kk ek
    split at e
    .rename_i hl
     cases e
     obtain⟨l',hp,rk⟩:=R.ob n p _ hn ho
     have pr:=RKs.pr rk
     have hk:=key_of_rw ai ek
     subst hk
     cases ro
     have hl':l'.length<sizeLine:=by rw[←pr.len]; exact Nat.lt_of_lt_of_le hl cap_le
     refine wpAny_mono (d_setItem (by omega) I (.inl ⟨l',kk,hp,rfl,hl',rfl⟩) ri rv fun s' I'=>?_) (fun _ _ z=>z) fun _ _ z=>z
     have E:Ext μ H μ (upd H p (.dK (putK l' kk v))):=Ext.put hn
     exact⟨_,I',k μ _ E (R.put hn ⟨_,upd_same,((pr.put av).ext R E).rk⟩)⟩
    .cases e
   .cases e
  .rename_i l ho
   split at e
   .rename_i j
    split at e
    .rename_i j' ej
     cases e
     obtain⟨vs,hp,rs⟩:=R.ob n p _ hn ho
     have hi:=ai.int_of
     subst hi
     have E:Ext μ H μ (upd H p (.lst (vs.set j' v))):=Ext.put hn
     refine set_list pins s σ H _ _ v ov iv u Q I ro ri rv ⟨p,vs,j,j',rfl,rfl,hp,by rw[←rs.length]; exact ej,k μ _ E (R.put hn ⟨_,upd_same,(RWs.set av _ rs).ext R E⟩)⟩
    .cases e
   .cases e
  .cases e
 .cases e
theorem sg_put(hu:X.A.units+64<cLine)(ho:SE X cl o mo)(hi:SE X cl i mi)
  (ha:∀v,assign (.Subscript o i pos) X.env v=(do
   let ov ←holding [v] (eval o X.env)
   let iv ←holding [v,ov] (eval i X.env)
   standAt pos
   holding [v,ov,iv] (setItem ov iv v)
   release [v,ov,iv] []):=by intro _; rfl):SG X cl (.Subscript o i pos) (gPut mo mi):=
 PG.wk (pg_sub ho hi (set_M hu) ha) fun v σ H Q q0=>by
  obtain⟨μ,h,ρ,w,ρ',h',R,er,rv,e,k⟩:=q0
  obtain⟨x,h1,e1,e⟩:=of_bnd e
  obtain⟨y,h2,e2,e⟩:=of_bnd e
  obtain⟨z,h3,e3,e⟩:=of_bnd e
  cases e
  refine⟨μ,h,ρ,x,h1,R,er,e1,fun μ1 H1 vx E1 R1 rx=>⟨μ1,h1,ρ,y,h2,R1,er.ext R E1,e2,fun μ2 H2 vy E2 R2 ry=>?_⟩⟩
  refine⟨μ2,h2,x,y,w,z,_,R2,rx.ext R1 E2,ry,(rv.ext R E1).ext R1 E2,e3,fun μ3 H3 E3 R3=>?_⟩
  exact k μ3 H3 σ (E1.trans (E2.trans E3)) R3 (((er.ext R E1).ext R1 E2).ext R2 E3)
end
noncomputable def slM(x:W)(lo hi:Option Int):M W:=fun h=>match getL h x with
 | some l=>some (.ref h.length,h++[.lst (cutW l lo hi)])
 | none=>none
noncomputable def eSlM(a:ME)(lo hi:Option ME):ME:=fun ρ=>bnd (a ρ) fun x=>bnd (mPart lo ρ) fun l=>bnd (mPart hi ρ) fun u=>slM x l u
section
variable{X:Cx}{cl:Nat→Addr}{a:Expr}{ma:ME}{pos p2:Pos}
theorem se_slM{lo hi:Option Expr}{ml mh:Option ME}(ha:SE X cl a ma)(hl:SO X cl lo ml)(hh:SO X cl hi mh):SE X cl (.Subscript a (.Slice lo hi none p2) pos) (eSlM ma ml mh):=by
 have hr:SlR X (fun x lo hi H Q=>∃μ h wx w h',HR X.K cl μ H h∧RW X.K μ H wx x∧slM wx lo hi h=some (w,h')∧KQ X.K cl μ H h' w Q):=by
  rintro pins s σ H x v vl vu lo hi sl Q I rx hs pl pu ⟨μ,h,wx,w,h',R,ax,e,k⟩
  unfold slM at e
  split at e
  .rename_i l el
   cases e
   obtain⟨a,vs,rfl,sa,ra⟩:=getL_of R ax el
   exact sl_list pins s σ H _ v vl vu lo hi sl Q I rx hs pl pu ⟨a,vs,rfl,sa,fun p hp=>k.lst R (ra.cutW lo hi) hp⟩
  .cases e
 refine PE.wk (pe_slice hr ha hl hh) fun σ H Q ⟨μ,h,ρ,w,h',R,er,e,k⟩=>?_
 obtain⟨x,h1,e1,e⟩:=of_bnd e
 obtain⟨l,h2,e2,e⟩:=of_bnd e
 obtain⟨u,h3,e3,e⟩:=of_bnd e
 exact⟨μ,h,ρ,x,h1,R,er,e1,fun μ1 H1 vx E1 R1 rx=>⟨μ1,h1,ρ,l,h2,R1,er.ext R E1,e2,fun μ2 H2 E2 R2=>⟨μ2,h2,ρ,u,h3,R2,(er.ext R E1).ext R1 E2,e3,fun μ3 H3 E3 R3=>
  ⟨μ3,h3,x,w,h',R3,(rx.ext R1 E2).ext R2 E3,e,k.ext (E1.trans (E2.trans E3))⟩⟩⟩⟩
end
noncomputable def noStar:Expr→Bool
 | .Starred ..=>false
 | _=>true
noncomputable def noComp:Expr→Bool
 | .ListComp ..=>false
 | .SetComp ..=>false
 | .DictComp ..=>false
 | _=>true
noncomputable def noSet:Expr→Bool
 | .Set ..=>false
 | _=>true
noncomputable def noTup:Expr→Bool
 | .Tuple ..=>false
 | _=>true
noncomputable def noSlice:Expr→Bool
 | .Slice ..=>false
 | _=>true
noncomputable def plainT:Expr→Bool
 | .UnaryOp ..=>false
 | .BoolOp ..=>false
 | .IfExp ..=>false
 | .Compare ..=>false
 | _=>true
noncomputable def noCall:Expr→Bool
 | .Call ..=>false
 | _=>true
section
variable{e tg o:Expr}{es:List Expr}{env:Env}{pos:Pos}
theorem star_cons(h:noStar e=true):starEach (e::es) env=(false,eval e env)::starEach es env:=by
 cases e<;>first | (cases h; done) | kernel_rfl
theorem star_nil:starEach [] env=[]:=by kernel_rfl
theorem back_cons(h:noStar e=true):backTo pos (starEach (e::es) env)=(false,eval e env)::backTo pos (starEach es env):=by
 rw[star_cons h]; rfl
theorem star_plain:∀{es:List Expr},es.all noStar=true→(backTo pos (starEach es env)).any (·.1)=false
 | [],_=>by rw[star_nil]; rfl
 | e::es,h=>by
  rw[List.all_cons,Bool.and_eq_true] at h
  rw[back_cons h.1,List.any_cons,star_plain h.2]
  rfl
theorem star_all:∀{es:List Expr},es.all noStar=true→(backTo pos (starEach es env)).all (fun x=>!x.1)=true
 | [],_=>by rw[star_nil]; rfl
 | e::es,h=>by
  rw[List.all_cons,Bool.and_eq_true] at h
  rw[back_cons h.1,List.all_cons,star_all h.2]
  rfl
theorem few_of(h:es.all noStar=true)(hl:decide (es.length<30)=true):((backTo pos (starEach es env)).all (fun x=>!x.1)&&(backToKw pos (keywordEach [] env)).all (fun x=>x.1.isSome)
   && decide (es.length+([]:List Keyword).length+(if ([]:List Keyword).isEmpty then 0 else 1)<30))=true:=by
 rw[star_all h]
 have:(keywordEach [] env)=[]:=by kernel_rfl
 rw[this]
 simpa[backToKw] using hl
theorem swaps_no{t:Option Expr}{l:Nat}(h:noComp e=true):swapsWith e t l env=pure false:=by
 cases e<;>first | (cases h; done) | rfl
theorem swapped_no{ts:List Expr}{n:Nat}{p:Pos}(h:noTup e=true):swappedStores [.Tuple ts n p] e env=pure none:=by
 cases e<;>first | (cases h; done) | rfl
theorem assign_cons(h:noStar e=true):assignEach (e::es) env=(false,assign e env)::assignEach es env:=by
 cases e<;>first | (cases h; done) | kernel_rfl
theorem assign_nil:assignEach [] env=[]:=by kernel_rfl
theorem assign_len:∀{es:List Expr},es.all noStar=true→(assignEach es env).length=es.length
 | [],_=>by rw[assign_nil]; rfl
 | e::es,h=>by
  rw[List.all_cons,Bool.and_eq_true] at h
  rw[assign_cons h.1,List.length_cons,assign_len h.2]
  rfl
theorem assign_find:∀{es:List Expr},es.all noStar=true→(assignEach es env).findIdx? (·.1)=none
 | [],_=>by rw[assign_nil]; rfl
 | e::es,h=>by
  rw[List.all_cons,Bool.and_eq_true] at h
  rw[assign_cons h.1,List.findIdx?_cons,assign_find h.2]
  rfl
theorem folded_no(h:noSet e=true):∀x,foldedSetIterable e env x=pure x:=by
 intro x
 cases e<;>first | (cases h; done) | rfl
theorem base_no{a:Str}{whole:Sem Value}(h:noCall o=true):attributeBase o a env whole=whole:=by
 cases o<;>first | (cases h; done) | rfl
theorem truth_no(h:plainT e=true):∀whole,isTrue e env whole=(do let v ←whole; standAt e.pos; holding [v] (truthy v)):=by
 intro whole
 cases e<;>first | (cases h; done) | kernel_rfl
theorem ix_no(h:noSlice e=true):PlainIx e:=by
 intro o i
 cases e<;>first | (cases h; done) | rfl
end
structure RC where
 sc:Scope
 N:List Str
 inC:Bool
 fns:List (Str×(List W→M W))
 con:List (Str×W)
 tab:List (Str×List (Str×W))
 bin:List Str
 own:List Str
 txt:List Str
 cmp:List ((Nat×Nat)×List Str)
noncomputable def FnAt(P:Program)(w:World)(K:PySem.W.Frag)(mg:Str→Option Value)(base:Heap)(cl:Nat→Addr)(k:Nat)(x:Str)(g:List W→M W):Prop:=
 ∃f fd ps,FnOk P w K mg base CX0 k f fd ps (spM K cl g)∧mg x=some (.ref f)∧PySem.W.keepIn K (.ref f)=true∧Binds K fd ps []
noncomputable def AllOf{α:Type}(P:Str→α→Prop):List (Str×α)→Prop
 | []=>True
 | (x,g)::r=>P x g∧AllOf P r
theorem AllOf.at{α:Type}{P:Str→α→Prop}{x:Str}{g:α}:∀{l:List (Str×α)},AllOf P l→l.lookup x=some g→P x g
 | [],_,e=>by cases e
 | (y,g')::r,h,e=>by
  rw[List.lookup_cons] at e
  cases q:x==y with
  | true=>rw[q] at e; cases e; rw[eq_of_beq q]; exact h.1
  | false=>rw[q] at e; exact AllOf.at h.2 e
noncomputable def AllNone(mg:Str→Option Value):List Str→Prop
 | []=>True
 | x::r=>mg x=none∧AllNone mg r
theorem AllNone.at{mg:Str→Option Value}{x:Str}:∀{l:List Str},AllNone mg l→x∈l→mg x=none
 | y::r,h,e=>by
  rcases List.mem_cons.mp e with rfl | e
  .exact h.1
  .exact AllNone.at h.2 e
structure BaseOk(P:Program)(w:World)(K:PySem.W.Frag)(mg:Str→Option Value)(base:Heap)(cl:Nat→Addr)(k:Nat)(Γ:RC):Prop where
 fns:AllOf (FnAt P w K mg base cl k) Γ.fns
 con:AllOf (Glob K mg) Γ.con
 tab:AllOf (TabOk K w.params mg) Γ.tab
 bin:AllNone mg Γ.bin
structure Fits(Γ:RC)(cl:Nat→Addr)(k:Nat)(X:Cx):Prop where
 sc:X.env.scope=Γ.sc
 N:X.N=Γ.N
 nd:X.N.Nodup
 fn:Γ.inC=false→∀x,X.fn x=true
 kind:Γ.sc.kind=.function
 calm:X.calm=true
 pass:PassesOwn (model X.prog X.w) X.A X.env X.xe
 room:Room k X.A
 base:BaseOk X.prog X.w X.K X.mg X.base cl k Γ
noncomputable def ixOf(x:Str):List Str→Option Nat
 | []=>none
 | y::r=>if y==x then some 0 else (ixOf x r).map (· + 1)
noncomputable def xName(Γ:RC)(x:Str):Option ME:=match ixOf x Γ.N with
 | some i=>if varB Γ.sc Γ.N i x=true then some (eVar i) else none
 | none=>match Γ.con.lookup x with
  | some w=>if glB Γ.sc x=true then some (eC w) else none
  | none=>none
noncomputable def xConst:Const→Option ME
 | .none=>some (eC .non)
 | .bool b=>some (eC (.bl b))
 | .int i=>some (eC (.int i))
 | .str x=>some (eC (.str x))
 | _=>none
noncomputable def opB(mu:Bool):Operator→Option (W→W→M W)
 | .Add=>match mu with
  | true=>some addM
  | false=>some addW
 | .Sub=>some subW
 | .Mult=>some mulW
 | .Mod=>some modW
 | .FloorDiv=>some divW
 | .Pow=>some powW
 | _=>none
noncomputable def opC:CmpOp→Option (W→W→M W)
 | .Eq=>some (eqW false)
 | .NotEq=>some (eqW true)
 | .In=>some (inW false)
 | .NotIn=>some (inW true)
 | .Lt=>some ltW
 | .LtE=>some leW
 | .Gt=>some gtW
 | .GtE=>some geW
 | .Is=>some (isNonW true)
 | .IsNot=>some (isNonW false)
noncomputable def xTg1(Γ:RC):Expr→Option MG
 | .Name x _=>match ixOf x Γ.N with
  | some i=>match Γ.inC with
   | true=>if setC Γ.sc Γ.N i x=true then some (gNm i) else none
   | false=>if setB Γ.sc Γ.N i x=true then some (gNm i) else none
  | none=>none
 | _=>none
noncomputable def xTg(Γ:RC):Expr→Option MG
 | .Tuple es _ _=>if es.all noStar=true then (mapO (xTg1 Γ) es).map gTp else none
 | e=>xTg1 Γ e
noncomputable def tgN:Expr→Nat
 | .Tuple es _ _=>es.length
 | _=>1
section
variable{Γ:RC}{cl:Nat→Addr}{k:Nat}{X:Cx}{x:Str}{m:ME}{pos:Pos}
theorem xName_ok(F:Fits Γ cl k X)(h:xName Γ x=some m):SE X cl (.Name x pos) m:=by
 unfold xName at h
 split at h
 .split at h
  .rename_i i _ q
   cases h
   exact v_ q F.sc F.N
  .cases h
 .split at h
  .rename_i w e
   split at h
   .rename_i q
    cases h
    exact gb_ q (F.base.con.at e) F.sc
   .cases h
  .cases h
theorem xConst_ok{c:Const}{j:Nat}(h:xConst c=some m):SE X cl (.Constant c j pos) m:=by
 unfold xConst at h
 split at h
 .cases h; exact se_non
 .cases h; exact se_bl
 .cases h; exact se_int
 .cases h; exact se_str
 .cases h
theorem opB_ok{mu:Bool}{op:Operator}{f:W→W→M W}(h:opB mu op=some f):OpR X (binaryOp op) (rM X.K cl f):=by
 unfold opB at h
 split at h
 .split at h
  .cases h; exact op_addM
  .cases h; exact op_addW
 .cases h; exact op_subW
 .cases h; exact op_mulW
 .cases h; exact op_modW
 .cases h; exact op_divW
 .cases h; exact op_powW
 .cases h
theorem opC_ok{op:CmpOp}{f:W→W→M W}(hu:X.A.units+64<cLine)(h:opC op=some f):OpR X (compareOp op) (rM X.K cl f):=by
 cases op<;>cases h
 .exact op_eqW hu
 .exact op_neW hu
 .exact op_ltW
 .exact op_leW
 .exact op_gtW
 .exact op_geW
 .exact op_isW
 .exact op_isNotW
 .exact op_inW hu
 .exact op_notInW hu
theorem xTg1_ok{e:Expr}{g:MG}(F:Fits Γ cl k X)(h:xTg1 Γ e=some g):SG X cl e g:=by
 unfold xTg1 at h
 split at h
 .rename_i x p
  split at h
  .rename_i i _
   split at h
   .split at h
    .rename_i q
     cases h
     exact gc_ q (F.N▸F.nd) F.sc F.N
    .cases h
   .rename_i c
    split at h
    .rename_i q
     cases h
     exact g_ q (F.N▸F.nd) F.sc F.N (F.fn c _)
    .cases h
  .cases h
 .cases h
theorem mapO_cons{α β:Type}{f:α→Option β}{x:α}{r:List α}{ys:List β}(h:mapO f (x::r)=some ys):∃y zs,f x=some y∧mapO f r=some zs∧ys=y::zs:=by
 unfold mapO at h
 split at h
 .rename_i y zs e1 e2
  cases h
  exact⟨y,zs,e1,e2,rfl⟩
 .cases h
theorem xTgs_ok(F:Fits Γ cl k X):∀{es:List Expr} {gs:List MG},es.all noStar=true→mapO (xTg1 Γ) es=some gs→SGs X cl es gs
 | [],gs,_,h=>by cases h; exact sgs_nil
 | e::es,gs,hn,h=>by
  obtain⟨g,gs',h1,h2,rfl⟩:=mapO_cons h
  rw[List.all_cons,Bool.and_eq_true] at hn
  exact sgs_cons (xTg1_ok F h1) (xTgs_ok F hn.2 h2) (by rw[assign_cons hn.1]; rfl)
theorem mapO_len{α β:Type}{f:α→Option β}:∀{l:List α} {ys:List β},mapO f l=some ys→ys.length=l.length
 | [],ys,h=>by cases h; rfl
 | x::r,ys,h=>by
  obtain⟨y,zs,_,h2,rfl⟩:=mapO_cons h
  rw[List.length_cons,List.length_cons,mapO_len h2]
theorem xTg_ok{e:Expr}{g:MG}(F:Fits Γ cl k X)(h:xTg Γ e=some g):SG X cl e g:=by
 unfold xTg at h
 split at h
 .rename_i es n p
  split at h
  .rename_i hn
   rw[Option.map_eq_some_iff] at h
   obtain⟨gs,h1,rfl⟩:=h
   exact sg_tup F.calm (xTgs_ok F hn h1) (by rw[assign_len hn,mapO_len h1]) (assign_find hn)
  .cases h
 .exact xTg1_ok F h
end
end ML
namespace ML
open PySem
theorem below_go(xs:Array Nat)(j:Nat):∀(fuel lo hi:Nat),hi-lo≤fuel→lo≤hi→hi≤xs.size→(∀i (h:i<xs.size),i<lo→xs[i]<j)→(∀i (h:i<xs.size),hi≤i→j≤xs[i])→xs.toList.Pairwise (· < ·)→
  SetTable.below.go xs j fuel lo hi≤xs.size∧(∀i (h:i<xs.size),i<SetTable.below.go xs j fuel lo hi→xs[i]<j)∧∀i (h:i<xs.size),SetTable.below.go xs j fuel lo hi≤i→j≤xs[i]:=by
 intro fuel
 induction fuel with
 | zero=>
  intro lo hi h1 h2 h3 h4 h5 _
  have:lo=hi:=by omega
  subst this
  exact⟨h3,h4,h5⟩
 | succ f ih=>
  intro lo hi h1 h2 h3 h4 h5 hp
  unfold SetTable.below.go
  by_cases c:lo<hi
  .rw[if_pos c]
   have hm:(lo+hi)/2<xs.size:=by omega
   have e:xs.getD ((lo+hi)/2) j=xs[(lo+hi)/2]:=by simp[Array.getD,hm]
   have mono:∀a b (ha:a<xs.size) (hb:b<xs.size),a≤b→xs[a]≤xs[b]:=by
    intro a b ha hb q
    rcases Nat.lt_or_eq_of_le q with q | q
    .have:=List.pairwise_iff_getElem.mp hp a b (by simpa using ha) (by simpa using hb) q
     simpa using Nat.le_of_lt this
    .subst q; exact Nat.le_refl _
   dsimp only
   rw[e]
   by_cases d:xs[(lo+hi)/2]<j
   .rw[if_pos d]
    refine ih _ _ (by omega) (by omega) h3 (fun i h q=>?_) h5 hp
    exact Nat.lt_of_le_of_lt (mono i _ h hm (by omega)) d
   .rw[if_neg d]
    refine ih _ _ (by omega) (by omega) (by omega) h4 (fun i h q=>?_) hp
    exact Nat.le_trans (Nat.le_of_not_lt d) (mono _ i hm h q)
  .rw[if_neg c]
   have:lo=hi:=by omega
   subst this
   exact⟨h3,h4,h5⟩
theorem below_ok{xs:Array Nat}{j:Nat}(hp:xs.toList.Pairwise (· < ·)):SetTable.below xs j≤xs.size∧(∀i (h:i<xs.size),i<SetTable.below xs j→xs[i]<j)∧∀i (h:i<xs.size),SetTable.below xs j≤i→j≤xs[i]:=
 below_go xs j xs.size 0 xs.size (by omega) (by omega) (Nat.le_refl _) (fun i h q=>absurd q (by omega)) (fun i h q=>absurd h (by omega)) hp
theorem below_at{xs:Array Nat}{i:Nat}(hp:xs.toList.Pairwise (· < ·))(h:i<xs.size):SetTable.below xs xs[i]=i:=by
 obtain⟨a,b,c⟩:=below_ok (j:=xs[i]) hp
 rcases Nat.lt_trichotomy (SetTable.below xs xs[i]) i with q | q | q
 .have h1:SetTable.below xs xs[i]<xs.size:=by omega
  have h2:=c _ h1 (Nat.le_refl _)
  have h3:=List.pairwise_iff_getElem.mp hp _ i (by simpa using h1) (by simpa using h) q
  simp only[Array.getElem_toList] at h3
  omega
 .exact q
 .exact absurd (b i h q) (Nat.lt_irrefl _)
structure TOk(t:SetTable):Prop where
 nod:t.dummies = #[]
 up:t.place.toList.Pairwise (· < ·)
 le:∀j∈t.place.toList,j≤t.mask
 pow:∃k,3≤k∧t.mask+1=2 ^ k
 room:t.place.size≤t.mask
theorem has_nil(j:Nat):SetTable.has #[] j=false:=by unfold SetTable.has; simp
theorem slot_live{t:SetTable}(T:TOk t){i:Nat}(h:i<t.place.size):t.slot t.place[i]=.live i:=by
 unfold SetTable.slot
 dsimp only
 rw[below_at T.up h]
 simp[h]
theorem slot_empty{t:SetTable}(T:TOk t){j:Nat}(h:j∉t.place.toList):t.slot j=.empty:=by
 unfold SetTable.slot
 dsimp only
 rw[T.nod,has_nil]
 have:¬(t.place[SetTable.below t.place j]?==some j)=true:=by
  intro q
  have q:=eq_of_beq q
  obtain⟨h1,h2⟩:=Array.getElem?_eq_some_iff.mp q
  exact h (by rw[←h2]; simp)
 rw[if_neg this]
 rfl
theorem slot_of{t:SetTable}(T:TOk t)(j:Nat):(∃i,∃h:i<t.place.size,t.place[i]=j∧t.slot j=.live i)∨(j∉t.place.toList∧t.slot j=.empty):=by
 by_cases h:j∈t.place.toList
 .obtain⟨i,h1,h2⟩:=List.getElem_of_mem h
  have h1':i<t.place.size:=by simpa using h1
  have h2':t.place[i]=j:=by simpa using h2
  exact .inl ⟨i,h1',h2',by rw[←h2']; exact slot_live T h1'⟩
 .exact .inr ⟨h,slot_empty T h⟩
theorem range_le:∀(n:Nat) (l:List Nat),(∀j,j<n→j∈l)→n≤l.length
 | 0,_,_=>Nat.zero_le _
 | n+1,l,h=>by
  have h1:=range_le n (l.erase n) fun j q=>by
   have:j≠n:=by omega
   exact(List.mem_erase_of_ne this).mpr (h j (by omega))
  rw[List.length_erase_of_mem (h n (by omega))] at h1
  have:0<l.length:=List.length_pos_of_mem (h n (by omega))
  omega
theorem some_empty{t:SetTable}(T:TOk t):∃j,j≤t.mask∧j∉t.place.toList:=by
 by_cases q:∃j,j≤t.mask∧j∉t.place.toList
 .exact q
 .have h:=range_le (t.mask+1) t.place.toList fun j hj=>by
   by_cases m:j∈t.place.toList
   .exact m
   .exact absurd ⟨j,by omega,m⟩ q
  have:=T.room
  simp at h
  omega
def gw(x:Nat):Nat→Nat
 | 0=>x
 | m+1=>5*gw x m+1
theorem gw_add(x:Nat)(a:Nat):∀b,gw x (a+b)=gw (gw x a) b
 | 0=>rfl
 | b+1=>by show 5*gw x (a+b)+1=_; rw[gw_add x a b]; rfl
theorem gw_pow(x:Nat):∀m,4*gw x m+1=5 ^ m*(4*x+1)
 | 0=>by simp[gw]
 | m+1=>by
  have:=gw_pow x m
  rw[Nat.pow_succ,Nat.mul_right_comm,←this]
  show 4*(5*gw x m+1)+1=_
  omega
theorem five(k:Nat):∃c,5 ^ (2 ^ k)=1+2 ^ (k+2)*(2*c+1):=by
 induction k with
 | zero=>exact⟨0,rfl⟩
 | succ k ih=>
  obtain⟨c,e⟩:=ih
  refine⟨c+2 ^ k*(2*c+1)*(2*c+1),?_⟩
  rw[Nat.pow_succ 2 k,Nat.pow_mul,e]
  have h2:2 ^ (k+1+2)=8*2 ^ k:=by rw[Nat.pow_add,Nat.pow_add]; omega
  have h3:2 ^ (k+2)=4*2 ^ k:=by rw[Nat.pow_add]; omega
  rw[h2,h3]
  generalize 2 ^ k=p
  grind
theorem gw_round(x k:Nat):∃c,gw x (2 ^ k)=x+2 ^ k*(2*c+1):=by
 obtain⟨c,e⟩:=five k
 have h:=gw_pow x (2 ^ k)
 rw[e] at h
 have h3:2 ^ (k+2)=4*2 ^ k:=by rw[Nat.pow_add]; omega
 rw[h3] at h
 refine⟨c+(2*c+1)*(2*x),?_⟩
 generalize 2 ^ k=p at *
 have e2:(1+4*p*(2*c+1))*(4*x+1)=4*(x+p*(2*(c+(2*c+1)*(2*x))+1))+1:=by grind
 omega
theorem gw_all(k:Nat):∀x y:Nat,∃m,m<2 ^ k∧gw x m%2 ^ k=y%2 ^ k:=by
 induction k with
 | zero=>intro x y; exact⟨0,by simp,by simp[Nat.mod_one]⟩
 | succ k ih=>
  intro x y
  obtain⟨m,hm,e⟩:=ih x y
  have hp:2 ^ (k+1)=2*2 ^ k:=by rw[Nat.pow_succ]; omega
  have pos:0<2 ^ k:=Nat.two_pow_pos k
  obtain⟨c,e2⟩:=gw_round (gw x m) k
  rw[←gw_add] at e2
  rw[hp]
  generalize 2 ^ k=p at *
  by_cases q:gw x m%(2*p)=y%(2*p)
  .exact⟨m,by omega,q⟩
  .refine⟨m+p,by omega,?_⟩
   rw[e2]
   have a1:gw x m=p*(gw x m/p)+gw x m%p:=(Nat.div_add_mod _ _).symm
   have a2:y=p*(y/p)+y%p:=(Nat.div_add_mod _ _).symm
   have r1:=Nat.mod_lt y pos
   rw[e] at a1
   generalize gw x m/p=u at *
   generalize y/p=v at *
   generalize y%p=r at *
   generalize gw x m=g at *
   subst a1 a2
   have par:∀n:Nat,(p*n+r)%(2*p)=p*(n%2)+r:=by
    intro n
    have:p*n+r=(p*(n%2)+r)+(2*p)*(n/2):=by
     have:n=n%2+2*(n/2):=by omega
     rw[this]; grind
    rw[this,Nat.add_mul_mod_self_left]
    apply Nat.mod_eq_of_lt
    have:n%2<2:=Nat.mod_lt _ (by omega)
    have:p*(n%2)≤p*1:=Nat.mul_le_mul_left _ (by omega)
    omega
   have e3:p*u+r+p*(2*c+1)=p*(u+(2*c+1))+r:=by grind
   rw[e3,par,par]
   rw[par,par] at q
   have:u%2≠v%2:=fun z=>q (by rw[z])
   have:(u+(2*c+1))%2=v%2:=by omega
   rw[this]
def path(t:SetTable)(h:Int):Nat→SetTable.Probe
 | 0=>t.probeStart h
 | n+1=>t.advance (path t h n)
def lp(mask:Nat)(h:Int):Nat→Nat×Nat
 | 0=>(SetTable.bits h%(mask+1),SetTable.bits h)
 | n+1=>SetTable.leap mask (lp mask h n).1 (lp mask h n).2
theorem lp_two(mask:Nat)(h:Int):∀n,(lp mask h n).2=SetTable.bits h/32 ^ n
 | 0=>by simp[lp]
 | n+1=>by
  show(lp mask h n).2/32=_
  rw[lp_two mask h n,Nat.div_div_eq_div_mul,Nat.pow_succ]
theorem bits_lt(h:Int):SetTable.bits h<2 ^ 64:=by unfold SetTable.bits; omega
theorem lp_zero(mask:Nat)(h:Int)(n:Nat):(lp mask h (n+13)).2=0:=by
 rw[lp_two]
 have:=bits_lt h
 apply Nat.div_eq_of_lt
 have:32 ^ 13≤32 ^ (n+13):=Nat.pow_le_pow_right (by omega) (by omega)
 omega
theorem lp_one(mask:Nat)(h:Int)(n:Nat):(lp mask h (12+n)).1%(mask+1)=gw (lp mask h 12).1 n%(mask+1):=by
 induction n with
 | zero=>rfl
 | succ n ih=>
  show((lp mask h (12+n)).1*5+1+(lp mask h (12+n)).2/32)%(mask+1)%(mask+1)=(5*gw (lp mask h 12).1 n+1)%(mask+1)
  have z:(lp mask h (12+n)).2/32=0:=by
   have:=lp_zero mask h n
   have e:n+13=(12+n)+1:=by omega
   rw[e] at this
   exact this
  rw[z,Nat.mod_mod,Nat.add_zero,Nat.mul_comm]
  rw[Nat.add_mod,Nat.mul_mod,ih,←Nat.mul_mod,←Nat.add_mod]
theorem lp_lt(mask:Nat)(h:Int)(n:Nat):(lp mask h n).1<mask+1:=by
 cases n with
 | zero=>exact Nat.mod_lt _ (by omega)
 | succ n=>exact Nat.mod_lt _ (by omega)
theorem lp_all{mask k:Nat}(h:Int)(e:mask+1=2 ^ k){j:Nat}(hj:j≤mask):∃n,n≤mask+12∧(lp mask h n).1=j:=by
 obtain⟨m,hm,q⟩:=gw_all k (lp mask h 12).1 j
 refine⟨12+m,by omega,?_⟩
 have a:=lp_one mask h m
 rw[e,q,←e,Nat.mod_eq_of_lt (lp_lt ..),Nat.mod_eq_of_lt (by omega)] at a
 exact a
theorem run_le(mask i:Nat):SetTable.runEnd mask i-i≤9:=by unfold SetTable.runEnd; split<;>omega
def atHead(t:SetTable)(h:Int)(m:Nat):SetTable.Probe:=⟨(lp t.mask h m).1,SetTable.runEnd t.mask (lp t.mask h m).1-(lp t.mask h m).1,(lp t.mask h m).1,(lp t.mask h m).2,none⟩
theorem path_run(t:SetTable)(h:Int)(p:SetTable.Probe):∀(r n:Nat),path t h n={ p with more:=r }→∃j,path t h (n+r)={ p with j:=j,more:=0 }
 | 0,n,e=>⟨p.j,by rw[Nat.add_zero,e]⟩
 | r+1,n,e=>by
  have:path t h (n+1)={ ({ p with j:=p.j+1 }:SetTable.Probe) with more:=r }:=by
   show t.advance (path t h n)=_
   rw[e]
   unfold SetTable.advance
   rw[if_pos (by simp)]
   simp
  obtain⟨j,q⟩:=path_run t h { p with j:=p.j+1 } r (n+1) this
  exact⟨j,by rw[show n+(r+1)=n+1+r from by omega]; exact q⟩
theorem path_head(t:SetTable)(h:Int):∀m,∃n,n≤10*m∧path t h n=atHead t h m
 | 0=>⟨0,by omega,rfl⟩
 | m+1=>by
  obtain⟨n,hn,e⟩:=path_head t h m
  obtain⟨j,q⟩:=path_run t h (atHead t h m) (atHead t h m).more n e
  have r:=run_le t.mask (lp t.mask h m).1
  refine⟨n+(SetTable.runEnd t.mask (lp t.mask h m).1-(lp t.mask h m).1)+1,by omega,?_⟩
  show t.advance (path t h _)=_
  have q':path t h (n+(SetTable.runEnd t.mask (lp t.mask h m).1-(lp t.mask h m).1))=_:=q
  rw[q']
  unfold SetTable.advance
  rw[if_neg (by simp)]
  rfl
theorem path_all{t:SetTable}{k:Nat}(h:Int)(e:t.mask+1=2 ^ k){j:Nat}(hj:j≤t.mask):∃n,n<10*SetTable.turns t.mask∧(path t h n).j=j:=by
 obtain⟨m,hm,q⟩:=lp_all h e hj
 obtain⟨n,hn,q2⟩:=path_head t h m
 refine⟨n,by unfold SetTable.turns; omega,?_⟩
 rw[q2]; exact q
theorem path_dummy(t:SetTable)(h:Int):∀n,(path t h n).dummy=none
 | 0=>rfl
 | n+1=>by
  show(t.advance (path t h n)).dummy=none
  unfold SetTable.advance
  split
  .exact path_dummy t h n
  .exact path_dummy t h n
theorem path_le(t:SetTable)(h:Int):∀n,(path t h n).j+(path t h n).more≤t.mask∧(path t h n).i≤t.mask
 | 0=>by
  have:SetTable.bits h%(t.mask+1)<t.mask+1:=Nat.mod_lt _ (by omega)
  show SetTable.bits h%(t.mask+1)+(SetTable.runEnd t.mask (SetTable.bits h%(t.mask+1))-SetTable.bits h%(t.mask+1))≤_∧SetTable.bits h%(t.mask+1)≤_
  unfold SetTable.runEnd
  split<;>omega
 | n+1=>by
  obtain⟨a,b⟩:=path_le t h n
  show(t.advance (path t h n)).j+(t.advance (path t h n)).more≤_∧(t.advance (path t h n)).i≤_
  unfold SetTable.advance
  split
  .rename_i c
   show(path t h n).j+1+((path t h n).more-1)≤_∧(path t h n).i≤_
   omega
  .show((SetTable.leap t.mask (path t h n).i (path t h n).perturb).1)+(SetTable.runEnd t.mask (SetTable.leap t.mask (path t h n).i (path t h n).perturb).1-(SetTable.leap t.mask (path t h n).i (path t h n).perturb).1)≤_∧(SetTable.leap t.mask (path t h n).i (path t h n).perturb).1≤_
   have:(SetTable.leap t.mask (path t h n).i (path t h n).perturb).1<t.mask+1:=Nat.mod_lt _ (by omega)
   generalize (SetTable.leap t.mask (path t h n).i (path t h n).perturb).1=q at *
   unfold SetTable.runEnd
   split<;>omega
theorem first_of{p:Nat→Prop}:∀n,p n→∃m,m≤n∧p m∧∀k,k<m→¬p k:=by
 intro n
 induction n using Nat.strongRecOn with
 | _ n ih=>
  intro h
  by_cases q:∃k,k<n∧p k
  .obtain⟨k,a,b⟩:=q
   obtain⟨m,c,d,e⟩:=ih k a b
   exact⟨m,by omega,d,e⟩
  .exact⟨n,Nat.le_refl _,h,fun k hk hp=>q ⟨k,hk,hp⟩⟩
theorem first_empty{t:SetTable}(T:TOk t)(h:Int):∃N,N<10*SetTable.turns t.mask∧(path t h N).j∉t.place.toList∧∀k,k<N→(path t h k).j∈t.place.toList:=by
 obtain⟨j,hj,hn⟩:=some_empty T
 obtain⟨k,_,e⟩:=T.pow
 obtain⟨n,a,b⟩:=path_all h e hj
 obtain⟨m,c,d,f⟩:=first_of (p:=fun n=>(path t h n).j∉t.place.toList) n (by rw[b]; exact hn)
 exact⟨m,by omega,d,fun k hk=>by
  have:=f k hk
  by_cases q:(path t h k).j∈t.place.toList
  .exact q
  .exact absurd q this⟩
theorem probe_go{t:SetTable}(T:TOk t)(hashAt:Nat→Int)(h:Int){N:Nat}(hN:(path t h N).j∉t.place.toList)(hb:∀k,k<N→(path t h k).j∈t.place.toList):∀(F n:Nat),n≤N→N-n<F→
  (∃m i,n≤m∧m<N∧t.slot (path t h m).j=.live i∧hashAt i=h∧SetTable.probe.go t hashAt h F (path t h n)=some (.candidate (path t h m).j i (path t h (m+1)))∧∀m',n≤m'→m'<m→∀i',t.slot (path t h m').j=.live i'→hashAt i'≠h) ∨
  (SetTable.probe.go t hashAt h F (path t h n)=some (.empty (path t h N).j none)∧∀m',n≤m'→m'<N→∀i',t.slot (path t h m').j=.live i'→hashAt i'≠h):=by
 intro F
 induction F with
 | zero=>intro n _ q; omega
 | succ F ih=>
  intro n hn hF
  rcases Nat.lt_or_eq_of_le hn with q | q
  .obtain⟨i,hi,e1,e2⟩ | ⟨e1,_⟩:=slot_of T (path t h n).j
   .have e:SetTable.probe.go t hashAt h (F+1) (path t h n)=if hashAt i==h then some (.candidate (path t h n).j i (t.advance (path t h n))) else SetTable.probe.go t hashAt h F (t.advance (path t h n)):=by
     rw[SetTable.probe.go,e2]
    by_cases c:hashAt i=h
    .refine .inl ⟨n,i,Nat.le_refl _,q,e2,c,?_,fun m' a b=>absurd a (by omega)⟩
     rw[e,if_pos (by simpa using c)]; rfl
    .rw[e,if_neg (by simpa using c)]
     have step:∀m',n≤m'→m'<n+1→∀i',t.slot (path t h m').j=.live i'→hashAt i'≠h:=by
      intro m' a b i' z
      have:m'=n:=by omega
      subst this
      rw[e2] at z
      cases z
      exact c
     rcases ih (n+1) q (by omega) with ⟨m,i',a,b,c1,c2,c3,c4⟩ | ⟨a,b⟩
     .refine .inl ⟨m,i',by omega,b,c1,c2,c3,fun m' z1 z2 i'' z3=>?_⟩
      by_cases w:m'<n+1
      .exact step m' z1 w i'' z3
      .exact c4 m' (by omega) z2 i'' z3
     .refine .inr ⟨a,fun m' z1 z2 i'' z3=>?_⟩
      by_cases w:m'<n+1
      .exact step m' z1 w i'' z3
      .exact b m' (by omega) z2 i'' z3
   .exact absurd (hb n q) e1
  .subst q
   refine .inr ⟨?_,fun m' a b=>absurd a (by omega)⟩
   rw[SetTable.probe.go,slot_empty T hN,path_dummy]
theorem path_congr{t t':SetTable}(e:t.mask=t'.mask)(h:Int):∀n,path t h n=path t' h n
 | 0=>by show t.probeStart h=t'.probeStart h; unfold SetTable.probeStart; rw[e]
 | n+1=>by
  show t.advance (path t h n)=t'.advance (path t' h n)
  rw[path_congr e h n]
  unfold SetTable.advance
  rw[e]
def On(t:SetTable)(occ:Nat→Prop)(j:Nat)(h:Int):Prop:=∃n,(path t h n).j=j∧∀m,m<n→occ (path t h m).j
theorem On.mono{t t':SetTable}{occ occ':Nat→Prop}{j:Nat}{h:Int}(o:On t occ j h)(e:t.mask=t'.mask)(k:∀j,occ j→occ' j):On t' occ' j h:=by
 obtain⟨n,a,b⟩:=o
 exact⟨n,by rw[←path_congr e]; exact a,fun m hm=>k _ (by rw[←path_congr e]; exact b m hm)⟩
structure SOk(t:SetTable)(es:List (Int×Value))(R:List (Nat×(Int×Value))):Prop where
 T:TOk t
 pl:R.map (·.1)=t.place.toList
 es:R.map (·.2)=es
 on:∀r∈R,On t (· ∈ t.place.toList) r.1 r.2.1
 few:t.place.size*5<t.mask*3
theorem insertAt_list{α:Type}(xs:Array α){p:Nat}(hp:p≤xs.size)(x:α):(SetTable.insertAt xs p x).toList=xs.toList.take p++x::xs.toList.drop p:=by
 unfold SetTable.insertAt
 simp[Array.toList_extract,List.extract_eq_take_drop]
 rw[List.take_of_length_le (by simp)]
theorem put_list{t:SetTable}(T:TOk t)(j:Nat):(t.put j).1.place.toList=t.place.toList.take (t.put j).2++j::t.place.toList.drop (t.put j).2:=insertAt_list _ (below_ok T.up).1 _
theorem put_ok{t:SetTable}(T:TOk t){j:Nat}(hj:j≤t.mask)(hn:j∉t.place.toList)(hr:t.place.size+1≤t.mask):TOk (t.put j).1:=by
 have L:=put_list T j
 obtain⟨b1,b2,b3⟩:=below_ok (xs:=t.place) (j:=j) T.up
 refine⟨?_,?_,?_,T.pow,?_⟩
 .show(if SetTable.has t.dummies j then _ else t.dummies)=_
  rw[T.nod,has_nil]; rfl
 .rw[L]
  have hl:∀x∈t.place.toList.take (t.put j).2,x<j:=fun x hx=>by
   obtain⟨i,h1,h2⟩:=List.getElem_of_mem hx
   rw[List.length_take] at h1
   rw[List.getElem_take] at h2
   have:=b2 i (by simp at h1; omega) (show i<(t.put j).2 by omega)
   simp at h2
   omega
  have hg:∀x∈t.place.toList.drop (t.put j).2,j<x:=fun x hx=>by
   obtain⟨i,h1,h2⟩:=List.getElem_of_mem hx
   rw[List.length_drop] at h1
   rw[List.getElem_drop] at h2
   have h3:(t.put j).2+i<t.place.size:=by simp at h1; omega
   have:=b3 ((t.put j).2+i) h3 (Nat.le_add_right _ _)
   simp at h2
   have ne:x≠j:=fun z=>hn (by rw[←z]; exact List.mem_of_mem_drop hx)
   omega
  refine List.pairwise_append.mpr ⟨T.up.sublist (List.take_sublist _ _),List.pairwise_cons.mpr ⟨hg,T.up.sublist (List.drop_sublist _ _)⟩,fun a ha b hb=>?_⟩
  rcases List.mem_cons.mp hb with rfl | hb
  .exact hl a ha
  .exact Nat.lt_trans (hl a ha) (hg b hb)
 .intro x hx
  rw[L] at hx
  rcases List.mem_append.mp hx with hx | hx
  .exact T.le x (List.mem_of_mem_take hx)
  .rcases List.mem_cons.mp hx with rfl | hx
   .exact hj
   .exact T.le x (List.mem_of_mem_drop hx)
 .show(t.put j).1.place.size≤t.mask
  have:(t.put j).1.place.toList.length=t.place.toList.length+1:=by
   rw[L,List.length_append,List.length_cons,←Nat.add_assoc,←List.length_append,List.take_append_drop]
  simp at this
  omega
theorem put_mem{t:SetTable}(T:TOk t)(j x:Nat):x∈(t.put j).1.place.toList↔x=j∨x∈t.place.toList:=by
 rw[put_list T]
 constructor
 .intro h
  rcases List.mem_append.mp h with h | h
  .exact .inr (List.mem_of_mem_take h)
  .rcases List.mem_cons.mp h with h | h
   .exact .inl h
   .exact .inr (List.mem_of_mem_drop h)
 .rintro(rfl | h)
  .exact List.mem_append_right _ (List.mem_cons_self ..)
  .rw[←List.take_append_drop (t.put j).2 t.place.toList] at h
   rcases List.mem_append.mp h with h | h
   .exact List.mem_append_left _ h
   .exact List.mem_append_right _ (List.mem_cons_of_mem _ h)
theorem SOk.put{t:SetTable}{es:Array (Int×Value)}{R:List (Nat×(Int×Value))}(S:SOk t es.toList R){h:Int}{x:Value}{N:Nat}(hN:(path t h N).j∉t.place.toList)(hb:∀k,k<N→(path t h k).j∈t.place.toList)
  (t':SetTable) (hm:t'.mask=t.mask) (hp:t'.place=(t.put (path t h N).j).1.place) (hd:t'.dummies=(t.put (path t h N).j).1.dummies) (few:t'.place.size*5<t'.mask*3) :
  ∃R',SOk t' (SetTable.insertAt es (t.put (path t h N).j).2 (h,x)).toList R'∧R'.Perm (((path t h N).j,(h,x))::R):=by
 have T:=S.T
 have L:=put_list T (path t h N).j
 have hj:(path t h N).j≤t.mask:=by have:=(path_le t h N).1; omega
 have hr:t.place.size+1≤t.mask:=by
  have:=S.few
  obtain⟨k,a,b⟩:=T.pow
  have:2 ^ 3≤2 ^ k:=Nat.pow_le_pow_right (by omega) a
  omega
 have T':=put_ok T hj hN hr
 have lenE:R.length=es.size:=by have:=congrArg List.length S.es; simpa using this
 have lenP:R.length=t.place.size:=by have:=congrArg List.length S.pl; simpa using this
 have hp2:(t.put (path t h N).j).2≤es.size:=by
  have:=(below_ok (xs:=t.place) (j:=(path t h N).j) T.up).1
  rw[←lenE,lenP]; exact this
 generalize hq:(t.put (path t h N).j).2=p at *
 refine⟨R.take p++((path t h N).j,(h,x))::R.drop p,⟨⟨by rw[hd]; exact T'.nod,by rw[hp]; exact T'.up,by rw[hp,hm]; exact T'.le,by rw[hm]; exact T.pow,by rw[hp,hm]; exact T'.room⟩,?_,?_,?_,few⟩,?_⟩
 .rw[hp,L]
  simp[List.map_take,List.map_drop,S.pl]
 .rw[insertAt_list _ hp2]
  simp[List.map_take,List.map_drop,S.es]
 .have up:∀j,j∈t.place.toList→j∈t'.place.toList:=fun j hj=>by rw[hp]; exact(put_mem T _ _).mpr (.inr hj)
  intro r hr
  rcases List.mem_append.mp hr with hr | hr
  .exact(S.on r (List.mem_of_mem_take hr)).mono hm.symm up
  .rcases List.mem_cons.mp hr with rfl | hr
   .exact On.mono (t:=t) (occ:=(· ∈ t.place.toList)) ⟨N,rfl,hb⟩ hm.symm up
   .exact(S.on r (List.mem_of_mem_drop hr)).mono hm.symm up
 .have:R.Perm (R.take p++R.drop p):=by rw[List.take_append_drop]
  exact List.perm_middle.trans (List.Perm.cons _ this.symm)
theorem path_in(t:SetTable)(h:Int){n m:Nat}(e:path t h n=atHead t h m):∀k,k≤(atHead t h m).more→path t h (n+k)=⟨(lp t.mask h m).1+k,(atHead t h m).more-k,(lp t.mask h m).1,(lp t.mask h m).2,none⟩
 | 0,_=>by rw[Nat.add_zero,e]; rfl
 | k+1,hk=>by
  show t.advance (path t h (n+k))=_
  rw[path_in t h e k (by omega)]
  unfold SetTable.advance
  rw[if_pos (show(atHead t h m).more-k>0 by omega)]
  simp only[SetTable.Probe.mk.injEq,and_true]
  omega
theorem path_next(t:SetTable)(h:Int){n m:Nat}(e:path t h n=atHead t h m):path t h (n+(atHead t h m).more+1)=atHead t h (m+1):=by
 show t.advance (path t h (n+(atHead t h m).more))=_
 rw[path_in t h e _ (Nat.le_refl _)]
 unfold SetTable.advance
 rw[if_neg (by simp)]
 rfl
def em(owner:Array (Option Nat))(j:Nat):Bool:=(owner.getD j (some 0)).isNone
theorem free_ok(t:SetTable)(h:Int)(owner:Array (Option Nat)):∀(fuel m n:Nat),path t h n=atHead t h m→(∀k,k<n→em owner (path t h k).j=false)→(∃d,d<fuel∧em owner (lp t.mask h (m+d)).1=true)→
  ∃N,SetTable.layClean.free t.mask owner fuel (lp t.mask h m).1 (lp t.mask h m).2=some (path t h N).j∧em owner (path t h N).j=true∧∀k,k<N→em owner (path t h k).j=false:=by
 intro fuel
 induction fuel with
 | zero=>rintro m n _ _ ⟨d,hd,_⟩; omega
 | succ fuel ih=>
  rintro m n e hb ⟨d,hd,he⟩
  have hi:(lp t.mask h m).1≤SetTable.runEnd t.mask (lp t.mask h m).1:=by unfold SetTable.runEnd; split<;>omega
  have hmore:(atHead t h m).more=SetTable.runEnd t.mask (lp t.mask h m).1-(lp t.mask h m).1:=rfl
  unfold SetTable.layClean.free
  cases q:(List.range (SetTable.runEnd t.mask (lp t.mask h m).1+1-(lp t.mask h m).1)).find? (fun k=>(owner.getD ((lp t.mask h m).1+k) (some 0)).isNone) with
  | some k=>
   obtain⟨a,b,c⟩:=List.find?_range_eq_some.mp q
   have hk:k≤(atHead t h m).more:=by have:=List.mem_range.mp b; omega
   refine⟨n+k,?_,?_,fun k' hk'=>?_⟩
   .simp only[]
    rw[path_in t h e k hk]
   .rw[path_in t h e k hk]; exact a
   .by_cases z:k'<n
    .exact hb k' z
    .have e2:k'=n+(k'-n):=by omega
     rw[e2,path_in t h e (k'-n) (by omega)]
     have:=c (k'-n) (by omega)
     unfold em
     simpa using this
  | none=>
   simp only[]
   have all:=List.find?_range_eq_none.mp q
   have hb2:∀k,k<n+(atHead t h m).more+1→em owner (path t h k).j=false:=fun k' hk'=>by
    by_cases z:k'<n
    .exact hb k' z
    .have e2:k'=n+(k'-n):=by omega
     rw[e2,path_in t h e (k'-n) (by omega)]
     have:=all (k'-n) (by omega)
     unfold em
     simpa using this
   refine ih (m+1) _ (path_next t h e) hb2 ?_
   cases d with
   | zero=>
    have:=all 0 (by omega)
    rw[Nat.add_zero] at he
    unfold em at he
    rw[Nat.add_zero,he] at this
    cases this
   | succ d=>exact⟨d,by omega,by rw[show m+1+d=m+(d+1) from by omega]; exact he⟩
def live(mask:Nat)(owner:Array (Option Nat)):List (Nat×Nat):=(List.range (mask+1)).filterMap fun j=>(owner.getD j none).map (j,·)
theorem fm_congr{f g:Nat→Option (Nat×Nat)}:∀{l:List Nat},(∀x∈l,g x=f x)→l.filterMap g=l.filterMap f
 | [],_=>rfl
 | x::l,h=>by
  have e:=h x (List.mem_cons_self ..)
  have r:=fm_congr (l:=l) fun y hy=>h y (List.mem_cons_of_mem _ hy)
  simp only[List.filterMap_cons,e,r]
theorem fm_upd{f g:Nat→Option (Nat×Nat)}{j:Nat}{v:Nat×Nat}(hf:f j=none)(hg:g j=some v)(ho:∀i,i≠j→g i=f i):∀l:List Nat,l.Nodup→j∈l→(l.filterMap g).Perm (v::l.filterMap f)
 | [],_,h=>by cases h
 | i::l,nd,h=>by
  obtain⟨n1,n2⟩:=List.nodup_cons.mp nd
  by_cases e:i=j
  .subst e
   rw[List.filterMap_cons_some hg,List.filterMap_cons_none hf]
   have:l.filterMap g=l.filterMap f:=by
    apply fm_congr
    intro x hx
    exact ho x fun z=>n1 (z▸hx)
   rw[this]
  .have hj:j∈l:=by
    rcases List.mem_cons.mp h with h | h
    .exact absurd h.symm e
    .exact h
   have ih:=fm_upd hf hg ho l n2 hj
   cases q:f i with
   | none=>rw[List.filterMap_cons_none (by rw[ho i e,q]),List.filterMap_cons_none q]; exact ih
   | some u=>
    rw[List.filterMap_cons_some (by rw[ho i e,q]),List.filterMap_cons_some q]
    exact(List.Perm.cons _ ih).trans (List.Perm.swap _ _ _)
structure LInv(t:SetTable)(owner:Array (Option Nat))(D:List Int):Prop where
 sz:owner.size=t.mask+1
 perm:((live t.mask owner).map (·.2)).Perm (List.range D.length)
 on:∀j i,owner.getD j none=some i→∃h,D[i]?=some h∧On t (fun j=>em owner j=false) j h
theorem mem_live{mask:Nat}{owner:Array (Option Nat)}{j i:Nat}:(j,i)∈live mask owner↔j<mask+1∧owner.getD j none=some i:=by
 unfold live
 rw[List.mem_filterMap]
 constructor
 .rintro⟨j',a,b⟩
  obtain⟨i',c,d⟩:=Option.map_eq_some_iff.mp b
  cases d
  exact⟨List.mem_range.mp a,c⟩
 .rintro⟨a,b⟩
  exact⟨j,List.mem_range.mpr a,by rw[b]; rfl⟩
theorem em_iff{mask:Nat}{owner:Array (Option Nat)}(hs:owner.size=mask+1){j:Nat}(hj:j≤mask):em owner j=true↔owner.getD j none=none:=by
 have:j<owner.size:=by omega
 unfold em Array.getD
 simp[this]
theorem some_free{t:SetTable}{owner:Array (Option Nat)}{D:List Int}(I:LInv t owner D)(hl:D.length≤t.mask):∃j,j≤t.mask∧em owner j=true:=by
 by_cases q:∃j,j≤t.mask∧em owner j=true
 .exact q
 .have h:=range_le (t.mask+1) ((live t.mask owner).map (·.1)) fun j hj=>by
   have:owner.getD j none≠none:=fun z=>q ⟨j,by omega,(em_iff I.sz (by omega)).mpr z⟩
   obtain⟨i,e⟩:=Option.ne_none_iff_exists'.mp this
   exact List.mem_map.mpr ⟨(j,i),mem_live.mpr ⟨hj,e⟩,rfl⟩
  have:=I.perm.length_eq
  simp at h this
  omega
theorem lay_step{t:SetTable}{k:Nat}(hp:t.mask+1=2 ^ k){owner:Array (Option Nat)}{D:List Int}(I:LInv t owner D)(hl:D.length≤t.mask)(h:Int) :
  ∃j,SetTable.layClean.free t.mask owner (SetTable.turns t.mask) (SetTable.bits h%(t.mask+1)) (SetTable.bits h)=some j∧LInv t (owner.setIfInBounds j (some D.length)) (D++[h]):=by
 obtain⟨j0,hj0,he0⟩:=some_free I hl
 obtain⟨m0,hm0,e0⟩:=lp_all h hp hj0
 obtain⟨N,a,b,c⟩:=free_ok t h owner (SetTable.turns t.mask) 0 0 rfl (fun k hk=>absurd hk (by omega)) ⟨m0,by unfold SetTable.turns; omega,by rw[Nat.zero_add,e0]; exact he0⟩
 refine⟨(path t h N).j,a,?_⟩
 have hj:(path t h N).j≤t.mask:=by have:=(path_le t h N).1; omega
 have hn:=(em_iff I.sz hj).mp b
 have upd:∀i,(owner.setIfInBounds (path t h N).j (some D.length)).getD i none=if i=(path t h N).j then some D.length else owner.getD i none:=by
  intro i
  by_cases e:i=(path t h N).j
  .subst e
   have:(path t h N).j<owner.size:=by rw[I.sz]; omega
   simp[Array.getD,this]
  .rw[if_neg e]
   unfold Array.getD
   simp only[Array.size_setIfInBounds]
   split
   .exact Array.getElem_setIfInBounds_ne _ (fun z=>e z.symm)
   .rfl
 have keep:∀i,em owner i=false→em (owner.setIfInBounds (path t h N).j (some D.length)) i=false:=by
  intro i e
  by_cases q:i≤t.mask
  .cases z:em (owner.setIfInBounds (path t h N).j (some D.length)) i with
   | false=>rfl
   | true=>
    have z2:=(em_iff (mask:=t.mask) (by rw[Array.size_setIfInBounds]; exact I.sz) q).mp z
    rw[upd] at z2
    split at z2
    .cases z2
    .rw[(em_iff I.sz q).mpr z2] at e; cases e
  .unfold em Array.getD
   rw[dif_neg (by rw[Array.size_setIfInBounds,I.sz]; omega)]
   rfl
 refine⟨by rw[Array.size_setIfInBounds]; exact I.sz,?_,?_⟩
 .have P:=fm_upd (f:=fun j=>(owner.getD j none).map (j,·)) (g:=fun j=>((owner.setIfInBounds (path t h N).j (some D.length)).getD j none).map (j,·)) (j:=(path t h N).j) (v:=((path t h N).j,D.length)) (by rw[hn]; rfl) (by rw[upd,if_pos rfl]; rfl) (fun i hi=>by rw[upd,if_neg hi]) (List.range (t.mask+1)) List.nodup_range (List.mem_range.mpr (by omega))
  have P2:=P.map (·.2)
  rw[List.map_cons] at P2
  rw[List.length_append,List.length_singleton,List.range_succ]
  exact P2.trans ((List.Perm.cons _ I.perm).trans (List.perm_append_comm (l₁:=[D.length])))
 .intro j i e
  rw[upd] at e
  by_cases z:j=(path t h N).j
  .rw[if_pos z] at e
   cases e
   subst z
   refine⟨h,by simp,N,rfl,fun m hm=>keep _ (c m hm)⟩
  .rw[if_neg z] at e
   obtain⟨h',e1,e2⟩:=I.on j i e
   have:i<D.length:=by
    obtain⟨q,_⟩:=List.getElem?_eq_some_iff.mp e1
    exact q
   exact⟨h',by rw[List.getElem?_append_left this]; exact e1,e2.mono rfl keep⟩
theorem lay_all{t:SetTable}{k:Nat}(hp:t.mask+1=2 ^ k):∀(l:List Int) (owner:Array (Option Nat)) (D:List Int),LInv t owner D→D.length+l.length≤t.mask+1→
  ∃owner',(l.foldl (init:=some (owner,D.length)) fun acc h=>do
   let (owner,k) ←acc
   let j ←SetTable.layClean.free t.mask owner (SetTable.turns t.mask) (SetTable.bits h%(t.mask+1)) (SetTable.bits h)
   pure (owner.setIfInBounds j (some k),k+1))=some (owner',(D++l).length)∧LInv t owner' (D++l)
 | [],owner,D,I,_=>⟨owner,by simp,by rw[List.append_nil]; exact I⟩
 | h::l,owner,D,I,hl=>by
  simp only[List.length_cons] at hl
  obtain⟨j,e,I'⟩:=lay_step hp I (by omega) h
  obtain⟨o',e2,I2⟩:=lay_all hp l _ _ I' (by rw[List.length_append,List.length_singleton]; omega)
  refine⟨o',?_,by rw[List.append_assoc] at I2; exact I2⟩
  rw[List.foldl_cons]
  have e3:D++h::l=D++[h]++l:=by simp
  rw[e3,←e2]
  congr 1
  simp only[Option.bind_eq_bind,Option.bind_some,e,Option.pure_def,List.length_append,List.length_singleton]
theorem linv0(t:SetTable):LInv t (Array.replicate (t.mask+1) none) []:=by
 have z:∀j,(Array.replicate (t.mask+1) (none:Option Nat)).getD j none=none:=by
  intro j
  unfold Array.getD
  split
  .simp
  .rfl
 refine⟨by simp,?_,fun j i e=>by rw[z] at e; cases e⟩
 have:live t.mask (Array.replicate (t.mask+1) none)=[]:=by
  unfold live
  rw[List.filterMap_eq_nil_iff]
  intro j _
  rw[z]; rfl
 rw[this]
 exact List.Perm.nil
theorem layClean_ok{mask k:Nat}(hp:mask+1=2 ^ k)(H:Array Int)(hl:H.size≤mask)(t:SetTable)(ht:t.mask=mask):∃owner,SetTable.layClean mask H=some owner∧LInv t owner H.toList:=by
 subst ht
 obtain⟨o,e,I⟩:=lay_all hp H.toList _ [] (linv0 t) (by simp; omega)
 refine⟨o,?_,by simpa using I⟩
 unfold SetTable.layClean
 rw[←Array.foldl_toList]
 rw[show(([]:List Int).length)=0 from rfl] at e
 rw[e]
 rfl
theorem live_up(mask:Nat)(owner:Array (Option Nat)):((live mask owner).map (·.1)).Pairwise (· < ·):=by
 unfold live
 have:∀l:List Nat,l.Pairwise (· < ·)→((l.filterMap fun j=>(owner.getD j none).map (j,·)).map (·.1)).Pairwise (· < ·)∧∀x∈(l.filterMap fun j=>(owner.getD j none).map (j,·)).map (·.1),x∈l:=by
  intro l
  induction l with
  | nil=>intro _; exact⟨List.Pairwise.nil,fun x h=>by cases h⟩
  | cons j l ih=>
   intro h
   obtain⟨h1,h2⟩:=List.pairwise_cons.mp h
   obtain⟨i1,i2⟩:=ih h2
   cases q:owner.getD j none with
   | none=>
    rw[List.filterMap_cons_none (by rw[q]; rfl)]
    exact⟨i1,fun x hx=>List.mem_cons_of_mem _ (i2 x hx)⟩
   | some v=>
    rw[List.filterMap_cons_some (b:=(j,v)) (by rw[q]; rfl),List.map_cons]
    exact⟨List.pairwise_cons.mpr ⟨fun x hx=>h1 x (i2 x hx),i1⟩,fun x hx=>by
     rcases List.mem_cons.mp hx with rfl | hx
     .exact List.mem_cons_self ..
     .exact List.mem_cons_of_mem _ (i2 x hx)⟩
 exact(this _ (List.pairwise_lt_range)).1
theorem filterMap_get{α:Type}(l:List α):(List.range l.length).filterMap (l[·]?)=l:=by
 induction l with
 | nil=>rfl
 | cons a l ih=>
  rw[List.length_cons,List.range_succ_eq_map,List.filterMap_cons_some (b:=a) (by rfl),List.filterMap_map]
  congr 1
theorem laid_ok {mask k : Nat} (hp : mask + 1 = 2 ^ k) (hk : 3 ≤ k) (es : Array (Int × Value)) (few : es.size * 5 < mask * 3) (finger moves : Nat) (led plain : Bool) :
    ∃ t' order, SetTable.laid mask finger moves led plain (es.map (·.1)) = some (t', order) ∧ t'.mask = mask ∧ t'.led = led ∧ t'.plain = plain ∧ t'.finger = finger ∧ t'.moves = moves ∧ (order.filterMap (es[·]?)).toList.Perm es.toList ∧
      ∃ R', SOk t' (order.filterMap (es[·]?)).toList R' := by
  let t0 : SetTable := { mask, place := #[], dummies := #[], finger, led, moves, plain }
  obtain ⟨owner, e, I⟩ := layClean_ok hp (es.map (·.1)) (by simp; omega) t0 rfl
  let lv := live mask owner
  let t' : SetTable := { mask, place := (lv.map (·.1)).toArray, dummies := #[], finger, led, moves, plain }
  have hI : ((live mask owner).map (·.2)).Perm (List.range es.size) := by have := I.perm; simpa using this
  have pe : ((lv.map (·.2)).toArray.filterMap (es[·]?)).toList.Perm es.toList := by
    rw [Array.toList_filterMap]
    have := List.Perm.filterMap (es[·]?) hI
    refine this.trans ?_
    have e2 := filterMap_get es.toList
    simp only [Array.length_toList, Array.getElem?_toList] at e2
    rw [e2]
  refine ⟨t', (lv.map (·.2)).toArray, ?_, rfl, rfl, rfl, rfl, rfl, pe, ?_⟩
  · unfold SetTable.laid
    rw [e]
    rfl
  · have lenL : lv.length = es.size := by have := hI.length_eq; simpa using this
    have inr : ∀ p ∈ lv, p.2 < es.size := fun p hp => List.mem_range.mp (hI.mem_iff.mp (List.mem_map.mpr ⟨p, hp, rfl⟩))
    let R' := lv.map fun p => (p.1, es.toList.getD p.2 (0, Value.none))
    have getE : ∀ p ∈ lv, es[p.2]? = some (es.toList.getD p.2 (0, Value.none)) := fun p hp => by
      have := inr p hp
      simp [List.getD, this]
    have em' : ∀ j, j ≤ mask → (em owner j = false ↔ j ∈ lv.map (·.1)) := fun j hj => by
      constructor
      · intro q
        have : owner.getD j none ≠ none := fun z => by rw [(em_iff I.sz hj).mpr z] at q; cases q
        obtain ⟨i, e⟩ := Option.ne_none_iff_exists'.mp this
        exact List.mem_map.mpr ⟨(j, i), mem_live.mpr ⟨by omega, e⟩, rfl⟩
      · intro q
        obtain ⟨⟨j', i⟩, a, b⟩ := List.mem_map.mp q
        cases b
        cases z : em owner j' with
        | false => rfl
        | true =>
          have := (em_iff (mask := mask) I.sz hj).mp z
          rw [(mem_live.mp a).2] at this
          cases this
    refine ⟨R', ⟨⟨rfl, ?_, ?_, ⟨k, hk, hp⟩, ?_⟩, ?_, ?_, ?_, ?_⟩⟩
    · exact live_up mask owner
    · intro j hj
      obtain ⟨⟨j', i⟩, a, b⟩ := List.mem_map.mp hj
      cases b
      have := (mem_live.mp a).1
      show j' ≤ mask
      omega
    · show (lv.map (·.1)).toArray.size ≤ mask
      simp [lenL]; omega
    · show (lv.map fun p => (p.1, es.toList.getD p.2 (0, Value.none))).map (·.1) = (lv.map (·.1)).toArray.toList
      simp
    · show (lv.map fun p => (p.1, es.toList.getD p.2 (0, Value.none))).map (·.2) = ((lv.map (·.2)).toArray.filterMap (es[·]?)).toList
      rw [Array.toList_filterMap, List.filterMap_map, List.map_map]
      have : ∀ l : List (Nat × Nat), (∀ p ∈ l, es[p.2]? = some (es.toList.getD p.2 (0, Value.none))) → l.map ((fun (x : Nat × (Int × Value)) => x.2) ∘ fun p => (p.1, es.toList.getD p.2 (0, Value.none))) = l.filterMap ((fun x => es[x]?) ∘ fun x => x.2) := by
        intro l
        induction l with
        | nil => intro _; rfl
        | cons p l ih =>
          intro h
          have e0 : ((fun x => es[x]?) ∘ fun (x : Nat × Nat) => x.2) p = some (es.toList.getD p.2 (0, Value.none)) := h p (List.mem_cons_self ..)
          rw [List.filterMap_cons_some e0, List.map_cons, ih fun q hq => h q (List.mem_cons_of_mem _ hq)]
          rfl
      exact this lv getE
    · intro r hr
      obtain ⟨⟨j, i⟩, a, b⟩ := List.mem_map.mp hr
      cases b
      obtain ⟨h, e1, e2⟩ := I.on j i (mem_live.mp a).2
      have e3 : h = (es.toList.getD i (0, Value.none)).1 := by
        have := getE _ a
        have e1' : (es.map (·.1))[i]? = some h := by simpa using e1
        rw [Array.getElem?_map, this] at e1'
        simpa using e1'.symm
      obtain ⟨n, q1, q2⟩ := e2
      refine ⟨n, ?_, fun m hm => ?_⟩
      · show (path t' (es.toList.getD i (0, Value.none)).1 n).j = j
        rw [← e3, path_congr (t := t') (t' := t0) rfl]
        exact q1
      · show (path t' (es.toList.getD i (0, Value.none)).1 m).j ∈ (lv.map (·.1)).toArray.toList
        rw [← e3, path_congr (t := t') (t' := t0) rfl]
        have le := (path_le t0 h m).1
        exact (em' _ (by have : t0.mask = mask := rfl
                         omega)).mp (q2 m hm)
    · show (lv.map (·.1)).toArray.size * 5 < mask * 3
      simp [lenL]; exact few
theorem size_go(n:Nat):∀(fuel k:Nat),n<2 ^ (k+fuel)→∃k',k≤k'∧SetTable.sizeAbove.go n fuel (2 ^ k)=2 ^ k'∧n<2 ^ k'∧(2 ^ k'≤2*n∨k'=k)
 | 0,k,h=>⟨k,Nat.le_refl _,rfl,h,.inr rfl⟩
 | fuel+1,k,h=>by
  unfold SetTable.sizeAbove.go
  by_cases c:2 ^ k≤n
  .rw[if_pos c,←Nat.pow_succ]
   obtain⟨k',a,b,d,e⟩:=size_go n fuel (k+1) (by rw[show k+1+fuel=k+(fuel+1) from by omega]; exact h)
   refine⟨k',by omega,b,d,.inl ?_⟩
   rcases e with e | e
   .exact e
   .subst e; rw[Nat.pow_succ]; omega
  .rw[if_neg c]
   exact⟨k,Nat.le_refl _,rfl,by omega,.inr rfl⟩
theorem sizeAbove_ok{n:Nat}(h:n<2 ^ 60):∃k,3≤k∧SetTable.sizeAbove n=2 ^ k∧n<2 ^ k∧(2 ^ k≤2*n∨k=3):=by
 have h2:2 ^ 60≤2 ^ (3+64):=Nat.pow_le_pow_right (by omega) (by omega)
 obtain⟨k,a,b,c,d⟩:=size_go n 64 3 (Nat.lt_of_lt_of_le h h2)
 exact⟨k,a,b,c,d⟩
section
variable{prog:Program}{w:World}{K:Type}[DecidableEq K]{knd:KeyKind prog w K}{A:Around}{E:Value→Shared→Prop}{s:Shared}
theorem class_val(n:Nat){v:Value}(h:carriedByValue v=true):ofAClassStatement n v=pure false:=by
 cases v with
 | ref a=>simp[carriedByValue] at h
 | _=>first | rfl | simp[ofAClassStatement] | (unfold ofAClassStatement; rfl)
theorem class_tup{ks:List K}{a:Addr}{Q:Bool→Shared→Prop}(hk:IsTupleKey knd s.heap ks a)(h:Q false s):wpAny (model prog w) A (ofAClassStatement 8 (.ref a)) Q E s:=by
 have hT:=hk.typeIs
 obtain⟨o,items,n,ho,_,hd,hi⟩:=hk
 unfold ofAClassStatement
 refine wpAny_bind (wpAny_typeOf hT ?_)
 dsimp only
 rw[if_pos (by rfl)]
 refine wpAny_bind (wpAny_pure ?_)
 rw[if_neg (by simp)]
 refine wpAny_bind (wpAny_seqItems ho hd ?_)
 dsimp only
 refine wpAny_bind ?_
 rw[←Array.forIn_toList]
 refine wpAny_forIn_list _ (fun rest r s'=>r.1=none∧s'=s∧∀v∈rest,carriedByValue v=true) _ ?_ ?_ _ _ ⟨rfl,rfl,hi.byValue⟩
 .rintro v rest r s' ⟨hr,rfl,hall⟩
  rw[class_val _ (hall v List.mem_cons_self)]
  refine wpAny_bind (wpAny_pure ?_)
  simp only[Bool.false_eq_true,if_false]
  exact wpAny_pure ⟨rfl,rfl,fun u hu'=>hall u (List.mem_cons_of_mem _ hu')⟩
 .rintro⟨r1,r2⟩ s' ⟨hr,rfl,_⟩
  simp only at hr
  subst hr
  exact wpAny_pure h
theorem unseen{ks:List K}{x:Addr}{l:List Value}{Q:Bool→Shared→Prop}(hk:IsTupleKey knd s.heap ks x)(hl:∀v∈l,∃ks' b,v=.ref b∧IsTupleKey knd s.heap ks' b)(h:Q false s):wpAny (model prog w) A (searchCouldBeSeen (.ref x) l) Q E s:=by
 unfold searchCouldBeSeen
 refine wpAny_bind ?_
 refine wpAny_forIn_list _ (fun rest r s'=>r.1=none∧s'=s∧∀v∈rest,∃ks' b,v=.ref b∧IsTupleKey knd s.heap ks' b) _ ?_ ?_ _ _ ⟨rfl,rfl,hl⟩
 .rintro v rest r s' ⟨hr,rfl,hall⟩
  obtain⟨ks',b,rfl,hb⟩:=hall v List.mem_cons_self
  have fin:∀u∈rest,∃ks' b,u=.ref b∧IsTupleKey knd s'.heap ks' b:=fun u hu=>hall u (List.mem_cons_of_mem _ hu)
  dsimp only
  by_cases e:(x==b)=true
  .rw[if_pos (by simp[e])]
   exact wpAny_pure ⟨rfl,rfl,fin⟩
  .rw[if_neg (by simp[e,carriedByValue])]
   refine wpAny_bind (wpAny_eqIsQuiet_tuple hk ?_)
   simp only[Bool.not_true,Bool.false_eq_true,if_false]
   refine wpAny_bind (wpAny_eqIsQuiet_tuple hb ?_)
   simp only[Bool.not_true,Bool.false_eq_true,if_false]
   refine wpAny_bind (class_tup hk ?_)
   simp only[Bool.false_eq_true,if_false]
   refine wpAny_bind (class_tup hb ?_)
   simp only[Bool.false_eq_true,if_false]
   exact wpAny_pure ⟨rfl,rfl,fin⟩
 .rintro⟨r1,r2⟩ s' ⟨hr,rfl,_⟩
  simp only at hr
  subst hr
  exact wpAny_pure h
def SetT(knd:KeyKind prog w K)(h:Heap)(a:Addr)(L:List (List K×Addr)):Prop:=
 ∃o es ep t R,h.get? a=some o∧o.ExactSet∧o.data=.set es ep t∧t.mask≤8191∧t.led = !w.params.followText "set-order" ∧ SOk t es.toList R∧es.toList=L.map (fun p=>(tupleKeyHash knd p.1,Value.ref p.2))∧(L.map (·.1)).Nodup∧∀p∈L,IsTupleKey knd h p.1 p.2
theorem TOk.odd{t:SetTable}(T:TOk t):t.gaveWay=false:=by
 obtain⟨k,a,b⟩:=T.pow
 unfold SetTable.gaveWay
 obtain⟨k,rfl⟩:∃j,k=j+1:=⟨k-1,by omega⟩
 rw[Nat.pow_succ] at b
 have:t.mask%2=1:=by omega
 rw[this]; rfl
theorem SOk.fits{t:SetTable}{es:Array (Int×Value)}{R:List (Nat×(Int×Value))}(S:SOk t es.toList R):t.fits es.size=true:=by
 have a:=congrArg List.length S.pl
 have b:=congrArg List.length S.es
 simp only[List.length_map,Array.length_toList] at a b
 unfold SetTable.fits SetTable.fill
 rw[S.T.nod]
 have:=S.T.room
 simp; omega
theorem SOk.at{t:SetTable}{es:Array (Int×Value)}{R:List (Nat×(Int×Value))}(S:SOk t es.toList R){i j:Nat}(h:t.slot j=.live i):∃e,es[i]?=some e∧(j,e)∈R∧t.place[i]?=some j:=by
 obtain⟨i',hi,e1,e2⟩ | ⟨_,e2⟩:=slot_of S.T j
 .rw[e2] at h
  cases h
  have a:=congrArg List.length S.pl
  simp only[List.length_map,Array.length_toList] at a
  have hr:i<R.length:=by omega
  have p1:R[i].1=j:=by
   have:=congrArg (·[i]?) S.pl
   simp[hr,hi] at this
   rw[this]; exact e1
  have p2:es[i]?=some R[i].2:=by
   have:=congrArg (·[i]?) S.es
   simp[hr] at this
   exact this.symm
  exact⟨R[i].2,p2,by rw[←p1]; exact List.getElem_mem hr,by rw[←e1]; simp[hi]⟩
 .rw[e2] at h; cases h
end
section
variable{prog:Program}{w:World}{K:Type}[DecidableEq K]{knd:KeyKind prog w K}{A:Around}{E:Value→Shared→Prop}{s:Shared}
theorem led_if{α:Type}{c:Bool}{m:Sem Bool}{X Y:Sem α}{Q:α→Shared→Prop}(hm:wpAny (model prog w) A m (fun b s'=>b=false∧s'=s) E s)(hY:wpAny (model prog w) A Y Q E s) :
  wpAny (model prog w) A (if c=true then (do let b ←m; if b=true then X else Y) else Y) Q E s:=by
 cases c with
 | true=>
  rw[if_pos rfl]
  refine wpAny_bind (wpAny_mono hm (fun b s' h=>?_) fun _ _ h=>h)
  obtain⟨rfl,rfl⟩:=h
  rw[if_neg (by simp)]
  exact hY
 | false=>rw[if_neg (by simp)]; exact hY
theorem search_tup{a x:Addr}{k:List K}{L:List (List K×Addr)}{o:Obj}{es:Array (Int×Value)}{ep:Nat}{t:SetTable}{R:List (Nat×(Int×Value))}{adding:Bool}{Q:SetFound→Shared→Prop}{N:Nat}
  (hu:A.units<cLine) (ho:s.heap.get? a=some o) (hd:o.data=.set es ep t) (S:SOk t es.toList R) (hL:es.toList=L.map (fun p=>(tupleKeyHash knd p.1,Value.ref p.2))) (hT:∀p∈L,IsTupleKey knd s.heap p.1 p.2) (hk:IsTupleKey knd s.heap k x)
  (hN:(path t (tupleKeyHash knd k) N).j∉t.place.toList) (hb:∀m,m<N→(path t (tupleKeyHash knd k) m).j∈t.place.toList) (hlt:N<10*SetTable.turns t.mask)
  (yes:∀i,adding=true∨(∃p,L[i]?=some p∧p.1=k)→(∃p∈L,p.1=k)→Q (.there (if adding then none else some i)) s):∀(fuel n:Nat) (stand:Option SetTable.Probe),stand.getD (t.probeStart (tupleKeyHash knd k))=path t (tupleKeyHash knd k) n→n≤N→N-n<fuel→
  ((∀m i e,n≤m→m<N→t.slot (path t (tupleKeyHash knd k) m).j=.live i→L[i]?=some e→e.1≠k)→Q (.free (path t (tupleKeyHash knd k) N).j false) s)→
  wpAny (model prog w) A (setSearchFrom a (.ref x) (tupleKeyHash knd k) adding fuel stand) Q E s:=by
 intro fuel
 induction fuel with
 | zero=>intro n stand _ _ q; omega
 | succ fuel ih=>
  intro n stand hs hn hf no
  have getL:∀{i:Nat} {e:Int×Value},es[i]?=some e→∃p,L[i]?=some p∧e=(tupleKeyHash knd p.1,Value.ref p.2):=by
   intro i e he
   have h1:es.toList[i]?=some e:=by simpa using he
   rw[hL,List.getElem?_map] at h1
   obtain⟨p,a1,a2⟩:=Option.map_eq_some_iff.mp h1
   exact⟨p,a1,a2.symm⟩
  unfold setSearchFrom
  refine wpAny_bind (wpAny_setState_of ho hd S.fits ?_)
  dsimp only
  rw[S.T.odd]
  simp only[Bool.false_eq_true,if_false]
  rw[hs]
  generalize hF:t.probe _ (tupleKeyHash knd k) (path t (tupleKeyHash knd k) n)=r
  have hF2:SetTable.probe.go t (fun i=>(es[i]?.map (·.1)).getD 0) (tupleKeyHash knd k) (10*SetTable.turns t.mask) (path t (tupleKeyHash knd k) n)=r:=hF
  rcases probe_go S.T (fun i=>(es[i]?.map (·.1)).getD 0) (tupleKeyHash knd k) hN hb (10*SetTable.turns t.mask) n hn (by omega) with ⟨m,i,m1,m2,sl,hh,ee,before⟩ | ⟨ee,before⟩
  .rw[ee] at hF2
   subst hF2
   obtain⟨e,ei,er,ep'⟩:=S.at sl
   obtain⟨p,pi,rfl⟩:=getL ei
   have hp:=List.mem_of_getElem? pi
   have goOn:p.1≠k→wpAny (model prog w) A (setSearchFrom a (.ref x) (tupleKeyHash knd k) adding fuel (some (path t (tupleKeyHash knd k) (m+1)))) Q E s:=fun ne=>by
    refine ih (m+1) (some _) rfl m2 (by omega) fun h=>no fun m' i' e' a1 a2 a3 a4=>?_
    rcases Nat.lt_trichotomy m' m with z | z | z
    .intro ek
     refine before m' a1 z i' a3 ?_
     have h1:es.toList[i']?=some (tupleKeyHash knd e'.1,Value.ref e'.2):=by rw[hL,List.getElem?_map,a4]; rfl
     have h2:es[i']?=some (tupleKeyHash knd e'.1,Value.ref e'.2):=by simpa using h1
     show(es[i']?.map (·.1)).getD 0=_
     rw[h2,ek]; rfl
    .subst z
     rw[sl] at a3
     cases a3
     rw[pi] at a4
     cases a4
     exact ne
    .exact h m' i' e' z a2 a3 a4
   dsimp only
   refine led_if (unseen hk (fun v hv=>?_) ⟨rfl,rfl⟩) ?_
   .obtain⟨q,q1,q2⟩:=List.mem_map.mp hv
    have q3:q∈es.toList:=by
     have:=Array.mem_toList_iff.mp q1
     exact Array.mem_toList_iff.mpr (Array.mem_filter.mp this).1
    rw[hL] at q3
    obtain⟨p',z1,z2⟩:=List.mem_map.mp q3
    subst z2
    exact⟨p'.1,p'.2,q2.symm,hT p' z1⟩
   .rw[ei]
    dsimp only
    refine wpAny_bind (wpAny_holding (wpAny_eqBool_tuple hu (hT p hp) hk ?_))
    refine wpAny_bind (wpAny_setState_of ho hd S.fits ?_)
    dsimp only
    have sm:t.sameMemory t.moves t.mask=some true:=by unfold SetTable.sameMemory; rw[if_pos (by simp)]
    by_cases z:p.1=k
    .rw[decide_eq_true z]
     cases adding with
     | true=>
      simp only[Bool.and_self,if_true]
      exact wpAny_pure (yes i (.inl rfl) ⟨p,hp,z⟩)
     | false=>
      simp only[Bool.false_and,Bool.false_eq_true,if_false,sm,if_true,sl,ei]
      refine wpAny_bind (wpAny_isSame_ref_self ?_)
      refine wpAny_bind (wpAny_pure ?_)
      simp only[if_true]
      exact wpAny_pure (yes i (.inr ⟨p,pi,z⟩) ⟨p,hp,z⟩)
    .rw[decide_eq_false z]
     simp only[Bool.and_false,Bool.false_eq_true,if_false,sm,if_true,sl,ei]
     refine wpAny_bind (wpAny_isSame_ref_self ?_)
     refine wpAny_bind (wpAny_pure ?_)
     simp only[if_true,Bool.false_eq_true,if_false]
     exact goOn z
  .rw[ee] at hF2
   subst hF2
   dsimp only
   refine wpAny_pure (no fun m' i' e' a1 a2 a3 a4 ek=>?_)
   refine before m' a1 a2 i' a3 ?_
   have h1:es.toList[i']?=some (tupleKeyHash knd e'.1,Value.ref e'.2):=by rw[hL,List.getElem?_map,a4]; rfl
   have h2:es[i']?=some (tupleKeyHash knd e'.1,Value.ref e'.2):=by simpa using h1
   show(es[i']?.map (·.1)).getD 0=_
   rw[h2,ek]; rfl
end
theorem perm_map_inv{α β:Type}{f:α→β}{m l:List β}(h:m.Perm l):∀{L:List α},m=L.map f→∃L':List α,L'.Perm L∧L'.map f=l:=by
 induction h with
 | nil=>intro L e; exact⟨L,List.Perm.refl _,e.symm⟩
 | cons x _ ih=>
  intro L e
  cases L with
  | nil=>cases e
  | cons a L=>
   cases e
   obtain⟨L',p,q⟩:=ih rfl
   exact⟨a::L',List.Perm.cons _ p,by rw[List.map_cons,q]⟩
 | swap x y l=>
  intro L e
  match L,e with
  | b::a::L,e=>
   cases e
   exact⟨a::b::L,List.Perm.swap _ _ _,rfl⟩
 | trans _ _ ih1 ih2=>
  intro L e
  obtain⟨L1,p1,q1⟩:=ih1 e
  obtain⟨L2,p2,q2⟩:=ih2 q1.symm
  exact⟨L2,p2.trans p1,q2⟩
section
variable{prog:Program}{w:World}{K:Type}[DecidableEq K]{knd:KeyKind prog w K}{A:Around}{E:Value→Shared→Prop}{s:Shared}
theorem hbv_val(n:Nat){v:Value}(h:carriedByValue v=true):∃b,hashByValue n v=pure b:=by
 cases v with
 | ref a=>simp[carriedByValue] at h
 | _=>cases n<;>exact⟨_,rfl⟩
theorem hbv_tup{ks:List K}{a:Addr}{Q:Bool→Shared→Prop}(hk:IsTupleKey knd s.heap ks a)(h:∀b,Q b s):wpAny (model prog w) A (hashByValue 8 (.ref a)) Q E s:=by
 have hT:=hk.typeIs
 obtain⟨o,items,n,ho,_,hd,hi⟩:=hk
 unfold hashByValue
 refine wpAny_bind (wpAny_specialOf hT F.slot_tuple_hash.lookup ?_)
 refine wpAny_bind (wpAny_seqItems ho hd ?_)
 refine wpAny_bind ?_
 show wpAny _ _ (forIn items _ _) _ _ s
 rw[←Array.forIn_toList]
 refine wpAny_forIn_list _ (fun rest r s'=>r.1=none∧s'=s∧∀v∈rest,carriedByValue v=true) _ ?_ ?_ _ _ ⟨rfl,rfl,hi.byValue⟩
 .rintro v rest r s' ⟨hr,rfl,hall⟩
  obtain⟨b,e⟩:=hbv_val 7 (hall v List.mem_cons_self)
  rw[e]
  refine wpAny_bind (wpAny_pure ?_)
  cases b with
  | true=>
   simp only[Bool.not_true,Bool.false_eq_true,if_false]
   exact wpAny_pure ⟨rfl,rfl,fun u hu'=>hall u (List.mem_cons_of_mem _ hu')⟩
  | false=>
   simp only[Bool.not_false,if_true]
   exact wpAny_pure (wpAny_pure (h _))
 .rintro⟨r1,r2⟩ s' ⟨hr,rfl,_⟩
  simp only at hr
  subst hr
  exact wpAny_pure (h _)
theorem tup_same{h h':Heap}{ks:List K}{x a:Addr}{o:Obj}{es ep t}(hk:IsTupleKey knd h ks x)(ho:h.get? a=some o)(hd:o.data=.set es ep t)(sb:Heap.SameBut a h h'):IsTupleKey knd h' ks x:=by
 obtain⟨o',items,n,ho',hc,hd',hi⟩:=hk
 have hne:x≠a:=by
  rintro rfl
  obtain rfl:o'=o:=Option.some.inj (ho'.symm.trans ho)
  rw[hd] at hd'; exact nomatch hd'
 exact⟨o',items,n,(sb.2 x hne).trans ho',hc,hd',hi⟩
theorem wp_eq{α:Type}{m:Sem α}{v:α}{Q:α→Shared→Prop}(e:m=pure v)(h:Q v s):wpAny (model prog w) A m Q E s:=by rw[e]; exact wpAny_pure h
theorem setT_store{h:Heap}{a:Addr}{o:Obj}{es:Array (Int×Value)}{ep:Nat}{t:SetTable}(ho:h.get? a=some o)(hex:o.ExactSet)(hd:o.data=.set es ep t){es':Array (Int×Value)}{t':SetTable}{R':List (Nat×(Int×Value))}{L':List (List K×Addr)}
  (hm:t'.mask≤8191) (hled:t'.led = !w.params.followText "set-order") (S:SOk t' es'.toList R') (hL:es'.toList=L'.map (fun p=>(tupleKeyHash knd p.1,Value.ref p.2))) (nd:(L'.map (·.1)).Nodup) (hT:∀p∈L',IsTupleKey knd h p.1 p.2) :
  (h.update a (Obj.putSet es' t')).get? a=some { o with data:=.set es' (ep+1) t' }∧SetT knd (h.update a (Obj.putSet es' t')) a L':=by
 have hg:(h.update a (Obj.putSet es' t')).get? a=some { o with data:=.set es' (ep+1) t' }:=by
  have:=Heap.get?_update_self (Obj.putSet es' t') ho (by rw[putSet_of es' t' hd]; rfl)
  rw[putSet_of es' t' hd] at this; exact this
 exact⟨hg,_,es',ep+1,t',R',hg,hex,rfl,hm,hled,S,hL,nd,fun p hp=>tup_same (hT p hp) ho hd (Heap.SameBut.update _ _ _)⟩
theorem relay_tup{a:Addr}{o:Obj}{es:Array (Int×Value)}{ep:Nat}{t:SetTable}{L:List (List K×Addr)}{wanted:Nat}{Q:Unit→Shared→Prop}(ho:s.heap.get? a=some o)(hex:o.ExactSet)(hd:o.data=.set es ep t)(hf:t.fits es.size=true)(hled:t.led = !w.params.followText "set-order")
  (hL:es.toList=L.map (fun p=>(tupleKeyHash knd p.1,Value.ref p.2))) (nd:(L.map (·.1)).Nodup) (hT:∀p∈L,IsTupleKey knd s.heap p.1 p.2) (hw:wanted≤4000) (hw2:es.size*2≤wanted) (hw3:0<wanted)
  (h:∀h' L',Heap.SameBut a s.heap h'→SetT knd h' a L'→L'.Perm L→(∃o es ep t,h'.get? a=some o∧o.data=.set es ep t∧wanted≤t.mask)→Q () { s with heap:=h' }):wpAny (model prog w) A (setRelay a wanted) Q E s:=by
 unfold setRelay
 refine wpAny_bind (wpAny_setState_of ho hd hf ?_)
 dsimp only
 obtain⟨k,k1,k2,k3,k4⟩:=sizeAbove_ok (n:=wanted) (by omega)
 have le:2 ^ k≤8192:=by
  rcases k4 with k4 | k4
  .have:2 ^ k≤8000:=by omega
   omega
  .subst k4; decide
 have pos:2 ^ 3≤2 ^ k:=Nat.pow_le_pow_right (by omega) k1
 rw[if_neg (by rw[k2,sizeLine_eq]; omega)]
 obtain⟨t',order,e1,e2,e3,e4,e5,e6,pe,R',S⟩:=laid_ok (mask:=2 ^ k-1) (k:=k) (by omega) k1 es (by omega) t.finger (t.movedTo (SetTable.sizeAbove wanted-1)) t.led t.plain
 have e0:t.relaid (es.map (·.1)) wanted=some (t',order):=by
  unfold SetTable.relaid
  rw[k2] at e1 ⊢
  exact e1
 rw[e0]
 have hz:(order.filterMap (es[·]?)).size=es.size:=by rw[←Array.length_toList,pe.length_eq,Array.length_toList]
 refine wpAny_bind (wp_eq (v:=(order.filterMap (es[·]?),t')) (if_neg (by rw[hz]; simp)) ?_)
 dsimp only
 obtain⟨L',p1,p2⟩:=perm_map_inv (f:=fun p:List K×Addr=>(tupleKeyHash knd p.1,Value.ref p.2)) pe.symm hL
 obtain⟨hgt,ST⟩:=setT_store (knd:=knd) ho hex hd (t':=t') (es':=order.filterMap (es[·]?)) (L':=L') (by omega) (by rw[e3]; exact hled) S p2.symm ((p1.map (·.1)).nodup_iff.mpr nd) (fun p hp=>hT p (p1.mem_iff.mp hp))
 exact wpAny_storeSet_of ho hd (h _ _ (Heap.SameBut.update _ _ _) ST p1 ⟨_,_,_,t',hgt,rfl,by omega⟩) (by rw[hz,sizeLine_eq]; omega)
theorem add_tup{a x:Addr}{k:List K}{L:List (List K×Addr)}{Q:Bool→Shared→Prop}(hu:A.units<cLine)(hS:SetT knd s.heap a L)(hk:IsTupleKey knd s.heap k x)(hb:L.length<900)
  (h:∀added h' L',Heap.SameBut a s.heap h'→SetT knd h' a L'→L'.Perm (if k∈L.map (·.1) then L else (k,x)::L)→Q added { s with heap:=h' }) :
  wpAny (model prog w) A (setAddHashed a (.ref x) (tupleKeyHash knd k)) Q E s:=by
 obtain⟨o,es,ep,t,R,ho,hex,hd,hm,hled,S,hL,nd,hT⟩:=hS
 have lenE:es.size=L.length:=by have:=congrArg List.length hL; simpa using this
 have lenP:t.place.size=L.length:=by
  have a1:=congrArg List.length S.pl
  have a2:=congrArg List.length S.es
  simp only[List.length_map,Array.length_toList] at a1 a2
  omega
 obtain⟨N,n1,n2,n3⟩:=first_empty S.T (tupleKeyHash knd k)
 unfold setAddHashed
 refine wpAny_holding ?_
 show wpAny _ _ (setAddHashedIn a (.ref x) (tupleKeyHash knd k) (99999+1)) _ _ _
 unfold setAddHashedIn
 refine wpAny_bind (wpAny_setState_of ho hd S.fits ?_)
 dsimp only
 rw[show byScan (.ref x) es=false from rfl]
 simp only[Bool.false_eq_true,if_false]
 have eta:s={ s with heap:=s.heap }:=by cases s; rfl
 refine wpAny_bind ?_
 show wpAny _ _ (setSearchFrom a (.ref x) (tupleKeyHash knd k) true 100000 none) _ _ _
 refine search_tup (knd:=knd) (L:=L) (N:=N) (k:=k) hu ho hd S hL hT hk n2 n3 n1 (fun i _ there=>?_) 100000 0 none rfl (Nat.zero_le _) (by unfold SetTable.turns at n1; omega) fun no=>?_
 ·
  simp only[if_true]
  refine wpAny_pure ?_
  rw[eta]
  refine h _ _ L (Heap.SameBut.refl _ _) ⟨o,es,ep,t,R,ho,hex,hd,hm,hled,S,hL,nd,hT⟩ ?_
  obtain⟨p,p1,p2⟩:=there
  rw[if_pos (List.mem_map.mpr ⟨p,p1,p2⟩)]
 ·
  have absent:k∉L.map (·.1):=by
   intro hc
   obtain⟨p,p1,p2⟩:=List.mem_map.mp hc
   obtain⟨i,hi,e⟩:=List.getElem_of_mem p1
   have hr:i<R.length:=by have:=congrArg List.length S.pl; simp only[List.length_map,Array.length_toList] at this; omega
   have hip:i<t.place.size:=by omega
   have r1:R[i].1=t.place[i]:=by
    have:=congrArg (·[i]?) S.pl
    simp[hr,hip] at this
    exact this
   have r2:R[i].2=(tupleKeyHash knd p.1,Value.ref p.2):=by
    have:=congrArg (·[i]?) (S.es.trans hL)
    simp[hr,hi,e] at this
    rw[this]
   obtain⟨n,a1,a2⟩:=S.on R[i] (List.getElem_mem hr)
   rw[r2,r1] at a1
   rw[r2] at a2
   dsimp only at a1 a2
   rw[p2] at a1 a2
   have nN:n<N:=by
    rcases Nat.lt_or_ge n N with z | z
    .exact z
    .rcases Nat.lt_or_eq_of_le z with z | z
     .exact absurd (a2 N z) n2
     .subst z
      rw[a1] at n2
      exact absurd (by simp) n2
   refine no n i p (Nat.zero_le _) nN ?_ (by rw[List.getElem?_eq_getElem hi,e]) p2
   rw[a1]
   exact slot_live S.T hip
  dsimp only
  refine wpAny_bind (wpAny_setState_of ho hd S.fits ?_)
  dsimp only
  have hp:(t.put (path t (tupleKeyHash knd k) N).j).2≤L.length:=by
   have:=(below_ok (xs:=t.place) (j:=(path t (tupleKeyHash knd k) N).j) S.T.up).1
   rw[lenP] at this
   exact this
  have pe:(L.take (t.put (path t (tupleKeyHash knd k) N).j).2++(k,x)::L.drop (t.put (path t (tupleKeyHash knd k) N).j).2).Perm ((k,x)::L):=by
   have:(L.take (t.put (path t (tupleKeyHash knd k) N).j).2++L.drop (t.put (path t (tupleKeyHash knd k) N).j).2)=L:=List.take_append_drop _ _
   refine List.perm_middle.trans ?_
   rw[this]
  have hL1:(SetTable.insertAt es (t.put (path t (tupleKeyHash knd k) N).j).2 (tupleKeyHash knd k,Value.ref x)).toList=(L.take (t.put (path t (tupleKeyHash knd k) N).j).2++(k,x)::L.drop (t.put (path t (tupleKeyHash knd k) N).j).2).map (fun p=>(tupleKeyHash knd p.1,Value.ref p.2)):=by
   rw[insertAt_list _ (by omega),hL]
   simp[List.map_take,List.map_drop]
  have put:=fun t' a1 a2 a3 a4=>S.put (h:=tupleKeyHash knd k) (x:=Value.ref x) n2 n3 t' a1 a2 a3 a4
  have psz:(t.put (path t (tupleKeyHash knd k) N).j).1.place.size=L.length+1:=by
   have:=congrArg List.length (put_list S.T (path t (tupleKeyHash knd k) N).j)
   rw[List.length_append,List.length_cons,←Nat.add_assoc,←List.length_append,List.take_append_drop] at this
   simp only[Array.length_toList] at this
   omega
  generalize hL2:(L.take (t.put (path t (tupleKeyHash knd k) N).j).2++(k,x)::L.drop (t.put (path t (tupleKeyHash knd k) N).j).2)=L1 at *
  have nd1:(L1.map (·.1)).Nodup:=((pe.map (·.1)).nodup_iff).mpr (List.nodup_cons.mpr ⟨absent,nd⟩)
  have hT1:∀p∈L1,IsTupleKey knd s.heap p.1 p.2:=fun p hp=>by
   rcases List.mem_cons.mp (pe.mem_iff.mp hp) with rfl | hp
   .exact hk
   .exact hT p hp
  have len1:L1.length=L.length+1:=by have:=pe.length_eq; simpa using this
  have fin:∀h' L',Heap.SameBut a s.heap h'→SetT knd h' a L'→L'.Perm L1→Q true { s with heap:=h' }:=fun h' L' sb ST q=>h _ h' L' sb ST (by rw[if_neg absent]; exact q.trans pe)
  have dm:(t.put (path t (tupleKeyHash knd k) N).j).1.dummies = #[]:=by
   show(if SetTable.has t.dummies _ then _ else t.dummies)=_
   rw[S.T.nod,has_nil]; rfl
  have tail:∀t':SetTable,t'.mask=t.mask→t'.place=(t.put (path t (tupleKeyHash knd k) N).j).1.place→t'.dummies=(t.put (path t (tupleKeyHash knd k) N).j).1.dummies→t'.led=t.led→wpAny (model prog w) A (do
    storeSet a (SetTable.insertAt es (t.put (path t (tupleKeyHash knd k) N).j).2 (tupleKeyHash knd k,Value.ref x)) t'
    if (!false&&t'.tooFull)=true then do
      setRelay a (SetTable.grown (es.size+1))
      pure true
     else pure true) Q E s:=by
   intro t' m1 m2 m3 m4
   generalize hes:SetTable.insertAt es (t.put (path t (tupleKeyHash knd k) N).j).2 (tupleKeyHash knd k,Value.ref x)=es1 at *
   have sz1:es1.size=L.length+1:=by have:=congrArg List.length hL1; simp only[Array.length_toList,List.length_map] at this; omega
   refine wpAny_bind (wpAny_storeSet_of ho hd ?_ (by rw[sz1,sizeLine_eq]; omega))
   have sb1:=Heap.SameBut.update s.heap a (Obj.putSet es1 t')
   have hg:(s.heap.update a (Obj.putSet es1 t')).get? a=some { o with data:=.set es1 (ep+1) t' }:=by
    have:=Heap.get?_update_self (Obj.putSet es1 t') ho (by rw[putSet_of es1 t' hd]; rfl)
    rw[putSet_of es1 t' hd] at this; exact this
   by_cases full:t'.tooFull=true
   .rw[if_pos (by simp[full])]
    have gr:SetTable.grown (es.size+1)=(es.size+1)*4:=by unfold SetTable.grown; rw[if_neg (by omega)]
    rw[gr]
    refine wpAny_bind (relay_tup (knd:=knd) (L:=L1) hg hex rfl ?_ (m4.trans hled) hL1 nd1 (fun p hp=>tup_same (hT1 p hp) ho hd sb1) (by omega) (by omega) (by omega) fun h' L' sb ST q _=>wpAny_pure (fin h' L' (sb1.trans sb) ST q))
    unfold SetTable.fits SetTable.fill
    rw[m2,m3,dm,psz,m1,sz1]
    have:=S.few
    obtain⟨k',a1,b1⟩:=S.T.pow
    have:2 ^ 3≤2 ^ k':=Nat.pow_le_pow_right (by omega) a1
    simp
    omega
   .rw[if_neg (by simp[full])]
    have few:t'.place.size*5<t'.mask*3:=by
     unfold SetTable.tooFull SetTable.fill at full
     rw[m3,dm] at full
     simp at full
     omega
    obtain⟨R',S',_⟩:=put t' m1 m2 m3 few
    obtain⟨_,ST⟩:=setT_store (knd:=knd) ho hex hd (t':=t') (es':=es1) (L':=L1) (by omega) (m4.trans hled) S' hL1 nd1 hT1
    exact wpAny_pure (fin _ _ sb1 ST (List.Perm.refl _))
  split
  .refine wpAny_bind (hbv_tup hk fun b=>?_)
   refine tail _ ?_ ?_ ?_ ?_<;>cases b<;>rfl
  .refine wpAny_bind (wpAny_pure ?_)
   exact tail _ rfl rfl rfl rfl
end
end ML
namespace ML
open PySem PySem.W PyProof.Rows
section
variable{n:Nat}{rk:Nat→Nat}{cmp:Nat→Nat→(Bool→Shared→Prop)→Shared→Prop}{s:Shared}
def R(rk:Nat→Nat)(p:Array Nat)(i:Nat):Nat:=rk (p.getD i 0)
structure Pm(n:Nat)(p:Array Nat):Prop where
 sz:p.size=n
 pm:p.toList.Perm (List.range n)
theorem Pm.lt{p:Array Nat}(P:Pm n p)(h0:0<n)(i:Nat):p.getD i 0<n:=by
 by_cases h:i<p.size
 .have e:p.getD i 0=p[i]:=by simp[Array.getD,h]
  rw[e]
  exact List.mem_range.mp (P.pm.mem_iff.mp (by simp))
 .have e:p.getD i 0=0:=by simp[Array.getD,h]
  rw[e]; exact h0
def Answers(n:Nat)(rk:Nat→Nat)(cmp:Nat→Nat→(Bool→Shared→Prop)→Shared→Prop)(s:Shared):Prop:=∀i j (C:Bool→Shared→Prop),i<n→j<n→C (decide (rk i<rk j)) s→cmp i j C s
theorem rev_R(p:Array Nat){i j:Nat}(hj:j≤p.size)(k:Nat):R rk (kas_rev p i j) k=if i≤k∧k<j then R rk p (i+j-1-k) else R rk p k:=by
 have e:=getElem?_mirror_all (xs:=p) (i:=i) hj k
 unfold R kas_rev
 have g:∀(q:Array Nat) (m:Nat),q.getD m 0=q[m]?.getD 0:=fun q m=>Array.getD_eq_getD_getElem? ..
 rw[g,e,g,g]
 split<;>rfl
theorem bub_R(p:Array Nat){k l:Nat}(hk:k<p.size)(hl:l≤k)(m:Nat):R rk (bubble p k (k-l)) m=if m=l then R rk p k else if l<m∧m≤k then R rk p (m-1) else R rk p m:=by
 have e:=getElem?_bubble (xs:=p) hk (k-l) (by omega) m
 rw[show k-(k-l)=l from by omega] at e
 unfold R
 have g:∀(q:Array Nat) (m:Nat),q.getD m 0=q[m]?.getD 0:=fun q m=>Array.getD_eq_getD_getElem? ..
 rw[g,e,g,g,g]
 split
 .rfl
 .split<;>rfl
theorem Pm.rev{p:Array Nat}(P:Pm n p)(i j:Nat):Pm n (kas_rev p i j):=⟨by unfold kas_rev; rw[mirror_size]; exact P.sz,(mirror_perm p i j _).toList.trans P.pm⟩
theorem Pm.bub{p:Array Nat}(P:Pm n p)(k d:Nat):Pm n (bubble p k d):=⟨by rw[bubble_size]; exact P.sz,(bubble_perm p k d).toList.trans P.pm⟩
def Up(rk:Nat→Nat)(p:Array Nat)(m:Nat):Prop:=∀i j,i≤j→j<m→R rk p i≤R rk p j
def Dn(rk:Nat→Nat)(p:Array Nat)(m:Nat):Prop:=∀i j,i≤j→j<m→R rk p j≤R rk p i
theorem Up.succ{p:Array Nat}{m:Nat}(u:Up rk p m)(h:0<m)(e:R rk p (m-1)≤R rk p m):Up rk p (m+1):=by
 intro i j a b
 rcases Nat.lt_or_eq_of_le (Nat.le_of_lt_succ b) with q | q
 .exact u i j a q
 .subst q
  rcases Nat.lt_or_eq_of_le a with z | z
  .exact Nat.le_trans (u i (j-1) (by omega) (by omega)) e
  .subst z; exact Nat.le_refl _
theorem Dn.succ{p:Array Nat}{m:Nat}(u:Dn rk p m)(h:0<m)(e:R rk p m≤R rk p (m-1)):Dn rk p (m+1):=by
 intro i j a b
 rcases Nat.lt_or_eq_of_le (Nat.le_of_lt_succ b) with q | q
 .exact u i j a q
 .subst q
  rcases Nat.lt_or_eq_of_le a with z | z
  .exact Nat.le_trans e (u i (j-1) (by omega) (by omega))
  .subst z; exact Nat.le_refl _
theorem asc_ok(hc:Answers n rk cmp s)(h0:0<n){p:Array Nat}(P:Pm n p){G:Nat→Shared→Prop}:∀(f m:Nat),0<m→Up rk p m→m+f≤n→(∀m',m≤m'→m'≤m+f→Up rk p m'→(m'=m+f∨R rk p m'<R rk p (m'-1))→G m' s)→(kas_asc p f m).kasWp cmp G s
 | 0,m,h1,u,hf,k=>k m (Nat.le_refl _) (by omega) u (.inl rfl)
 | f+1,m,h1,u,hf,k=>by
  refine hc _ _ _ (P.lt h0 _) (P.lt h0 _) ?_
  by_cases c:rk (p.getD m 0)<rk (p.getD (m-1) 0)
  .rw[decide_eq_true c]; dsimp only; rw[if_pos rfl]
   exact k m (Nat.le_refl _) (by omega) u (.inr c)
  .rw[decide_eq_false c]; dsimp only; rw[if_neg (by simp)]
   refine asc_ok hc h0 P f (m+1) (by omega) (u.succ h1 (Nat.le_of_not_lt c)) (by omega) fun m' a b d e=>k m' (by omega) (by omega) d ?_
   rcases e with e | e
   .exact .inl (by omega)
   .exact .inr e
theorem desc_ok(hc:Answers n rk cmp s)(h0:0<n){G:Array Nat×Nat×Nat→Shared→Prop}:∀(f:Nat) (p:Array Nat) (m q:Nat),Pm n p→q<m→Dn rk p m→(∀i,m-(q+1)≤i→i<m→R rk p i=R rk p (m-1))→m+f≤n→
  (∀p' m' q',Pm n p'→q'<m'→m≤m'→m'≤m+f→Dn rk p' m'→(∀i,m'-(q'+1)≤i→i<m'→R rk p' i=R rk p' (m'-1))→G (p',m',q') s)→(kas_desc f p m q).kasWp cmp G s
 | 0,p,m,q,P,hq,u,eq,hf,k=>k p m q P hq (Nat.le_refl _) (by omega) u eq
 | f+1,p,m,q,P,hq,u,eq,hf,k=>by
  refine hc _ _ _ (P.lt h0 _) (P.lt h0 _) ?_
  by_cases c:rk (p.getD m 0)<rk (p.getD (m-1) 0)
  .rw[decide_eq_true c]; dsimp only; rw[if_pos rfl]
   have c':R rk p m<R rk p (m-1):=c
   by_cases z:q>0
   .rw[if_pos z]
    have rv:∀i,R rk (kas_rev p (m-(q+1)) m) i=R rk p i:=fun i=>by
     rw[rev_R p (by rw[P.sz]; omega)]
     split
     .rename_i y
      rw[eq _ (by omega) (by omega),eq i y.1 y.2]
     .rfl
    have u':Dn rk (kas_rev p (m-(q+1)) m) (m+1):=by
     have:Dn rk (kas_rev p (m-(q+1)) m) m:=fun i j a b=>by rw[rv,rv]; exact u i j a b
     exact this.succ (by omega) (by rw[rv,rv]; omega)
    refine desc_ok hc h0 f _ (m+1) 0 (P.rev _ _) (by omega) u' (fun i a b=>?_) (by omega) fun p' m' q' a1 a2 a3 a4 a5 a6=>k p' m' q' a1 a2 (by omega) (by omega) a5 a6
    have:i=m+1-1:=by omega
    rw[this]
   .rw[if_neg z]
    refine desc_ok hc h0 f _ (m+1) 0 P (by omega) (u.succ (by omega) (by omega)) (fun i a b=>?_) (by omega) fun p' m' q' a1 a2 a3 a4 a5 a6=>k p' m' q' a1 a2 (by omega) (by omega) a5 a6
    have:i=m+1-1:=by omega
    rw[this]
  .rw[decide_eq_false c]; dsimp only; rw[if_neg (by simp)]
   have c':R rk p (m-1)≤R rk p m:=Nat.le_of_not_lt c
   refine hc _ _ _ (P.lt h0 _) (P.lt h0 _) ?_
   by_cases d:rk (p.getD (m-1) 0)<rk (p.getD m 0)
   .rw[decide_eq_true d]; dsimp only; rw[if_pos rfl]
    exact k p m q P hq (Nat.le_refl _) (by omega) u eq
   .rw[decide_eq_false d]; dsimp only; rw[if_neg (by simp)]
    have d':R rk p m≤R rk p (m-1):=Nat.le_of_not_lt d
    refine desc_ok hc h0 f p (m+1) (q+1) P (by omega) (u.succ (by omega) d') (fun i a b=>?_) (by omega) fun p' m' q' a1 a2 a3 a4 a5 a6=>k p' m' q' a1 a2 (by omega) (by omega) a5 a6
    rw[show m+1-1=m from by omega]
    rcases Nat.lt_or_eq_of_le (Nat.le_of_lt_succ b) with z | z
    .rw[eq i (by omega) z]; omega
    .rw[z]
theorem tail_ok(hc:Answers n rk cmp s)(h0:0<n){G:Nat×Array Nat→Shared→Prop}{p:Array Nat}(P:Pm n p){m:Nat}(hm:0<m)(hn:m≤n)(u:Dn rk p m)(k:∀m' p',Pm n p'→m≤m'→m'≤n→Up rk p' m'→G (m',p') s):(kas_tail3 m n p).kasWp cmp G s:=by
 unfold kas_tail3
 rw[KasT.kasWp_bind]
 have u':Up rk (kas_rev p 0 m) m:=fun i j a b=>by
  rw[rev_R p (by rw[P.sz]; exact hn),rev_R p (by rw[P.sz]; exact hn),if_pos ⟨by omega,by omega⟩,if_pos ⟨by omega,b⟩]
  exact u _ _ (by omega) (by omega)
 exact asc_ok hc h0 (P.rev _ _) (n-m) m hm u' (by omega) fun m' a b c _=>k m' _ (P.rev _ _) a (by omega) c
theorem descPart_ok(hc:Answers n rk cmp s)(h0:0<n){G:Nat×Array Nat→Shared→Prop}{p:Array Nat}(P:Pm n p){m:Nat}(hm:0<m)(hn:m+1≤n)(u:Dn rk p (m+1))(k:∀m' p',Pm n p'→0<m'→m'≤n→Up rk p' m'→G (m',p') s):(kas_descPart m n p).kasWp cmp G s:=by
 unfold kas_descPart
 rw[KasT.kasWp_bind]
 refine desc_ok hc h0 _ p (m+1) 0 P (by omega) u (fun i a b=>by rw[show i=m+1-1 from by omega]) (by omega) fun p' m' q' a1 a2 a3 a4 a5 a6=>?_
 dsimp only
 by_cases z:q'>0
 .rw[if_pos z]
  have rv:∀i,R rk (kas_rev p' (m'-(q'+1)) m') i=R rk p' i:=fun i=>by
   rw[rev_R p' (by rw[a1.sz]; omega)]
   split
   .rename_i y
    rw[a6 _ (by omega) (by omega),a6 i y.1 y.2]
   .rfl
  exact tail_ok hc h0 (a1.rev _ _) (by omega) (by omega) (fun i j a b=>by rw[rv,rv]; exact a5 i j a b) fun m2 p2 b1 b2 b3 b4=>k m2 p2 b1 (by omega) b3 b4
 .rw[if_neg z]
  exact tail_ok hc h0 a1 (by omega) (by omega) a5 fun m2 p2 b1 b2 b3 b4=>k m2 p2 b1 (by omega) b3 b4
theorem count_ok(hc:Answers n rk cmp s)(h0:0<n){G:Nat×Array Nat→Shared→Prop}{p:Array Nat}(P:Pm n p)(k:∀m' p',Pm n p'→0<m'→m'≤n→Up rk p' m'→G (m',p') s):(kas_count n p).kasWp cmp G s:=by
 unfold kas_count
 rw[KasT.kasWp_bind]
 refine asc_ok hc h0 P (n-1) 1 (by omega) (fun i j a b=>by rw[show i=j from by omega]; exact Nat.le_refl _) (by omega) fun m a b u e=>?_
 by_cases z:m=n
 .rw[if_pos (by simp[z])]
  exact k m p P (by omega) (by omega) u
 .rw[if_neg (by simp[z])]
  have lt:R rk p m<R rk p (m-1):=by
   rcases e with e | e
   .omega
   .exact e
  by_cases y:m>1
  .rw[if_pos y]
   refine hc _ _ _ (P.lt h0 _) (P.lt h0 _) ?_
   by_cases c:rk (p.getD 0 0)<rk (p.getD (m-1) 0)
   .rw[decide_eq_true c]; dsimp only; rw[if_pos rfl]
    exact k m p P (by omega) (by omega) u
   .rw[decide_eq_false c]; dsimp only; rw[if_neg (by simp)]
    have c':R rk p (m-1)≤R rk p 0:=Nat.le_of_not_lt c
    have all:∀i,i<m→R rk p i=R rk p 0:=fun i hi=>by
     have a1:=u 0 i (by omega) hi
     have a2:=u i (m-1) (by omega) (by omega)
     omega
    have rv:∀i,i<m→R rk (kas_rev p 0 m) i=R rk p 0:=fun i hi=>by
     rw[rev_R p (by rw[P.sz]; omega),if_pos ⟨by omega,hi⟩]
     exact all _ (by omega)
    have d:Dn rk (kas_rev p 0 m) m:=fun i j a1 b1=>by rw[rv i (by omega),rv j b1]; exact Nat.le_refl _
    refine descPart_ok hc h0 (P.rev 0 m) (by omega) (by omega) (d.succ (by omega) ?_) k
    rw[rv (m-1) (by omega),rev_R p (by rw[P.sz]; omega),if_neg (by omega)]
    have:=all (m-1) (by omega)
    omega
  .rw[if_neg y]
   have:m=1:=by omega
   subst this
   refine descPart_ok hc h0 P (by omega) (by omega) (Dn.succ (fun i j a1 b1=>by rw[show i=j from by omega]; exact Nat.le_refl _) (by omega) (by omega)) k
theorem place_ok(hc:Answers n rk cmp s)(h0:0<n){p:Array Nat}(P:Pm n p){G:Nat→Shared→Prop}{k:Nat}(u:Up rk p k):∀(f l r:Nat),l≤r→r≤k→r-l≤f→(∀i,i<l→R rk p i≤R rk p k)→(∀i,r≤i→i<k→R rk p k<R rk p i)→
  (∀l',l'≤k→(∀i,i<l'→R rk p i≤R rk p k)→(∀i,l'≤i→i<k→R rk p k<R rk p i)→G l' s)→(kas_place p k f l r).kasWp cmp G s
 | 0,l,r,a,b,c,d,e,g=>g l (by omega) d (by rw[show l=r from by omega]; exact e)
 | f+1,l,r,a,b,c,d,e,g=>by
  unfold kas_place
  by_cases z:l≥r
  .rw[if_pos z]
   exact g l (by omega) d (by rw[show l=r from by omega]; exact e)
  .rw[if_neg z]
   refine hc _ _ _ (P.lt h0 _) (P.lt h0 _) ?_
   by_cases y:rk (p.getD k 0)<rk (p.getD ((l+r)/2) 0)
   .rw[decide_eq_true y]; dsimp only; rw[if_pos rfl]
    refine place_ok hc h0 P u f l _ (by omega) (by omega) (by omega) d (fun i a1 b1=>?_) g
    exact Nat.lt_of_lt_of_le y (u _ i a1 b1)
   .rw[decide_eq_false y]; dsimp only; rw[if_neg (by simp)]
    refine place_ok hc h0 P u f _ r (by omega) b (by omega) (fun i a1=>?_) e g
    exact Nat.le_trans (u i ((l+r)/2) (by omega) (by omega)) (Nat.le_of_not_lt y)
theorem bin_ok(hc:Answers n rk cmp s)(h0:0<n){G:Array Nat→Shared→Prop}:∀(f:Nat) (p:Array Nat) (k:Nat),Pm n p→Up rk p k→k+f=n→(∀p',Pm n p'→Up rk p' n→G p' s)→(kas_bin f p k).kasWp cmp G s
 | 0,p,k,P,u,e,g=>g p P (by rw[←e]; exact u)
 | f+1,p,k,P,u,e,g=>by
  unfold kas_bin
  rw[KasT.kasWp_bind]
  refine place_ok hc h0 P u k 0 k (by omega) (Nat.le_refl _) (by omega) (fun i a=>by omega) (fun i a b=>by omega) fun l hl a b=>?_
  refine bin_ok hc h0 f _ (k+1) (P.bub _ _) (fun i j i1 j1=>?_) (by omega) g
  have hk:k<p.size:=by rw[P.sz]; omega
  rw[bub_R p hk hl i,bub_R p hk hl j]
  by_cases x1:i=l
  .rw[if_pos x1]
   by_cases y1:j=l
   .rw[if_pos y1]; exact Nat.le_refl _
   .rw[if_neg y1,if_pos ⟨by omega,by omega⟩]
    exact Nat.le_of_lt (b _ (by omega) (by omega))
  .rw[if_neg x1]
   by_cases x2:l<i∧i≤k
   .rw[if_pos x2,if_neg (by omega),if_pos ⟨by omega,by omega⟩]
    exact u _ _ (by omega) (by omega)
   .rw[if_neg x2]
    by_cases y1:j=l
    .rw[if_pos y1]; exact a i (by omega)
    .rw[if_neg y1]
     by_cases y2:l<j∧j≤k
     .rw[if_pos y2]; exact u _ _ (by omega) (by omega)
     .rw[if_neg y2]; exact u _ _ i1 (by omega)
theorem sort_ok(hc:Answers n rk cmp s)(h0:0<n){G:Array Nat→Shared→Prop}(g:∀p,p.size=n→p.toList.Perm (List.range n)→(∀i j,i≤j→j<n→rk (p.getD i 0)≤rk (p.getD j 0))→G p s):(kas_sort n).kasWp cmp G s:=by
 unfold kas_sort
 rw[KasT.kasWp_bind]
 refine count_ok hc h0 ⟨by simp,by simp⟩ fun m p P a b u=>?_
 dsimp only
 by_cases z:m<n
 .rw[if_pos z,show max m 1=m from by omega]
  exact bin_ok hc h0 _ p m P u (by omega) fun p' P' u'=>g p' P'.sz P'.pm u'
 .rw[if_neg z]
  have:m=n:=by omega
  subst this
  exact g p P.sz P.pm u
end
def strLt(x y:Str):Bool:=decide (x.cps.toList<y.cps.toList)
theorem strLt_irr(x:Str):strLt x x=false:=decide_eq_false (List.lt_irrefl _)
theorem strLt_tr{x y z:Str}(a:strLt x y=true)(b:strLt y z=true):strLt x z=true:=decide_eq_true (List.lt_trans (of_decide_eq_true a) (of_decide_eq_true b))
theorem strLt_tot{x y:Str}(h:x≠y):strLt x y=true∨strLt y x=true:=by
 have hne:x.cps.toList≠y.cps.toList:=fun e=>h (by cases x; cases y; simp at e; rw[e])
 by_cases a:x.cps.toList<y.cps.toList
 .exact .inl (decide_eq_true a)
 .have b:y.cps.toList≤x.cps.toList:=List.not_lt.mp a
  refine .inr (decide_eq_true ?_)
  by_cases c:y.cps.toList<x.cps.toList
  .exact c
  .exact absurd (List.le_antisymm (List.not_lt.mp c) b) hne
def lexS:List Str→List Str→Bool
 | [],[]=>false
 | [],_::_=>true
 | _::_,[]=>false
 | x::a,y::b=>if x=y then lexS a b else strLt x y
theorem lexS_irr:∀a,lexS a a=false
 | []=>rfl
 | x::a=>by unfold lexS; rw[if_pos rfl]; exact lexS_irr a
theorem lexS_tr:∀{a b c:List Str},lexS a b=true→lexS b c=true→lexS a c=true
 | [],[],_,h,_=>by cases h
 | [],_::_,[],_,h=>by cases h
 | [],_::_,_::_,_,_=>rfl
 | _::_,[],_,h,_=>by cases h
 | _::_,_::_,[],_,h=>by cases h
 | x::a,y::b,z::c,h1,h2=>by
  unfold lexS at h1 h2 ⊢
  by_cases e:x=y
  .subst e
   rw[if_pos rfl] at h1
   by_cases f:x=z
   .rw[if_pos f] at h2 ⊢
    exact lexS_tr h1 h2
   .rw[if_neg f] at h2 ⊢
    exact h2
  .rw[if_neg e] at h1
   by_cases f:y=z
   .subst f
    rw[if_neg e]; exact h1
   .rw[if_neg f] at h2
    have t:=strLt_tr h1 h2
    by_cases g:x=z
    .subst g; rw[strLt_irr] at t; cases t
    .rw[if_neg g]; exact t
theorem lexS_tot:∀{a b:List Str},a≠b→lexS a b=true∨lexS b a=true
 | [],[],h=>absurd rfl h
 | [],_::_,_=>.inl rfl
 | _::_,[],_=>.inr rfl
 | x::a,y::b,h=>by
  unfold lexS
  by_cases e:x=y
  .subst e
   rw[if_pos rfl,if_pos rfl]
   exact lexS_tot fun z=>h (by rw[z])
  .rw[if_neg e,if_neg fun z=>e z.symm]
   exact strLt_tot e
theorem filter_lt{α:Type}{p q:α→Bool}(h:∀x,p x=true→q x=true){y:α}(hq:q y=true)(hp:p y=false):∀l:List α,y∈l→(l.filter p).length<(l.filter q).length:=by
 have le:∀l:List α,(l.filter p).length≤(l.filter q).length:=by
  intro l
  induction l with
  | nil=>exact Nat.le_refl _
  | cons x l ih=>
   rw[List.filter_cons,List.filter_cons]
   cases e:p x with
   | true=>rw[h x e]; simp; exact ih
   | false=>cases q x<;>simp<;>omega
 intro l
 induction l with
 | nil=>intro m; cases m
 | cons x l ih=>
  intro m
  rw[List.filter_cons,List.filter_cons]
  rcases List.mem_cons.mp m with rfl | m
  .rw[hq,hp]; simp; have:=le l; omega
  .have:=ih m
   cases e:p x with
   | true=>rw[h x e]; simp; exact this
   | false=>cases q x<;>simp<;>omega
def rankK(ks:List (List Str))(k:List Str):Nat:=(ks.filter fun x=>lexS x k).length
theorem rank_lt{ks:List (List Str)}{a b:List Str}(ha:a∈ks)(h:lexS a b=true):rankK ks a<rankK ks b:=filter_lt (p:=fun x=>lexS x a) (q:=fun x=>lexS x b) (y:=a) (fun x hx=>lexS_tr hx h) h (lexS_irr a) ks ha
theorem rank_iff{ks:List (List Str)}{a b:List Str}(ha:a∈ks)(hb:b∈ks):decide (rankK ks a<rankK ks b)=lexS a b:=by
 cases e:lexS a b with
 | true=>exact decide_eq_true (rank_lt ha e)
 | false=>
  refine decide_eq_false fun h=>?_
  by_cases z:a=b
  .subst z; omega
  .rcases lexS_tot z with q | q
   .rw[e] at q; cases q
   .have:=rank_lt hb q; omega
def insK(k:List Str):List (List Str)→List (List Str)
 | []=>[k]
 | x::l=>if k=x then x::l else if lexS k x then k::x::l else x::insK k l
def ssort(l:List (List Str)):List (List Str):=l.foldr insK []
def SUp(l:List (List Str)):Prop:=l.Pairwise fun a b=>lexS a b=true
theorem insK_mem{k x:List Str}:∀{l:List (List Str)},x∈insK k l↔x=k∨x∈l
 | []=>by simp[insK]
 | y::l=>by
  unfold insK
  by_cases e:k=y
  .subst e; simp
  .rw[if_neg e]
   split
   .simp
   .rw[List.mem_cons,insK_mem (l:=l),List.mem_cons]
    constructor
    .rintro(h | h | h)
     .exact .inr (.inl h)
     .exact .inl h
     .exact .inr (.inr h)
    .rintro(h | h | h)
     .exact .inr (.inl h)
     .exact .inl h
     .exact .inr (.inr h)
theorem insK_up{k:List Str}:∀{l:List (List Str)},SUp l→SUp (insK k l)
 | [],_=>List.pairwise_singleton _ _
 | y::l,u=>by
  obtain⟨u1,u2⟩:=List.pairwise_cons.mp u
  unfold insK
  by_cases e:k=y
  .rw[if_pos e]; exact u
  .rw[if_neg e]
   split
   .rename_i h
    refine List.pairwise_cons.mpr ⟨fun z hz=>?_,u⟩
    rcases List.mem_cons.mp hz with rfl | hz
    .exact h
    .exact lexS_tr h (u1 z hz)
   .rename_i h
    refine List.pairwise_cons.mpr ⟨fun z hz=>?_,insK_up u2⟩
    rcases insK_mem.mp hz with rfl | hz
    .rcases lexS_tot e with q | q
     .exact absurd q h
     .exact q
    .exact u1 z hz
theorem ssort_up:∀l,SUp (ssort l)
 | []=>List.Pairwise.nil
 | _::l=>insK_up (ssort_up l)
theorem ssort_mem{x:List Str}:∀{l},x∈ssort l↔x∈l
 | []=>Iff.rfl
 | y::l=>by
  show x∈insK y (ssort l)↔_
  rw[insK_mem,ssort_mem (l:=l),List.mem_cons]
theorem up_uniq:∀{a b:List (List Str)},SUp a→SUp b→(∀x,x∈a↔x∈b)→a=b
 | [],[],_,_,_=>rfl
 | [],y::b,_,_,h=>by have:=(h y).mpr (List.mem_cons_self ..); cases this
 | x::a,[],_,_,h=>by have:=(h x).mp (List.mem_cons_self ..); cases this
 | x::a,y::b,ua,ub,h=>by
  obtain⟨a1,a2⟩:=List.pairwise_cons.mp ua
  obtain⟨b1,b2⟩:=List.pairwise_cons.mp ub
  have e:x=y:=by
   rcases List.mem_cons.mp ((h x).mp (List.mem_cons_self ..)) with e | m1
   .exact e
   .rcases List.mem_cons.mp ((h y).mpr (List.mem_cons_self ..)) with e | m2
    .exact e.symm
    .have:=lexS_tr (b1 x m1) (a1 y m2)
     rw[lexS_irr] at this
     cases this
  subst e
  congr 1
  refine up_uniq a2 b2 fun z=>⟨fun m=>?_,fun m=>?_⟩
  .rcases List.mem_cons.mp ((h z).mp (List.mem_cons_of_mem _ m)) with e | m'
   .subst e; have:=a1 z m; rw[lexS_irr] at this; cases this
   .exact m'
  .rcases List.mem_cons.mp ((h z).mpr (List.mem_cons_of_mem _ m)) with e | m'
   .subst e; have:=b1 z m; rw[lexS_irr] at this; cases this
   .exact m'
section
variable{prog:Program}{w:World}{A:Around}{E:Value→Shared→Prop}{s:Shared}
abbrev SK(prog:Program)(w:World):PySem.KeyKind prog w Str:=PySem.strKind prog w
def lexGo(fin:Bool):List Str→List Str→Bool
 | x::a,y::b=>if x=y then lexGo fin a b else strLt x y
 | _,_=>fin
theorem lexGo_eq:∀a b:List Str,lexGo (decide (a.length<b.length)) a b=lexS a b
 | [],[]=>rfl
 | [],_::_=>by simp[lexGo,lexS]
 | _::_,[]=>by simp[lexGo,lexS]
 | x::a,y::b=>by
  unfold lexGo lexS
  have:decide ((x::a).length<(y::b).length)=decide (a.length<b.length):=by simp
  rw[this,lexGo_eq a b]
theorem kat_items{fin:Bool}{Q:Bool→Shared→Prop}:∀{ka kb:List Str} {xs ys:List Value} {i:Nat},ItemsAre (SK prog w) ka xs→ItemsAre (SK prog w) kb ys→Q (lexGo fin ka kb) s→KatLex prog w A true fin Q (xs.zip ys) i s
 | [],kb,xs,ys,i,ha,hb,q=>by cases ha; exact kat_nil (by unfold lexGo at q; exact q)
 | x::ka,[],xs,ys,i,ha,hb,q=>by cases hb; rw[List.zip_nil_right]; exact kat_nil (by unfold lexGo at q; exact q)
 | x::ka,y::kb,xs,ys,i,ha,hb,q=>by
  cases ha with
  | @cons _ u _ xs h1 ha=>
   cases hb with
   | @cons _ v _ ys h2 hb=>
    rw[List.zip_cons_cons]
    refine kat_cons ((SK prog w).eqBool (a:=x) (b:=y) h1 h2 ?_)
    unfold lexGo at q
    by_cases e:x=y
    .rw[if_pos e] at q
     rw[decide_eq_true e]
     exact kat_yes (kat_items ha hb q)
    .rw[if_neg e] at q
     rw[decide_eq_false e]
     refine kat_no ?_
     obtain⟨t,rfl⟩:=Value.isStrOf_shape h1
     obtain⟨t',rfl⟩:=Value.isStrOf_shape h2
     by_cases z:i=0
     .subst z
      exact oneLt_str q
     .have:(true&&i==0)=false:=by simp[z]
      rw[this]
      exact kat_one _ _ (PyProof.Rows.lt_str q)
theorem lt_tup{ka kb:List Str}{x y:Addr}{Q:Bool→Shared→Prop}(ha:IsTupleKey (SK prog w) s.heap ka x)(hb:IsTupleKey (SK prog w) s.heap kb y)(q:Q (lexS ka kb) s):wpAny (model prog w) A (keyLt' (tuples' true) (.ref x) (.ref y)) Q E s:=by
 obtain⟨ox,xs,nx,e1,_,e2,i1⟩:=ha
 obtain⟨oy,ys,ny,f1,_,f2,i2⟩:=hb
 refine kat_lt e1 e2 f1 f2 (kat_items i1 i2 ?_)
 have l1:=i1.length
 have l2:=i2.length
 have:decide (xs.size<ys.size)=decide (ka.length<kb.length):=by rw[l1,l2]; simp
 rw[this,lexGo_eq]
 exact q
theorem range_getD{α:Type}(l:List α)(d:α):(List.range l.length).map (fun i=>l.getD i d)=l:=by
 apply List.ext_getElem
 .simp
 .intro i h1 h2
  simp[List.getD,h2]
theorem kat_tups{h:Heap}:∀{L:List (List Str×Addr)},(∀p∈L,IsTupleKey (SK prog w) h p.1 p.2∧p.1≠[])→∃fs,KatTups h (L.map fun p=>Value.ref p.2) fs∧fs.length=L.length∧∀v∈fs,∃x t,v=Value.str x t
 | [],_=>⟨[],KatTups.nil,rfl,fun v hv=>by cases hv⟩
 | p::L,hL=>by
  obtain⟨fs,a,b,c⟩:=kat_tups (L:=L) fun q hq=>hL q (List.mem_cons_of_mem _ hq)
  obtain⟨⟨o,xs,n,e1,e2,e3,i1⟩,ne⟩:=hL p (List.mem_cons_self ..)
  cases hk:p.1 with
  | nil=>exact absurd hk ne
  | cons k ks=>
   rw[hk] at i1
   cases hx:xs.toList with
   | nil=>rw[hx] at i1; cases i1
   | cons v vs=>
    rw[hx] at i1
    cases i1 with
    | cons h1 _=>
     obtain⟨t,rfl⟩:=Value.isStrOf_shape h1
     refine⟨Value.str k t::fs,KatTups.cons e1 e2 e3 ?_ a,by simp[b],fun u hu=>?_⟩
     .have:xs.toList[0]?=some (Value.str k t):=by rw[hx]; rfl
      simpa using this
     .rcases List.mem_cons.mp hu with rfl | hu
      .exact⟨_,_,rfl⟩
      .exact c u hu
theorem sort_tups{a:Addr}{L:List (List Str×Addr)}{n:Nat}{P:PySem.Fin→Shared→Prop}(hobj:s.heap.get? a=some (seqObj "list" (L.map fun p=>Value.ref p.2).toArray n))(hL:∀p∈L,IsTupleKey (SK prog w) s.heap p.1 p.2∧p.1≠[])(h64:L.length<64)
  (k:∀(L':List (List Str×Addr)) (h':Heap) (n':Nat),L'.Perm L→(L'.map (·.1)).Pairwise (fun x y=>lexS y x=false)→h'.get? a=some (seqObj "list" (L'.map fun p=>Value.ref p.2).toArray n')→(∀b o,b≠a→s.heap.get? b=some o→h'.get? b=some o)→P (.done (.ret .none)) { s with heap:=h' }) :
  wpAny (model prog w) A (Builtin.«list.sort» ⟨[.ref a],[]⟩) P E s:=by
 have lenV:(L.map fun p=>Value.ref p.2).length=L.length:=by simp
 have alt:a<s.heap.objs.size:=Heap.lt_size hobj
 rw[list_sort_plain]
 refine wpAny_bind (listItems_at hobj rfl (wpAny_bind (listUpdate_at hobj rfl ?_)))
 obtain⟨ep,obj1⟩:∃ep,(s.heap.update a (Obj.mapSeq fun _=>#[])).get? a=some (seqObj "list" #[] ep):=⟨_,get?_update_seq hobj (fun _=>#[])⟩
 refine wpAny_bind (seqEpoch_at obj1 rfl (wpAny_bind (wpAny_newTuple (wpAny_bind (wpAny_newList (wpAny_holding ?_))))))
 let h3:Heap:=((s.heap.update a (Obj.mapSeq fun _=>#[])).push (seqObj "tuple" (L.map fun p=>Value.ref p.2).toArray 0)).push (seqObj "list" #[] 0)
 show wpAny (model prog w) A _ P E { s with heap:=h3 }
 have other:∀b o,b≠a→s.heap.get? b=some o→h3.get? b=some o:=fun b o ne e=>by
  refine Heap.get?_push_of_some _ (Heap.get?_push_of_some _ ?_)
  rw[Heap.get?_update_ne _ _ _ _ ne]; exact e
 have obj3:h3.get? a=some (seqObj "list" #[] ep):=Heap.get?_push_of_some _ (Heap.get?_push_of_some _ obj1)
 have tups:∀p∈L,IsTupleKey (SK prog w) h3 p.1 p.2∧p.1≠[]:=fun p hp=>by
  obtain⟨⟨o,its,m,e1,e2,e3,e4⟩,ne⟩:=hL p hp
  refine⟨⟨o,its,m,other _ _ (fun z=>?_) e1,e2,e3,e4⟩,ne⟩
  rw[z,hobj] at e1
  cases e1
  exact absurd (Value.type.inj (show Value.type "list" = Value.type "tuple" from e2)) (by decide)
 have last:∀L':List (List Str×Addr),L'.Perm L→(L'.map (·.1)).Pairwise (fun x y=>lexS y x=false)→∀h',h'=h3.update a (Obj.mapSeq fun _=>(L'.map fun p=>Value.ref p.2).toArray)→P (.done (.ret .none)) { s with heap:=h' }:=fun L' pe up h' e=>by
  obtain⟨n',on⟩:∃n',(h3.update a (Obj.mapSeq fun _=>(L'.map fun p=>Value.ref p.2).toArray)).get? a=some (seqObj "list" (L'.map fun p=>Value.ref p.2).toArray n'):=⟨_,get?_update_seq obj3 _⟩
  subst e
  exact k L' _ n' pe up on fun b o ne q=>by rw[Heap.get?_update_ne _ _ _ _ ne]; exact other b o ne q
 dsimp only
 by_cases few:(L.map fun p=>Value.ref p.2).toArray.size<2
 .rw[if_pos few,if_pos few]
  refine wpAny_bind (wpAny_pure ?_)
  rw[StateT.run_pure]
  refine wpAny_bind (wpAny_pure ?_)
  dsimp only
  have srt:(L.map (·.1)).Pairwise (fun x y=>lexS y x=false):=by
   match L,few with
   | [],_=>exact List.Pairwise.nil
   | [x],_=>exact List.pairwise_singleton _ _
   | _::_::_,few=>simp at few; omega
  refine wpAny_bind (seqEpoch_at obj3 rfl ?_)
  refine wpAny_bind (listUpdate_at obj3 rfl ?_ (hsz2:=?_))
  .simp only[bne_self_eq_false,Bool.false_eq_true,if_false]
   refine wpAny_pure (last L (List.Perm.refl _) srt _ ?_)
   show h3.update a (Obj.mapSeq fun _=>Array.map (·.2) (Array.zip _ _))=_
   congr 2
   funext _
   apply Array.toList_inj.mp
   simp[List.map_snd_zip]
  .refine Nat.le_trans (m:=L.length) ?_ (by rw[sizeLine_eq]; omega)
   show(Array.map (fun x=>x.2) ((L.map fun p=>Value.ref p.2).toArray.zip (L.map fun p=>Value.ref p.2).toArray)).size≤L.length
   simp
 .rw[if_neg few,if_neg few]
  have two:2≤L.length:=by simp at few; omega
  obtain⟨fs,kt,kl,kv⟩:=kat_tups tups
  refine wpAny_bind (kat_kind (s:={ s with heap:=h3 }) (T:=.type "str") kt (by omega) (fun v hv=>?_) (by decide) ?_)
  .obtain⟨x,t,rfl⟩:=kv v hv
   exact Looks.of_pure rfl
  .have gv:∀i,i<L.length→(L.map fun p=>Value.ref p.2).getD i Value.none=.ref (L.getD i ([],0)).2:=fun i hi=>by simp[List.getD,hi]
   have mem:∀i,i<L.length→L.getD i ([],0)∈L:=fun i hi=>by simp[List.getD,hi]
   have kin:∀i,i<L.length→(L.getD i ([],0)).1∈L.map (·.1):=fun i hi=>List.mem_map.mpr ⟨_,mem i hi,rfl⟩
   refine wpAny_bind (wpAny_mono (kat_run (s:={ s with heap:=h3 }) (ks:=L.map fun p=>Value.ref p.2) (vs:=L.map fun p=>Value.ref p.2) (κ:=tuples' true) (G:=fun p s'=>s'={ s with heap:=h3 }∧p.toList.Perm (List.range L.length)∧∀i j,i≤j→j<L.length→rankK (L.map (·.1)) (L.getD (p.getD i 0) ([],0)).1≤rankK (L.map (·.1)) (L.getD (p.getD j 0) ([],0)).1)
    (Q:=fun st' s'=>s'={ s with heap:=h3 }∧∃p:Array Nat,p.size=L.length∧arrOf st'=p.map (kas_item ((L.map fun p=>Value.ref p.2).toArray.zip (L.map fun p=>Value.ref p.2).toArray))∧failedOf st'=none∧p.toList.Perm (List.range L.length)∧∀i j,i≤j→j<L.length→rankK (L.map (·.1)) (L.getD (p.getD i 0) ([],0)).1≤rankK (L.map (·.1)) (L.getD (p.getD j 0) ([],0)).1)
    rfl (by omega) (by omega) (fun p st' s' a1 a2 a3 a4=>⟨a4.1,p,a1.trans lenV,a2,a3,a4.2.1,a4.2.2⟩) ?_) ?_ fun _ _ e=>e)
   .rw[lenV]
    refine sort_ok (n:=L.length) (rk:=fun i=>rankK (L.map (·.1)) (L.getD i ([],0)).1) (fun i j C hi hj hC=>?_) (by omega) fun p a1 a2 a3=>⟨rfl,a2,a3⟩
    unfold kas_ask
    rw[gv i hi,gv j hj]
    refine lt_tup (tups _ (mem i hi)).1 (tups _ (mem j hj)).1 ?_
    rw[←rank_iff (kin i hi) (kin j hj)]
    exact hC
   .rintro⟨⟨⟩,st'⟩ s' ⟨rfl,p,psz,har,hf,pp,up⟩
    dsimp only
    have out:=kat_snds (ks:=L.map fun p=>Value.ref p.2) (vs:=L.map fun p=>Value.ref p.2) rfl har
    have plt:∀i∈p.toList,i<L.length:=fun i hi=>List.mem_range.mp (pp.mem_iff.mp hi)
    have out2:(arrOf st').map (·.2)=((p.toList.map fun i=>L.getD i ([],0)).map fun q=>Value.ref q.2).toArray:=by
     rw[out,List.map_map]
     congr 1
     exact List.map_congr_left fun i hi=>gv i (plt i hi)
    have pe:(p.toList.map fun i=>L.getD i ([],0)).Perm L:=by
     have:=pp.map fun i=>L.getD i ([],0)
     rw[range_getD] at this
     exact this
    have srt:((p.toList.map fun i=>L.getD i ([],0)).map (·.1)).Pairwise (fun x y=>lexS y x=false):=by
     rw[List.pairwise_iff_getElem]
     intro i j hi hj hij
     simp only[List.length_map,Array.length_toList] at hi hj
     have e1:∀m,(hm:m<p.size)→((p.toList.map fun i=>L.getD i ([],0)).map (·.1))[m]'(by simpa using hm)=(L.getD (p.getD m 0) ([],0)).1:=fun m hm=>by simp[Array.getD,hm]
     rw[e1 i hi,e1 j hj]
     have le:=up i j (by omega) (by omega)
     have mi:p.getD i 0<L.length:=by simp only[Array.getD,hi,dite_true]; exact plt _ (by simp)
     have mj:p.getD j 0<L.length:=by simp only[Array.getD,hj,dite_true]; exact plt _ (by simp)
     rw[←rank_iff (kin _ mj) (kin _ mi)]
     exact decide_eq_false (by omega)
    rw[out2]
    refine wpAny_bind (seqEpoch_at obj3 rfl ?_)
    refine wpAny_bind (listUpdate_at obj3 rfl ?_ (hsz2:=?_))
    .rw[hf]
     simp only[bne_self_eq_false,Bool.false_eq_true,if_false]
     exact wpAny_pure (last _ pe srt _ rfl)
    .rw[sizeLine_eq]
     simp
     omega
end
theorem erase_perm{α:Type}:∀(l:List α) (i:Nat) (x:α),l[i]?=some x→l.Perm (x::l.eraseIdx i)
 | [],i,x,h=>by simp at h
 | y::l,0,x,h=>by simp at h; subst h; exact List.Perm.refl _
 | y::l,i+1,x,h=>by
  have:=erase_perm l i x (by simpa using h)
  rw[List.eraseIdx_cons_succ]
  exact(List.Perm.cons _ this).trans (List.Perm.swap _ _ _)
theorem pick_go{α:Type}(next:Nat→Nat):∀(fuel k:Nat) (left:List α) (out:Array α),left.length≤fuel→(pickOrder.go next fuel k left out).toList.Perm (out.toList++left)
 | 0,k,left,out,h=>by
  have:left=[]:=List.length_eq_zero_iff.mp (by omega)
  subst this
  simp[pickOrder.go]
 | fuel+1,k,left,out,h=>by
  unfold pickOrder.go
  cases left with
  | nil=>simp
  | cons y l=>
   have hlt:next k%(y::l).length<(y::l).length:=Nat.mod_lt _ (by simp)
   obtain⟨x,hx⟩:∃x,(y::l)[next k%(y::l).length]?=some x:=⟨_,List.getElem?_eq_getElem hlt⟩
   rw[hx]
   dsimp only
   have ih:=pick_go next fuel (k+1) ((y::l).eraseIdx (next k%(y::l).length)) (out.push x) (by
    rw[List.length_eraseIdx_of_lt hlt]; omega)
   refine ih.trans ?_
   rw[Array.toList_push,List.append_assoc]
   exact List.Perm.append_left _ (erase_perm _ _ _ hx).symm
theorem pick_perm{α:Type}(next:Nat→Nat)(xs:Array α):(pickOrder next xs).toList.Perm xs.toList:=by
 unfold pickOrder
 have:=pick_go next xs.size 0 xs.toList #[] (by simp)
 simpa using this
section
variable{prog:Program}{w:World}{A:Around}{E:Value→Shared→Prop}{s:Shared}
theorem wp_chs{n:Nat}{Q:Nat→Shared→Prop}(hn:n≠0)(h:∀i d,i<n→Q i { s with drawn:=d }):wpAny (model prog w) A (choose .order n) Q E s:=by
 intro Γ p _
 unfold choose
 rw[Sem.wp_choose]
 refine⟨hn,?_⟩
 rw[Sem.wp_pure]
 exact h _ _ (Nat.mod_lt _ (Nat.pos_of_ne_zero hn))
theorem draw_ok{α:Type}:∀(n:Nat) (xs:List α) (s:Shared) {Q:List α→Shared→Prop},n=xs.length→(∀ys d,ys.Perm xs→Q ys { s with drawn:=d })→wpAny (model prog w) A (drawOrder n xs) Q E s
 | 0,xs,s,Q,e,h=>by
  have:xs=[]:=List.length_eq_zero_iff.mp e.symm
  subst this
  unfold drawOrder
  have:=h [] s.drawn (List.Perm.refl _)
  exact wpAny_pure this
 | n+1,[],s,Q,e,h=>by cases e
 | n+1,x::xs,s,Q,e,h=>by
  unfold drawOrder
  refine wpAny_bind (wp_chs (by simp) fun i d hi=>?_)
  obtain⟨y,hy⟩:∃y,(x::xs)[i]?=some y:=⟨_,List.getElem?_eq_getElem hi⟩
  rw[hy]
  dsimp only
  refine wpAny_bind (draw_ok n ((x::xs).eraseIdx i) _ (by rw[List.length_eraseIdx_of_lt hi]; simp at e ⊢; omega) fun ys d' pe=>wpAny_pure ?_)
  exact h (y::ys) d' ((List.Perm.cons _ pe).trans (erase_perm _ _ _ hy).symm)
theorem slotN:Slot "set_iterator" "__next__" "set_iterator.__next__":=.of (owner:="set_iterator") (n:="__next__") (by rw[typeLookup_type,builtinLookup_eq_fast]; kernel_rfl) (by decide +kernel) (by decide +kernel) (by decide +kernel) (.inl (by decide +kernel)) (by rw[isSubtype_type]; kernel_rfl)
theorem entryN:entryFor table "set_iterator.__next__" = some Builtin.«set_iterator.__next__»:=entryFor_of_tree (by kernel_rfl)
theorem argsN(a:Value):argsOk "set_iterator.__next__" ⟨[a],[]⟩:=by unfold argsOk; kernel_rfl
theorem entryI:entryFor table "set.__iter__" = some Builtin.«frozenset.__iter__»:=entryFor_alias (id':="frozenset.__iter__") (by kernel_rfl) rfl (by decide +kernel) (by kernel_rfl)
def IsSI(h:Heap)(I:Addr)(first:Value)(i:Nat)(a:Addr)(n ep:Nat):Prop:=h.get? I=some { cls:=.type "set_iterator",dict:=none,data:=.fields #[first,.int i 0,.ref a,.int n 0,.int ep 0],slots:=#[] }
theorem IsSI.typeIs{I:Addr}{first:Value}{i n ep:Nat}{a:Addr}(h:IsSI s.heap I first i a n ep):s.TypeIs (.ref I) "set_iterator":=⟨_,h,rfl⟩
def slotAt(t:SetTable)(i:Nat):Nat:=if i=0 then 0 else t.place.getD (i-1) 0+1
theorem below_slot{t:SetTable}(T:TOk t){i:Nat}(hi:i≤t.place.size):SetTable.below t.place (slotAt t i)=i:=by
 by_cases z:i=0
 .subst z
  show SetTable.below t.place 0=0
  obtain⟨a,b,c⟩:=below_ok (xs:=t.place) (j:=0) T.up
  by_cases y:SetTable.below t.place 0=0
  .exact y
  .have:=b 0 (by omega) (by omega)
   omega
 .have hlt:i-1<t.place.size:=by omega
  have e:slotAt t i=t.place[i-1]+1:=by unfold slotAt; rw[if_neg z]; simp[Array.getD,hlt]
  rw[e]
  obtain⟨a,b,c⟩:=below_ok (xs:=t.place) (j:=t.place[i-1]+1) T.up
  have mono:=List.pairwise_iff_getElem.mp T.up
  rcases Nat.lt_trichotomy (SetTable.below t.place (t.place[i-1]+1)) i with q | q | q
  .have:=c (i-1) hlt (by omega)
   omega
  .exact q
  .have h1:i<t.place.size:=by omega
   have:=b i h1 q
   have m:=mono (i-1) i (by simpa using hlt) (by simpa using h1) (by omega)
   simp only[Array.getElem_toList] at m
   omega
def Md(w:World)(h:Heap)(a:Addr)(es:Array (Int×Value))(t:SetTable)(ep:Nat)(vs:List Value)(first:Value)(i:Nat):Prop:=
 (w.params.followText "set-order" = true∧first=.int 0 0∧vs=(pickOrder (w.params.setOrder a ep) es).toList.map (·.2)) ∨
 (w.params.followText "set-order" = false∧(!t.plain&&decide (es.size>1))=true∧∃(T:Addr) (places:List Nat) (oT:Obj) (m:Nat),first=.ref T∧h.get? T=some oT∧oT.data=.seq (places.map fun j=>Value.int (j:Nat) 0).toArray m∧vs=places.map (fun j=>(es.toList.getD j (0,.none)).2)∧∀j∈places,j<es.size) ∨
 (w.params.followText "set-order" = false∧(!t.plain&&decide (es.size>1))=false∧t.led=true∧first=.int (slotAt t i:Nat) 0∧vs=es.toList.map (·.2))
theorem wp_byText{Q:Bool→Shared→Prop}(h:Q (w.params.followText "set-order") s):wpAny (model prog w) A setsByText Q E s:=by
 unfold setsByText
 exact wpAny_bind (wpAny_askSetting (wpAny_pure h))
theorem wp_fields{I:Addr}{oi:Obj}{fs:Array Value}{Q:Array Value→Shared→Prop}(e1:s.heap.get? I=some oi)(e3:oi.data=.fields fs)(h:Q fs s):wpAny (model prog w) A (fieldsOf (.ref I)) Q E s:=by
 unfold fieldsOf
 refine wpAny_bind (wpAny_load e1 ?_)
 rw[e3]
 exact wpAny_pure h
theorem wp_ifn{α:Type}{c:Bool}{X Y:Sem α}{Q:α→Shared→Prop}(hc:c=false)(h:wpAny (model prog w) A Y Q E s):wpAny (model prog w) A (if c=true then X else Y) Q E s:=by
 rw[hc,if_neg (by simp)]; exact h
theorem next_text{a:Addr}{o:Obj}{es:Array (Int×Value)}{ep i slot:Nat}{t:SetTable}{R:List (Nat×(Int×Value))}{Q:Option (Value×Nat)→Shared→Prop}(ho:s.heap.get? a=some o)(hd:o.data=.set es ep t)(S:SOk t es.toList R)(m1:w.params.followText "set-order" = true)
  (q:Q (((pickOrder (w.params.setOrder a ep) es)[i]?).map fun e=>(e.2,slot)) s):wpAny (model prog w) A (setNext a slot i ep) Q E s:=by
 unfold setNext
 refine wpAny_bind (wpAny_setState_of ho hd S.fits ?_)
 dsimp only
 refine wpAny_bind (wp_byText ?_)
 rw[m1,if_pos rfl,if_neg (by simp)]
 refine wpAny_bind ?_
 unfold setWalk
 refine wpAny_bind (wpAny_setState_of ho hd S.fits ?_)
 dsimp only
 refine wpAny_bind (wp_byText ?_)
 rw[m1,if_pos rfl]
 exact wpAny_bind (wpAny_askSetting (wpAny_pure (wpAny_pure q)))
theorem next_slot{a:Addr}{o:Obj}{es:Array (Int×Value)}{ep i:Nat}{t:SetTable}{R:List (Nat×(Int×Value))}{Q:Option (Value×Nat)→Shared→Prop}(ho:s.heap.get? a=some o)(hd:o.data=.set es ep t)(S:SOk t es.toList R)(m1:w.params.followText "set-order" = false)
  (m2:(!t.plain&&decide (es.size>1))=false) (m4:t.led=true) (hi:i≤es.size) (q:Q (es[i]?.map fun e=>(e.2,slotAt t (i+1))) s):wpAny (model prog w) A (setNext a (slotAt t i) i ep) Q E s:=by
 have lenP:t.place.size=es.size:=by
  have a1:=congrArg List.length S.pl
  have a2:=congrArg List.length S.es
  simp only[List.length_map,Array.length_toList] at a1 a2
  omega
 unfold setNext
 refine wpAny_bind (wpAny_setState_of ho hd S.fits ?_)
 dsimp only
 refine wpAny_bind (wp_byText ?_)
 rw[m1,if_neg (by simp)]
 refine wp_ifn m2 ?_
 refine wpAny_bind (wp_eq (v:=()) (if_neg (by rw[m4]; simp)) ?_)
 rw[below_slot S.T (by omega)]
 refine wpAny_pure ?_
 by_cases z:i<es.size
 .have e1:es[i]?=some es[i]:=by simp[z]
  have e2:t.place[i]?=some t.place[i]:=by simp[show i<t.place.size by omega]
  rw[e1,e2]
  rw[e1] at q
  have e3:slotAt t (i+1)=t.place[i]+1:=by unfold slotAt; rw[if_neg (by omega)]; simp[Array.getD,show i<t.place.size by omega]
  rw[e3] at q
  exact q
 .have e1:es[i]?=none:=by simp[Nat.le_of_not_lt z]
  rw[e1]
  rw[e1] at q
  exact q
theorem two_fields{I a:Addr}{n ep i nx:Nat}{old x:Value}{P:PySem.Fin→Shared→Prop}(hi:IsSI s.heap I old i a n ep)(hP:∀h',IsSI h' I (.int nx 0) (i+1) a n ep→Heap.SameBut I s.heap h'→P (.done (.ret x)) { s with heap:=h' }) :
  wpAny (model prog w) A (do
   setField (Value.ref I) 0 (rawInt nx)
   setField (Value.ref I) 1 (rawInt ((i:Int)+1))
   ret x) P E s:=by
 refine wpAny_bind (wpAny_setField_rec hi (by simp) fun h1 g1 b1=>wpAny_bind (wpAny_setField_rec g1 (by simp) fun h2 g2 b2=>wpAny_pure (hP h2 ?_ (b1.trans b2))))
 exact g2
theorem one_field{I a:Addr}{n ep i:Nat}{old x:Value}{P:PySem.Fin→Shared→Prop}(hi:IsSI s.heap I old i a n ep)(hP:∀h',IsSI h' I old (i+1) a n ep→Heap.SameBut I s.heap h'→P (.done (.ret x)) { s with heap:=h' }) :
  wpAny (model prog w) A (do
   setField (Value.ref I) 1 (rawInt ((i:Int)+1))
   ret x) P E s:=by
 refine wpAny_bind (wpAny_setField_rec hi (by simp) fun h2 g2 b2=>wpAny_pure (hP h2 ?_ b2))
 exact g2
theorem Md.step{a I:Addr}{es:Array (Int×Value)}{t:SetTable}{ep i:Nat}{vs:List Value}{T:Addr}{h h':Heap}(md:Md w h a es t ep vs (.ref T) i)(ne:T≠I)(sb:Heap.SameBut I h h'):Md w h' a es t ep vs (.ref T) (i+1):=by
 rcases md with ⟨m1,m2,m3⟩ | ⟨m1,m2,T',places,oT,m,e,t1,t2,m3,m4⟩ | ⟨m1,m2,m4,m5,m3⟩
 .cases m2
 .cases e
  exact .inr (.inl ⟨m1,m2,_,places,oT,m,rfl,(sb.2 _ ne).trans t1,t2,m3,m4⟩)
 .cases m5
theorem si_item{I a:Addr}{o:Obj}{es:Array (Int×Value)}{ep:Nat}{t:SetTable}{R:List (Nat×(Int×Value))}{vs:List Value}{first x:Value}{i:Nat}{Q:Option Value→Shared→Prop}(ho:s.heap.get? a=some o)(hd:o.data=.set es ep t)(S:SOk t es.toList R)
  (hi:IsSI s.heap I first i a es.size ep) (md:Md w s.heap a es t ep vs first i) (hx:vs[i]?=some x) (hne:∀T,first=.ref T→T≠I)
  (k:∀first' h',IsSI h' I first' (i+1) a es.size ep→Md w h' a es t ep vs first' (i+1)→(∀T,first'=.ref T→first=.ref T)→Heap.SameBut I s.heap h'→Q (some x) { s with heap:=h' }):wpAny (model prog w) A (pyNext (.ref I)) Q E s:=by
 unfold pyNext
 refine wpAny_bind (wpAny_attempt (wpAny_callSpecial?_slot (name:=Str.ofString "__next__") hi.typeIs slotN (wpAny_call_entry slotN hi.typeIs entryN ?_ (argsN _))))
 unfold Builtin.«set_iterator.__next__»
 refine wpAny_bind (show wpAny _ _ (slotArgs "__next__" 0 { pos:=[Value.ref I] }) _ _ _ from wpAny_pure ?_)
 dsimp only
 refine wpAny_bind (wp_fields hi rfl ?_)
 dsimp only
 refine wpAny_bind (wpAny_setEntries_of ho hd S.fits ?_)
 rw[if_neg (by simp)]
 have lt:i<vs.length:=by
  obtain⟨q,_⟩:=List.getElem?_eq_some_iff.mp hx
  exact q
 have md':=md
 rcases md with ⟨m1,rfl,m3⟩ | ⟨m1,m2,T,places,oT,m,rfl,t1,t2,m3,m4⟩ | ⟨m1,m2,m4,rfl,m3⟩
 .dsimp only
  simp only[Int.toNat_natCast]
  refine wpAny_bind (next_text (i:=i) (slot:=0) ho hd S m1 ?_)
  obtain⟨e,z1,rfl⟩:∃e,(pickOrder (w.params.setOrder a ep) es)[i]?=some e∧e.2=x:=by
   rw[m3,List.getElem?_map] at hx
   obtain⟨e,z1,z2⟩:=Option.map_eq_some_iff.mp hx
   exact⟨e,by simpa using z1,z2⟩
  rw[z1]
  dsimp only[Option.map]
  exact two_fields hi fun h' g b=>⟨_,rfl,wpAny_pure (k _ h' g (.inl ⟨m1,rfl,m3⟩) (fun T e=>by cases e) b)⟩
 .dsimp only
  refine wpAny_bind (wpAny_seqItems t1 t2 ?_)
  dsimp only
  simp only[Int.toNat_natCast]
  obtain⟨j,z1,z2⟩:∃j,places[i]?=some j∧(es.toList.getD j (0,.none)).2=x:=by
   rw[m3,List.getElem?_map] at hx
   obtain⟨e,z1,z2⟩:=Option.map_eq_some_iff.mp hx
   exact⟨e,z1,z2⟩
  have jlt:=m4 j (List.mem_of_getElem? z1)
  have e1:(places.map fun j=>Value.int (j:Nat) 0).toArray[i]?=some (Value.int (j:Nat) 0):=by simp[z1]
  rw[e1]
  dsimp only
  simp only[Int.toNat_natCast]
  refine wpAny_bind ?_
  unfold setNextDrawn
  refine wpAny_bind (wpAny_setState_of ho hd S.fits ?_)
  dsimp only
  rw[if_neg (by simp)]
  have e2:es[j]?=some (es.toList.getD j (0,.none)):=by simp[List.getD,jlt]
  rw[e2]
  dsimp only
  refine wpAny_pure ?_
  rw[z2]
  exact one_field hi fun h' g b=>⟨_,rfl,wpAny_pure (k _ h' g (md'.step (hne _ rfl) b) (fun _ e=>e) b)⟩
 .dsimp only
  simp only[Int.toNat_natCast]
  rw[m3,List.length_map,Array.length_toList] at lt
  refine wpAny_bind (next_slot (i:=i) ho hd S m1 m2 m4 (by omega) ?_)
  obtain⟨e,z1,rfl⟩:∃e,es[i]?=some e∧e.2=x:=by
   rw[m3,List.getElem?_map] at hx
   obtain⟨e,z1,z2⟩:=Option.map_eq_some_iff.mp hx
   exact⟨e,by simpa using z1,z2⟩
  rw[z1]
  dsimp only[Option.map]
  exact two_fields hi fun h' g b=>⟨_,rfl,wpAny_pure (k _ h' g (.inr (.inr ⟨m1,m2,m4,rfl,m3⟩)) (fun T e=>by cases e) b)⟩
end
section
variable{prog:Program}{w:World}{A A':Around}{E:Value→Shared→Prop}{s:Shared}
theorem stop_ok{P:PySem.Fin→Shared→Prop}{Q:Option Value→Shared→Prop}(hh:A'.handled=none)(h:∀h',(∀b o,s.heap.get? b=some o→h'.get? b=some o)→Q none { s with heap:=h' }) :
  wpAny (model prog w) A' (do
   let e ←newExc (.type "StopIteration") []
   raiseNew e) P (fun e s'=>wpAny (model prog w) A (do
    let b ←isInstance e (.type "StopIteration")
    if b=true then pure none else throw e) Q E s') s:=by
 refine wpAny_bind ?_
 simp only[newExc,newTuple]
 refine wpAny_bind (wpAny_newObj_type ?_ (by size_fits))
 refine wpAny_bind (m:=firstArgMember _ _) (wpAny_of_eq (a:=Value.none) (by first | rfl | (simp only[firstArgMember]; rfl)) (wpAny_newObj_type ?_ (by size_fits)))
 simp only[raiseNew]
 refine wpAny_bind (wpAny_handled ?_)
 rw[hh]
 refine wpAny_bind (wpAny_pure (wpAny_throw ?_))
 refine wpAny_bind (wpAny_isInstance (T:="StopIteration") (b:=true) ⟨_,Heap.get?_push_size _ rfl,rfl⟩ isSubtype_stop ?_)
 exact wpAny_pure (h _ fun b o e=>Heap.get?_push_of_some _ (Heap.get?_push_of_some _ e))
theorem si_done{I a:Addr}{o:Obj}{es:Array (Int×Value)}{ep:Nat}{t:SetTable}{R:List (Nat×(Int×Value))}{vs:List Value}{first:Value}{i:Nat}{Q:Option Value→Shared→Prop}(hh:A.handled=none)(ho:s.heap.get? a=some o)(hd:o.data=.set es ep t)(S:SOk t es.toList R)
  (hi:IsSI s.heap I first i a es.size ep) (md:Md w s.heap a es t ep vs first i) (hx:i=vs.length) (hv:vs.length=es.size)
  (k:∀h',(∀b o,b≠I→s.heap.get? b=some o→h'.get? b=some o)→Q none { s with heap:=h' }):wpAny (model prog w) A (pyNext (.ref I)) Q E s:=by
 unfold pyNext
 refine wpAny_bind (wpAny_attempt (wpAny_callSpecial?_slot (name:=Str.ofString "__next__") hi.typeIs slotN (wpAny_call_entry slotN hi.typeIs entryN ?_ (argsN _))))
 unfold Builtin.«set_iterator.__next__»
 refine wpAny_bind (show wpAny _ _ (slotArgs "__next__" 0 { pos:=[Value.ref I] }) _ _ _ from wpAny_pure ?_)
 dsimp only
 refine wpAny_bind (wp_fields hi rfl ?_)
 dsimp only
 refine wpAny_bind (wpAny_setEntries_of ho hd S.fits ?_)
 rw[if_neg (by simp)]
 have hh1:A.in1.handled=none:=by simpa using hh
 rcases md with ⟨m1,rfl,m3⟩ | ⟨m1,m2,T,places,oT,m,rfl,t1,t2,m3,m4⟩ | ⟨m1,m2,m4,rfl,m3⟩
 .dsimp only
  simp only[Int.toNat_natCast]
  refine wpAny_bind (next_text (i:=i) (slot:=0) ho hd S m1 ?_)
  have z1:(pickOrder (w.params.setOrder a ep) es)[i]?=none:=by
   have:=(pick_perm (w.params.setOrder a ep) es).length_eq
   rw[Array.length_toList,Array.length_toList] at this
   simp; omega
  rw[z1]
  dsimp only[Option.map]
  refine wpAny_bind (wpAny_setField_rec hi (by simp) fun h1 g1 b1=>?_)
  exact stop_ok hh1 fun h' e=>k h' fun b o ne q=>e b o ((b1.2 b ne).trans q)
 .dsimp only
  refine wpAny_bind (wpAny_seqItems t1 t2 ?_)
  dsimp only
  simp only[Int.toNat_natCast]
  have e1:(places.map fun j=>Value.int (j:Nat) 0).toArray[i]?=none:=by
   have:=congrArg List.length m3
   rw[List.length_map] at this
   simp; omega
  rw[e1]
  dsimp only
  refine wpAny_bind (wpAny_setField_rec hi (by simp) fun h1 g1 b1=>?_)
  refine wpAny_bind (wpAny_setField_rec g1 (by simp) fun h2 g2 b2=>?_)
  exact stop_ok hh1 fun h' e=>k h' fun b o ne q=>e b o (((b1.trans b2).2 b ne).trans q)
 .dsimp only
  simp only[Int.toNat_natCast]
  refine wpAny_bind (next_slot (i:=i) ho hd S m1 m2 m4 (by omega) ?_)
  have z1:es[i]?=none:=by simp; omega
  rw[z1]
  dsimp only[Option.map]
  refine wpAny_bind (wpAny_setField_rec hi (by simp) fun h1 g1 b1=>?_)
  exact stop_ok hh1 fun h' e=>k h' fun b o ne q=>e b o ((b1.2 b ne).trans q)
theorem wp_ify{α:Type}{c:Bool}{X Y:Sem α}{Q:α→Shared→Prop}(hc:c=true)(h:wpAny (model prog w) A X Q E s):wpAny (model prog w) A (if c=true then X else Y) Q E s:=by
 rw[hc,if_pos rfl]; exact h
theorem slotNI:Slot "set_iterator" "__iter__" "set_iterator.__iter__":=.of (owner:="set_iterator") (n:="__iter__") (by rw[typeLookup_type,builtinLookup_eq_fast]; kernel_rfl) (by decide +kernel) (by decide +kernel) (by decide +kernel) (.inl (by decide +kernel)) (by rw[isSubtype_type]; kernel_rfl)
theorem entryNI:entryFor table "set_iterator.__iter__" = some Builtin.«dict_keyiterator.__iter__»:=entryFor_alias (id':="dict_keyiterator.__iter__") (by kernel_rfl) rfl (by decide +kernel) (by kernel_rfl)
theorem argsNI(a:Value):argsOk "set_iterator.__iter__" ⟨[a],[]⟩:=by unfold argsOk; kernel_rfl
theorem walks_set(hh:A.handled=none){I a:Addr}{es:Array (Int×Value)}{ep:Nat}{t:SetTable}{R:List (Nat×(Int×Value))}{vs:List Value}(S:SOk t es.toList R)(hv:vs.length=es.size)(hne:a≠I)(fp:List Addr)(hI:I∈fp)(ha:a∈fp) :
  Walks prog w A I fp [I] vs.length (fun i v=>vs[i]?=some v) (fun i h=>∃o first,h.get? a=some o∧o.data=.set es ep t∧IsSI h I first i a es.size ep∧Md w h a es t ep vs first i∧∀T,first=.ref T→T≠I∧T∈fp) where
 sub:=fun b hb=>by simp at hb; rw[hb]; exact hI
 frame:=fun i h h' st hk=>by
  obtain⟨o,first,h1,h2,h3,h4,h5⟩:=st
  refine⟨o,first,hk a ha _ h1,h2,hk I hI _ h3,?_,h5⟩
  rcases h4 with m | ⟨m1,m2,T,places,oT,m,e,t1,t2,m3,m4⟩ | m
  .exact .inl m
  .exact .inr (.inl ⟨m1,m2,T,places,oT,m,e,hk T (h5 T e).2 _ t1,t2,m3,m4⟩)
  .exact .inr (.inr m)
 item:=fun i s Q E hi st hQ=>by
  obtain⟨o,first,h1,h2,h3,h4,h5⟩:=st
  have hx:vs[i]?=some vs[i]:=by simp[hi]
  refine si_item h1 h2 S h3 h4 hx (fun T e=>(h5 T e).1) fun first' h' g1 g2 g3 sb=>?_
  refine hQ vs[i] h' s.toks hx ⟨o,first',(sb.2 a hne).trans h1,h2,g1,g2,fun T e=>h5 T (g3 T e)⟩ fun b o' hb e=>(sb.2 b (by simpa using hb)).trans e
 done:=fun s Q E st hQ=>by
  obtain⟨o,first,h1,h2,h3,h4,h5⟩:=st
  exact si_done hh h1 h2 S h3 h4 rfl hv fun h' e=>hQ h' s.toks fun b o hb q=>e b o (by simpa using hb) q
 self:=fun i s Q E st hQ=>by
  obtain⟨o,first,h1,h2,h3,h4,h5⟩:=st
  refine wpAny_pyIter_slot h3.typeIs slotNI (wpAny_call_entry slotNI h3.typeIs entryNI ?_ (argsNI _))
  show wpAny _ _ (ret (.ref I)) _ _ s
  exact wpAny_pure ⟨_,rfl,"set_iterator",_,h3.typeIs,slotN.lookup,hQ⟩
theorem iter_set{a:Addr}{o:Obj}{es:Array (Int×Value)}{ep:Nat}{t:SetTable}{R:List (Nat×(Int×Value))}{Q:Value→Shared→Prop}(ho:s.heap.get? a=some o)(hc:o.cls=.type "set")(hd:o.data=.set es ep t)(S:SOk t es.toList R)(hled:t.led = !w.params.followText "set-order")(hz:es.size≤4000)
  (k:∀I first h' d vs,s.heap.objs.size≤I→IsSI h' I first 0 a es.size ep→Md w h' a es t ep vs first 0→vs.Perm (es.toList.map (·.2))→(∀T,first=.ref T→T≠I∧s.heap.objs.size≤T∧T<h'.objs.size)→(∀b o,s.heap.get? b=some o→h'.get? b=some o)→Q (.ref I) { s with heap:=h',drawn:=d }) :
  wpAny (model prog w) A (pyIter (.ref a)) Q E s:=by
 have hT:s.TypeIs (.ref a) "set":=⟨o,ho,hc⟩
 refine wpAny_pyIter_slot hT F.slot_set_iter (wpAny_call_entry F.slot_set_iter hT entryI ?_ (F.args_set_iter_1 _))
 unfold Builtin.«frozenset.__iter__»
 refine wpAny_bind (show wpAny _ _ (Builtin.Frozenset.slot0 "__iter__" { pos:=[Value.ref a] }) _ _ _ from wpAny_bind (wpAny_pure (wpAny_pure ?_)))
 unfold Builtin.Frozenset.sizeOf
 refine wpAny_bind (wpAny_bind (wpAny_setEntries_of ho hd S.fits (wpAny_pure ?_)))
 unfold setDrawn
 refine wpAny_bind (wpAny_bind (wpAny_setState_of ho hd S.fits ?_))
 dsimp only
 refine wpAny_bind (wp_byText ?_)
 refine wpAny_pure ?_
 have num:∀vs,Md w s.heap a es t ep vs (.int 0 0) 0→vs.Perm (es.toList.map (·.2))→wpAny (model prog w) A.in1 (do
   let first ←pure (rawInt 0)
   let e ←setEpoch a
   let it ←newFields "set_iterator" [first,rawInt 0,Value.ref a,rawInt es.size,rawInt e]
   ret it) (fun fin s'=>∃v,fin=Fin.done (Flow.ret v)∧∃T' r,s'.TypeIs v T'∧typeLookup (Value.type T') (Str.ofString "__next__")=pure (some r)∧Q v s') E s:=by
  intro vs md pe
  refine wpAny_bind (wpAny_pure ?_)
  refine wpAny_bind (wpAny_setEpoch_of ho hd S.fits ?_)
  refine wpAny_bind (wpAny_newObj_type ?_)
  refine wpAny_pure ⟨_,rfl,"set_iterator",_,⟨_,Heap.get?_push_size _ rfl,rfl⟩,slotN.lookup,?_⟩
  refine k s.heap.objs.size (.int 0 0) _ s.drawn vs (Nat.le_refl _) (Heap.get?_push_size _ rfl) ?_ pe (fun T e=>by cases e) fun b o e=>Heap.get?_push_of_some _ e
  rcases md with m | ⟨m1,m2,T,places,oT,m,e,_⟩ | m
  .exact .inl m
  .cases e
  .exact .inr (.inr m)
 by_cases bt:w.params.followText "set-order" = true
 .refine wp_ifn (by rw[bt]; rfl) ?_
  exact num _ (.inl ⟨bt,rfl,rfl⟩) ((pick_perm _ es).map _)
 .have bt:w.params.followText "set-order" = false:=by simpa using bt
  by_cases dr:(!t.plain&&decide (es.size>1))=true
  .refine wp_ify (show(!w.params.followText "set-order" && (!t.plain&&decide (es.size>1)))=true by rw[bt,dr]; rfl) ?_
   refine wpAny_bind (draw_ok es.size (List.range es.size) s (by simp) fun ys d pe=>?_)
   refine wpAny_bind (wpAny_newTuple ?_ (by rw[List.length_map,pe.length_eq,List.length_range,sizeLine_eq]; omega))
   have ho2:(s.heap.push { cls:=.type "tuple",data:=.seq (ys.map fun(i:Nat)=>rawInt (i:Int)).toArray }).get? a=some o:=Heap.get?_push_of_some _ ho
   refine wpAny_bind (wpAny_setEpoch_of (s:={ s with heap:=s.heap.push { cls:=.type "tuple",data:=.seq (ys.map fun(i:Nat)=>rawInt (i:Int)).toArray },drawn:=d }) ho2 hd S.fits ?_)
   refine wpAny_bind (wpAny_newObj_type ?_)
   refine wpAny_pure ⟨_,rfl,"set_iterator",_,⟨_,Heap.get?_push_size _ rfl,rfl⟩,slotN.lookup,?_⟩
   have sz:(s.heap.push { cls:=.type "tuple",data:=.seq (ys.map fun(i:Nat)=>rawInt (i:Int)).toArray }).objs.size=s.heap.objs.size+1:=Heap.size_push ..
   refine k (s.heap.push { cls:=.type "tuple",data:=.seq (ys.map fun(i:Nat)=>rawInt (i:Int)).toArray }).objs.size (.ref s.heap.objs.size) _ d (ys.map fun j=>(es.toList.getD j (0,.none)).2) (by rw[sz]; omega) (Heap.get?_push_size _ rfl) ?_ ?_ (fun T e=>?_) fun b o e=>Heap.get?_push_of_some _ (Heap.get?_push_of_some _ e)
   .refine .inr (.inl ⟨bt,dr,s.heap.objs.size,ys,_,_,rfl,Heap.get?_push_of_some _ (Heap.get?_push_size _ rfl),rfl,rfl,fun j hj=>?_⟩)
    exact List.mem_range.mp (pe.mem_iff.mp hj)
   .have:=pe.map fun j=>(es.toList.getD j (0,Value.none)).2
    refine this.trans ?_
    have e2:=congrArg (List.map (fun(x:Int×Value)=>x.2)) (range_getD es.toList (0,Value.none))
    rw[List.map_map,Array.length_toList] at e2
    exact List.Perm.of_eq e2
   .cases e
    refine⟨by rw[sz]; exact Nat.ne_of_lt (Nat.lt_succ_self _),Nat.le_refl _,?_⟩
    rw[Heap.size_push,sz]; exact Nat.lt_succ_of_lt (Nat.lt_succ_self _)
  .have dr:(!t.plain&&decide (es.size>1))=false:=by simpa using dr
   refine wp_ifn (show(!w.params.followText "set-order" && (!t.plain&&decide (es.size>1)))=false by rw[dr]; simp) ?_
   exact num _ (.inr (.inr ⟨bt,dr,by rw[hled,bt]; rfl,rfl,rfl⟩)) (List.Perm.refl _)
end
section
variable{prog:Program}{w:World}{A:Around}{E:Value→Shared→Prop}{s:Shared}
theorem len_set:typeLookup (.type "set") "__len__" = pure (some (.builtin "set.__len__")):=by rw[typeLookup_type,builtinLookup_eq_fast]; kernel_rfl
theorem hint_set{a:Addr}{Q:Bool→Shared→Prop}(hT:s.TypeIs (.ref a) "set")(h:Q false s):wpAny (model prog w) A (Builtin.List.listLengthHint (.ref a)) Q E s:=by
 unfold Builtin.List.listLengthHint
 refine wpAny_bind (wpAny_specialOf hT len_set ?_)
 dsimp only
 generalize hid:("set.__len__":String)=idl
 rw[show splitId idl=some ("set","__len__") from by subst hid; decide +kernel]
 subst hid
 dsimp only
 refine wpAny_bind (wpAny_isInstance (b:=true) hT (by rw[isSubtype_type]; kernel_rfl) ?_)
 rw[if_neg (by decide)]
 refine wp_ify (by decide +kernel) ?_
 refine wpAny_bind (wpAny_typeOf hT ?_)
 exact wpAny_pure h
theorem collect_set{S:Addr}{L:List (List Str×Addr)}{Q:List Value→Shared→Prop}(hh:A.handled=none)(hS:SetT (SK prog w) s.heap S L)(hb:L.length<900)
  (k:∀(L':List (List Str×Addr)) (s':Shared),L'.Perm L→(∀b o,s.heap.get? b=some o→s'.heap.get? b=some o)→s'.gens=s.gens→s'.os=s.os→s.heap.objs.size≤s'.heap.objs.size→Q (L'.map fun p=>Value.ref p.2) s'):wpAny (model prog w) A (collect (.ref S)) Q E s:=by
 obtain⟨o,es,ep,t,R,ho,hex,hd,hm,hled,S0,hL,nd,hT⟩:=hS
 have lenE:es.size=L.length:=by have:=congrArg List.length hL; simpa using this
 have ltS:S<s.heap.objs.size:=Heap.lt_size ho
 unfold collect
 refine wpAny_bind (wpAny_runValue (codeAny_builtin F.entry_proto_collect ?_))
 rw[Around.under_plainId F.plain_proto_collect _]
 show wpAny _ A.in1 (newList [] >>= fun nl=>again (.builtin "list.__iadd__" ⟨[nl,.ref S],[]⟩)) _ _ s
 refine wpAny_bind (wpAny_newObj_type ?_)
 refine wpAny_pure ⟨plainId_quiet F.plain_list_iadd _,codeAny_builtin F.entry_list_iadd ?_⟩
 rw[Around.under_plainId F.plain_list_iadd _]
 generalize hN:s.heap.objs.size=N
 show wpAny _ A.in1 (Builtin.List.listExtendWith (.ref N) (.ref S) (.ref N)) _ _ _
 let h1:Heap:=s.heap.push { cls:=.type "list",data:=.seq ([]:List Value).toArray }
 have keep1:∀b o,s.heap.get? b=some o→h1.get? b=some o:=fun b o e=>Heap.get?_push_of_some _ e
 have sz1:h1.objs.size=N+1:=by rw[←hN]; exact Heap.size_push ..
 have ho1:h1.get? S=some o:=keep1 _ _ ho
 have obN:h1.get? N=some { cls:=.type "list",data:=.seq ([]:List Value).toArray }:=by rw[←hN]; exact Heap.get?_push_size _ rfl
 have neS:N≠S:=by rw[←hN]; exact(Nat.ne_of_lt ltS).symm
 show wpAny _ A.in1 _ _ _ { s with heap:=h1 }
 have hTy:Shared.TypeIs { s with heap:=h1 } (.ref S) "set":=⟨o,ho1,hex.1⟩
 unfold Builtin.List.listExtendWith
 refine wpAny_bind (wpAny_typeOf hTy ?_)
 refine wp_ifn (by simp[Builtin.List.listSameRef,neS]) ?_
 refine wpAny_bind (iter_set (s:={ s with heap:=h1 }) ho1 hex.1 hd S0 hled (by omega) fun I first h2 d vs gI gSI gMd gPe gT gK=>?_)
 refine wpAny_bind (wpAny_holding (hint_set ⟨o,gK _ _ ho1,hex.1⟩ ?_))
 refine wp_ify (by decide +kernel) ?_
 refine wpAny_bind (wpAny_rule ?_)
 refine wpAny_bind ?_
 show wpAny _ A.in1 (updateSeq N (·.push .none) >>= fun _=>updateSeq N (·.pop)) _ _ _
 have obN2:h2.get? N=some { cls:=.type "list",data:=.seq ([]:List Value).toArray }:=gK _ _ obN
 refine wpAny_bind (wpAny_updateSeq obN2 rfl ?_)
 have up1:=Heap.get?_update_self (Obj.mapSeq (·.push Value.none)) obN2 rfl
 refine wpAny_updateSeq up1 rfl ?_
 have up2:=Heap.get?_update_self (Obj.mapSeq (·.pop)) up1 rfl
 have off:∀b o,b≠N→h2.get? b=some o→((h2.update N (Obj.mapSeq (·.push Value.none))).update N (Obj.mapSeq (·.pop))).get? b=some o:=
  fun b o ne e=>(Heap.get?_update_other _ _ (Ne.symm ne)).trans ((Heap.get?_update_other _ _ (Ne.symm ne)).trans e)
 let fp:List Addr:=I::S::(match first with | .ref T=>[T] | _=>[])
 have lenV:vs.length=es.size:=by have:=gPe.length_eq; simpa using this
 have gI':N+1≤I:=by rw[←sz1]; exact gI
 have neI:S≠I:=fun e=>by
  have:S<N:=by rw[←hN]; exact ltS
  exact absurd gI' (by rw[←e]; exact Nat.not_le.mpr (Nat.lt_succ_of_lt this))
 have nF:N∉fp:=by
  intro m
  rcases List.mem_cons.mp m with e | m
  .exact absurd gI' (by rw[←e]; exact Nat.not_succ_le_self _)
  .rcases List.mem_cons.mp m with e | m
   .exact neS e
   .cases first with
    | ref T=>
     have e:N=T:=by simpa using m
     have:=(gT T rfl).2.1
     have this:N+1≤T:=by rw[←sz1]; exact this
     exact absurd this (by rw[←e]; exact Nat.not_succ_le_self _)
    | _=>simp at m
 have inF:∀T,first=.ref T→T∈fp:=fun T e=>by
  subst e
  exact List.mem_cons_of_mem _ (List.mem_cons_of_mem _ (by simp))
 have hh1:A.in1.handled=none:=by simpa using hh
 have W:=(walks_set (prog:=prog) (w:=w) (A:=A.in1) hh1 (I:=I) (a:=S) (ep:=ep) (vs:=vs) S0 lenV neI fp (List.mem_cons_self ..) (List.mem_cons_of_mem _ (List.mem_cons_self ..))).toS
 have mdK:Md w ((h2.update N (Obj.mapSeq (·.push Value.none))).update N (Obj.mapSeq (·.pop))) S es t ep vs first 0:=by
  rcases gMd with m | ⟨m1,m2,T,places,oT,m,e,t1,t2,m3,m4⟩ | m
  .exact .inl m
  .refine .inr (.inl ⟨m1,m2,T,places,oT,m,e,off _ _ (fun z=>?_) t1,t2,m3,m4⟩)
   exact nF (z▸inF T e)
  .exact .inr (.inr m)
 have nI:I≠N:=fun e=>nF (by rw[←e]; exact List.mem_cons_self ..)
 refine wpAny_pure ⟨plainId_quiet F.plain_extend_loop _,codeAny_extend_loopS W (by rw[sizeLine_eq]; omega) N nF (.ref N) vs.length 0 _ _ _ rfl (Nat.zero_le _) ?_ up2 (ItemsOf.nil _) fun s' acc c hmv hS' hacc=>?_⟩
 .exact⟨o,first,off _ _ (Ne.symm neS) (gK _ _ ho1),hd,off _ _ nI gSI,mdK,fun T e=>⟨(gT T e).1,inF T e⟩⟩
 .show wpAny _ A (load N >>= _) _ _ s'
  refine wpAny_bind (wpAny_load hS' ?_)
  have hacc2:acc.toList=vs:=by
   apply List.ext_getElem
   .rw[Array.length_toList]; exact hacc.1
   .intro i a1 a2
    have this:vs[i]?=some acc.toList[i]:=hacc.2 i acc.toList[i] (by simp)
    rw[List.getElem?_eq_getElem a2] at this
    exact(Option.some.inj this).symm
  have gPe2:(L.map fun p=>Value.ref p.2).Perm vs:=by
   have e:es.toList.map (·.2)=L.map fun p=>Value.ref p.2:=by rw[hL,List.map_map]; rfl
   rw[←e]; exact gPe.symm
  obtain⟨L',q1,q2⟩:=perm_map_inv gPe2 rfl
  refine wpAny_pure ?_
  show Q acc.toList s'
  rw[hacc2,←q2]
  refine k L' s' q1 (fun b ob e=>?_) hmv.gens hmv.os (by rw[hN]; exact Nat.le_of_lt (Heap.lt_size hS'))
  refine hmv.heap b ob ?_ (off b ob ?_ (gK _ _ (keep1 _ _ e)))
  .intro m
   have lt:=Heap.lt_size e
   rw[hN] at lt
   rcases List.mem_cons.mp m with z | m
   .exact Nat.ne_of_lt lt z
   .have z:b=I:=by simpa using m
    exact absurd gI' (by rw[←z]; exact Nat.not_le.mpr (Nat.lt_succ_of_lt lt))
  .have lt:=Heap.lt_size e
   rw[hN] at lt
   exact Nat.ne_of_lt lt
theorem up_of{l:List (List Str)}(nd:l.Nodup)(h:l.Pairwise fun x y=>lexS y x=false):SUp l:=by
 unfold SUp
 refine(List.Pairwise.and h nd).imp fun {x y} q=>?_
 rcases lexS_tot q.2 with z | z
 .exact z
 .rw[q.1] at z; cases z
theorem sorted_set{S:Addr}{L:List (List Str×Addr)}{Q:Value→Shared→Prop}(hh:A.handled=none)(hS:SetT (SK prog w) s.heap S L)(hb:L.length<64)(ne:∀p∈L,p.1≠[])
  (k:∀(D:Addr) (L':List (List Str×Addr)) (n:Nat) (s':Shared),L'.Perm L→L'.map (·.1)=ssort (L.map (·.1))→s'.heap.get? D=some (seqObj "list" (L'.map fun p=>Value.ref p.2).toArray n)→s.heap.objs.size≤D→(∀b o,s.heap.get? b=some o→s'.heap.get? b=some o)→s'.gens=s.gens→s'.os=s.os→Q (.ref D) s') :
  wpAny (model prog w) A (call (.builtin "sorted") [.ref S]) Q E s:=by
 have nd:(L.map (·.1)).Nodup:=by obtain⟨o,es,ep,t,R,_,_,_,_,_,_,_,nd,_⟩:=hS; exact nd
 have tk:∀p∈L,IsTupleKey (SK prog w) s.heap p.1 p.2:=by obtain⟨o,es,ep,t,R,_,_,_,_,_,_,_,_,hT⟩:=hS; exact hT
 refine Calls.call_function_entry kind_sorted plain_sorted entry_sorted (args_sorted1 _) ?_
 unfold Builtin.«sorted»
 refine wpAny_bind (m:=checkCount "sorted" 1 1 _) (wpAny_pure ?_)
 refine wpAny_bind (collect_set (by simpa using hh) hS (by omega) fun L1 s1 p1 k1 g1 o1 le1=>?_)
 refine wpAny_bind (wpAny_newList ?_ (by rw[List.length_map,p1.length_eq,sizeLine_eq]; omega))
 have obD:(s1.heap.push (seqObj "list" (L1.map fun p=>Value.ref p.2).toArray 0)).get? s1.heap.objs.size=some (seqObj "list" (L1.map fun p=>Value.ref p.2).toArray 0):=Heap.get?_push_size _ rfl
 have kp:∀b o,s.heap.get? b=some o→(s1.heap.push (seqObj "list" (L1.map fun p=>Value.ref p.2).toArray 0)).get? b=some o:=fun b o e=>Heap.get?_push_of_some _ (k1 _ _ e)
 show wpAny _ _ _ _ _ { s1 with heap:=s1.heap.push (seqObj "list" (L1.map fun p=>Value.ref p.2).toArray 0) }
 have tk1:∀p∈L1,IsTupleKey (SK prog w) (s1.heap.push (seqObj "list" (L1.map fun p=>Value.ref p.2).toArray 0)) p.1 p.2∧p.1≠[]:=fun p hp=>by
  obtain⟨o,its,m,e1,e2,e3,e4⟩:=tk p (p1.mem_iff.mp hp)
  exact⟨⟨o,its,m,kp _ _ e1,e2,e3,e4⟩,ne p (p1.mem_iff.mp hp)⟩
 refine wpAny_bind (wpAny_holding (wpAny_call_entry slot_list_sort ⟨_,obD,rfl⟩ entry_list_sort (sort_tups (L:=L1) obD tk1 (by rw[p1.length_eq]; exact hb) fun L2 h2 n2 p2 up ob2 off=>⟨_,rfl,?_⟩) (args_list_sort _)))
 refine wpAny_pure ⟨_,rfl,k _ L2 n2 _ (p2.trans p1) ?_ ob2 le1 (fun b o e=>off b o (fun z=>?_) (kp _ _ e)) g1 o1⟩
 .have nd2:(L2.map (·.1)).Nodup:=(((p2.trans p1).map (·.1)).nodup_iff).mpr nd
  refine up_uniq (up_of nd2 up) (ssort_up _) fun x=>?_
  rw[ssort_mem]
  exact((p2.trans p1).map (·.1)).mem_iff
 .have lt:=Heap.lt_size e
  rw[z] at lt
  exact absurd lt (Nat.not_lt.mpr le1)
end
section
variable{prog:Program}{w:World}{A:Around}{E:Value→Shared→Prop}{s:Shared}
theorem SetT.kept{h h':Heap}{S:Addr}{L:List (List Str×Addr)}(hS:SetT (SK prog w) h S L)(k1:∀o,h.get? S=some o→h'.get? S=some o)(k2:∀p∈L,∀o,h.get? p.2=some o→h'.get? p.2=some o):SetT (SK prog w) h' S L:=by
 obtain⟨o,es,ep,t,R,h1,h2,h3,h4,h5,h6,h7,h8,h9⟩:=hS
 refine⟨o,es,ep,t,R,k1 _ h1,h2,h3,h4,h5,h6,h7,h8,fun p hp=>?_⟩
 obtain⟨ob,its,m,e1,e2,e3,e4⟩:=h9 p hp
 exact⟨ob,its,m,k2 p hp _ e1,e2,e3,e4⟩
theorem SetT.fresh(led:Bool)(hl:led = !w.params.followText "set-order"){h:Heap}{S:Addr}(e:h.get? S=some { cls:=.type "set",dict:=none,data:=.set #[] 0 (.fresh 0 0 led) }):SetT (SK prog w) h S []:=by
 have T:TOk (SetTable.fresh 0 0 led):=⟨rfl,List.Pairwise.nil,fun j hj=>(by cases hj),⟨3,Nat.le_refl _,rfl⟩,Nat.zero_le _⟩
 have S:SOk (SetTable.fresh 0 0 led) [] []:=⟨T,rfl,rfl,fun r hr=>(by cases hr),show 0*5<7*3 by decide⟩
 exact⟨_,#[],0,.fresh 0 0 led,[],e,⟨rfl,rfl,rfl⟩,rfl,show 7≤8191 by decide,hl,S,rfl,List.nodup_nil,fun p hp=>(by cases hp)⟩
variable{R:Result→Shared→Prop}{I:Addr}{fp wr:List Addr}{G:Array GenState→Array GenState→Prop}{n:Nat}{P:Nat→Value→Prop}{St:Nat→Shared→Prop}
theorem set_loopT(W:WalksS prog w A.in1 I fp wr G n P St)(S:Addr)(hSf:S∉fp)(key:Nat→List Str)(ad:Nat→Addr)(hval:∀i v,P i v→v=.ref (ad i))(hu:A.in1.units<cLine)(hb:n<890)(hw:∀j,j<n→ad j∉wr∧ad j≠S) :
  ∀(k i:Nat) (s:Shared) (L:List (List Str×Addr)),n-i=k→i≤n→St i s→SetT (SK prog w) s.heap S L→L.length≤i→(∀x,x∈L.map (·.1)↔∃j,j<i∧key j=x)→(∀p∈L,∃j,j<i∧p=(key j,ad j))→(∀j,j<n→IsTupleKey (SK prog w) s.heap (key j) (ad j))→
   (∀s' L',Moved (S::wr) G s s'→SetT (SK prog w) s'.heap S L'→L'.length≤n→(∀x,x∈L'.map (·.1)↔∃j,j<n∧key j=x)→(∀p∈L',∃j,j<n∧p=(key j,ad j))→R (.ok (.ret .none)) s')→
   codeAny (model prog w) A (.builtin "set.update.loop" ⟨[.ref S,.ref I],[]⟩) R s:=by
 have hSw:S∉wr:=fun h=>hSf (W.sub _ h)
 have up:∀b∈wr,b∈S::wr:=fun b hb=>List.mem_cons_of_mem _ hb
 have stay:∀{i:Nat} {L:List (List Str×Addr)} {s s':Shared},i≤n→SetT (SK prog w) s.heap S L→(∀p∈L,∃j,j<i∧p=(key j,ad j))→Moved wr G s s'→SetT (SK prog w) s'.heap S L:=fun hi hS hp hm=>hS.kept (fun o e=>hm.heap S o hSw e) fun p mp o e=>by
  obtain⟨j,j1,rfl⟩:=hp p mp
  exact hm.heap _ o (hw j (by omega)).1 e
 have stayK:∀{s s':Shared},(∀j,j<n→IsTupleKey (SK prog w) s.heap (key j) (ad j))→Moved wr G s s'→∀j,j<n→IsTupleKey (SK prog w) s'.heap (key j) (ad j):=fun hk hm j hj=>by
  obtain⟨ob,its,m,e1,e2,e3,e4⟩:=hk j hj
  exact⟨ob,its,m,hm.heap _ _ (hw j hj).1 e1,e2,e3,e4⟩
 intro k
 induction k with
 | zero=>
  intro i s L hk hi hst hS hlen hmem hpa hkey hR
  obtain rfl:i=n:=by omega
  refine codeAny_builtin PyProof.Rows.F.entry_set_update_loop ?_
  rw[Around.under_plainId PyProof.Rows.F.plain_set_update_loop _]
  show wpAny _ A.in1 (pyNext (.ref I) >>= _) _ _ s; refine wpAny_bind (W.done s _ _ hst fun s' hm=>?_)
  show wpAny _ A.in1 (ret Value.none) _ _ s'; exact wpAny_pure (hR s' L (hm.mono up) (stay hi hS hpa hm) hlen hmem hpa)
 | succ k ih=>
  intro i s L hk hi hst hS hlen hmem hpa hkey hR
  have hlt:i<n:=by omega
  refine codeAny_builtin PyProof.Rows.F.entry_set_update_loop ?_
  rw[Around.under_plainId PyProof.Rows.F.plain_set_update_loop _]
  show wpAny _ A.in1 (pyNext (.ref I) >>= _) _ _ s; refine wpAny_bind (W.item i s _ _ hlt hst fun v s' hP hst' hm=>?_)
  obtain rfl:=hval i v hP
  have hS':=stay hi hS hpa hm
  have hK':=stayK hkey hm
  show wpAny _ A.in1 (holding [Value.ref (ad i)] (setAdd S (.ref (ad i))) >>= _) _ _ s'; refine wpAny_bind (wpAny_holding ?_)
  unfold setAdd
  refine wpAny_holding (wpAny_bind (wpAny_pyHash_tuple hu (hK' i hlt) ?_))
  refine add_tup (knd:=SK prog w) (s:={ s' with toks:=s'.toks+((key i).length+1) }) (L:=L) hu hS' (hK' i hlt) (by omega) fun added h' L' sb ST pe=>?_
  have hlen':L'.length≤i+1:=by
   rw[pe.length_eq]
   split
   .omega
   .simp only[List.length_cons]; omega
  have hmem':∀x,x∈L'.map (·.1)↔∃j,j<i+1∧key j=x:=fun x=>by
   rw[(pe.map (·.1)).mem_iff]
   have st:(∃j,j<i+1∧key j=x)↔(∃j,j<i∧key j=x)∨key i=x:=by
    constructor
    .rintro⟨j,j1,j2⟩
     rcases Nat.lt_or_eq_of_le (Nat.le_of_lt_succ j1) with z | z
     .exact .inl ⟨j,z,j2⟩
     .subst z; exact .inr j2
    .rintro(⟨j,j1,j2⟩ | z)
     .exact⟨j,by omega,j2⟩
     .exact⟨i,by omega,z⟩
   rw[st,←hmem x]
   split
   .rename_i c
    constructor
    .exact .inl
    .rintro(z | z)
     .exact z
     .rw[←z]; exact c
   .rw[List.map_cons,List.mem_cons]
    constructor
    .rintro(z | z)
     .exact .inr z.symm
     .exact .inl z
    .rintro(z | z)
     .exact .inr z
     .exact .inl z.symm
  have hpa':∀p∈L',∃j,j<i+1∧p=(key j,ad j):=fun p mp=>by
   have:=pe.mem_iff.mp mp
   split at this
   .obtain⟨j,j1,j2⟩:=hpa p this
    exact⟨j,by omega,j2⟩
   .rcases List.mem_cons.mp this with z | z
    .exact⟨i,by omega,z⟩
    .obtain⟨j,j1,j2⟩:=hpa p z
     exact⟨j,by omega,j2⟩
  have oS:=hS'
  obtain⟨oS,_,_,_,_,oS1,_⟩:=oS
  refine wpAny_pure ⟨plainId_quiet PyProof.Rows.F.plain_set_update_loop _,ih (i+1) _ L' (by omega) hlt (W.frame _ s' _ _ hst' (Nat.le_add_right _ _) fun b hb o e=>?_) ST hlen' hmem' hpa' (fun j hj=>?_) fun s'' L2 hm'' ST2 z1 z2 z3=>?_⟩
  .rw[sb.2 b (fun h:b=S=>hSf (by rw[←h]; exact hb))]; exact e
  .obtain⟨ob,its,m,e1,e2,e3,e4⟩:=hK' j hj
   exact⟨ob,its,m,(sb.2 _ (hw j hj).2).trans e1,e2,e3,e4⟩
  .refine hR s'' L2 (Moved.trans W.gtrans ((hm.mono up).then_heap (Nat.le_add_right _ _) fun b o hb e=>?_) hm'') ST2 z1 z2 z3
   rw[sb.2 b (fun h:b=S=>hb (by rw[h]; exact List.mem_cons_self))]; exact e
end
section
variable{prog:Program}{w:World}{A:Around}{E:Value→Shared→Prop}{s:Shared}
theorem new_set{Q:Value→Shared→Prop}(h:Q (.ref s.heap.objs.size) { s with heap:=s.heap.push { cls:=.type "set",dict:=none,data:=.set #[] 0 (.fresh 0 0 (!w.params.followText "set-order")) } }):wpAny (model prog w) A (newSet (.type "set")) Q E s:=by
 unfold newSet
 refine wpAny_bind (wp_byText ?_)
 exact wpAny_newObj_type h
theorem code_new(a:Value){Q₁:Value→Shared→Prop}(h:Q₁ (.ref s.heap.objs.size) { s with heap:=s.heap.push { cls:=.type "set",dict:=none,data:=.set #[] 0 (.fresh 0 0 (!w.params.followText "set-order")) } }) :
  codeAny (model prog w) A (.call (.builtin "set.__new__") ⟨[.type "set",a],[]⟩) (wants Q₁ E) s:=by
 refine codeAny_of_tree ?_
 show wpAny _ A.in1 (checkBuiltinCall "set.__new__" ⟨[.type "set",a],[]⟩ >>= fun _=>again (.builtin "set.__new__" ⟨[.type "set",a],[]⟩)) _ _ s
 refine wpAny_bind (wpAny_of_eq (F.newCall_set_1 a) ?_)
 refine wpAny_pure ⟨plainId_quiet F.plain_set_new _,codeAny_builtin F.entry_set_new ?_⟩
 rw[Around.under_plainId F.plain_set_new _]; unfold Builtin.«set.__new__» Builtin.Frozenset.newClass
 have sub:=sub_set_self
 obtain⟨hp,g,d,tk,os⟩:=s
 dsimp only; wp_walk
 refine wpAny_askSetting (wpAny_pure ?_); dsimp only
 exact wpAny_newObj_type (wpAny_pure h)
set_option maxHeartbeats 3200000 in
theorem call_setT{l:Addr}{us:List Value}{Lk:List (List Str×Addr)}{T:String}{Q:Value→Shared→Prop}(hT:T="list" ∨ T="tuple")(hl:∃o n,s.heap.get? l=some o∧o.cls=.type T∧o.data=.seq us.toArray n)(hus:us=Lk.map fun p=>Value.ref p.2)(hk:∀p∈Lk,IsTupleKey (SK prog w) s.heap p.1 p.2)(hh:A.handled=none)(hb:Lk.length<890)(hu:A.units+10<cLine)
  (k:∀(L:List (List Str×Addr)) (h':Heap) (tk:Nat),SetT (SK prog w) h' s.heap.objs.size L→L.length≤Lk.length→(∀x,x∈L.map (·.1)↔x∈Lk.map (·.1))→(∀p∈L,p∈Lk)→(∀b o,s.heap.get? b=some o→h'.get? b=some o)→Q (.ref s.heap.objs.size) { s with heap:=h',toks:=tk }):wpAny (model prog w) A (call (.type "set") [.ref l]) Q E s:=by
 obtain⟨c,tl,hmro⟩:=F.called_set.mro
 have f1:=F.called_set.made; have f2:=F.called_set.sub
 refine wpAny_call (codeAny_of_tree ?_)
 show wpAny _ _ (callAny (.type "set") _) _ _ _
 refine wpAny_pure ⟨Code.quiet_builtin _ (by decide +kernel),codeAny_builtin F.entry_type_call ?_⟩
 rw[Around.under_plain (weight_type_call_type "set" [.ref l] []) rfl]
 have f3:=F.called_set.notType; have f4:=F.called_set.canCreate; have f5:=F.typeCall_set_1 (.ref l)
 repeat (any_goals (first | assumption | wp_step))
 refine codeAny_mono (code_new (.ref l) (E:=E) (Q₁:=fun obj s₁=>obj=.ref s.heap.objs.size∧s₁={ s with heap:=s.heap.push { cls:=.type "set",dict:=none,data:=.set #[] 0 (.fresh 0 0 (!w.params.followText "set-order")) } }) ⟨rfl,rfl⟩) fun r s₁ hr=>?_
 cases r with
 | error e=>exact hr
 | ok fl=>
  cases fl with
  | ret obj=>
   obtain⟨rfl,rfl⟩:=hr
   generalize hh1:s.heap.push { cls:=.type "set",dict:=none,data:=.set #[] 0 (.fresh 0 0 (!w.params.followText "set-order")) }=h1
   have old:∀b o,s.heap.get? b=some o→h1.get? b=some o:=fun b o e=>by rw[←hh1]; exact Heap.get?_push_of_some _ e
   have sz:h1.objs.size=s.heap.objs.size+1:=by rw[←hh1,Heap.size_push]
   have hS:h1.get? s.heap.objs.size=some { cls:=.type "set",dict:=none,data:=.set #[] 0 (.fresh 0 0 (!w.params.followText "set-order")) }:=by rw[←hh1]; exact Heap.get?_push_size _ rfl
   have hTy:Shared.TypeIs { s with heap:=h1 } (.ref s.heap.objs.size) "set":=⟨_,hS,rfl⟩
   have g1:=F.called_set.init.lookup; have g2:=F.called_set.init.bind (.ref s.heap.objs.size)
   repeat (any_goals (first | assumption | wp_step))
   refine codeAny_mono (codeAny_call_builtin (R:=wants (fun r s₂=>r=.none∧∃L h' tk,s₂={ s with heap:=h',toks:=tk }∧SetT (SK prog w) h' s.heap.objs.size L∧L.length≤Lk.length∧(∀x,x∈L.map (·.1)↔x∈Lk.map (·.1))∧(∀p∈L,p∈Lk)∧(∀b o,s.heap.get? b=some o→h'.get? b=some o)) E) F.called_set.init.plain F.entry_set_init (check_set_init_1 hTy ?_)) fun r₂ s₂ hr₂=>?_
   .obtain⟨⟨oc,od,odt,osl⟩,nl,hol,hcl,hdl⟩:=hl
    simp only at hcl hdl
    subst hcl hdl
    have hol':=old _ _ hol
    have hlS:l<s.heap.objs.size:=Heap.lt_size hol
    have hh3:A.in1.in1.in1.handled=none:=by simp[hh]
    have hneI:l≠h1.objs.size:=Nat.ne_of_lt (by rw[sz]; exact Nat.lt_succ_of_lt hlS)
    have hSf:s.heap.objs.size∉[h1.objs.size,l]:=by
     simp only[List.mem_cons,List.not_mem_nil,or_false,not_or]
     exact⟨Nat.ne_of_lt (by rw[sz]; exact Nat.lt_succ_self _),Nat.ne_of_gt hlS⟩
    have lenU:us.toArray.size=Lk.length:=by rw[hus]; simp
    have adlt:∀j,j<us.toArray.size→(Lk.getD j ([],0)).2<s.heap.objs.size∧Lk.getD j ([],0)∈Lk:=fun j hj=>by
     rw[lenU] at hj
     have m:Lk.getD j ([],0)∈Lk:=by simp[List.getD,hj]
     obtain⟨o,its,mm,e1,_⟩:=hk _ m
     exact⟨Heap.lt_size e1,m⟩
    have hw:∀j,j<us.toArray.size→(Lk.getD j ([],0)).2∉[h1.objs.size]∧(Lk.getD j ([],0)).2≠s.heap.objs.size:=fun j hj=>by
     have:=(adlt j hj).1
     refine⟨?_,Nat.ne_of_lt this⟩
     simp only[List.mem_cons,List.not_mem_nil,or_false]
     exact Nat.ne_of_lt (by rw[sz]; exact Nat.lt_succ_of_lt this)
    have hkey:∀(o:Obj) j,j<us.toArray.size→IsTupleKey (SK prog w) (h1.push o) (Lk.getD j ([],0)).1 (Lk.getD j ([],0)).2:=fun o j hj=>by
     obtain⟨ob,its,mm,e1,e2,e3,e4⟩:=hk _ (adlt j hj).2
     exact⟨ob,its,mm,Heap.get?_push_of_some _ (old _ _ e1),e2,e3,e4⟩
    have hval:∀(i:Nat) (v:Value),us.toArray[i]?=some v→v=Value.ref (Lk.getD i ([],0)).2:=fun i v e=>by
     rw[hus,List.getElem?_toArray,List.getElem?_map] at e
     obtain⟨p,p1,p2⟩:=Option.map_eq_some_iff.mp e
     simp[List.getD,p1,←p2]
    have hu3:A.in1.in1.in1.units<cLine:=by simp; omega
    have S0:∀o,SetT (SK prog w) (h1.push o) s.heap.objs.size []:=fun o=>SetT.fresh _ rfl (Heap.get?_push_of_some _ hS)
    have keys:∀x,(∃j,j<us.toArray.size∧(Lk.getD j ([],0)).1=x)↔x∈Lk.map (·.1):=fun x=>by
     constructor
     .rintro⟨j,j1,j2⟩
      exact List.mem_map.mpr ⟨_,(adlt j j1).2,j2⟩
     .intro m
      obtain⟨p,p1,p2⟩:=List.mem_map.mp m
      obtain⟨j,j1,j2⟩:=List.getElem_of_mem p1
      exact⟨j,by rw[lenU]; exact j1,by simp[List.getD,j1,j2,p2]⟩
    have fin:∀{o:Obj} (s':Shared) (L':List (List Str×Addr)),Moved [s.heap.objs.size,h1.objs.size] (fun a b=>b=a) { s with heap:=h1.push o } s'→SetT (SK prog w) s'.heap s.heap.objs.size L'→L'.length≤us.toArray.size→(∀x,x∈L'.map (·.1)↔∃j,j<us.toArray.size∧(Lk.getD j ([],0)).1=x)→(∀p∈L',∃j,j<us.toArray.size∧p=((Lk.getD j ([],0)).1,(Lk.getD j ([],0)).2))→
      ∃L h' tk,s'={ s with heap:=h',toks:=tk }∧SetT (SK prog w) h' s.heap.objs.size L∧L.length≤Lk.length∧(∀x,x∈L.map (·.1)↔x∈Lk.map (·.1))∧(∀p∈L,p∈Lk)∧(∀b o,s.heap.get? b=some o→h'.get? b=some o):=by
     intro o s' L' hm ST ln me pa
     obtain⟨h',g',d',tk',os'⟩:=s'
     obtain rfl:g'=s.gens:=hm.gens
     obtain rfl:d'=s.drawn:=hm.drawn
     obtain rfl:os'=s.os:=hm.os
     refine⟨L',h',tk',rfl,ST,by rw[←lenU]; exact ln,fun x=>(me x).trans (keys x),fun p mp=>?_,fun b o e=>?_⟩
     .obtain⟨j,j1,j2⟩:=pa p mp
      rw[j2]
      exact(adlt j j1).2
     .have hb:=Heap.lt_size e
      exact hm.heap b o (by simp only[List.mem_cons,List.not_mem_nil,or_false,not_or]; exact⟨Nat.ne_of_lt hb,Nat.ne_of_lt (by rw[sz]; exact Nat.lt_succ_of_lt hb)⟩) (Heap.get?_push_of_some _ (old _ _ e))
    rcases hT with rfl | rfl
    .have a1:=F.sub_list_set; have a2:=F.sub_list_frozenset
     have a3:(Value.type "list" == Value.type "dict")=false:=by decide
     have hl1:h1.IsList l us.toArray:=⟨_,hol',rfl,nl,rfl⟩
     unfold Builtin.«set.__init__» noKeywords Builtin.Frozenset.updateFrom
     generalize hPI:pyIter=PI
     wp_walk
     subst hPI
     refine wpAny_pyIter_list hl1 (wpAny_bind (wpAny_runValue ?_))
     refine set_loopT ((Walks.list hh3 _ l hneI us.toArray).toS) s.heap.objs.size hSf (fun j=>(Lk.getD j ([],0)).1) (fun j=>(Lk.getD j ([],0)).2) hval hu3 (by rw[lenU]; exact hb) hw (us.toArray.size-0) 0 _ [] (by omega) (Nat.zero_le _) ⟨⟨_,Heap.get?_push_size _ rfl,rfl,rfl⟩,hl1.push _⟩ (S0 _) (Nat.le_refl _) (fun x=>⟨fun m=>(by cases m),fun⟨j,j1,_⟩=>absurd j1 (Nat.not_lt_zero _)⟩) (fun p mp=>(by cases mp)) (hkey _) fun s' L' hm ST ln me pa=>?_
     show wpAny _ _ _ _ _ _
     refine wpAny_pure ?_
     show wpAny _ _ (ret Value.none) _ _ _
     exact wpAny_pure ⟨rfl,fin s' L' hm ST ln me pa⟩
    .have a1:=sub_tuple_set; have a2:=sub_tuple_frozenset
     have a3:(Value.type "tuple" == Value.type "dict")=false:=by decide
     have hl1:h1.IsTuple l us.toArray:=⟨_,hol',rfl,nl,rfl⟩
     unfold Builtin.«set.__init__» noKeywords Builtin.Frozenset.updateFrom
     generalize hPI:pyIter=PI
     wp_walk
     subst hPI
     refine wpAny_pyIter_tuple hl1 (wpAny_bind (wpAny_runValue ?_))
     refine set_loopT ((Walks.tuple hh3 _ l hneI us.toArray).toS) s.heap.objs.size hSf (fun j=>(Lk.getD j ([],0)).1) (fun j=>(Lk.getD j ([],0)).2) hval hu3 (by rw[lenU]; exact hb) hw (us.toArray.size-0) 0 _ [] (by omega) (Nat.zero_le _) ⟨⟨_,Heap.get?_push_size _ rfl,rfl,rfl⟩,hl1.at fun o e=>Heap.get?_push_of_some _ e⟩ (S0 _) (Nat.le_refl _) (fun x=>⟨fun m=>(by cases m),fun⟨j,j1,_⟩=>absurd j1 (Nat.not_lt_zero _)⟩) (fun p mp=>(by cases mp)) (hkey _) fun s' L' hm ST ln me pa=>?_
     show wpAny _ _ _ _ _ _
     refine wpAny_pure ?_
     show wpAny _ _ (ret Value.none) _ _ _
     exact wpAny_pure ⟨rfl,fin s' L' hm ST ln me pa⟩
   .cases r₂ with
    | error e=>exact hr₂
    | ok fl₂=>
     cases fl₂ with
     | ret r=>
      obtain⟨rfl,L,h',tk,rfl,hS',z1,z2,z3,z4⟩:=hr₂
      repeat (any_goals (first | assumption | wp_step))
      exact k L h' tk hS' z1 z2 z3 z4
     | _=>exact hr₂.elim
  | _=>exact hr.elim
end
theorem SOk.congr{t t':SetTable}{es:List (Int×Value)}{R:List (Nat×(Int×Value))}(S:SOk t es R)(m:t'.mask=t.mask)(p:t'.place=t.place)(d:t'.dummies=t.dummies):SOk t' es R:=
 ⟨⟨d.trans S.T.nod,by rw[p]; exact S.T.up,by rw[p,m]; exact S.T.le,by rw[m]; exact S.T.pow,by rw[p,m]; exact S.T.room⟩,by rw[p]; exact S.pl,S.es,fun r hr=>(S.on r hr).mono m.symm fun j hj=>by rw[p]; exact hj,by rw[p,m]; exact S.few⟩
section
variable{prog:Program}{w:World}{A:Around}{E:Value→Shared→Prop}{s:Shared}
theorem SetT.tab{h:Heap}{a:Addr}{L:List (List Str×Addr)}(S:SetT (SK prog w) h a L):∃o es ep t R,h.get? a=some o∧o.ExactSet∧o.data=.set es ep t∧t.mask≤8191∧t.led=(!w.params.followText "set-order")∧SOk t es.toList R∧es.toList=L.map (fun p=>(tupleKeyHash (SK prog w) p.1,Value.ref p.2))∧es.size=L.length∧t.place.size=L.length:=by
 obtain⟨o,es,ep,t,R,h1,h2,h3,h4,h5,h6,h7,_⟩:=S
 have lenE:es.size=L.length:=by have:=congrArg List.length h7; simpa using this
 refine⟨o,es,ep,t,R,h1,h2,h3,h4,h5,h6,h7,lenE,?_⟩
 have a1:=congrArg List.length h6.pl
 have a2:=congrArg List.length h6.es
 simp only[List.length_map,Array.length_toList] at a1 a2
 omega
theorem room_tup{a:Addr}{L:List (List Str×Addr)}{more:Nat}{Q:Unit→Shared→Prop}(hS:SetT (SK prog w) s.heap a L)(hb:L.length+more≤900)
  (k:∀h' L',Heap.SameBut a s.heap h'→SetT (SK prog w) h' a L'→L'.Perm L→(∃o es ep t,h'.get? a=some o∧o.data=.set es ep t∧(L.length+more)*5<t.mask*3)→Q () { s with heap:=h' }):wpAny (model prog w) A (setRoomFor a more) Q E s:=by
 have hS0:=hS
 obtain⟨o,es,ep,t,R,h1,h2,h3,h4,h5,h6,h7,lenE,lenP⟩:=hS.tab
 obtain⟨_,_,_,_,_,_,_,_,_,_,_,_,nd,hT⟩:=hS0
 have eta:s={ s with heap:=s.heap }:=by cases s; rfl
 unfold setRoomFor
 refine wpAny_bind (wpAny_setState_of h1 h3 h6.fits ?_)
 dsimp only
 have fl:t.fill=L.length:=by unfold SetTable.fill; rw[h6.T.nod,lenP]; rfl
 by_cases c:(t.fill+more)*5≥t.mask*3
 .have e:t.roomFor more=some ((t.place.size+more)*2):=by unfold SetTable.roomFor; rw[if_pos c]
  rw[e]
  dsimp only
  obtain⟨kk,a1,b1⟩:=h6.T.pow
  have:2 ^ 3≤2 ^ kk:=Nat.pow_le_pow_right (by omega) a1
  refine relay_tup (knd:=SK prog w) (L:=L) h1 h2 h3 h6.fits h5 h7 nd hT (by omega) (by omega) (by omega) fun h' L' sb ST pe mk=>?_
  obtain⟨o',es',ep',t',m1,m2,m3⟩:=mk
  exact k h' L' sb ST pe ⟨o',es',ep',t',m1,m2,by omega⟩
 .have e:t.roomFor more=none:=by unfold SetTable.roomFor; rw[if_neg c]
  rw[e]
  dsimp only
  rw[eta]
  exact wpAny_pure (k s.heap L (Heap.SameBut.refl _ _) hS (List.Perm.refl _) ⟨o,es,ep,t,h1,h3,by omega⟩)
theorem copy_tup{r S:Addr}{L:List (List Str×Addr)}{each:Sem Unit}{Q:Unit→Shared→Prop}(ne:r≠S)(hr:SetT (SK prog w) s.heap r [])(hS:SetT (SK prog w) s.heap S L)(hb:L.length≤800)
  (k:∀h' L',Heap.SameBut r s.heap h'→SetT (SK prog w) h' r L'→L'.Perm L→Q () { s with heap:=h' }):wpAny (model prog w) A (setMerge r S each) Q E s:=by
 obtain⟨o,es,ep,t,R,h1,h2,h3,h4,h5,h6,h7,lenE,lenP⟩:=hS.tab
 have hS0:=hS
 obtain⟨_,_,_,_,_,_,_,_,_,_,_,_,nd,hT⟩:=hS0
 have eta:s={ s with heap:=s.heap }:=by cases s; rfl
 unfold setMerge
 rw[if_neg (by simpa using ne)]
 refine wpAny_bind (wpAny_setState_of h1 h3 h6.fits ?_)
 dsimp only
 by_cases em:es.isEmpty=true
 .rw[if_pos em]
  have:L=[]:=List.length_eq_zero_iff.mp (by rw[←lenE]; simpa using em)
  subst this
  rw[eta]
  exact wpAny_pure (k s.heap [] (Heap.SameBut.refl _ _) hr (List.Perm.refl _))
 .rw[if_neg em]
  have pos:0<es.size:=by
   rcases Nat.eq_zero_or_pos es.size with z | z
   .exact absurd (by simpa using z) em
   .exact z
  refine wpAny_bind (room_tup hr (by simp; omega) fun h' L0 sb ST pe rm=>?_)
  have:L0=[]:=pe.eq_nil
  subst this
  obtain⟨o1,es1,ep1,t1,g1,g2,g3⟩:=rm
  obtain⟨o2,es2,ep2,t2,R2,f1,f2,f3,f4,f5,f6,f7,lenE2,lenP2⟩:=ST.tab
  have:o1=o2:=Option.some.inj (g1.symm.trans f1)
  subst this
  rw[f3] at g2
  cases g2
  have hS':h'.get? S=some o:=(sb.2 S (Ne.symm ne)).trans h1
  refine wpAny_bind (wpAny_setState_of f1 f3 f6.fits ?_)
  dsimp only
  have fl:t1.fill=0:=by unfold SetTable.fill; rw[f6.T.nod,lenP2]; rfl
  obtain⟨o0,es0,ep0,t0,_,q1,_,q3,_⟩:=hr.tab
  have hT':∀p∈L,IsTupleKey (SK prog w) h' p.1 p.2:=fun p hp=>tup_same (hT p hp) q1 q3 sb
  have bb:(t1.led&&t.led) = !w.params.followText "set-order":=by rw[f5,h5,Bool.and_self]
  by_cases c:(t1.mask==t.mask&&t.dummies.isEmpty)=true
  .have rd:t1.road t=.slotForSlot:=by unfold SetTable.road; rw[if_neg (by simp[fl]),if_pos c]
   rw[rd]
   dsimp only
   have S':SOk { t with finger:=t1.finger,led:=t1.led&&t.led,moves:=t1.moves,plain:=t1.plain&&t.plain } es.toList R:=h6.congr rfl rfl rfl
   obtain⟨_,ST'⟩:=setT_store (knd:=SK prog w) f1 f2 f3 (t':={ t with finger:=t1.finger,led:=t1.led&&t.led,moves:=t1.moves,plain:=t1.plain&&t.plain }) (es':=es) (L':=L) h4 bb S' h7 nd hT'
   exact wpAny_storeSet_of f1 f3 (k _ L (sb.trans (Heap.SameBut.update _ _ _)) ST' (List.Perm.refl _)) (by rw[lenE,sizeLine_eq]; omega)
  .have rd:t1.road t=.clean:=by unfold SetTable.road; rw[if_neg (by simp[fl]),if_neg c]
   rw[rd]
   dsimp only
   obtain⟨kk,a1,b1⟩:=f6.T.pow
   obtain⟨t',order,e1,e2,e3,e4,e5,e6,pe',R',S'⟩:=laid_ok (mask:=t1.mask) (k:=kk) b1 a1 es (by simpa using g3) t1.finger t1.moves (t1.led&&t.led) (t1.plain&&t.plain)
   rw[e1]
   have hz:(order.filterMap (es[·]?)).size=es.size:=by rw[←Array.length_toList,pe'.length_eq,Array.length_toList]
   refine wpAny_bind (wp_eq (v:=(order.filterMap (es[·]?),t')) (if_neg (by rw[hz]; simp)) ?_)
   dsimp only
   obtain⟨L',p1,p2⟩:=perm_map_inv (f:=fun p:List Str×Addr=>(tupleKeyHash (SK prog w) p.1,Value.ref p.2)) pe'.symm h7
   obtain⟨_,ST'⟩:=setT_store (knd:=SK prog w) f1 f2 f3 (t':=t') (es':=order.filterMap (es[·]?)) (L':=L') (by rw[e2]; exact f4) (by rw[e3]; exact bb) S' p2.symm ((p1.map (·.1)).nodup_iff.mpr nd) (fun p hp=>hT' p (p1.mem_iff.mp hp))
   exact wpAny_storeSet_of f1 f3 (k _ L' (sb.trans (Heap.SameBut.update _ _ _)) ST' p1) (by rw[hz,lenE,sizeLine_eq]; omega)
theorem walk_tup{S:Addr}{o:Obj}{es:Array (Int×Value)}{ep:Nat}{t:SetTable}{R:List (Nat×(Int×Value))}{Q:Array (Int×Value)→Shared→Prop}(ho:s.heap.get? S=some o)(hd:o.data=.set es ep t)(S0:SOk t es.toList R)(hled:t.led = !w.params.followText "set-order")
  (k:∀es' d,es'.toList.Perm es.toList→Q es' { s with drawn:=d }):wpAny (model prog w) A (setWalk S) Q E s:=by
 unfold setWalk
 refine wpAny_bind (wpAny_setState_of ho hd S0.fits ?_)
 dsimp only
 refine wpAny_bind (wp_byText ?_)
 by_cases bt:w.params.followText "set-order" = true
 .rw[if_pos bt]
  exact wpAny_bind (wpAny_askSetting (wpAny_pure (k _ s.drawn (pick_perm _ es))))
 .rw[if_neg bt]
  have bt:w.params.followText "set-order" = false:=by simpa using bt
  by_cases dr:(!t.plain&&decide (es.size>1))=true
  .refine wp_ify (show(!t.plain&&decide (es.size>1))=true from dr) ?_
   exact wpAny_bind (draw_ok es.size es.toList s (by simp) fun ys d pe=>wpAny_pure (k _ d (by simpa using pe)))
  .have dr:(!t.plain&&decide (es.size>1))=false:=by simpa using dr
   refine wp_ifn (show(!t.plain&&decide (es.size>1))=false from dr) ?_
   refine wpAny_bind (wp_eq (v:=()) (if_neg (by rw[hled,bt]; simp)) ?_)
   exact wpAny_pure (k es s.drawn (List.Perm.refl _))
theorem quiet_tup{l:List (Int×Value)}{Q:Bool→Shared→Prop}{S:Addr}{o:Obj}{es:Array (Int×Value)}{ep:Nat}{t:SetTable}{R:List (Nat×(Int×Value))}(others:List Addr)(ho:s.heap.get? S=some o)(hd:o.data=.set es ep t)(S0:SOk t es.toList R){L:List (List Str×Addr)}(h7:es.toList=L.map (fun p=>(tupleKeyHash (SK prog w) p.1,Value.ref p.2)))(hT:∀p∈L,IsTupleKey (SK prog w) s.heap p.1 p.2)(ne:L≠[])
  (q:Q false s):wpAny (model prog w) A (setsQuiet (S::others)) Q E s:=by
 cases L with
 | nil=>exact absurd rfl ne
 | cons p L=>
  unfold setsQuiet
  refine wpAny_bind ?_
  rw[List.forIn_cons]
  refine wpAny_bind (wpAny_bind (wpAny_setEntries_of ho hd S0.fits ?_))
  refine wpAny_bind ?_
  rw[←Array.forIn_toList,h7,List.map_cons,List.forIn_cons]
  dsimp only
  refine wpAny_bind (wpAny_bind (wpAny_specialOf (hT p (List.mem_cons_self ..)).typeIs F.slot_tuple_eq.lookup ?_))
  rw[if_pos (by decide)]
  exact wpAny_pure (wpAny_pure (wpAny_pure (wpAny_pure (wpAny_pure q))))
theorem unseen_walk{S:Addr}{o:Obj}{es:Array (Int×Value)}{ep:Nat}{t:SetTable}{R:List (Nat×(Int×Value))}{others:List Addr}{filled:Option Addr}{Q:Array (Int×Value)→Shared→Prop}(ho:s.heap.get? S=some o)(hd:o.data=.set es ep t)(S0:SOk t es.toList R)(hled:t.led = !w.params.followText "set-order"){L:List (List Str×Addr)}(h7:es.toList=L.map (fun p=>(tupleKeyHash (SK prog w) p.1,Value.ref p.2)))(hT:∀p∈L,IsTupleKey (SK prog w) s.heap p.1 p.2)(ne:L≠[])
  (k:∀es' d,es'.toList.Perm es.toList→Q es' { s with drawn:=d }):wpAny (model prog w) A (setWalkUnseen S others filled) Q E s:=by
 unfold setWalkUnseen
 refine wpAny_bind (wpAny_setState_of ho hd S0.fits ?_)
 dsimp only
 refine wpAny_bind (wp_byText ?_)
 split
 .exact walk_tup ho hd S0 hled k
 .refine wpAny_bind (quiet_tup (l:=[]) others ho hd S0 h7 hT ne ?_)
  rw[if_pos (by decide)]
  exact walk_tup ho hd S0 hled k
theorem merge_tup{r S:Addr}{L0 L:List (List Str×Addr)}{each:Sem Unit}{Q:Unit→Shared→Prop}(hu:A.units<cLine)(ne:r≠S)(hr:SetT (SK prog w) s.heap r L0)(n0:L0≠[])(hS:SetT (SK prog w) s.heap S L)(hb:L0.length+L.length≤800)
  (heach:∀(s':Shared) (Q':Unit→Shared→Prop),(∀o,s.heap.get? S=some o→s'.heap.get? S=some o)→Q' () s'→wpAny (model prog w) A each Q' E s')
  (k:∀h' L' d,Heap.SameBut r s.heap h'→SetT (SK prog w) h' r L'→L'.length≤L0.length+L.length→(∀x,x∈L'.map (·.1)↔x∈L0.map (·.1)∨x∈L.map (·.1))→(∀p∈L',p∈L0∨p∈L)→Q () { s with heap:=h',drawn:=d }):wpAny (model prog w) A (setMerge r S each) Q E s:=by
 obtain⟨o,es,ep,t,R,h1,h2,h3,h4,h5,h6,h7,lenE,lenP⟩:=hS.tab
 have hS0:=hS
 obtain⟨_,_,_,_,_,_,_,_,_,_,_,_,nd,hT⟩:=hS0
 have eta:s={ s with heap:=s.heap,drawn:=s.drawn }:=by cases s; rfl
 unfold setMerge
 rw[if_neg (by simpa using ne)]
 refine wpAny_bind (wpAny_setState_of h1 h3 h6.fits ?_)
 dsimp only
 by_cases em:es.isEmpty=true
 .rw[if_pos em]
  have:L=[]:=List.length_eq_zero_iff.mp (by rw[←lenE]; simpa using em)
  subst this
  rw[eta]
  exact wpAny_pure (k s.heap L0 s.drawn (Heap.SameBut.refl _ _) hr (by simp) (fun x=>by simp) fun p hp=>.inl hp)
 .rw[if_neg em]
  have nL:L≠[]:=fun z=>by subst z; simp at lenE; exact em (by simpa using lenE)
  refine wpAny_bind (room_tup hr (by omega) fun h' L1 sb ST pe rm=>?_)
  obtain⟨o2,es2,ep2,t2,R2,f1,f2,f3,f4,f5,f6,f7,lenE2,lenP2⟩:=ST.tab
  have hS':h'.get? S=some o:=(sb.2 S (Ne.symm ne)).trans h1
  refine wpAny_bind (wpAny_setState_of f1 f3 f6.fits ?_)
  dsimp only
  have l1:0<L1.length:=by rw[pe.length_eq]; exact List.length_pos_iff.mpr n0
  have rd:t2.road t=.oneByOne:=by
   have nz:t2.place.size≠0:=by omega
   unfold SetTable.road SetTable.fill
   rw[f6.T.nod,if_pos (by simpa using nz)]
  rw[rd]
  dsimp only
  obtain⟨oq,_,_,_,_,q1,_,q3,_⟩:=hr.tab
  have hT':∀p∈L,IsTupleKey (SK prog w) h' p.1 p.2:=fun p hp=>tup_same (hT p hp) q1 q3 sb
  refine wpAny_bind (unseen_walk (s:={ s with heap:=h' }) hS' h3 h6 h5 h7 hT' nL fun es' d pw=>?_)
  obtain⟨L2,p1,p2⟩:=perm_map_inv (f:=fun p:List Str×Addr=>(tupleKeyHash (SK prog w) p.1,Value.ref p.2)) pw.symm h7
  rw[←Array.forIn_toList,←p2]
  refine wpAny_bind ?_
  refine wpAny_forIn_list _ (fun rest _ s'=>∃done left h2 L',L2=done++left∧rest=left.map (fun p:List Str×Addr=>(tupleKeyHash (SK prog w) p.1,Value.ref p.2))∧s'={ s with heap:=h2,drawn:=d }∧Heap.SameBut r s.heap h2∧SetT (SK prog w) h2 r L'∧L'.length≤L0.length+done.length∧(∀x,x∈L'.map (·.1)↔x∈L0.map (·.1)∨x∈done.map (·.1))∧∀p∈L',p∈L0∨p∈L) _ ?_ ?_ _ _ ⟨[],L2,h',L1,rfl,rfl,rfl,sb,ST,by rw[pe.length_eq]; simp,fun x=>by rw[(pe.map (·.1)).mem_iff]; simp,fun p hp=>.inl (pe.mem_iff.mp hp)⟩
  .rintro x rest b s' ⟨done,left,h2',L',e1,e2,rfl,sb2,ST2,ln,me,pa⟩
   cases left with
   | nil=>cases e2
   | cons q left=>
    cases e2
    have mq:q∈L:=p1.mem_iff.mp (by rw[e1]; exact List.mem_append_right _ (List.mem_cons_self ..))
    have len2:done.length+left.length+1=L.length:=by
     have:=congrArg List.length e1
     rw[p1.length_eq,List.length_append,List.length_cons] at this
     omega
    have kq:IsTupleKey (SK prog w) h2' q.1 q.2:=tup_same (hT q mq) q1 q3 sb2
    have hS2:h2'.get? S=some o:=(sb2.2 S (Ne.symm ne)).trans h1
    dsimp only
    refine wpAny_bind (wpAny_holding (add_tup (knd:=SK prog w) (s:={ s with heap:=h2',drawn:=d }) (L:=L') hu ST2 kq (by omega) fun added h3' L3 sb3 ST3 pe3=>?_))
    have hS3:h3'.get? S=some o:=(sb3.2 S (Ne.symm ne)).trans hS2
    refine wpAny_bind (heach { s with heap:=h3',drawn:=d } _ (fun o' e=>?_) ?_)
    .rw[h1] at e; cases e; exact hS3
    refine wpAny_bind (wpAny_setState_of (s:={ s with heap:=h3',drawn:=d }) hS3 h3 h6.fits ?_)
    rw[if_neg (by simp)]
    refine wpAny_pure ⟨done++[q],left,h3',L3,by rw[e1]; simp,rfl,rfl,sb2.trans sb3,ST3,?_,fun x=>?_,fun p hp=>?_⟩
    .rw[pe3.length_eq,List.length_append,List.length_singleton]
     split
     .omega
     .rw[List.length_cons]; omega
    .rw[(pe3.map (·.1)).mem_iff,List.map_append,List.mem_append]
     have mx:=me x
     split
     .rename_i c
      rw[mx]
      constructor
      .rintro(z | z)
       .exact .inl z
       .exact .inr (.inl z)
      .rintro(z | z | z)
       .exact .inl z
       .exact .inr z
       .have:x=q.1:=by simpa using z
        subst this
        exact(me _).mp c
     .rw[List.map_cons,List.mem_cons,mx]
      constructor
      .rintro(z | z | z)
       .exact .inr (.inr (by simp[z]))
       .exact .inl z
       .exact .inr (.inl z)
      .rintro(z | z | z)
       .exact .inr (.inl z)
       .exact .inr (.inr z)
       .exact .inl (by simpa using z)
    .have:=pe3.mem_iff.mp hp
     split at this
     .exact pa p this
     .rcases List.mem_cons.mp this with z | z
      .exact .inr (z▸mq)
      .exact pa p z
  .rintro b s' ⟨done,left,h2',L',e1,e2,rfl,sb2,ST2,ln,me,pa⟩
   have:left=[]:=by cases left with | nil=>rfl | cons _ _=>cases e2
   subst this
   rw[List.append_nil] at e1
   subst e1
   refine wpAny_pure (k h2' L' d sb2 ST2 (by rw[←p1.length_eq]; exact ln) (fun x=>?_) pa)
   rw[me x,(p1.map (·.1)).mem_iff]
end
section
variable{prog:Program}{w:World}{A:Around}{E:Value→Shared→Prop}{s:Shared}
theorem entryOr:entryFor table "set.__or__" = some Builtin.«frozenset.__or__»:=entryFor_alias (id':="frozenset.__or__") (by kernel_rfl) rfl (by decide +kernel) (by kernel_rfl)
theorem entryAnd:entryFor table "set.__and__" = some Builtin.«frozenset.__and__»:=entryFor_alias (id':="frozenset.__and__") (by kernel_rfl) rfl (by decide +kernel) (by kernel_rfl)
theorem any_set{a:Addr}{Q:Bool→Shared→Prop}(hT:s.TypeIs (.ref a) "set")(h:Q true s):wpAny (model prog w) A (Builtin.Frozenset.isAnySet (.ref a)) Q E s:=by
 unfold Builtin.Frozenset.isAnySet
 refine wpAny_bind (wpAny_isInstance (b:=true) hT (by rw[isSubtype_type]; kernel_rfl) ?_)
 exact wpAny_pure h
theorem base_set{a:Addr}{Q:Value→Shared→Prop}(hT:s.TypeIs (.ref a) "set")(h:Q (.type "set") s):wpAny (model prog w) A (Builtin.Frozenset.baseOf a) Q E s:=by
 unfold Builtin.Frozenset.baseOf
 refine wpAny_bind (wpAny_isInstance (b:=true) hT (by rw[isSubtype_type]; kernel_rfl) ?_)
 exact wpAny_pure h
theorem or_sets{S1 S2:Addr}{L1 L2:List (List Str×Addr)}{Q:Value→Shared→Prop}(hu:A.units+10<cLine)(h1:SetT (SK prog w) s.heap S1 L1)(h2:SetT (SK prog w) s.heap S2 L2)(ne:S1≠S2)(hb:L1.length+L2.length≤800)
  (k:∀S h' L' d,s.heap.objs.size≤S→SetT (SK prog w) h' S L'→L'.length≤L1.length+L2.length→(∀x,x∈L'.map (·.1)↔x∈L1.map (·.1)∨x∈L2.map (·.1))→(∀p∈L',p∈L1∨p∈L2)→(∀b o,s.heap.get? b=some o→h'.get? b=some o)→Q (.ref S) { s with heap:=h',drawn:=d }) :
  wpAny (model prog w) A (binaryOp .BitOr (.ref S1) (.ref S2)) Q E s:=by
 have T1:s.TypeIs (.ref S1) "set":=by obtain⟨o,_,_,_,_,a,b,_⟩:=h1.tab; exact⟨o,a,b.1⟩
 have T2:s.TypeIs (.ref S2) "set":=by obtain⟨o,_,_,_,_,a,b,_⟩:=h2.tab; exact⟨o,a,b.1⟩
 refine wpAny_binaryOp_same T1 T2 F.fills_set_or F.slot_set_or (wpAny_call_entry F.slot_set_or T1 entryOr ?_ (F.args_set_or_2 _ _))
 show wpAny _ _ (Builtin.Frozenset.slot1 "__or__" ⟨[.ref S1,.ref S2],[]⟩ >>= _) _ _ _
 refine wpAny_bind (show wpAny _ _ (Builtin.Frozenset.slot1 "__or__" ⟨[.ref S1,.ref S2],[]⟩) _ _ _ from wpAny_bind (wpAny_pure (wpAny_pure ?_)))
 simp only[Bool.false_eq_true,if_false]
 refine wpAny_bind (show wpAny _ _ (Builtin.Frozenset.isAnySet (.ref S1) >>= _) _ _ _ from wpAny_bind (any_set T1 ?_))
 refine any_set T2 ?_
 rw[if_neg (by decide)]
 refine wpAny_bind (wpAny_pure ?_)
 refine wpAny_bind ?_
 show wpAny _ _ (Builtin.Frozenset.copyOf S1 >>= _) _ _ _
 let h3:Heap:=s.heap.push { cls:=.type "set",dict:=none,data:=.set #[] 0 (.fresh 0 0 (!w.params.followText "set-order")) }
 have kp:∀b o,s.heap.get? b=some o→h3.get? b=some o:=fun b o e=>Heap.get?_push_of_some _ e
 have fr:SetT (SK prog w) h3 s.heap.objs.size []:=SetT.fresh _ rfl (Heap.get?_push_size _ rfl)
 have lt1:S1<s.heap.objs.size:=by obtain⟨o,_,_,_,_,a,_⟩:=h1.tab; exact Heap.lt_size a
 have lt2:S2<s.heap.objs.size:=by obtain⟨o,_,_,_,_,a,_⟩:=h2.tab; exact Heap.lt_size a
 have s1:SetT (SK prog w) h3 S1 L1:=h1.kept (fun o e=>kp _ o e) fun p _ o e=>kp _ o e
 have s2:SetT (SK prog w) h3 S2 L2:=h2.kept (fun o e=>kp _ o e) fun p _ o e=>kp _ o e
 refine wpAny_bind (show wpAny _ _ (Builtin.Frozenset.baseOf S1 >>= _) _ _ _ from wpAny_bind (base_set T1 (wpAny_bind (new_set ?_))))
 refine wpAny_bind (wpAny_pure ?_)
 refine wpAny_bind (copy_tup (s:={ s with heap:=h3 }) (Nat.ne_of_lt lt1).symm fr s1 (by omega) fun h4 L4 sb4 ST4 pe4=>?_)
 refine wpAny_pure ?_
 have nq:((Value.ref S2 != Value.ref S1)=true):=by simp[Ne.symm ne]
 rw[if_pos nq]
 have s2':SetT (SK prog w) h4 S2 L2:=s2.kept (fun o e=>(sb4.2 _ (Nat.ne_of_lt lt2)).trans e) fun p hp o e=>by
  obtain⟨_,_,_,_,_,_,_,_,_,_,_,_,_,hT⟩:=h2
  obtain⟨o',_,_,e1,_⟩:=hT p hp
  exact(sb4.2 _ (Nat.ne_of_lt (Heap.lt_size e1))).trans e
 refine wpAny_bind (wpAny_pure ?_)
 refine wpAny_bind (wpAny_holding ?_)
 unfold Builtin.Frozenset.updateFrom
 obtain⟨o2,es2,ep2,t2,R2,g1,g2,g3,g4,g5,g6,g7,lenE2,lenP2⟩:=s2'.tab
 refine wpAny_bind (any_set (s:={ s with heap:=h4 }) ⟨o2,g1,g2.1⟩ ?_)
 rw[if_pos rfl]
 refine wpAny_bind (wpAny_pure ?_)
 unfold Builtin.Frozenset.merge
 refine wpAny_bind (wpAny_setEpoch_of (s:={ s with heap:=h4 }) g1 g3 g6.fits ?_)
 have old4:∀b o,s.heap.get? b=some o→h4.get? b=some o:=fun b o e=>(sb4.2 _ (Nat.ne_of_lt (Heap.lt_size e))).trans (kp _ _ e)
 have fin:∀h5 L5 d,Heap.SameBut s.heap.objs.size h4 h5→SetT (SK prog w) h5 s.heap.objs.size L5→L5.length≤L1.length+L2.length→(∀x,x∈L5.map (·.1)↔x∈L1.map (·.1)∨x∈L2.map (·.1))→(∀p∈L5,p∈L1∨p∈L2)→Q (.ref s.heap.objs.size) { s with heap:=h5,drawn:=d }:=fun h5 L5 d sb5 ST5 ln me pa=>
  k _ h5 L5 d (Nat.le_refl _) ST5 ln me pa fun b o e=>(sb5.2 _ (Nat.ne_of_lt (Heap.lt_size e))).trans (old4 b o e)
 by_cases z:L1=[]
 .subst z
  have:L4=[]:=pe4.eq_nil
  subst this
  refine copy_tup (s:={ s with heap:=h4 }) (Nat.ne_of_lt lt2).symm ST4 s2' (by omega) fun h5 L5 sb5 ST5 pe5=>?_
  refine wpAny_pure (wpAny_pure ⟨_,rfl,fun e=>(by cases e),?_⟩)
  have:=fin h5 L5 s.drawn sb5 ST5 (by rw[pe5.length_eq]; simp) (fun x=>by rw[(pe5.map (·.1)).mem_iff]; simp) fun p hp=>.inr (pe5.mem_iff.mp hp)
  exact this
 .have n4:L4≠[]:=fun e=>z (by subst e; exact pe4.symm.eq_nil)
  refine merge_tup (s:={ s with heap:=h4 }) (by simp; omega) (Nat.ne_of_lt lt2).symm ST4 n4 s2' (by rw[pe4.length_eq]; exact hb) (fun s' Q' keep q=>?_) fun h5 L5 d sb5 ST5 ln me pa=>?_
  .unfold Builtin.Frozenset.unchanged
   refine wpAny_bind (wpAny_setEpoch_of (keep _ g1) g3 g6.fits ?_)
   rw[if_neg (by simp)]
   exact wpAny_pure q
  .refine wpAny_pure (wpAny_pure ⟨_,rfl,fun e=>(by cases e),?_⟩)
   exact fin h5 L5 d sb5 ST5 (by rw[pe4.length_eq] at ln; exact ln) (fun x=>by rw[me x,(pe4.map (·.1)).mem_iff]) fun p hp=>(pa p hp).imp (fun m=>pe4.mem_iff.mp m) id
end
section
variable{prog:Program}{w:World}{A:Around}{E:Value→Shared→Prop}{s:Shared}
theorem find_tup{a x:Addr}{k:List Str}{L:List (List Str×Addr)}{Q:Option Nat→Shared→Prop}(hu:A.units<cLine)(hS:SetT (SK prog w) s.heap a L)(hk:IsTupleKey (SK prog w) s.heap k x)
  (h:∀r:Option Nat,r.isSome=decide (k∈L.map (·.1))→Q r s):wpAny (model prog w) A (setFind a (.ref x) (tupleKeyHash (SK prog w) k)) Q E s:=by
 obtain⟨o,es,ep,t,R,ho,hex,hd,hm,hled,S,hL,nd,hT⟩:=hS
 have lenE:es.size=L.length:=by have:=congrArg List.length hL; simpa using this
 have lenP:t.place.size=L.length:=by
  have a1:=congrArg List.length S.pl
  have a2:=congrArg List.length S.es
  simp only[List.length_map,Array.length_toList] at a1 a2
  omega
 obtain⟨N,n1,n2,n3⟩:=first_empty S.T (tupleKeyHash (SK prog w) k)
 show wpAny _ _ (setFindIn a (.ref x) (tupleKeyHash (SK prog w) k) (99999+1)) _ _ _
 unfold setFindIn
 refine wpAny_bind (wpAny_setState_of ho hd S.fits ?_)
 dsimp only
 rw[show byScan (.ref x) es=false from rfl]
 simp only[Bool.false_eq_true,if_false]
 refine wpAny_bind ?_
 show wpAny _ _ (setSearchFrom a (.ref x) (tupleKeyHash (SK prog w) k) false 100000 none) _ _ _
 refine search_tup (knd:=SK prog w) (L:=L) (N:=N) (k:=k) hu ho hd S hL hT hk n2 n3 n1 (fun i _ there=>?_) 100000 0 none rfl (Nat.zero_le _) (by unfold SetTable.turns at n1; omega) fun no=>?_
 .simp only[Bool.false_eq_true,if_false]
  refine wpAny_pure (h _ ?_)
  obtain⟨p,p1,p2⟩:=there
  rw[decide_eq_true (List.mem_map.mpr ⟨p,p1,p2⟩)]; rfl
 .refine wpAny_pure (h _ ?_)
  have absent:k∉L.map (·.1):=by
   intro hc
   obtain⟨p,p1,p2⟩:=List.mem_map.mp hc
   obtain⟨i,hi,e⟩:=List.getElem_of_mem p1
   have hr:i<R.length:=by have:=congrArg List.length S.pl; simp only[List.length_map,Array.length_toList] at this; omega
   have hip:i<t.place.size:=by omega
   have r1:R[i].1=t.place[i]:=by
    have:=congrArg (·[i]?) S.pl
    simp[hr,hip] at this
    exact this
   have r2:R[i].2=(tupleKeyHash (SK prog w) p.1,Value.ref p.2):=by
    have:=congrArg (·[i]?) (S.es.trans hL)
    simp[hr,hi,e] at this
    rw[this]
   obtain⟨n,a1,a2⟩:=S.on R[i] (List.getElem_mem hr)
   rw[r2,r1] at a1
   rw[r2] at a2
   dsimp only at a1 a2
   rw[p2] at a1 a2
   have nN:n<N:=by
    rcases Nat.lt_or_ge n N with z | z
    .exact z
    .rcases Nat.lt_or_eq_of_le z with z | z
     .exact absurd (a2 N z) n2
     .subst z
      rw[a1] at n2
      exact absurd (by simp) n2
   refine no n i p (Nat.zero_le _) nN ?_ (by rw[List.getElem?_eq_getElem hi,e]) p2
   rw[a1]
   exact slot_live S.T hip
  rw[decide_eq_false absent]; rfl
theorem unseen_any{S:Addr}{L:List (List Str×Addr)}{others:List Addr}{filled:Option Addr}{Q:Array (Int×Value)→Shared→Prop}(hS:SetT (SK prog w) s.heap S L)
  (k:∀(L':List (List Str×Addr)) d es',L'.Perm L→es'.toList=L'.map (fun p=>(tupleKeyHash (SK prog w) p.1,Value.ref p.2))→Q es' { s with drawn:=d }):wpAny (model prog w) A (setWalkUnseen S others filled) Q E s:=by
 obtain⟨o,es,ep,t,R,ho,hex,hd,hm,hled,S0,h7,nd,hT⟩:=hS
 have lenE:es.size=L.length:=by have:=congrArg List.length h7; simpa using this
 have fin:∀(es':Array (Int×Value)) d,es'.toList.Perm es.toList→Q es' { s with drawn:=d }:=fun es' d pw=>by
  obtain⟨L2,p1,p2⟩:=perm_map_inv (f:=fun p:List Str×Addr=>(tupleKeyHash (SK prog w) p.1,Value.ref p.2)) pw.symm h7
  exact k L2 d es' p1 p2.symm
 by_cases ne:L=[]
 .unfold setWalkUnseen
  refine wpAny_bind (wpAny_setState_of ho hd S0.fits ?_)
  dsimp only
  refine wpAny_bind (wp_byText ?_)
  rw[if_pos (by subst ne; simp at lenE; simp[lenE])]
  exact walk_tup ho hd S0 hled fin
 .exact unseen_walk ho hd S0 hled h7 hT ne fin
theorem both_loop{r W K:Addr}{Lw Lk L0:List (List Str×Addr)}{Q:PUnit→Shared→Prop}{un:Sem Unit}{es':Array (Int×Value)}(hu:A.units<cLine)(ne1:r≠W)(ne2:r≠K)(hes:es'.toList=L0.map (fun p=>(tupleKeyHash (SK prog w) p.1,Value.ref p.2)))(p0:L0.Perm Lw)(hr:SetT (SK prog w) s.heap r [])(hW:SetT (SK prog w) s.heap W Lw)(hK:SetT (SK prog w) s.heap K Lk)(hb:Lw.length≤800)
  (heach:∀(s':Shared) (Q':Unit→Shared→Prop),(∀o,s.heap.get? W=some o→s'.heap.get? W=some o)→Q' () s'→wpAny (model prog w) A un Q' E s')
  (k:∀h' L',Heap.SameBut r s.heap h'→SetT (SK prog w) h' r L'→L'.length≤Lw.length→(∀x,x∈L'.map (·.1)↔x∈Lw.map (·.1)∧x∈Lk.map (·.1))→(∀p∈L',p∈Lw)→Q PUnit.unit { s with heap:=h' }) :
  wpAny (model prog w) A (forIn es' PUnit.unit fun x _=>do
   holding [x.2] (do
    let f ←setFind K x.2 x.1
    if f.isSome=true then do
      let _ ←setAddHashed r x.2 x.1
      pure PUnit.unit
     else pure PUnit.unit)
   un
   pure (ForInStep.yield PUnit.unit)) Q E s:=by
 obtain⟨_,_,_,_,_,_,_,_,_,_,_,_,_,hT⟩:=hW
 have hK0:=hK
 obtain⟨_,_,_,_,_,_,_,_,_,_,_,_,_,hTk⟩:=hK0
 obtain⟨oq,_,_,_,_,q1,_,q3,_⟩:=hr.tab
 rw[←Array.forIn_toList,hes]
 refine wpAny_forIn_list _ (fun rest _ s'=>∃done left h2 L',L0=done++left∧rest=left.map (fun p:List Str×Addr=>(tupleKeyHash (SK prog w) p.1,Value.ref p.2))∧s'={ s with heap:=h2 }∧Heap.SameBut r s.heap h2∧SetT (SK prog w) h2 r L'∧L'.length≤done.length∧(∀x,x∈L'.map (·.1)↔x∈done.map (·.1)∧x∈Lk.map (·.1))∧∀p∈L',p∈Lw) _ ?_ ?_ _ _ ⟨[],L0,s.heap,[],rfl,rfl,(by cases s; rfl),Heap.SameBut.refl _ _,hr,Nat.le_refl _,fun x=>by simp,fun p hp=>(by cases hp)⟩
 .rintro x rest b s' ⟨done,left,h2',L',e1,e2,rfl,sb2,ST2,ln,me,pa⟩
  cases left with
  | nil=>cases e2
  | cons q left=>
   cases e2
   have mq:q∈Lw:=p0.mem_iff.mp (by rw[e1]; exact List.mem_append_right _ (List.mem_cons_self ..))
   have len2:done.length+left.length+1=Lw.length:=by
    have:=congrArg List.length e1
    rw[p0.length_eq,List.length_append,List.length_cons] at this
    omega
   have kq:IsTupleKey (SK prog w) h2' q.1 q.2:=tup_same (hT q mq) q1 q3 sb2
   have hK2:SetT (SK prog w) h2' K Lk:=hK.kept (fun o e=>(sb2.2 _ (Ne.symm ne2)).trans e) fun p hp o e=>by
    obtain⟨o',its,m,z1,z2,z3,z4⟩:=hTk p hp
    have:p.2≠r:=fun z=>by
     rw[z,q1] at z1
     cases z1
     rw[q3] at z3
     cases z3
    exact(sb2.2 _ this).trans e
   dsimp only
   refine wpAny_bind (wpAny_holding (wpAny_bind (find_tup (s:={ s with heap:=h2' }) hu hK2 kq fun f hf=>?_)))
   have hW2:∀h3',Heap.SameBut r h2' h3'→∀o,s.heap.get? W=some o→h3'.get? W=some o:=fun h3' sb3 o e=>(sb3.2 _ (Ne.symm ne1)).trans ((sb2.2 _ (Ne.symm ne1)).trans e)
   by_cases c:q.1∈Lk.map (·.1)
   .rw[decide_eq_true c] at hf
    rw[if_pos hf]
    refine wpAny_bind (add_tup (knd:=SK prog w) (s:={ s with heap:=h2' }) (L:=L') hu ST2 kq (by omega) fun added h3' L3 sb3 ST3 pe3=>wpAny_pure ?_)
    refine wpAny_bind (heach { s with heap:=h3' } _ (hW2 h3' sb3) (wpAny_pure ⟨done++[q],left,h3',L3,by rw[e1]; simp,rfl,rfl,sb2.trans sb3,ST3,?_,fun x=>?_,fun p hp=>?_⟩))
    .rw[pe3.length_eq,List.length_append,List.length_singleton]
     split
     .omega
     .rw[List.length_cons]; omega
    .have mx:=me x
     rw[(pe3.map (·.1)).mem_iff,List.map_append,List.mem_append]
     split
     .rename_i c2
      rw[mx]
      constructor
      .rintro⟨z1,z2⟩; exact⟨.inl z1,z2⟩
      .rintro⟨z1 | z1,z2⟩
       .exact⟨z1,z2⟩
       .have:x=q.1:=by simpa using z1
        subst this
        exact(me _).mp c2
     .rw[List.map_cons,List.mem_cons,mx]
      constructor
      .rintro(z | ⟨z1,z2⟩)
       .subst z; exact⟨.inr (by simp),c⟩
       .exact⟨.inl z1,z2⟩
      .rintro⟨z1 | z1,z2⟩
       .exact .inr ⟨z1,z2⟩
       .exact .inl (by simpa using z1)
    .have:=pe3.mem_iff.mp hp
     split at this
     .exact pa p this
     .rcases List.mem_cons.mp this with z | z
      .exact z▸mq
      .exact pa p z
   .rw[decide_eq_false c] at hf
    rw[if_neg (by rw[hf]; simp)]
    refine wpAny_pure ?_
    refine wpAny_bind (heach { s with heap:=h2' } _ (hW2 h2' (Heap.SameBut.refl _ _)) (wpAny_pure ⟨done++[q],left,h2',L',by rw[e1]; simp,rfl,rfl,sb2,ST2,?_,fun x=>?_,pa⟩))
    .rw[List.length_append]; omega
    .rw[me x,List.map_append,List.mem_append]
     constructor
     .rintro⟨z1,z2⟩; exact⟨.inl z1,z2⟩
     .rintro⟨z1 | z1,z2⟩
      .exact⟨z1,z2⟩
      .have:x=q.1:=by simpa using z1
       subst this
       exact absurd z2 c
 .rintro b s' ⟨done,left,h2',L',e1,e2,rfl,sb2,ST2,ln,me,pa⟩
  have:left=[]:=by cases left with | nil=>rfl | cons _ _=>cases e2
  subst this
  rw[List.append_nil] at e1
  subst e1
  refine k h2' L' sb2 ST2 (by rw[←p0.length_eq]; exact ln) (fun x=>?_) pa
  rw[me x,(p0.map (·.1)).mem_iff]
theorem and_sets{S1 S2:Addr}{L1 L2:List (List Str×Addr)}{Q:Value→Shared→Prop}(hu:A.units+10<cLine)(h1:SetT (SK prog w) s.heap S1 L1)(h2:SetT (SK prog w) s.heap S2 L2)(ne:S1≠S2)(hb:L1.length+L2.length≤800)
  (k:∀S h' L' d,s.heap.objs.size≤S→SetT (SK prog w) h' S L'→L'.length≤L1.length+L2.length→(∀x,x∈L'.map (·.1)↔x∈L1.map (·.1)∧x∈L2.map (·.1))→(∀p∈L',p∈L1∨p∈L2)→(∀b o,s.heap.get? b=some o→h'.get? b=some o)→Q (.ref S) { s with heap:=h',drawn:=d }) :
  wpAny (model prog w) A (binaryOp .BitAnd (.ref S1) (.ref S2)) Q E s:=by
 have T1:s.TypeIs (.ref S1) "set":=by obtain⟨o,_,_,_,_,a,b,_⟩:=h1.tab; exact⟨o,a,b.1⟩
 have T2:s.TypeIs (.ref S2) "set":=by obtain⟨o,_,_,_,_,a,b,_⟩:=h2.tab; exact⟨o,a,b.1⟩
 refine wpAny_binaryOp_same T1 T2 F.fills_set_and F.slot_set_and (wpAny_call_entry F.slot_set_and T1 entryAnd ?_ (F.args_set_and_2 _ _))
 show wpAny _ _ (Builtin.Frozenset.slot1 "__and__" ⟨[.ref S1,.ref S2],[]⟩ >>= _) _ _ _
 refine wpAny_bind (show wpAny _ _ (Builtin.Frozenset.slot1 "__and__" ⟨[.ref S1,.ref S2],[]⟩) _ _ _ from wpAny_bind (wpAny_pure (wpAny_pure ?_)))
 simp only[Bool.false_eq_true,if_false]
 refine wpAny_bind (show wpAny _ _ (Builtin.Frozenset.isAnySet (.ref S1) >>= _) _ _ _ from wpAny_bind (any_set T1 ?_))
 refine any_set T2 ?_
 rw[if_neg (by decide)]
 refine wpAny_bind (wpAny_pure ?_)
 refine wpAny_bind ?_
 unfold Builtin.Frozenset.intersection
 rw[if_neg (by simp[Ne.symm ne])]
 let h3:Heap:=s.heap.push { cls:=.type "set",dict:=none,data:=.set #[] 0 (.fresh 0 0 (!w.params.followText "set-order")) }
 have kp:∀b o,s.heap.get? b=some o→h3.get? b=some o:=fun b o e=>Heap.get?_push_of_some _ e
 have fr:SetT (SK prog w) h3 s.heap.objs.size []:=SetT.fresh _ rfl (Heap.get?_push_size _ rfl)
 have lt1:S1<s.heap.objs.size:=by obtain⟨o,_,_,_,_,a,_⟩:=h1.tab; exact Heap.lt_size a
 have lt2:S2<s.heap.objs.size:=by obtain⟨o,_,_,_,_,a,_⟩:=h2.tab; exact Heap.lt_size a
 have s1:SetT (SK prog w) h3 S1 L1:=h1.kept (fun o e=>kp _ o e) fun p _ o e=>kp _ o e
 have s2:SetT (SK prog w) h3 S2 L2:=h2.kept (fun o e=>kp _ o e) fun p _ o e=>kp _ o e
 refine wpAny_bind (base_set T1 (wpAny_bind (new_set ?_)))
 refine wpAny_bind (wpAny_pure (wpAny_bind (wpAny_holding ?_)))
 obtain⟨o1,es1,ep1,t1,R1,f1,f2,f3,f4,f5,f6,f7,lenE1,lenP1⟩:=s1.tab
 obtain⟨o2,es2,ep2,t2,R2,g1,g2,g3,g4,g5,g6,g7,lenE2,lenP2⟩:=s2.tab
 refine wpAny_bind (any_set (s:={ s with heap:=h3 }) ⟨o2,g1,g2.1⟩ ?_)
 rw[if_pos rfl]
 refine wpAny_bind (wpAny_pure ?_)
 unfold Builtin.Frozenset.sizeOf
 refine wpAny_bind (wpAny_bind (wpAny_setEntries_of (s:={ s with heap:=h3 }) g1 g3 g6.fits (wpAny_pure ?_)))
 refine wpAny_bind (wpAny_bind (wpAny_setEntries_of (s:={ s with heap:=h3 }) f1 f3 f6.fits (wpAny_pure ?_)))
 by_cases c:es2.size>es1.size
 .rw[if_pos c]
  dsimp only
  refine wpAny_bind (wpAny_setEpoch_of (s:={ s with heap:=h3 }) f1 f3 f6.fits ?_)
  refine wpAny_bind (unseen_any (s:={ s with heap:=h3 }) s1 fun L0 d es' pe he=>?_)
  refine wpAny_bind (both_loop (s:={ s with heap:=h3,drawn:=d }) (r:=s.heap.objs.size) (W:=S1) (K:=S2) (L0:=L0) (by simp; omega) (Nat.ne_of_lt lt1).symm (Nat.ne_of_lt lt2).symm he pe fr s1 s2 (by omega) (fun s' Q' keep q=>?_) fun h5 L5 sb5 ST5 ln me pa=>?_)
  .unfold Builtin.Frozenset.unchanged
   refine wpAny_bind (wpAny_setEpoch_of (keep _ f1) f3 f6.fits ?_)
   rw[if_neg (by simp)]
   exact wpAny_pure q
  .refine wpAny_pure (wpAny_pure (wpAny_pure ⟨_,rfl,fun e=>(by cases e),?_⟩))
   exact k _ h5 L5 d (Nat.le_refl _) ST5 (by omega) me (fun p hp=>.inl (pa p hp)) fun b o e=>(sb5.2 _ (Nat.ne_of_lt (Heap.lt_size e))).trans (kp b o e)
 .rw[if_neg c]
  dsimp only
  refine wpAny_bind (wpAny_setEpoch_of (s:={ s with heap:=h3 }) g1 g3 g6.fits ?_)
  refine wpAny_bind (unseen_any (s:={ s with heap:=h3 }) s2 fun L0 d es' pe he=>?_)
  refine wpAny_bind (both_loop (s:={ s with heap:=h3,drawn:=d }) (r:=s.heap.objs.size) (W:=S2) (K:=S1) (L0:=L0) (by simp; omega) (Nat.ne_of_lt lt2).symm (Nat.ne_of_lt lt1).symm he pe fr s2 s1 (by omega) (fun s' Q' keep q=>?_) fun h5 L5 sb5 ST5 ln me pa=>?_)
  .unfold Builtin.Frozenset.unchanged
   refine wpAny_bind (wpAny_setEpoch_of (keep _ g1) g3 g6.fits ?_)
   rw[if_neg (by simp)]
   exact wpAny_pure q
  .refine wpAny_pure (wpAny_pure (wpAny_pure ⟨_,rfl,fun e=>(by cases e),?_⟩))
   exact k _ h5 L5 d (Nat.le_refl _) ST5 (by omega) (fun x=>(me x).trans And.comm) (fun p hp=>.inr (pa p hp)) fun b o e=>(sb5.2 _ (Nat.ne_of_lt (Heap.lt_size e))).trans (kp b o e)
end
end ML
namespace ML
open PySem PySem.Spec PyProof.Rows L2
noncomputable def tkOf:W→Option (List Str)
 | .tup l=>strsOf l
 | _=>none
noncomputable def tksOf:List W→Option (List (List Str))
 | []=>some []
 | w::r=>(tkOf w).bind fun k=>(tksOf r).map (k::·)
noncomputable def tupS(k:List Str):W:=.tup (k.map .str)
noncomputable def sortSet(w:W):M W:=fun h=>(seqOf h w).bind fun l=>(tksOf l).bind fun ks=>if ks.length<890∧(ssort ks).length<64∧(∀k∈ks,k≠[]) then some (.fls ((ssort ks).map tupS),h) else none
theorem strs_eq:∀{l:List W} {k:List Str},strsOf l=some k→l=k.map .str
 | [],k,e=>by cases e; rfl
 | .str b::r,k,e=>by
  unfold strsOf at e
  split at e
  .rename_i l' e'
   cases e
   rw[strs_eq e']; rfl
  .cases e
 | .non::r,k,e=>by cases e
 | .bl _::r,k,e=>by cases e
 | .int _::r,k,e=>by cases e
 | .tup _::r,k,e=>by cases e
 | .fls _::r,k,e=>by cases e
 | .ref _::r,k,e=>by cases e
 | .fdc _::r,k,e=>by cases e
 | .fn _::r,k,e=>by cases e
theorem sup_nodup{l:List (List Str)}(u:SUp l):l.Nodup:=u.imp fun {a b} h e=>by subst e; rw[lexS_irr] at h; cases h
theorem len_ssort{l m:List (List Str)}(nd:l.Nodup)(h:∀x,x∈l↔x∈m):l.length=(ssort m).length:=by
 have:l.Perm (ssort m):=(List.perm_ext_iff_of_nodup nd (sup_nodup (ssort_up m))).mpr fun x=>(h x).trans ssort_mem.symm
 exact this.length_eq
theorem ssort_same{l m:List (List Str)}(h:∀x,x∈l↔x∈m):ssort l=ssort m:=up_uniq (ssort_up l) (ssort_up m) fun x=>ssort_mem.trans ((h x).trans ssort_mem.symm)
section
variable{X:Cx}{pins:List (Addr×Obj)}{σ:L2.St}{H:Hp}{s:Shared}{μ:List Addr}
theorem items_strs:∀{k:List Str} {vs:List V} {us:List Value},RWs X.K μ H (k.map .str) vs→Vals vs us→ItemsAre (SK X.prog X.w) k us
 | [],_,_,.nil,.nil=>.nil
 | x::k,_,_,.cons r rs,.cons v vs=>by
  cases r
  obtain⟨t,rfl⟩:=v
  exact .cons (PySem.strKind_is _ _ _ _) (items_strs rs vs)
theorem tup_key(I:Inv X pins σ H s){k:List Str}{a:Addr}(r:RW X.K μ H (tupS k) (.ref a)):IsTupleKey (SK X.prog X.w) s.heap k a:=by
 unfold tupS at r
 cases r with
 | tup sq rs=>
  obtain⟨its,rv,⟨o,g1,g2,n,g4⟩,_⟩:=I.tuple sq
  exact⟨o,its.toArray,n,g1,g2,g4,by simpa using items_strs rs rv⟩
theorem keys_vals(I:Inv X pins σ H s):∀{l:List W} {vs:List V} {us:List Value} {ks:List (List Str)},tksOf l=some ks→RWs X.K μ H l vs→Vals vs us→
  ∃Lk:List (List Str×Addr),us=Lk.map (fun p=>Value.ref p.2)∧Lk.map (·.1)=ks∧∀p∈Lk,RW X.K μ H (tupS p.1) (.ref p.2)
 | [],_,_,_,e,.nil,.nil=>by cases e; exact⟨[],rfl,rfl,fun p hp=>by cases hp⟩
 | w::l,_,_,_,e,.cons r rs,.cons v vs=>by
  obtain⟨k,e1,e2⟩:=Option.bind_eq_some_iff.mp e
  obtain⟨ks,e3,e4⟩:=Option.map_eq_some_iff.mp e2
  subst e4
  obtain⟨Lk,z1,z2,z3⟩:=keys_vals I e3 rs vs
  cases w with
  | tup l'=>
   have e5:=strs_eq (show strsOf l'=some k from e1)
   subst e5
   have r':=r
   cases r with
   | @tup a _ _ sq _=>
    have v':=v
    cases v
    exact⟨(k,a)::Lk,by rw[z1]; rfl,by rw[List.map_cons,z2],fun p hp=>by
     rcases List.mem_cons.mp hp with rfl | hp
     .exact r'
     .exact z3 p hp⟩
  | _=>cases e1
theorem rws_of{L:List (List Str×Addr)}(h:∀p∈L,RW X.K μ H (tupS p.1) (.ref p.2)):RWs X.K μ H ((L.map (·.1)).map tupS) (L.map fun p=>V.ref p.2)∧Vals (L.map fun p=>V.ref p.2) (L.map fun p=>Value.ref p.2):=by
 induction L with
 | nil=>exact⟨.nil,.nil⟩
 | cons p L ih=>
  obtain⟨a,b⟩:=ih fun q hq=>h q (List.mem_cons_of_mem _ hq)
  exact⟨.cons (h p (List.mem_cons_self ..)) a,.cons rfl b⟩
theorem Inv.draw{d:Drawn}(I:Inv X pins σ H s):Inv X pins σ H { s with drawn:=d }:=⟨I.ok,I.os,I.bare,I.base,I.loc,I.cell,I.free,I.freeC,I.pin,I.hok,I.len⟩
end
section
variable{X:Cx}{cl:Nat→Addr}{a:Expr}{ma:ME}{p p2 p3 pos:Pos}
theorem se_sortSet(hc:X.calm=true)(hu:X.A.units+64<cLine)(hl:X.mg "sorted" = none)(hs:X.mg "set" = none)(ha:SE X cl a ma)(hg:Gl X "sorted":=by rfl)(hg2:Gl X "set":=by rfl)
  (he1:starEach [a] X.env=(false,eval a X.env)::starEach [] X.env:=by rfl) (hpl1:(backTo p3 (starEach [] X.env)).any (·.1)=false:=by rfl)
  (he2:starEach [.Call (.Name "set" p2) [a] [] p3] X.env=(false,eval (.Call (.Name "set" p2) [a] [] p3) X.env)::starEach [] X.env:=by rfl) (hpl2:(backTo pos (starEach [] X.env)).any (·.1)=false:=by rfl) :
  SE X cl (.Call (.Name "sorted" p) [.Call (.Name "set" p2) [a] [] p3] [] pos) (eUn sortSet ma):=by
 rintro pins s σ H Q I ⟨μ,h,ρ,w,h',R,er,e,k⟩
 obtain⟨x,h1,e1,e⟩:=of_bnd e
 have hv:bootBuiltins "set" = some (.type "set"):=by decide +kernel
 refine wpAny_Call_Name_kw (ld_blt I hg hl PyProof.Rows.boot_sorted ?_ (by decide) (by decide))
 refine PyProof.Rows.callWith_builtin1 ?_ he2 hpl2
 rw[he2]
 show wpAny _ _ (spliced ((false,eval (.Call (.Name "set" p2) [a] [] p3) X.env)::backTo pos (starEach [] X.env))) _ _ s
 have h0:∀{q:Pos},backTo q (starEach [] X.env)=[]:=fun {q}=>rfl
 rw[h0]
 refine Calls.spliced_cons ?_
 refine wpAny_Call_Name_kw (ld_blt I hg2 hs hv ?_ (by decide) (by decide))
 refine PyProof.Rows.callWith_type1 ?_ he1 hpl1
 rw[he1]
 show wpAny _ _ (spliced ((false,eval a X.env)::backTo p3 (starEach [] X.env))) _ _ s
 rw[h0]
 refine Calls.spliced_cons (thn (ha pins s σ H (fun v H1=>∃μ1,Ext μ H μ1 H1∧HR X.K cl μ1 H1 h1∧RW X.K μ1 H1 x v) I ⟨μ,h,ρ,x,h1,R,er,e1,fun μ1 H1 v E1 R1 r=>⟨μ1,E1,R1,r⟩⟩) fun u s1 ⟨v,H1,I1,r1,μ1,E1,R1,rv⟩=>Calls.spliced_nil ?_)
 obtain⟨l,el,e⟩:=Option.bind_eq_some_iff.mp (show(seqOf h1 x).bind _=some (w,h') from e)
 obtain⟨ks,ek,e⟩:=Option.bind_eq_some_iff.mp e
 by_cases ok:ks.length<890∧(ssort ks).length<64∧(∀k∈ks,k≠[])
 .rw[if_pos ok] at e
  cases e
  obtain⟨d,vs,rfl,sq,ra⟩:=seqOf_of R1 rv el
  cases r1
  have fin:∀{us:List Value} {T:String},(T="list" ∨ T="tuple")→Vals vs us→(∃o n,s1.heap.get? d=some o∧o.cls=.type T∧o.data=.seq us.toArray n)→wpAny (model X.prog X.w) X.A (call (.type "set") [.ref d]) (fun v s₂=>wpAny (model X.prog X.w) X.A (call (.builtin "sorted") [v]) (EP X pins σ Q) X.xe s₂) X.xe s1:=by
   intro us T hT rvs ho
   obtain⟨Lk,z1,z2,z3⟩:=keys_vals I1 ek ra rvs
   have lenL:Lk.length=ks.length:=by rw[←z2,List.length_map]
   refine call_setT hT ho z1 (fun p hp=>tup_key I1 (z3 p hp)) (I1.ok.hd hc) (by omega) (by omega) fun L h2 tk ST ln me pa kp=>?_
   have me':∀y,y∈L.map (·.1)↔y∈ks:=fun y=>by rw[←z2]; exact me y
   have nd:(L.map (·.1)).Nodup:=by obtain⟨_,_,_,_,_,_,_,_,_,_,_,_,nd,_⟩:=ST; exact nd
   have lt:L.length<64:=by have:=len_ssort nd me'; rw[List.length_map] at this; omega
   refine sorted_set (s:={ s1 with heap:=h2,toks:=tk }) (I1.ok.hd hc) ST lt (fun p hp=>ok.2.2 p.1 ((me' _).mp (List.mem_map.mpr ⟨p,hp,rfl⟩))) fun D L' n s' pe srt ob le keep gg oo=>?_
   obtain⟨hp',g',d',t',os'⟩:=s'
   obtain rfl:g'=s1.gens:=gg
   obtain rfl:os'=s1.os:=oo
   have rr:∀p∈L',RW X.K μ1 H1 (tupS p.1) (.ref p.2):=fun p hp=>z3 p (pa p (pe.mem_iff.mp hp))
   obtain⟨q1,q2⟩:=rws_of rr
   have keep1:∀b o,s1.heap.get? b=some o→hp'.get? b=some o:=fun b o e=>keep b o (kp b o e)
   have le1:s1.heap.objs.size≤D:=by
    obtain⟨_,_,_,_,_,go,_⟩:=ST
    exact Nat.le_trans (Nat.le_of_lt (Heap.lt_size go)) le
   have I2:Inv X pins σ (upd H1 D (.lst (L'.map fun p=>V.ref p.2))) { s1 with heap:=hp',toks:=t',drawn:=d' }:=Inv.draw (s:={ s1 with heap:=hp',toks:=t' }) (I1.laid (t':=t') keep1 le1 ⟨by rw[List.length_map,pe.length_eq,sizeLine_eq]; omega,_,n,q2,ob⟩)
   refine⟨.ref D,_,I2,rfl,?_⟩
   have srt':L'.map (·.1)=ssort ks:=srt.trans (ssort_same me')
   rw[srt'] at q1
   exact KQ.fls (k.ext E1) R1 q1 (I1.hok.fresh le1)
  rcases sq with sq | sq
  .obtain⟨its,rv,⟨o,n,g1,g2,g3,g4⟩,_⟩:=I1.list sq
   exact wpAny_mono (fin (.inl rfl) rv ⟨o,n,g1,g2,g4⟩) (fun v s₂ q=>Calls.spliced_nil q) fun _ _ e=>e
  .obtain⟨its,rv,⟨o,g1,g2,n,g4⟩,_⟩:=I1.tuple sq
   exact wpAny_mono (fin (.inr rfl) rv ⟨o,n,g1,g2,g4⟩) (fun v s₂ q=>Calls.spliced_nil q) fun _ _ e=>e
 .rw[if_neg ok] at e; cases e
end
section
variable{prog:Program}{w:World}{A:Around}{E:Value→Shared→Prop}{s:Shared}
theorem sorted_list{l:Addr}{L:List (List Str×Addr)}{Q:Value→Shared→Prop}(hl:s.heap.IsList l (L.map fun p=>Value.ref p.2).toArray)(hT:∀p∈L,IsTupleKey (SK prog w) s.heap p.1 p.2∧p.1≠[])(hb:L.length<64)(nd:(L.map (·.1)).Nodup)
  (k:∀(D:Addr) (L':List (List Str×Addr)) (n:Nat) (h':Heap),L'.Perm L→L'.map (·.1)=ssort (L.map (·.1))→h'.get? D=some (seqObj "list" (L'.map fun p=>Value.ref p.2).toArray n)→s.heap.objs.size≤D→(∀b o,s.heap.get? b=some o→h'.get? b=some o)→Q (.ref D) { s with heap:=h' }) :
  wpAny (model prog w) A (call (.builtin "sorted") [.ref l]) Q E s:=by
 refine Calls.call_function_entry kind_sorted plain_sorted entry_sorted (args_sorted1 _) ?_
 unfold Builtin.«sorted»
 refine wpAny_bind (m:=checkCount "sorted" 1 1 _) (wpAny_pure ?_)
 refine wpAny_bind (collect_list hl ?_ (by rw[List.length_map,sizeLine_eq]; omega))
 let h1:Heap:=(s.heap.push (seqObj "list" #[] 0)).update s.heap.objs.size (Obj.mapSeq (· ++ (L.map fun p=>Value.ref p.2).toArray))
 have sz1:h1.objs.size=s.heap.objs.size+1:=by show((s.heap.push _).update _ _).objs.size=_; rw[Heap.size_update,size_push']
 have k1:∀b o,s.heap.get? b=some o→h1.get? b=some o:=fun b o e=>by
  have lt:=Heap.lt_size e
  show((s.heap.push _).update _ _).get? b=_
  rw[Heap.get?_update_ne _ _ _ _ (Nat.ne_of_lt lt)]
  exact Heap.get?_push_of_some _ e
 refine wpAny_bind (wpAny_newList ?_ (by rw[List.length_map,sizeLine_eq]; omega))
 have obD:(h1.push (seqObj "list" (L.map fun p=>Value.ref p.2).toArray 0)).get? h1.objs.size=some (seqObj "list" (L.map fun p=>Value.ref p.2).toArray 0):=Heap.get?_push_size _ rfl
 show wpAny _ _ _ _ _ { s with heap:=h1.push (seqObj "list" (L.map fun p=>Value.ref p.2).toArray 0) }
 have kp:∀b o,s.heap.get? b=some o→(h1.push (seqObj "list" (L.map fun p=>Value.ref p.2).toArray 0)).get? b=some o:=fun b o e=>Heap.get?_push_of_some _ (k1 _ _ e)
 have tk1:∀p∈L,IsTupleKey (SK prog w) (h1.push (seqObj "list" (L.map fun p=>Value.ref p.2).toArray 0)) p.1 p.2∧p.1≠[]:=fun p hp=>by
  obtain⟨⟨o,its,m,e1,e2,e3,e4⟩,ne⟩:=hT p hp
  exact⟨⟨o,its,m,kp _ _ e1,e2,e3,e4⟩,ne⟩
 refine wpAny_bind (wpAny_holding (wpAny_call_entry slot_list_sort ⟨_,obD,rfl⟩ entry_list_sort (sort_tups (L:=L) obD tk1 hb fun L2 h2 n2 p2 up ob2 off=>⟨_,rfl,?_⟩) (args_list_sort _)))
 refine wpAny_pure ⟨_,rfl,k _ L2 n2 h2 p2 ?_ ob2 (by rw[sz1]; exact Nat.le_succ _) fun b o e=>off b o (fun z=>?_) (kp _ _ e)⟩
 .have nd2:(L2.map (·.1)).Nodup:=((p2.map (·.1)).nodup_iff).mpr nd
  refine up_uniq (up_of nd2 up) (ssort_up _) fun x=>?_
  rw[ssort_mem]
  exact(p2.map (·.1)).mem_iff
 .have lt:=Heap.lt_size e
  rw[z,sz1] at lt
  exact absurd lt (Nat.not_lt.mpr (Nat.le_succ _))
end
noncomputable def sortL(w:W):M W:=fun h=>(getL h w).bind fun l=>(tksOf l).bind fun ks=>if ks.length<64∧ks.Nodup∧(∀k∈ks,k≠[]) then some (.fls ((ssort ks).map tupS),h) else none
noncomputable def sortLs:List W→M W
 | [w]=>sortL w
 | _=>fun _=>none
section
variable{X:Cx}{cl:Nat→Addr}
theorem call_sortW:CallR X (.builtin "sorted") (rMs X.K cl sortLs):=by
 rintro pins s σ H xs us Q I rs ⟨μ,h,ws,w,h',R,ax,e,k⟩
 match ws,ax,e with
 | [x],.cons r .nil,e=>
  obtain⟨l,el,e⟩:=Option.bind_eq_some_iff.mp (show(getL h x).bind _=some (w,h') from e)
  obtain⟨ks,ek,e⟩:=Option.bind_eq_some_iff.mp e
  by_cases ok:ks.length<64∧ks.Nodup∧(∀k∈ks,k≠[])
  .rw[if_pos ok] at e
   cases e
   obtain⟨d,vs,rfl,sq,ra⟩:=getL_of R r el
   cases rs with
   | cons r1 r2=>
    cases r2
    cases r1
    .obtain⟨its,rv,⟨o,n,g1,g2,g3,g4⟩,_⟩:=I.list sq
     obtain⟨Lk,z1,z2,z3⟩:=keys_vals I ek ra rv
     have lenL:Lk.length=ks.length:=by rw[←z2,List.length_map]
     have hl:s.heap.IsList d (Lk.map fun p=>Value.ref p.2).toArray:=by rw[←z1]; exact⟨o,g1,g2,n,g4⟩
     refine sorted_list hl (fun p hp=>⟨tup_key I (z3 p hp),ok.2.2 p.1 (by rw[←z2]; exact List.mem_map.mpr ⟨p,hp,rfl⟩)⟩) (by omega) (by rw[z2]; exact ok.2.1) fun D L' n' hp' pe srt ob le keep=>?_
     obtain⟨q1,q2⟩:=rws_of (X:=X) (μ:=μ) (H:=H) (L:=L') fun p hp=>z3 p (pe.mem_iff.mp hp)
     have I2:Inv X pins σ (upd H D (.lst (L'.map fun p=>V.ref p.2))) { s with heap:=hp',toks:=s.toks }:=I.laid keep le ⟨by rw[List.length_map,pe.length_eq,sizeLine_eq]; omega,_,n',q2,ob⟩
     refine⟨.ref D,_,I2,rfl,?_⟩
     rw[srt,z2] at q1
     exact KQ.fls k R q1 (I.hok.fresh le)
  .rw[if_neg ok] at e; cases e
end
section
variable{X:Cx}{cl:Nat→Addr}{a:Expr}{ma:ME}{p2 p3:Pos}{pins:List (Addr×Obj)}{σ:L2.St}{H:Hp}{s:Shared}{μ:List Addr}
structure SetV(X:Cx)(cl:Nat→Addr)(pins:List (Addr×Obj))(σ:L2.St)(μ:List Addr)(H:Hp)(h1:MH)(ks:List (List Str))(v:Value)(s2:Shared):Prop where
 ex:∃S μ1 H1 L,v=.ref S∧Inv X pins σ H1 s2∧Ext μ H μ1 H1∧HR X.K cl μ1 H1 h1∧SetT (SK X.prog X.w) s2.heap S L∧L.length≤ks.length∧(∀x,x∈L.map (·.1)↔x∈ks)∧(∀p∈L,RW X.K μ1 H1 (tupS p.1) (.ref p.2))∧H1 S=none∧S≠X.env.locals∧S∉X.fs∧∀p∈pins,p.1≠S
theorem ev_set(hc:X.calm=true)(hu:X.A.units+64<cLine)(hs:X.mg "set" = none)(ha:SE X cl a ma)(hg2:Gl X "set")(he1:starEach [a] X.env=(false,eval a X.env)::starEach [] X.env)(hpl1:(backTo p3 (starEach [] X.env)).any (·.1)=false)
  {h h1:MH} {ρ:En} {x:W} {l:List W} {ks:List (List Str)} (I:Inv X pins σ H s) (R:HR X.K cl μ H h) (er:ER X.K μ H ρ σ) (e1:ma ρ h=some (x,h1)) (el:seqOf h1 x=some l) (ek:tksOf l=some ks) (hb:ks.length<890) :
  wpAny (model X.prog X.w) X.A (eval (.Call (.Name "set" p2) [a] [] p3) X.env) (SetV X cl pins σ μ H h1 ks) X.xe s:=by
 have hv:bootBuiltins "set" = some (.type "set"):=by decide +kernel
 have h0:∀{q:Pos},backTo q (starEach [] X.env)=[]:=fun {q}=>rfl
 refine wpAny_Call_Name_kw (ld_blt I hg2 hs hv ?_ (by decide) (by decide))
 refine PyProof.Rows.callWith_type1 ?_ he1 hpl1
 rw[he1]
 show wpAny _ _ (spliced ((false,eval a X.env)::backTo p3 (starEach [] X.env))) _ _ s
 rw[h0]
 refine Calls.spliced_cons (thn (ha pins s σ H (fun v H1=>∃μ1,Ext μ H μ1 H1∧HR X.K cl μ1 H1 h1∧RW X.K μ1 H1 x v) I ⟨μ,h,ρ,x,h1,R,er,e1,fun μ1 H1 v E1 R1 r=>⟨μ1,E1,R1,r⟩⟩) fun u s1 ⟨v,H1,I1,r1,μ1,E1,R1,rv⟩=>Calls.spliced_nil ?_)
 obtain⟨d,vs,rfl,sq,ra⟩:=seqOf_of R1 rv el
 cases r1
 have fin:∀{us:List Value} {T:String},(T="list" ∨ T="tuple")→Vals vs us→(∃o n,s1.heap.get? d=some o∧o.cls=.type T∧o.data=.seq us.toArray n)→wpAny (model X.prog X.w) X.A (call (.type "set") [.ref d]) (SetV X cl pins σ μ H h1 ks) X.xe s1:=by
  intro us T hT rvs ho
  obtain⟨Lk,z1,z2,z3⟩:=keys_vals I1 ek ra rvs
  have lenL:Lk.length=ks.length:=by rw[←z2,List.length_map]
  refine call_setT hT ho z1 (fun p hp=>tup_key I1 (z3 p hp)) (I1.ok.hd hc) (by omega) (by omega) fun L h2 tk ST ln me pa kp=>?_
  exact⟨s1.heap.objs.size,μ1,H1,L,rfl,I1.kept (t':=tk) kp,E1,R1,ST,by omega,fun y=>by rw[←z2]; exact me y,fun p hp=>z3 p (pa p hp),I1.fresh,fun z=>absurd I1.lt (by rw[←z]; exact Nat.lt_irrefl _),I1.nofs (Nat.le_refl _),fun p hp z=>absurd (Heap.lt_size (I1.pin p (List.mem_append_right _ hp)).1) (by rw[z]; exact Nat.lt_irrefl _)⟩
 rcases sq with sq | sq
 .obtain⟨its,rv,⟨o,n,g1,g2,g3,g4⟩,_⟩:=I1.list sq
  exact fin (.inl rfl) rv ⟨o,n,g1,g2,g4⟩
 .obtain⟨its,rv,⟨o,g1,g2,n,g4⟩,_⟩:=I1.tuple sq
  exact fin (.inr rfl) rv ⟨o,n,g1,g2,g4⟩
end
noncomputable def setKs(h:MH)(w:W):Option (List (List Str)):=(seqOf h w).bind tksOf
noncomputable def sortTwo(f:List (List Str)→List (List Str)→List (List Str))(ma mb:ME):ME:=fun ρ=>bnd (ma ρ) fun x h1=>(setKs h1 x).bind fun ka=>bnd (mb ρ) (fun y h2=>(setKs h2 y).bind fun kb=>if ka.length+kb.length≤800∧(ssort (f ka kb)).length<64∧(∀k∈f ka kb,k≠[]) then some (.fls ((ssort (f ka kb)).map tupS),h2) else none) h1
def OpSets(op:Operator)(rel:Prop→Prop→Prop):Prop:=∀{prog:Program} {w:World} {A:Around} {E:Value→Shared→Prop} {s:Shared} {S1 S2:Addr} {L1 L2:List (List Str×Addr)} {Q:Value→Shared→Prop},A.units+10<cLine→SetT (SK prog w) s.heap S1 L1→SetT (SK prog w) s.heap S2 L2→S1≠S2→L1.length+L2.length≤800→
 (∀S h' L' d,s.heap.objs.size≤S→SetT (SK prog w) h' S L'→L'.length≤L1.length+L2.length→(∀x,x∈L'.map (·.1)↔rel (x∈L1.map (·.1)) (x∈L2.map (·.1)))→(∀p∈L',p∈L1∨p∈L2)→(∀b o,s.heap.get? b=some o→h'.get? b=some o)→Q (.ref S) { s with heap:=h',drawn:=d })→
 wpAny (model prog w) A (binaryOp op (.ref S1) (.ref S2)) Q E s
theorem op_or:OpSets .BitOr Or:=fun hu h1 h2 ne hb k=>or_sets hu h1 h2 ne hb k
theorem op_and:OpSets .BitAnd And:=fun hu h1 h2 ne hb k=>and_sets hu h1 h2 ne hb k
section
variable{X:Cx}{cl:Nat→Addr}{a b:Expr}{ma mb:ME}{p p2 p3 p4 p5 p6 pos:Pos}{op:Operator}{rel:Prop→Prop→Prop}{f:List (List Str)→List (List Str)→List (List Str)}
theorem se_sortOp(ho:OpSets op rel)(hf:∀ka kb x,x∈f ka kb↔rel (x∈ka) (x∈kb))(hc:X.calm=true)(hu:X.A.units+64<cLine)(hl:X.mg "sorted" = none)(hs:X.mg "set" = none)(ha:SE X cl a ma)(hb:SE X cl b mb)(hg:Gl X "sorted")(hg2:Gl X "set")
  (he1:starEach [a] X.env=(false,eval a X.env)::starEach [] X.env) (he1b:starEach [b] X.env=(false,eval b X.env)::starEach [] X.env) (hpl:∀q:Pos,(backTo q (starEach [] X.env)).any (·.1)=false)
  (he2:starEach [.BinOp (.Call (.Name "set" p2) [a] [] p3) op (.Call (.Name "set" p4) [b] [] p5) p6] X.env=(false,eval (.BinOp (.Call (.Name "set" p2) [a] [] p3) op (.Call (.Name "set" p4) [b] [] p5) p6) X.env)::starEach [] X.env) :
  SE X cl (.Call (.Name "sorted" p) [.BinOp (.Call (.Name "set" p2) [a] [] p3) op (.Call (.Name "set" p4) [b] [] p5) p6] [] pos) (sortTwo f ma mb):=by
 rintro pins s σ H Q I ⟨μ,h,ρ,w,h',R,er,e,k⟩
 obtain⟨x,h1,e1,e⟩:=of_bnd e
 obtain⟨ka,eka,e⟩:=Option.bind_eq_some_iff.mp e
 obtain⟨la,ela,ekA⟩:=Option.bind_eq_some_iff.mp eka
 obtain⟨y,h2,e2,e⟩:=of_bnd e
 obtain⟨kb,ekb,e⟩:=Option.bind_eq_some_iff.mp e
 obtain⟨lb,elb,ekB⟩:=Option.bind_eq_some_iff.mp ekb
 by_cases ok:ka.length+kb.length≤800∧(ssort (f ka kb)).length<64∧(∀k∈f ka kb,k≠[])
 .rw[if_pos ok] at e
  cases e
  have h0:∀{q:Pos},backTo q (starEach [] X.env)=[]:=fun {q}=>rfl
  refine wpAny_Call_Name_kw (ld_blt I hg hl PyProof.Rows.boot_sorted ?_ (by decide) (by decide))
  refine PyProof.Rows.callWith_builtin1 ?_ he2 (hpl pos)
  rw[he2]
  show wpAny _ _ (spliced ((false,eval (.BinOp (.Call (.Name "set" p2) [a] [] p3) op (.Call (.Name "set" p4) [b] [] p5) p6) X.env)::backTo pos (starEach [] X.env))) _ _ s
  rw[h0]
  refine Calls.spliced_cons (wpAny_BinOp ?_)
  refine thn (ev_set hc hu hs ha hg2 he1 (hpl p3) I R er e1 ela ekA (by omega)) fun v1 s1 ⟨S1,μ1,H1,L1,q1,I1,E1,R1,ST1,ln1,me1,rw1,n1,n2,n3,_⟩=>?_
  subst q1
  obtain⟨o1,es1,ep1,t1,RR1,g1,g2,g3,_⟩:=ST1.tab
  have I1p:Inv X (pins++[(S1,o1)]) σ H1 s1:=I1.pins_of fun p hp=>by
   rcases List.mem_append.mp hp with z | z
   .exact I1.pin p (List.mem_append_right _ z)
   .have:p=(S1,o1):=by simpa using z
    subst this
    exact⟨g1,n1,n2,n3,fun v e=>by rw[g3] at e; cases e⟩
  refine thn (ev_set hc hu hs hb hg2 he1b (hpl p5) I1p R1 (er.ext R E1) e2 elb ekB (by omega)) fun v2 s2 ⟨S2,μ2,H2,L2,q2,I2,E2,R2,ST2,ln2,me2,rw2,_,_,_,ne2⟩=>?_
  subst q2
  have I2':Inv X pins σ H2 s2:=I2.unpinned
  have g1':s2.heap.get? S1=some o1:=(I2.pin (S1,o1) (List.mem_append_right _ (List.mem_append_right _ (List.mem_singleton.mpr rfl)))).1
  have neS:S1≠S2:=ne2 (S1,o1) (List.mem_append_right _ (List.mem_singleton.mpr rfl))
  have rw1':∀p∈L1,RW X.K μ2 H2 (tupS p.1) (.ref p.2):=fun p hp=>(rw1 p hp).ext R1 E2
  have ST1':SetT (SK X.prog X.w) s2.heap S1 L1:=by
   obtain⟨o,es,ep,t,RR,a1,a2,a3,a4,a5,a6,a7,a8,a9⟩:=ST1
   rw[g1] at a1
   cases a1
   exact⟨_,es,ep,t,RR,g1',a2,a3,a4,a5,a6,a7,a8,fun p hp=>tup_key I2' (rw1' p hp)⟩
  refine ho (by omega) ST1' ST2 neS (by omega) fun S h4 L d4 le4 ST4 ln4 me4 pa4 kp4=>Calls.spliced_nil ?_
  have me':∀y,y∈L.map (·.1)↔y∈f ka kb:=fun y=>by
   rw[me4 y,hf ka kb y]
   have z1:(y∈L1.map (·.1))=(y∈ka):=propext (me1 y)
   have z2:(y∈L2.map (·.1))=(y∈kb):=propext (me2 y)
   rw[z1,z2]
  have nd:(L.map (·.1)).Nodup:=by obtain⟨_,_,_,_,_,_,_,_,_,_,_,_,nd,_⟩:=ST4; exact nd
  have lt:L.length<64:=by have:=len_ssort nd me'; rw[List.length_map] at this; omega
  refine sorted_set (s:={ s2 with heap:=h4,drawn:=d4 }) (I2'.ok.hd hc) ST4 lt (fun p hp=>ok.2.2 p.1 ((me' _).mp (List.mem_map.mpr ⟨p,hp,rfl⟩))) fun D L' n s' pe srt ob le keep gg oo=>?_
  obtain⟨hp',g',d',t',os'⟩:=s'
  obtain rfl:g'=s2.gens:=gg
  obtain rfl:os'=s2.os:=oo
  have rr:∀p∈L',RW X.K μ2 H2 (tupS p.1) (.ref p.2):=fun p hp=>(pa4 p (pe.mem_iff.mp hp)).elim (rw1' p) (rw2 p)
  obtain⟨q1,q2⟩:=rws_of rr
  have keep1:∀b o,s2.heap.get? b=some o→hp'.get? b=some o:=fun b o e=>keep b o (kp4 b o e)
  have le1:s2.heap.objs.size≤D:=by
   obtain⟨_,_,_,_,_,go,_⟩:=ST4
   exact Nat.le_trans le4 (Nat.le_trans (Nat.le_of_lt (Heap.lt_size go)) le)
  have I3:Inv X pins σ (upd H2 D (.lst (L'.map fun p=>V.ref p.2))) { s2 with heap:=hp',toks:=t',drawn:=d' }:=Inv.draw (s:={ s2 with heap:=hp',toks:=t' }) (I2'.laid (t':=t') keep1 le1 ⟨by rw[List.length_map,pe.length_eq,sizeLine_eq]; omega,_,n,q2,ob⟩)
  refine⟨.ref D,_,I3,rfl,?_⟩
  rw[srt.trans (ssort_same me')] at q1
  exact KQ.fls (k.ext (E1.trans E2)) R2 q1 (I2'.hok.fresh le1)
 .rw[if_neg ok] at e; cases e
end
noncomputable def xArgs(E:Expr→Option ME)(es:List Expr):Option (List ME):=if es.all noStar=true then mapO E es else none
noncomputable def isBin(Γ:RC)(x:Str):Bool:=Γ.bin.any (· == x)
noncomputable def tyOf(x:Str):Option Ty:=if x=="int" then some .int else if x=="str" then some .str else if x=="bool" then some .bool else if x=="tuple" then some .tuple else if x=="list" then some .list else if x=="dict" then some .dict else none
noncomputable def xBuiltin(mu:Bool)(x:Str):Option (List W→M W):=
 if x=="len" then some lenW else if x=="all" then some allW else if x=="any" then some anyW else if x=="sum" then some sumW
 else if x=="int" then some intW else if x=="str" then some strW else if x=="tuple" then some tupleW else if x=="dict" then some dictW
 else if x=="sorted" then some sortLs
 else if x=="list" then (match mu with
  | true=>some listM
  | false=>some listW)
 else none
noncomputable def setArg:List Expr→Option Expr
 | [.Call (.Name y _) [a] [] _]=>if y=="set" then some a else none
 | _=>none
noncomputable def twoArg:List Expr→Option (Expr×Operator×Expr)
 | [.BinOp (.Call (.Name y _) [a] [] _) op (.Call (.Name z _) [b] [] _) _]=>if (y=="set" && z=="set")=true then some (a,op,b) else none
 | _=>none
noncomputable def xSetOp(Γ:RC)(E:Expr→Option ME)(x:Str)(t:Expr×Operator×Expr):Option ME:=
 if (x=="sorted" && glB Γ.sc "set" && isBin Γ "set" && noStar t.1&&noStar t.2.2)=true then (E t.1).bind fun ma=>(E t.2.2).bind fun mb=>match t.2.1 with
  | .BitOr=>some (sortTwo (fun a b=>a++b) ma mb)
  | .BitAnd=>some (sortTwo (fun a b=>a.filter (b.contains ·)) ma mb)
  | _=>none
 else none
noncomputable def isiArg(Γ:RC):List Expr→Option (Expr×Ty)
 | [a,.Name y _]=>if (glB Γ.sc y&&isBin Γ y&&noStar a)=true then (tyOf y).map fun T=>(a,T) else none
 | _=>none
noncomputable def xCallB(Γ:RC)(E:Expr→Option ME)(mu:Bool)(x:Str)(as:List Expr):Option ME:=
 if x=="isinstance" then (isiArg Γ as).bind fun p=>(E p.1).map (eUn (isW p.2))
 else match as with
  | []=>none
  | _::_=>(xBuiltin mu x).bind fun g=>(xArgs E as).map (eArgs g)
noncomputable def xCallN(Γ:RC)(E:Expr→Option ME)(mu:Bool)(x:Str)(as:List Expr):Option ME:=
 if glB Γ.sc x=true then (match Γ.fns.lookup x with
  | some g=>(xArgs E as).map (eArgs g)
  | none=>if isBin Γ x=true then (match setArg as with
    | some a=>if (x=="len" && glB Γ.sc "set" && isBin Γ "set" && noStar a)=true then (E a).map (eUn lenSet) else if (x=="sorted" && glB Γ.sc "set" && isBin Γ "set" && noStar a)=true then (E a).map (eUn sortSet) else none
    | none=>(match twoArg as with
     | some t=>xSetOp Γ E x t
     | none=>xCallB Γ E mu x as)) else none) else none
noncomputable def xMeth(E:Expr→Option ME)(o:Expr)(m:Str)(apos:Pos)(as:List Expr)(pos:Pos):Option ME:=
 if (noCall o&&(apos.endLine==pos.line)&&as.all noStar&&decide (as.length<30))=true then (E o).bind fun mo=>match as with
  | []=>if m=="pop" then some (eMethL popM mo []) else none
  | a::r=>if m=="append" then (mapO E (a::r)).map (eMethL appendM mo)
   else if m=="extend" then (mapO E (a::r)).map (eMethL extendM mo)
   else if m=="get" then (match r with
    | [b]=>(E a).bind fun ma=>(E b).map (eDget2 mo ma)
    | _=>none)
   else none
 else none
section
variable{Γ:RC}{cl:Nat→Addr}{k:Nat}{X:Cx}{x:Str}{m:ME}{pos p:Pos}{E:Expr→Option ME}{as:List Expr}{mu:Bool}
theorem xArgs_all:∀{es:List Expr} {ms:List ME},(∀e m,E e=some m→SE X cl e m)→es.all noStar=true→mapO E es=some ms→SA X cl es ms
 | [],ms,_,_,h=>by cases h; exact sa_nil
 | e::es,ms,hE,hn,h=>by
  obtain⟨m,ms',h1,h2,rfl⟩:=mapO_cons h
  rw[List.all_cons,Bool.and_eq_true] at hn
  exact sa_cons (hE _ _ h1) (xArgs_all hE hn.2 h2) (star_cons hn.1)
theorem xArgs_ok{es:List Expr}{ms:List ME}(hE:∀e m,E e=some m→SE X cl e m)(h:xArgs E es=some ms):es.all noStar=true∧SA X cl es ms:=by
 unfold xArgs at h
 split at h
 .rename_i hn
  exact⟨hn,xArgs_all hE hn h⟩
 .cases h
theorem bin_of(F:Fits Γ cl k X)(h:isBin Γ x=true):X.mg x=none:=by
 unfold isBin at h
 obtain⟨y,hy,e⟩:=List.any_eq_true.mp h
 rw[←eq_of_beq e]
 exact F.base.bin.at hy
theorem tyOf_ok{T:Ty}(h:tyOf x=some T):bootBuiltins x=some (.type T.name):=by
 unfold tyOf at h
 split at h
 .rename_i q; rw[eq_of_beq q]; cases h; exact tyb_int
 split at h
 .rename_i q; rw[eq_of_beq q]; cases h; exact tyb_str
 split at h
 .rename_i q; rw[eq_of_beq q]; cases h; exact tyb_bool
 split at h
 .rename_i q; rw[eq_of_beq q]; cases h; exact tyb_tuple
 split at h
 .rename_i q; rw[eq_of_beq q]; cases h; exact tyb_list
 split at h
 .rename_i q; rw[eq_of_beq q]; cases h; exact tyb_dict
 .cases h
theorem xBuiltin_ok{e:Expr}{es:List Expr}{ms:List ME}{g:List W→M W}(F:Fits Γ cl k X)(hg:glB Γ.sc x=true)(hb:isBin Γ x=true)(h:xBuiltin mu x=some g)(hn:(e::es).all noStar=true)(ha:SA X cl (e::es) ms):SE X cl (.Call (.Name x p) (e::es) [] pos) (eArgs g ms):=by
 have hm:=bin_of F hb
 rw[List.all_cons,Bool.and_eq_true] at hn
 have h1:=star_cons (es:=es) (env:=X.env) hn.1
 have h2:=star_plain (pos:=pos) (env:=X.env) hn.2
 unfold xBuiltin at h
 split at h
 .rename_i q; have q:=eq_of_beq q; subst q; cases h; exact cB_ hg call_lenW hm PySem.boot_len ha F.sc h1 h2
 split at h
 .rename_i q; have q:=eq_of_beq q; subst q; cases h; exact cB_ hg (call_allW F.calm) hm ML.boot_all ha F.sc h1 h2
 split at h
 .rename_i q; have q:=eq_of_beq q; subst q; cases h; exact cB_ hg (call_anyW F.calm) hm ML.boot_any ha F.sc h1 h2
 split at h
 .rename_i q; have q:=eq_of_beq q; subst q; cases h; exact cB_ hg (call_sumW F.calm) hm ML.boot_sum ha F.sc h1 h2
 split at h
 .rename_i q; have q:=eq_of_beq q; subst q; cases h; exact cT_ hg call_intW hm tyb_int ha F.sc h1 h2
 split at h
 .rename_i q; have q:=eq_of_beq q; subst q; cases h; exact cT_ hg call_strW hm tyb_str ha F.sc h1 h2
 split at h
 .rename_i q; have q:=eq_of_beq q; subst q; cases h; exact cT_ hg call_tupleW hm tyb_tuple ha F.sc h1 h2
 split at h
 .rename_i q; have q:=eq_of_beq q; subst q; cases h; exact cT_ hg (call_dictW F.calm) hm tyb_dict ha F.sc h1 h2
 split at h
 .rename_i q; have q:=eq_of_beq q; subst q; cases h; exact cB_ hg call_sortW hm PyProof.Rows.boot_sorted ha F.sc h1 h2
 split at h
 .rename_i q
  have q:=eq_of_beq q; subst q
  split at h
  .cases h; exact cT_ hg call_listM hm tyb_list ha F.sc h1 h2
  .cases h; exact cT_ hg call_listW hm tyb_list ha F.sc h1 h2
 .cases h
theorem isiArg_ok{a:Expr}{T:Ty}(h:isiArg Γ as=some (a,T)):∃y p2,as=[a,.Name y p2]∧glB Γ.sc y=true∧isBin Γ y=true∧noStar a=true∧tyOf y=some T:=by
 unfold isiArg at h
 split at h
 .rename_i a' y p2
  split at h
  .rename_i q
   rw[Option.map_eq_some_iff] at h
   obtain⟨T',e,z⟩:=h
   cases z
   simp only[Bool.and_eq_true] at q
   exact⟨y,p2,rfl,q.1.1,q.1.2,q.2,e⟩
  .cases h
 .cases h
theorem xCallB_ok(F:Fits Γ cl k X)(hE:∀e m,E e=some m→SE X cl e m)(hg:glB Γ.sc x=true)(hb:isBin Γ x=true)(h:xCallB Γ E mu x as=some m):SE X cl (.Call (.Name x p) as [] pos) m:=by
 unfold xCallB at h
 split at h
 .rename_i q
  have q:=eq_of_beq q; subst q
  rw[Option.bind_eq_some_iff] at h
  obtain⟨⟨a,T⟩,e,h⟩:=h
  rw[Option.map_eq_some_iff] at h
  obtain⟨ma,e2,rfl⟩:=h
  obtain⟨y,p2,rfl,g2,b2,ns,ty⟩:=isiArg_ok e
  exact isi_ T hg g2 (hE _ _ e2) (bin_of F hb) (bin_of F b2) (tyOf_ok ty) F.sc (star_cons ns) (star_cons rfl) (star_plain rfl)
 .split at h
  .cases h
  .rw[Option.bind_eq_some_iff] at h
   obtain⟨g,e,h⟩:=h
   rw[Option.map_eq_some_iff] at h
   obtain⟨ms,e2,rfl⟩:=h
   obtain⟨hn,ha⟩:=xArgs_ok hE e2
   exact xBuiltin_ok F hg hb e hn ha
theorem setArg_ok{a:Expr}(h:setArg as=some a):∃p2 p3,as=[.Call (.Name "set" p2) [a] [] p3]:=by
 unfold setArg at h
 split at h
 .rename_i y p2 a' p3
  split at h
  .rename_i q
   cases h
   rw[eq_of_beq q]
   exact⟨p2,p3,rfl⟩
  .cases h
 .cases h
theorem twoArg_ok{t:Expr×Operator×Expr}(h:twoArg as=some t):∃p2 p3 p4 p5 p6,as=[.BinOp (.Call (.Name "set" p2) [t.1] [] p3) t.2.1 (.Call (.Name "set" p4) [t.2.2] [] p5) p6]:=by
 unfold twoArg at h
 split at h
 .rename_i y p2 a p3 op z p4 b p5 p6
  split at h
  .rename_i q
   cases h
   have q':=Bool.and_eq_true_iff.mp q
   rw[eq_of_beq q'.1,eq_of_beq q'.2]
   exact⟨p2,p3,p4,p5,p6,rfl⟩
  .cases h
 .cases h
theorem xSetOp_ok{t:Expr×Operator×Expr}(F:Fits Γ cl k X)(hE:∀e m,E e=some m→SE X cl e m)(hg:glB Γ.sc x=true)(hb:isBin Γ x=true)(e:twoArg as=some t)(h:xSetOp Γ E x t=some m):SE X cl (.Call (.Name x p) as [] pos) m:=by
 obtain⟨p2,p3,p4,p5,p6,rfl⟩:=twoArg_ok e
 obtain⟨a,op,b⟩:=t
 unfold xSetOp at h
 split at h
 .rename_i q
  simp only[Bool.and_eq_true] at q
  obtain⟨⟨⟨⟨q1,q2⟩,q3⟩,q4⟩,q5⟩:=q
  obtain⟨ma,e1,h⟩:=Option.bind_eq_some_iff.mp h
  obtain⟨mb,e2,h⟩:=Option.bind_eq_some_iff.mp h
  have hx:=eq_of_beq q1
  subst hx
  split at h
  .rename_i z
   cases h
   have z:op=.BitOr:=z
   subst z
   exact se_sortOp op_or (fun ka kb y=>List.mem_append) F.calm F.room.units (bin_of F hb) (bin_of F q3) (hE _ _ e1) (hE _ _ e2) (gl_of hg F.sc).1 (gl_of q2 F.sc).1 (star_cons q4) (star_cons q5) (fun _=>star_plain rfl) (star_cons rfl)
  .rename_i z
   cases h
   have z:op=.BitAnd:=z
   subst z
   exact se_sortOp op_and (fun ka kb y=>by simp[List.mem_filter]) F.calm F.room.units (bin_of F hb) (bin_of F q3) (hE _ _ e1) (hE _ _ e2) (gl_of hg F.sc).1 (gl_of q2 F.sc).1 (star_cons q4) (star_cons q5) (fun _=>star_plain rfl) (star_cons rfl)
  .cases h
 .cases h
theorem xCallN_ok(F:Fits Γ cl k X)(hE:∀e m,E e=some m→SE X cl e m)(h:xCallN Γ E mu x as=some m):SE X cl (.Call (.Name x p) as [] pos) m:=by
 unfold xCallN at h
 split at h
 .rename_i hg
  split at h
  .rename_i g e
   rw[Option.map_eq_some_iff] at h
   obtain⟨ms,e2,rfl⟩:=h
   obtain⟨hn,ha⟩:=xArgs_ok hE e2
   obtain⟨f,fd,ps,fo,hm,hk,hb⟩:=F.base.fns.at e
   cases as with
   | nil=>
    have:ms=[]:=by
     cases e2; rfl
    subst this
    exact c0_ hg fo F.room hm hk hb F.sc
   | cons a r=>
    rw[List.all_cons,Bool.and_eq_true] at hn
    exact c_ hg fo F.room hm hk hb ha F.sc (star_cons hn.1) (star_plain hn.2)
  .split at h
   .rename_i hb
    split at h
    .rename_i a e
     split at h
     .rename_i q
      simp only[Bool.and_eq_true] at q
      rw[Option.map_eq_some_iff] at h
      obtain⟨ma,e2,rfl⟩:=h
      obtain⟨p2,p3,rfl⟩:=setArg_ok e
      have hx:=eq_of_beq q.1.1.1
      subst hx
      exact lset_ hg q.1.1.2 F.calm (bin_of F hb) (bin_of F q.1.2) (hE _ _ e2) F.sc (star_cons q.2) (star_plain rfl) (star_cons rfl) (star_plain rfl)
     .split at h
      .rename_i q
       simp only[Bool.and_eq_true] at q
       rw[Option.map_eq_some_iff] at h
       obtain⟨ma,e2,rfl⟩:=h
       obtain⟨p2,p3,rfl⟩:=setArg_ok e
       have hx:=eq_of_beq q.1.1.1
       subst hx
       exact se_sortSet F.calm F.room.units (bin_of F hb) (bin_of F q.1.2) (hE _ _ e2) (gl_of hg F.sc).1 (gl_of q.1.1.2 F.sc).1 (star_cons q.2) (star_plain rfl) (star_cons rfl) (star_plain rfl)
      .cases h
    .split at h
     .rename_i t e
      exact xSetOp_ok F hE hg hb e h
     .exact xCallB_ok F hE hg hb h
   .cases h
 .cases h
theorem xMeth_ok{o:Expr}{nm:Str}{apos:Pos}(F:Fits Γ cl k X)(hE:∀e m,E e=some m→SE X cl e m)(h:xMeth E o nm apos as pos=some m):SE X cl (.Call (.Attribute o nm apos) as [] pos) m:=by
 unfold xMeth at h
 split at h
 .rename_i q
  simp only[Bool.and_eq_true] at q
  obtain⟨⟨⟨q1,q2⟩,q3⟩,q4⟩:=q
  rw[Option.bind_eq_some_iff] at h
  obtain⟨mo,eo,h⟩:=h
  split at h
  .split at h
   .rename_i z
    rw[eq_of_beq z]
    cases h
    exact se_pop (hE _ _ eo) (base_no q1) q2
   .cases h
  .rename_i a r
   have hn:=q3
   rw[List.all_cons,Bool.and_eq_true] at hn
   split at h
   .rename_i z
    rw[eq_of_beq z]
    rw[Option.map_eq_some_iff] at h
    obtain⟨ms,e2,rfl⟩:=h
    exact se_append (hE _ _ eo) (xArgs_all hE q3 e2) (base_no q1) (few_of q3 q4) q2 (star_cons hn.1) (star_plain hn.2)
   split at h
   .rename_i z
    rw[eq_of_beq z]
    rw[Option.map_eq_some_iff] at h
    obtain⟨ms,e2,rfl⟩:=h
    exact se_extend (hE _ _ eo) (xArgs_all hE q3 e2) (base_no q1) (few_of q3 q4) q2 (star_cons hn.1) (star_plain hn.2)
   split at h
   .rename_i z
    rw[eq_of_beq z]
    split at h
    .rename_i b
     rw[Option.bind_eq_some_iff] at h
     obtain⟨ma,e1,h⟩:=h
     rw[Option.map_eq_some_iff] at h
     obtain⟨mb,e2,rfl⟩:=h
     have hb:noStar b=true:=by simpa using hn.2
     exact se_dget2 F.room.units (hE _ _ eo) (hE _ _ e1) (hE _ _ e2) ⟨base_no q1,few_of q3 q4,q2,by rw[back_cons hn.1,back_cons hb,star_nil]; rfl⟩
    .cases h
   .cases h
 .cases h
end
noncomputable def isTxt0(Γ:RC):Expr→Bool
 | .Constant (.str _) _ _=>true
 | .Name x _=>Γ.txt.any (· == x)
 | _=>false
noncomputable def isTxt(Γ:RC):Expr→Bool
 | .Subscript e (.Slice _ _ _ _) _=>isTxt0 Γ e
 | e=>isTxt0 Γ e
noncomputable def isTup:Expr→Bool
 | .Tuple ..=>true
 | _=>false
noncomputable def xIterN(Γ:RC)(E:Expr→Option ME)(tg:Expr)(x:Str)(as:List Expr):Option MI:=
 if (glB Γ.sc x&&isBin Γ x&&as.all noStar)=true then (match as with
  | [e]=>if x=="range" then (E e).map fun m=>iRng [m]
   else if (x=="enumerate" && isTup tg)=true then (E e).map fun m=>iEnum [m]
   else none
  | [e,e2]=>if (x=="zip" && isTup tg)=true then (E e).bind fun m=>(E e2).map fun m2=>iZip [m,m2] else none
  | _=>none) else none
noncomputable def xIterB(Γ:RC)(E:Expr→Option ME)(tg:Expr):Expr→Option MI
 | .Call (.Name x _) as [] _=>xIterN Γ E tg x as
 | _=>none
noncomputable def xIter(Γ:RC)(E:Expr→Option ME)(tg it:Expr):Option MI:=match xIterB Γ E tg it with
 | some m=>some m
 | none=>(E it).map fun m=>match isTxt Γ it with
  | true=>iStr m
  | false=>iSeq m
section
variable{Γ:RC}{cl:Nat→Addr}{k:Nat}{X:Cx}{x:Str}{pos p:Pos}{E:Expr→Option ME}{as:List Expr}{tg it:Expr}{mi:MI}
theorem isTup_ok(h:isTup tg=true):∃es n tp,tg=.Tuple es n tp:=by
 unfold isTup at h
 split at h
 .exact⟨_,_,_,rfl⟩
 .cases h
theorem xIterN_ok(F:Fits Γ cl k X)(hE:∀e m,E e=some m→SE X cl e m)(h:xIterN Γ E tg x as=some mi):SI X cl tg (.Call (.Name x p) as [] pos) mi:=by
 unfold xIterN at h
 split at h
 .rename_i q
  simp only[Bool.and_eq_true] at q
  obtain⟨⟨q1,q2⟩,q3⟩:=q
  split at h
  .rename_i e
   have hn:noStar e=true:=by simpa using q3
   split at h
   .rename_i z
    have z:=eq_of_beq z; subst z
    rw[Option.map_eq_some_iff] at h
    obtain⟨m,e1,rfl⟩:=h
    exact rng_ q1 (bin_of F q2) (sa_cons (hE _ _ e1) sa_nil (star_cons hn)) F.sc (by rw[star_cons hn,star_nil])
   split at h
   .rename_i z
    rw[Bool.and_eq_true] at z
    obtain⟨es,n,tp,rfl⟩:=isTup_ok z.2
    have z:=eq_of_beq z.1; subst z
    rw[Option.map_eq_some_iff] at h
    obtain⟨m,e1,rfl⟩:=h
    exact enu_ q1 (bin_of F q2) (sa_cons (hE _ _ e1) sa_nil (star_cons hn)) F.sc (star_cons hn) (star_plain rfl)
   .cases h
  .rename_i e e2
   rw[List.all_cons,Bool.and_eq_true] at q3
   have hn2:noStar e2=true:=by simpa using q3.2
   split at h
   .rename_i z
    rw[Bool.and_eq_true] at z
    obtain⟨es,n,tp,rfl⟩:=isTup_ok z.2
    have z:=eq_of_beq z.1; subst z
    rw[Option.bind_eq_some_iff] at h
    obtain⟨m,e1,h⟩:=h
    rw[Option.map_eq_some_iff] at h
    obtain⟨m2,e3,rfl⟩:=h
    exact zip_ q1 (bin_of F q2) (sa_cons (hE _ _ e1) (sa_cons (hE _ _ e3) sa_nil (star_cons hn2)) (star_cons q3.1)) F.sc (star_cons q3.1) (star_plain q3.2)
   .cases h
  .cases h
 .cases h
theorem xIter_ok(F:Fits Γ cl k X)(hE:∀e m,E e=some m→SE X cl e m)(h:xIter Γ E tg it=some mi):SI X cl tg it mi:=by
 unfold xIter at h
 split at h
 .rename_i m e
  cases h
  unfold xIterB at e
  split at e
  .exact xIterN_ok F hE e
  .cases e
 .rw[Option.map_eq_some_iff] at h
  obtain⟨m,e1,h⟩:=h
  cases q:isTxt Γ it with
  | true=>rw[q] at h; subst h; exact si_str (hE _ _ e1)
  | false=>rw[q] at h; subst h; exact si_seq (hE _ _ e1)
end
noncomputable def xTests(T:Expr→Option MT):List Expr→Option MT
 | []=>some tTrue
 | [c]=>T c
 | _=>none
structure CompR where
 mi:MI
 nl:Nat
 ks:List Nat
 g:MG
 t:MT
 m:ME
noncomputable def RC.inner(Γ:RC)(scope:Scope)(N':List Str):RC:={ Γ with sc:=relS Γ.sc scope,N:=N',inC:=true }
noncomputable def xComp1(Γ:RC)(E:RC→Bool→Expr→Option ME)(T:RC→Expr→Option MT)(elt tg it:Expr)(ifs:List Expr)(scope:Scope)(N':List Str):Option CompR:=
 if (noSet it&&nodupB N')=true then (mapO (fun x=>ixOf x Γ.N) (N'.drop (tgN tg))).bind fun ks=>
  if compOkB Γ.sc Γ.N scope N' (tgN tg) ks=true then (xIter Γ (E Γ false) tg it).bind fun mi=>(xTg (Γ.inner scope N') tg).bind fun g=>(xTests (T (Γ.inner scope N')) ifs).bind fun t=>(E (Γ.inner scope N') false elt).map fun m=>⟨mi,tgN tg,ks,g,t,m⟩
  else none
 else none
noncomputable def xComp(Γ:RC)(E:RC→Bool→Expr→Option ME)(T:RC→Expr→Option MT)(elt:Expr)(gens:List Comprehension)(scope:Scope)(pos:Pos):Option CompR:=match gens with
 | [⟨tg,it,ifs,ia⟩]=>match Γ.cmp.lookup (pos.line,pos.col) with
  | some N'=>if ia=0 then xComp1 Γ E T elt tg it ifs scope N' else none
  | none=>none
 | _=>none
section
variable{Γ:RC}{cl:Nat→Addr}{k:Nat}{X:Cx}{E:RC→Bool→Expr→Option ME}{T:RC→Expr→Option MT}{elt:Expr}{gens:List Comprehension}{scope:Scope}{pos:Pos}{r:CompR}
theorem Fits.inner(F:Fits Γ cl k X){N':List Str}(hN:N'.Nodup)(hk:scope.kind=.function)(cs:List (Str×Addr))(C:Addr)(s₀:Shared)(H₀:Hp)(ex:List Addr):Fits (Γ.inner scope N') cl k (cxC X scope cs C N' s₀ H₀ ex) where
 sc:=by
  show relabel scope X.env=relS Γ.sc scope
  rw[←F.sc]
  rfl
 N:=rfl
 nd:=hN
 fn:=fun h=>by cases h
 kind:=hk
 calm:=F.calm
 pass:=PassesOwn.never
 room:=F.room
 base:=⟨F.base.fns,F.base.con,F.base.tab,F.base.bin⟩
theorem xTests_ok{t:Expr→Option MT}{ifs:List Expr}{m:MT}(hT:∀e m,t e=some m→ST X cl e m)(h:xTests t ifs=some m):STs X cl ifs m:=by
 unfold xTests at h
 split at h
 .cases h; exact sts_nil
 .exact sts_one (hT _ _ h)
 .cases h
structure CompG(X:Cx)(cl:Nat→Addr)(elt:Expr)(gens:List Comprehension)(scope:Scope)(r:CompR):Prop where
 ex:∃tg it ifs N',gens=[⟨tg,it,ifs,0⟩]∧compOkB X.env.scope X.N scope N' r.nl r.ks=true∧noSet it=true∧SI X cl tg it r.mi∧(∀cs C s₀ H₀ ex,SG (cxC X scope cs C N' s₀ H₀ ex) cl tg r.g)∧(∀cs C s₀ H₀ ex,STs (cxC X scope cs C N' s₀ H₀ ex) cl ifs r.t)∧∀cs C s₀ H₀ ex,SE (cxC X scope cs C N' s₀ H₀ ex) cl elt r.m
theorem xComp_ok(F:Fits Γ cl k X)(hE:∀Γ X,Fits Γ cl k X→∀mu e m,E Γ mu e=some m→SE X cl e m)(hT:∀Γ X,Fits Γ cl k X→∀e m,T Γ e=some m→ST X cl e m)(h:xComp Γ E T elt gens scope pos=some r):CompG X cl elt gens scope r:=by
 unfold xComp at h
 split at h
 .rename_i tg it ifs ia
  split at h
  .rename_i N' _
   split at h
   .rename_i z
    subst z
    unfold xComp1 at h
    split at h
    .rename_i q
     rw[Bool.and_eq_true] at q
     rw[Option.bind_eq_some_iff] at h
     obtain⟨ks,e1,h⟩:=h
     split at h
     .rename_i ok
      rw[Option.bind_eq_some_iff] at h
      obtain⟨mi,e2,h⟩:=h
      rw[Option.bind_eq_some_iff] at h
      obtain⟨g,e3,h⟩:=h
      rw[Option.bind_eq_some_iff] at h
      obtain⟨t,e4,h⟩:=h
      rw[Option.map_eq_some_iff] at h
      obtain⟨m,e5,rfl⟩:=h
      have Fi:=fun cs C s₀ H₀ ex=>F.inner (scope:=scope) (nd_of q.2) (compOk_of ok).kind cs C s₀ H₀ ex
      exact⟨tg,it,ifs,N',rfl,by rw[F.sc,F.N]; exact ok,q.1,xIter_ok F (hE _ _ F false) e2,fun cs C s₀ H₀ ex=>xTg_ok (Fi cs C s₀ H₀ ex) e3,fun cs C s₀ H₀ ex=>xTests_ok (hT _ _ (Fi cs C s₀ H₀ ex)) e4,fun cs C s₀ H₀ ex=>hE _ _ (Fi cs C s₀ H₀ ex) _ _ _ e5⟩
     .cases h
    .cases h
   .cases h
  .cases h
 .cases h
end
noncomputable def tabOf(Γ:RC):CmpOp→Expr→Option (Bool×List (Str×W))
 | .In,.Name x _=>if glB Γ.sc x=true then (Γ.tab.lookup x).map fun l=>(false,l) else none
 | .NotIn,.Name x _=>if glB Γ.sc x=true then (Γ.tab.lookup x).map fun l=>(true,l) else none
 | _,_=>none
noncomputable def xCmp1(Γ:RC)(E:Expr→Option ME)(a:Expr)(op:CmpOp)(b:Expr):Option ME:=match tabOf Γ op b with
 | some p=>(E a).map (eUn (tabIn p.1 p.2))
 | none=>if behindInMarks op b=true then none else (opC op).bind fun f=>(E a).bind fun ma=>(E b).map fun mb=>eOp f ma mb
noncomputable def xCmp2(E:Expr→Option ME)(a:Expr)(op op':CmpOp)(b c:Expr):Option ME:=
 if lastMarks [op,op'] [b,c]=true then none else (opC op).bind fun f=>(opC op').bind fun g=>(E a).bind fun ma=>(E b).bind fun mb=>(E c).map fun mc=>eChain f g ma mb mc
noncomputable def xCmp(Γ:RC)(E:Expr→Option ME)(a:Expr)(ops:List CmpOp)(bs:List Expr):Option ME:=match ops,bs with
 | [op],[b]=>xCmp1 Γ E a op b
 | [op,op'],[b,c]=>xCmp2 E a op op' b c
 | _,_=>none
noncomputable def xOpt(E:Expr→Option ME):Option Expr→Option (Option ME)
 | none=>some none
 | some e=>(E e).map some
noncomputable def xSlice(E:Expr→Option ME)(ma:ME)(lo hi st:Option Expr):Option ME:=match st with
 | none=>(xOpt E lo).bind fun ml=>(xOpt E hi).map fun mh=>eSl ma ml mh
 | some (.UnaryOp .USub (.Constant (.int i) _ _) _)=>match lo,hi with
  | none,none=>if i=1 then some (eUn revW ma) else none
  | _,_=>none
 | _=>none
noncomputable def xTabGet(Γ:RC)(E:Expr→Option ME)(a b:Expr):Option ME:=match a with
 | .Name x _=>if (glB Γ.sc x&&noSlice b)=true then (match Γ.tab.lookup x with
  | some l=>(E b).map (eUn (tabGet l))
  | none=>none) else none
 | _=>none
noncomputable def xSub(Γ:RC)(E:Expr→Option ME)(a b:Expr):Option ME:=match xTabGet Γ E a b with
 | some m=>some m
 | none=>(E a).bind fun ma=>match b with
  | .Slice lo hi st _=>xSlice E ma lo hi st
  | b=>(E b).map (eOp ixW ma)
noncomputable def xSubM(Γ:RC)(E:Expr→Option ME)(a b:Expr):Bool→Option ME
 | false=>xSub Γ E a b
 | true=>match b with
  | .Slice lo hi none _=>(E a).bind fun ma=>(xOpt E lo).bind fun ml=>(xOpt E hi).map fun mh=>eSlM ma ml mh
  | b=>xSub Γ E a b
noncomputable def xBoolE(op:BoolOp)(E:Expr→Option ME):List Expr→Option ME
 | []=>none
 | [a]=>E a
 | a::r=>(E a).bind fun ma=>(xBoolE op E r).map fun mb=>match op with
  | .And=>eAnd ma mb
  | .Or=>eOr ma mb
noncomputable def xBoolT(op:BoolOp)(T:Expr→Option MT):List Expr→Option MT
 | []=>none
 | [a]=>T a
 | a::r=>(T a).bind fun ma=>(xBoolT op T r).map fun mb=>match op with
  | .And=>tAndM ma mb
  | .Or=>tOrM ma mb
noncomputable def xPairs(E:Expr→Option ME):List (Option Expr)→List Expr→Option (List (ME×ME))
 | [],[]=>some []
 | some a::ks,b::vs=>(E a).bind fun ma=>(E b).bind fun mb=>(xPairs E ks vs).map fun r=>(ma,mb)::r
 | _,_=>none
noncomputable def xDict(E:Expr→Option ME)(mu:Bool)(ks:List (Option Expr))(vs:List Expr):Option ME:=match ks,vs with
 | [],[]=>match mu with
  | true=>some eDnew
  | false=>some (eC (.fdc []))
 | k::ks,v::vs=>if decide (ks.length<15)=true then (xPairs E (k::ks) (v::vs)).map eDisp else none
 | _,_=>none
noncomputable def compME(mu:Bool)(r:CompR):ME:=match mu with
 | true=>eCompM r.mi r.nl r.ks r.g r.t r.m
 | false=>eComp r.mi r.nl r.ks r.g r.t r.m
noncomputable def stepE(E:RC→Bool→Expr→Option ME)(T:RC→Expr→Option MT)(Γ:RC)(mu:Bool):Expr→Option ME
 | .Name x _=>xName Γ x
 | .Constant c _ _=>xConst c
 | .UnaryOp .Not a _=>(E Γ false a).map eNot
 | .UnaryOp .USub a _=>(E Γ false a).map (eUn negW)
 | .BinOp a op b _=>(opB mu op).bind fun f=>(E Γ false a).bind fun ma=>(E Γ false b).map (eOp f ma)
 | .Compare a ops bs _=>xCmp Γ (E Γ false) a ops bs
 | .BoolOp op vs _=>xBoolE op (E Γ false) vs
 | .IfExp t a b _=>(T Γ t).bind fun mt=>(E Γ false a).bind fun ma=>(E Γ false b).map (eIf mt ma)
 | .Tuple es _ _=>(xArgs (E Γ false) es).map (eArgs tupW)
 | .List es _=>(xArgs (E Γ false) es).map (match mu with
  | true=>eArgs lstW
  | false=>eArgs flsW)
 | .Dict ks vs _=>xDict (E Γ false) mu ks vs
 | .Subscript a b _=>xSubM Γ (E Γ false) a b mu
 | .Call (.Name x _) as [] _=>xCallN Γ (E Γ false) mu x as
 | .Call (.Attribute o nm apos) as [] pos=>xMeth (E Γ false) o nm apos as pos
 | .ListComp elt gens scope pos=>(xComp Γ E T elt gens scope pos).map (compME mu)
 | _=>none
noncomputable def stepT(E:RC→Bool→Expr→Option ME)(T:RC→Expr→Option MT)(Γ:RC):Expr→Option MT
 | .BoolOp op vs _=>xBoolT op (T Γ) vs
 | .UnaryOp .Not a _=>(T Γ a).map tNotM
 | .Compare a ops bs _=>(xCmp Γ (E Γ false) a ops bs).map tVal
 | e=>if plainT e=true then (E Γ false e).map tVal else none
noncomputable def cET:Nat→(RC→Bool→Expr→Option ME)×(RC→Expr→Option MT)
 | 0=>(fun _ _ _=>none,fun _ _=>none)
 | n+1=>(stepE (cET n).1 (cET n).2,stepT (cET n).1 (cET n).2)
section
variable{Γ:RC}{cl:Nat→Addr}{k:Nat}{X:Cx}{m:ME}{pos p:Pos}{E:Expr→Option ME}{T:Expr→Option MT}{a b:Expr}{mu:Bool}
theorem xCmp1_ok{op:CmpOp}(F:Fits Γ cl k X)(hE:∀e m,E e=some m→SE X cl e m)(h:xCmp1 Γ E a op b=some m):SE X cl (.Compare a [op] [b] pos) m∧ST X cl (.Compare a [op] [b] pos) (tVal m):=by
 unfold xCmp1 at h
 split at h
 .rename_i q e
  rw[Option.map_eq_some_iff] at h
  obtain⟨ma,e1,rfl⟩:=h
  unfold tabOf at e
  split at e
  .split at e
   .rename_i hg
    rw[Option.map_eq_some_iff] at e
    obtain⟨l,e2,rfl⟩:=e
    exact⟨tI_ hg F.room.units (F.base.tab.at e2) (hE _ _ e1) F.sc,tIt_ hg F.room.units (F.base.tab.at e2) (hE _ _ e1) F.sc⟩
   .cases e
  .split at e
   .rename_i hg
    rw[Option.map_eq_some_iff] at e
    obtain⟨l,e2,rfl⟩:=e
    exact⟨tN_ hg F.room.units (F.base.tab.at e2) (hE _ _ e1) F.sc,tNt_ hg F.room.units (F.base.tab.at e2) (hE _ _ e1) F.sc⟩
   .cases e
  .cases e
 .split at h
  .cases h
  .rename_i hm
   rw[Bool.not_eq_true] at hm
   rw[Option.bind_eq_some_iff] at h
   obtain⟨f,e0,h⟩:=h
   rw[Option.bind_eq_some_iff] at h
   obtain⟨ma,e1,h⟩:=h
   rw[Option.map_eq_some_iff] at h
   obtain⟨mb,e2,rfl⟩:=h
   exact⟨se_cmp (opC_ok F.room.units e0) (hE _ _ e1) (hE _ _ e2) hm,st_cmp (opC_ok F.room.units e0) (hE _ _ e1) (hE _ _ e2) hm⟩
theorem xCmp2_ok{op op':CmpOp}{c:Expr}(F:Fits Γ cl k X)(hE:∀e m,E e=some m→SE X cl e m)(h:xCmp2 E a op op' b c=some m):SE X cl (.Compare a [op,op'] [b,c] pos) m∧ST X cl (.Compare a [op,op'] [b,c] pos) (tVal m):=by
 unfold xCmp2 at h
 split at h
 .cases h
 .rename_i hm
  rw[Bool.not_eq_true] at hm
  rw[Option.bind_eq_some_iff] at h
  obtain⟨f,e0,h⟩:=h
  rw[Option.bind_eq_some_iff] at h
  obtain⟨g,e01,h⟩:=h
  rw[Option.bind_eq_some_iff] at h
  obtain⟨ma,e1,h⟩:=h
  rw[Option.bind_eq_some_iff] at h
  obtain⟨mb,e2,h⟩:=h
  rw[Option.map_eq_some_iff] at h
  obtain⟨mc,e3,rfl⟩:=h
  exact⟨se_chain (opC_ok F.room.units e0) (opC_ok F.room.units e01) (hE _ _ e1) (hE _ _ e2) (hE _ _ e3) hm,st_chain (opC_ok F.room.units e0) (opC_ok F.room.units e01) (hE _ _ e1) (hE _ _ e2) (hE _ _ e3) hm⟩
theorem xCmp_ok{ops:List CmpOp}{bs:List Expr}(F:Fits Γ cl k X)(hE:∀e m,E e=some m→SE X cl e m)(h:xCmp Γ E a ops bs=some m):SE X cl (.Compare a ops bs pos) m∧ST X cl (.Compare a ops bs pos) (tVal m):=by
 unfold xCmp at h
 split at h
 .exact xCmp1_ok F hE h
 .exact xCmp2_ok F hE h
 .cases h
theorem xOpt_ok{o:Option Expr}{mo:Option ME}(hE:∀e m,E e=some m→SE X cl e m)(h:xOpt E o=some mo):SO X cl o mo:=by
 unfold xOpt at h
 split at h
 .cases h; exact so_none
 .rw[Option.map_eq_some_iff] at h
  obtain⟨m,e1,rfl⟩:=h
  exact so_some (hE _ _ e1)
theorem xSlice_ok{ma:ME}{lo hi st:Option Expr}(hE:∀e m,E e=some m→SE X cl e m)(ha:SE X cl a ma)(h:xSlice E ma lo hi st=some m):SE X cl (.Subscript a (.Slice lo hi st p) pos) m:=by
 unfold xSlice at h
 split at h
 .rw[Option.bind_eq_some_iff] at h
  obtain⟨ml,e1,h⟩:=h
  rw[Option.map_eq_some_iff] at h
  obtain⟨mh,e2,rfl⟩:=h
  exact se_sl ha (xOpt_ok hE e1) (xOpt_ok hE e2)
 .split at h
  .split at h
   .rename_i z
    subst z
    cases h
    exact se_rev ha
   .cases h
  .cases h
 .cases h
theorem xTabGet_ok(F:Fits Γ cl k X)(hE:∀e m,E e=some m→SE X cl e m)(h:xTabGet Γ E a b=some m):SE X cl (.Subscript a b pos) m:=by
 unfold xTabGet at h
 split at h
 .split at h
  .rename_i q
   rw[Bool.and_eq_true] at q
   split at h
   .rename_i l e
    rw[Option.map_eq_some_iff] at h
    obtain⟨mb,e1,rfl⟩:=h
    exact tG_ q.1 F.room.units (F.base.tab.at e) (hE _ _ e1) F.sc (ix_no q.2)
   .cases h
  .cases h
 .cases h
theorem xSub_ok(F:Fits Γ cl k X)(hE:∀e m,E e=some m→SE X cl e m)(h:xSub Γ E a b=some m):SE X cl (.Subscript a b pos) m:=by
 unfold xSub at h
 split at h
 .rename_i m' e
  cases h
  exact xTabGet_ok F hE e
 .rw[Option.bind_eq_some_iff] at h
  obtain⟨ma,e1,h⟩:=h
  split at h
  .exact xSlice_ok hE (hE _ _ e1) h
  .rename_i hb
   rw[Option.map_eq_some_iff] at h
   obtain⟨mb,e2,rfl⟩:=h
   refine se_ix (hE _ _ e1) (hE _ _ e2) (ix_no ?_)
   cases b<;>first | rfl | exact absurd rfl (hb _ _ _ _)
theorem xSubM_ok{mu:Bool}(F:Fits Γ cl k X)(hE:∀e m,E e=some m→SE X cl e m)(h:xSubM Γ E a b mu=some m):SE X cl (.Subscript a b pos) m:=by
 unfold xSubM at h
 split at h
 .exact xSub_ok F hE h
 .split at h
  .rw[Option.bind_eq_some_iff] at h
   obtain⟨ma,e0,h⟩:=h
   rw[Option.bind_eq_some_iff] at h
   obtain⟨ml,e1,h⟩:=h
   rw[Option.map_eq_some_iff] at h
   obtain⟨mh,e2,rfl⟩:=h
   exact se_slM (hE _ _ e0) (xOpt_ok hE e1) (xOpt_ok hE e2)
  .exact xSub_ok F hE h
theorem xBoolE_ok{op:BoolOp}(hE:∀e m,E e=some m→SE X cl e m):∀{vs:List Expr} {m:ME},xBoolE op E vs=some m→SE X cl (.BoolOp op vs pos) m
 | [],m,h=>by cases h
 | [a],m,h=>se_one (hE _ _ h)
 | a::b::r,m,h=>by
  unfold xBoolE at h
  rw[Option.bind_eq_some_iff] at h
  obtain⟨ma,e1,h⟩:=h
  rw[Option.map_eq_some_iff] at h
  obtain⟨mb,e2,h⟩:=h
  have ih:=xBoolE_ok hE e2
  cases op with
  | And=>subst h; exact se_and (hE _ _ e1) ih
  | Or=>subst h; exact se_or (hE _ _ e1) ih
theorem xBoolT_ok{op:BoolOp}(hT:∀e m,T e=some m→ST X cl e m):∀{vs:List Expr} {m:MT},xBoolT op T vs=some m→SW X cl (.BoolOp op vs pos) m
 | [],m,h=>by cases h
 | [a],m,h=>by
  cases op with
  | And=>exact sw_and1 (hT _ _ h)
  | Or=>exact sw_or1 (hT _ _ h)
 | a::b::r,m,h=>by
  unfold xBoolT at h
  rw[Option.bind_eq_some_iff] at h
  obtain⟨ma,e1,h⟩:=h
  rw[Option.map_eq_some_iff] at h
  obtain⟨mb,e2,h⟩:=h
  have ih:=xBoolT_ok hT e2
  cases op with
  | And=>subst h; exact sw_and (hT _ _ e1) ih
  | Or=>subst h; exact sw_or (hT _ _ e1) ih
theorem xPairs_ok(hE:∀e m,E e=some m→SE X cl e m):∀{ks:List (Option Expr)} {vs:List Expr} {r:List (ME×ME)},xPairs E ks vs=some r→SPs X cl pos ks vs r∧ks.all (·.isSome)=true∧ks.length=vs.length
 | [],[],r,h=>by cases h; exact⟨sp_nil,rfl,rfl⟩
 | some a::ks,b::vs,r,h=>by
  unfold xPairs at h
  rw[Option.bind_eq_some_iff] at h
  obtain⟨ma,e1,h⟩:=h
  rw[Option.bind_eq_some_iff] at h
  obtain⟨mb,e2,h⟩:=h
  rw[Option.map_eq_some_iff] at h
  obtain⟨r',e3,rfl⟩:=h
  obtain⟨i1,i2,i3⟩:=xPairs_ok hE e3
  exact⟨sp_cons (hE _ _ e1) (hE _ _ e2) i1,by simpa using i2,by simpa using i3⟩
 | [],_::_,r,h=>by simp[xPairs] at h
 | none::_,_,r,h=>by simp[xPairs] at h
 | some _::_,[],r,h=>by simp[xPairs] at h
theorem xDict_ok{ks:List (Option Expr)}{vs:List Expr}(hE:∀e m,E e=some m→SE X cl e m)(h:xDict E mu ks vs=some m):SE X cl (.Dict ks vs pos) m:=by
 unfold xDict at h
 split at h
 .split at h
  .cases h; exact se_dnewM
  .cases h; exact se_dnew
 .split at h
  .rename_i q
   rw[Option.map_eq_some_iff] at h
   obtain⟨r,e1,rfl⟩:=h
   obtain⟨i1,i2,i3⟩:=xPairs_ok (pos:=pos) hE e1
   exact se_disp i1 i2 i3 (by simp) (by rw[decide_eq_true_eq] at q; simp only[List.length_cons]; omega)
  .cases h
 .cases h
end
section
variable{Γ:RC}{cl:Nat→Addr}{k:Nat}{X:Cx}{m:ME}{pos p:Pos}{E:RC→Bool→Expr→Option ME}{T:RC→Expr→Option MT}{mu:Bool}
theorem compME_ok{elt:Expr}{gens:List Comprehension}{scope:Scope}{r:CompR}(F:Fits Γ cl k X)(g:CompG X cl elt gens scope r):SE X cl (.ListComp elt gens scope pos) (compME mu r):=by
 obtain⟨tg,it,ifs,N',rfl,ok,hs,hi,hg,ht,he⟩:=g.ex
 cases mu with
 | true=>exact se_compM _ _ N' r.nl r.ks F.calm ok hi hg ht he rfl rfl (folded_no hs)
 | false=>exact se_comp _ _ N' r.nl r.ks F.calm ok hi hg ht he rfl rfl (folded_no hs)
theorem stepE_ok(hE:∀Γ X,Fits Γ cl k X→∀mu e m,E Γ mu e=some m→SE X cl e m)(hT:∀Γ X,Fits Γ cl k X→∀e m,T Γ e=some m→ST X cl e m)(F:Fits Γ cl k X){e:Expr}(h:stepE E T Γ mu e=some m):SE X cl e m:=by
 have hE':=hE _ _ F
 have hF:=hE' false
 have hT':=hT _ _ F
 unfold stepE at h
 split at h
 .exact xName_ok F h
 .exact xConst_ok h
 .rw[Option.map_eq_some_iff] at h
  obtain⟨ma,e1,rfl⟩:=h
  exact se_not (hF _ _ e1)
 .rw[Option.map_eq_some_iff] at h
  obtain⟨ma,e1,rfl⟩:=h
  exact se_un un_negW (hF _ _ e1)
 .rw[Option.bind_eq_some_iff] at h
  obtain⟨f,e0,h⟩:=h
  rw[Option.bind_eq_some_iff] at h
  obtain⟨ma,e1,h⟩:=h
  rw[Option.map_eq_some_iff] at h
  obtain⟨mb,e2,rfl⟩:=h
  exact se_op (opB_ok e0) (hF _ _ e1) (hF _ _ e2)
 .exact(xCmp_ok F hF h).1
 .exact xBoolE_ok hF h
 .rw[Option.bind_eq_some_iff] at h
  obtain⟨mt,e0,h⟩:=h
  rw[Option.bind_eq_some_iff] at h
  obtain⟨ma,e1,h⟩:=h
  rw[Option.map_eq_some_iff] at h
  obtain⟨mb,e2,rfl⟩:=h
  exact se_if (hT' _ _ e0) (hF _ _ e1) (hF _ _ e2)
 .rw[Option.map_eq_some_iff] at h
  obtain⟨ms,e1,rfl⟩:=h
  exact se_tup (xArgs_ok hF e1).2
 .rw[Option.map_eq_some_iff] at h
  obtain⟨ms,e1,h⟩:=h
  cases mu with
  | true=>subst h; exact se_lst (xArgs_ok hF e1).2
  | false=>subst h; exact se_fls (xArgs_ok hF e1).2
 .exact xDict_ok hF h
 .exact xSubM_ok F hF h
 .exact xCallN_ok F hF h
 .exact xMeth_ok F hF h
 .rw[Option.map_eq_some_iff] at h
  obtain⟨r,e1,rfl⟩:=h
  exact compME_ok F (xComp_ok F hE hT e1)
 .cases h
theorem stepT_ok(hE:∀Γ X,Fits Γ cl k X→∀mu e m,E Γ mu e=some m→SE X cl e m)(hT:∀Γ X,Fits Γ cl k X→∀e m,T Γ e=some m→ST X cl e m)(F:Fits Γ cl k X){e:Expr}{t:MT}(h:stepT E T Γ e=some t):ST X cl e t:=by
 have hF:=hE _ _ F false
 have hT':=hT _ _ F
 unfold stepT at h
 split at h
 .exact st_bool (xBoolT_ok hT' h)
 .rw[Option.map_eq_some_iff] at h
  obtain⟨ma,e1,rfl⟩:=h
  exact st_not (hT' _ _ e1)
 .rw[Option.map_eq_some_iff] at h
  obtain⟨ma,e1,rfl⟩:=h
  exact(xCmp_ok F hF e1).2
 .split at h
  .rename_i q
   rw[Option.map_eq_some_iff] at h
   obtain⟨ma,e1,rfl⟩:=h
   exact st_val (hF _ _ e1) (truth_no q)
  .cases h
theorem cET_ok:∀n,(∀Γ X,Fits Γ cl k X→∀mu e m,(cET n).1 Γ mu e=some m→SE X cl e m)∧(∀Γ X,Fits Γ cl k X→∀e m,(cET n).2 Γ e=some m→ST X cl e m)
 | 0=>⟨fun _ _ _ _ _ _ h=>(by cases h),fun _ _ _ _ _ h=>(by cases h)⟩
 | n+1=>⟨fun Γ X F mu e m h=>stepE_ok (cET_ok n).1 (cET_ok n).2 F h,fun Γ X F e m h=>stepT_ok (cET_ok n).1 (cET_ok n).2 F h⟩
end
theorem put_no{o i:Expr}{pos:Pos}{env:Env}(h:noSlice i=true):∀v,assign (.Subscript o i pos) env v=(do
   let ov ←holding [v] (eval o env)
   let iv ←holding [v,ov] (eval i env)
   standAt pos
   holding [v,ov,iv] (setItem ov iv v)
   release [v,ov,iv] []):=by
 intro v
 cases i<;>first | (cases h; done) | kernel_rfl
theorem swapped_sub{o i e:Expr}{p:Pos}{env:Env}:swappedStores [.Subscript o i p] e env=pure none:=rfl
noncomputable def isMut(Γ:RC)(x:Str):Bool:=Γ.own.any (· == x)
noncomputable def swapB(Γ:RC)(x:Str)(px:Pos)(scope:Scope)(cpos:Pos):Bool:=Γ.sc.names.lookup x==some .local&&px.line==cpos.line && !(scope.names.any fun(n,k)=>n==x&&(k==.local||k==.cell))
noncomputable def xAsgV(Γ:RC)(E:RC→Bool→Expr→Option ME)(T:RC→Expr→Option MT)(x:Str):Expr→Option ME
 | .ListComp elt gens scope cpos=>(xComp Γ E T elt gens scope cpos).map (compME (isMut Γ x))
 | v=>if noComp v=true then E Γ (isMut Γ x) v else none
noncomputable def xAsg(Γ:RC)(E:RC→Bool→Expr→Option ME)(T:RC→Expr→Option MT)(tg v:Expr):Option MS:=match tg with
 | .Name x _=>match ixOf x Γ.N with
  | some i=>if (setB Γ.sc Γ.N i x && !Γ.inC)=true then (xAsgV Γ E T x v).map fun m=>sAsg m (gNm i) else none
  | none=>none
 | .Subscript o i p=>if (noComp v&&noSlice i)=true then (E Γ false v).bind fun m=>(E Γ false o).bind fun mo=>(E Γ false i).map fun mi=>sAsg m (gPut mo mi) else none
 | .Tuple es n p=>if (noComp v&&noTup v)=true then (E Γ false v).bind fun m=>(xTg Γ (.Tuple es n p)).map fun g=>sAsg m g else none
 | _=>none
noncomputable def xAug(Γ:RC)(E:RC→Bool→Expr→Option ME)(tg:Expr)(op:Operator)(v:Expr):Option MS:=match tg,op with
 | .Name x _,.Add=>match ixOf x Γ.N with
  | some i=>if (setB Γ.sc Γ.N i x && !Γ.inC)=true then (E Γ false v).map (sAug i augI) else none
  | none=>none
 | _,_=>none
noncomputable def stepS(E:RC→Bool→Expr→Option ME)(T:RC→Expr→Option MT)(B:RC→List Stmt→Option MS)(Γ:RC):Stmt→Option MS
 | .Return (some e) _=>(E Γ false e).map sRet
 | .Pass _=>some sNext
 | .Expr e _=>if noComp e=true then (E Γ false e).map sExpr else none
 | .If c a b _=>(T Γ c).bind fun t=>(B Γ a).bind fun ma=>(B Γ b).map (sIf t ma)
 | .While c body [] _=>(T Γ c).bind fun t=>(B Γ body).map (sWhile t)
 | .For tg it body [] _=>if noSet it=true then (xIter Γ (E Γ false) tg it).bind fun mi=>(xTg Γ tg).bind fun g=>(B Γ body).map (sFor mi g) else none
 | .Assign [tg] v _=>xAsg Γ E T tg v
 | .AugAssign tg op v _=>xAug Γ E tg op v
 | _=>none
noncomputable def blk(S:Stmt→Option MS):List Stmt→Option MS
 | []=>some sNext
 | [s]=>S s
 | s::r=>(S s).bind fun a=>(blk S r).map (sSeq a)
noncomputable def cS:Nat→RC→Stmt→Option MS
 | 0=>fun _ _=>none
 | n+1=>stepS (cET 40).1 (cET 40).2 (fun Γ=>blk (cS n Γ))
noncomputable def cB(Γ:RC)(bd:List Stmt):Option MS:=blk (cS 12 Γ) bd
section
variable{Γ:RC}{cl:Nat→Addr}{k:Nat}{X:Cx}{pos p:Pos}{E:RC→Bool→Expr→Option ME}{T:RC→Expr→Option MT}{B:RC→List Stmt→Option MS}{ms:MS}
theorem swaps_comp{elt:Expr}{gens:List Comprehension}{scope:Scope}{cpos px:Pos}{x:Str}{l:Nat}{env:Env}:swapsWith (.ListComp elt gens scope cpos) (some (.Name x px)) l env=pure (env.blockKind==.function&&env.kindOf x==some .local&&px.line==cpos.line && !(scope.names.any fun(n,k)=>n==x&&(k==.local||k==.cell))):=rfl
theorem xAsgV_ok(hE:∀Γ X,Fits Γ cl k X→∀mu e m,E Γ mu e=some m→SE X cl e m)(hT:∀Γ X,Fits Γ cl k X→∀e m,T Γ e=some m→ST X cl e m)(F:Fits Γ cl k X)(hc:Γ.inC=false){x:Str}{i:Nat}{v:Expr}{m:ME}{px:Pos}(hb:setB Γ.sc Γ.N i x=true)(h:xAsgV Γ E T x v=some m):SS X cl (.Assign [.Name x px] v pos) (sAsg m (gNm i)):=by
 have hNd:=F.N▸F.nd
 unfold xAsgV at h
 split at h
 .rename_i elt gens scope cpos
  rw[Option.map_eq_some_iff] at h
  obtain⟨r,e1,rfl⟩:=h
  have g:=xComp_ok F hE hT e1
  have hk:X.env.blockKind=.function:=by
   unfold Env.blockKind
   rw[F.sc,F.kind]
   rfl
  have hsw:=swaps_comp (elt:=elt) (gens:=gens) (scope:=scope) (cpos:=cpos) (px:=px) (x:=x) (l:=pos.line) (env:=X.env)
  have he:(X.env.blockKind==.function&&X.env.kindOf x==some .local&&px.line==cpos.line && !(scope.names.any fun(n,k)=>n==x&&(k==.local||k==.cell)))=swapB Γ x px scope cpos:=by
   rw[hk]
   unfold swapB
   rw[←F.sc]
   rfl
  rw[he] at hsw
  cases q:swapB Γ x px scope cpos with
  | false=>
   rw[q] at hsw
   exact s_ hb hNd (compME_ok F g) F.sc F.N (F.fn hc _) hsw
  | true=>
   rw[q] at hsw
   obtain⟨tg,it,ifs,N',rfl,ok,hs,hi,hg,ht,hee⟩:=g.ex
   have hx:X.env.kindOf x=some .local:=by
    unfold swapB at q
    simp only[Bool.and_eq_true,beq_iff_eq] at q
    have:=q.1.1
    rw[←F.sc] at this
    exact this
   have hix:X.N[i]?=some x:=by
    unfold setB at hb
    simp only[Bool.and_eq_true,beq_iff_eq] at hb
    rw[F.N]
    exact hb.1
   unfold compME
   cases isMut Γ x with
   | true=>exact ss_compM i _ _ N' r.nl r.ks F.nd F.calm ok hi hg ht hee rfl rfl (folded_no hs) hix hx hsw
   | false=>exact ss_comp i _ _ N' r.nl r.ks F.nd F.calm ok hi hg ht hee rfl rfl (folded_no hs) hix hx hsw
 .split at h
  .rename_i q
   exact s_ hb hNd (hE _ _ F _ _ _ h) F.sc F.N (F.fn hc _) (swaps_no q)
  .cases h
theorem xAsg_ok(hE:∀Γ X,Fits Γ cl k X→∀mu e m,E Γ mu e=some m→SE X cl e m)(hT:∀Γ X,Fits Γ cl k X→∀e m,T Γ e=some m→ST X cl e m)(F:Fits Γ cl k X){tg v:Expr}(h:xAsg Γ E T tg v=some ms):SS X cl (.Assign [tg] v pos) ms:=by
 unfold xAsg at h
 split at h
 .split at h
  .split at h
   .rename_i q
    rw[Bool.and_eq_true,Bool.not_eq_true'] at q
    rw[Option.map_eq_some_iff] at h
    obtain⟨m,e1,rfl⟩:=h
    exact xAsgV_ok hE hT F q.2 q.1 e1
   .cases h
  .cases h
 .split at h
  .rename_i q
   rw[Bool.and_eq_true] at q
   rw[Option.bind_eq_some_iff] at h
   obtain⟨m,e1,h⟩:=h
   rw[Option.bind_eq_some_iff] at h
   obtain⟨mo,e2,h⟩:=h
   rw[Option.map_eq_some_iff] at h
   obtain⟨mi,e3,rfl⟩:=h
   exact ss_asg (hE _ _ F _ _ _ e1) (sg_put F.room.units (hE _ _ F _ _ _ e2) (hE _ _ F _ _ _ e3) (put_no q.2)) ((show swapsWithSole [_] v pos.line X.env=swapsWith v (some _) pos.line X.env from rfl).trans (swaps_no q.1)) swapped_sub (by rw[assign_cons rfl,assign_nil]; rfl)
  .cases h
 .split at h
  .rename_i q
   rw[Bool.and_eq_true] at q
   rw[Option.bind_eq_some_iff] at h
   obtain⟨m,e1,h⟩:=h
   rw[Option.map_eq_some_iff] at h
   obtain⟨g,e2,rfl⟩:=h
   exact ss_asg (hE _ _ F _ _ _ e1) (xTg_ok F e2) ((show swapsWithSole [_] v pos.line X.env=swapsWith v (some _) pos.line X.env from rfl).trans (swaps_no q.1)) (swapped_no q.2) (by rw[assign_cons rfl,assign_nil]; rfl)
  .cases h
 .cases h
theorem xAug_ok(hE:∀Γ X,Fits Γ cl k X→∀mu e m,E Γ mu e=some m→SE X cl e m)(F:Fits Γ cl k X){tg v:Expr}{op:Operator}(h:xAug Γ E tg op v=some ms):SS X cl (.AugAssign tg op v pos) ms:=by
 unfold xAug at h
 split at h
 .split at h
  .split at h
   .rename_i q
    rw[Bool.and_eq_true,Bool.not_eq_true'] at q
    rw[Option.map_eq_some_iff] at h
    obtain⟨m,e1,rfl⟩:=h
    exact au_ q.1 (F.N▸F.nd) ip_addW (hE _ _ F _ _ _ e1) F.sc F.N (F.fn q.2 _)
   .cases h
  .cases h
 .cases h
theorem stepS_ok(hE:∀Γ X,Fits Γ cl k X→∀mu e m,E Γ mu e=some m→SE X cl e m)(hT:∀Γ X,Fits Γ cl k X→∀e m,T Γ e=some m→ST X cl e m)(hB:∀Γ X,Fits Γ cl k X→∀b m,B Γ b=some m→SB X cl b m)(F:Fits Γ cl k X){st:Stmt}(h:stepS E T B Γ st=some ms):SS X cl st ms:=by
 have hF:=hE _ _ F false
 have hT':=hT _ _ F
 have hB':=hB _ _ F
 unfold stepS at h
 split at h
 .rw[Option.map_eq_some_iff] at h
  obtain⟨m,e1,rfl⟩:=h
  exact ss_ret (hF _ _ e1)
 .cases h; exact ss_pass
 .split at h
  .rename_i q
   rw[Option.map_eq_some_iff] at h
   obtain⟨m,e1,rfl⟩:=h
   exact ss_expr (hF _ _ e1) (swaps_no q)
  .cases h
 .rw[Option.bind_eq_some_iff] at h
  obtain⟨t,e0,h⟩:=h
  rw[Option.bind_eq_some_iff] at h
  obtain⟨ma,e1,h⟩:=h
  rw[Option.map_eq_some_iff] at h
  obtain⟨mb,e2,rfl⟩:=h
  exact ss_if (hT' _ _ e0) (hB' _ _ e1) (hB' _ _ e2)
 .rw[Option.bind_eq_some_iff] at h
  obtain⟨t,e0,h⟩:=h
  rw[Option.map_eq_some_iff] at h
  obtain⟨mb,e2,rfl⟩:=h
  exact ss_while (hT' _ _ e0) (hB' _ _ e2) F.pass
 .split at h
  .rename_i q
   rw[Option.bind_eq_some_iff] at h
   obtain⟨mi,e0,h⟩:=h
   rw[Option.bind_eq_some_iff] at h
   obtain⟨g,e1,h⟩:=h
   rw[Option.map_eq_some_iff] at h
   obtain⟨mb,e2,rfl⟩:=h
   exact ss_for F.calm (xIter_ok F hF e0) (xTg_ok F e1) (hB' _ _ e2) (folded_no q) F.pass
  .cases h
 .exact xAsg_ok hE hT F h
 .exact xAug_ok hE F h
 .cases h
theorem blk_ok{S:Stmt→Option MS}(hS:∀s m,S s=some m→SS X cl s m):∀{b:List Stmt} {m:MS},blk S b=some m→SB X cl b m
 | [],m,h=>by cases h; exact sb_nil
 | [s],m,h=>sb_one (hS _ _ h)
 | s::s'::r,m,h=>by
  unfold blk at h
  rw[Option.bind_eq_some_iff] at h
  obtain⟨ma,e1,h⟩:=h
  rw[Option.map_eq_some_iff] at h
  obtain⟨mb,e2,rfl⟩:=h
  exact sb_cons (hS _ _ e1) (blk_ok hS e2)
theorem cS_ok:∀(n:Nat) (Γ:RC) (X:Cx),Fits Γ cl k X→∀s m,cS n Γ s=some m→SS X cl s m
 | 0,_,_,_,_,_,h=>by cases h
 | n+1,Γ,X,F,s,m,h=>stepS_ok (cET_ok 40).1 (cET_ok 40).2 (fun Γ X F b m h=>blk_ok (cS_ok n Γ X F) h) F h
theorem cB_ok(F:Fits Γ cl k X){bd:List Stmt}(h:cB Γ bd=some ms):SB X cl bd ms:=blk_ok (cS_ok 12 Γ X F) h
end
theorem fn_okR{P:Program}{w:World}{K:PySem.W.Frag}{mg:Str→Option Value}{base:Heap}{cl:Nat→Addr}{x qual:Str}{st:Stmt}{f:Addr}{fd:FuncData}{ps:List Str}{k np ns:Nat}{b:MS}(Γ:RC){bd:List Stmt}(F:Fun K x qual st f fd)(hsc:defScope st=Γ.sc)(hbd:defBody st=bd)(S:FnScope Γ.N ps Γ.sc)(hnp:ps.length=np)(hns:Γ.N.length-np=ns)
  (hc:Γ.inC=false) (B:BaseOk P w K mg base cl k Γ) (hb:cB Γ bd=some b):FnOk P w K mg base CX0 (k+1) f fd ps (spM K cl (gc (fnM np ns b))):=
 fn_ok2 F hsc hbd S hnp hns fun cdv A outer s H E hr=>cB_ok (k:=k) ⟨rfl,rfl,S.nd,fun _ _=>rfl,S.kind,rfl,PassesOwn.never,hr,⟨B.fns,B.con,B.tab,B.bin⟩⟩ hb
structure Def where
 x:Str
 st:Stmt
 ps:List Str
 N:List Str
 own:List Str
 txt:List Str
 cmp:List ((Nat×Nat)×List Str)
noncomputable def fnScopeB(N ps:List Str)(sc:Scope):Bool:=sc.kind==.function && !sc.isCoroutine && !sc.isGenerator&&nodupB N&&N.take ps.length==ps&&ps.all (locB sc)&&sc.names.all fun y=>y.2 != .free
theorem fnScope_of{N ps:List Str}{sc:Scope}(h:fnScopeB N ps sc=true):FnScope N ps sc:=by
 unfold fnScopeB at h
 simp only[Bool.and_eq_true,Bool.not_eq_true',beq_iff_eq] at h
 obtain⟨⟨⟨⟨⟨⟨h1,h2⟩,h3⟩,h4⟩,h5⟩,h6⟩,h7⟩:=h
 exact⟨h1,h2,h3,nd_of h4,h5,fun x hx=>locB_of (List.all_eq_true.mp h6 x hx),fun y hy=>by simpa using List.all_eq_true.mp h7 y hy⟩
noncomputable def HB(x:Str)(st:Stmt)(ps:List Str)(us:List Value):Prop:=∀(kV doc pm:Value) (an:Option Addr) (cdv ct:Value),bindArgs (PySem.W.fnOf x x (defArgs st) (defBody st) (defScope st) .none kV doc pm an cdv ct) ⟨us,[]⟩=pure (ps.zip us)
noncomputable def HBs(x:Str)(st:Stmt)(ps:List Str):Prop:=∀us:List Value,us.length=ps.length→HB x st ps us
section
variable{x:Str}{st:Stmt}{ps:List Str}
theorem hb1(h:∀a,HB x st ps [a])(hl:ps.length=1:=by rfl):HBs x st ps:=fun us e=>match us,e.trans hl with
 | [_],_=>h _
theorem hb2(h:∀a b,HB x st ps [a,b])(hl:ps.length=2:=by rfl):HBs x st ps:=fun us e=>match us,e.trans hl with
 | [_,_],_=>h _ _
theorem hb3(h:∀a b c,HB x st ps [a,b,c])(hl:ps.length=3:=by rfl):HBs x st ps:=fun us e=>match us,e.trans hl with
 | [_,_,_],_=>h _ _ _
end
noncomputable def TxtAt(K:PySem.W.Frag)(mg:Str→Option Value)(d:Def):Prop:=∃a fd,FTxt K mg d.x d.st d.ps a fd
noncomputable def AllD(P:Def→Prop):List Def→Prop
 | []=>True
 | d::r=>P d∧AllD P r
noncomputable def RC.at(Γ:RC)(d:Def):RC:=⟨defScope d.st,d.N,false,Γ.fns,Γ.con,Γ.tab,Γ.bin,d.own,d.txt,d.cmp⟩
section
variable{P:Program}{w:World}{K:PySem.W.Frag}{mg:Str→Option Value}{base:Heap}{cl:Nat→Addr}{n np ns:Nat}{Γ:RC}{d:Def}{b:MS}
theorem row_okF{a:Addr}{fd:FuncData}(T:FTxt K mg d.x d.st d.ps a fd)(B:BaseOk P w K mg base cl n Γ)(hsc:fnScopeB d.N d.ps (defScope d.st)=true)(hnp:d.ps.length=np)(hns:d.N.length-np=ns)(hb:cB (Γ.at d) (defBody d.st)=some b):FnOk P w K mg base CX0 (n+1) a fd d.ps (spM K cl (gc (fnM np ns b))):=
 fn_okR (Γ.at d) T.F rfl rfl (fnScope_of hsc) hnp hns rfl ⟨B.fns,B.con,B.tab,B.bin⟩ hb
theorem row_ok(T:TxtAt K mg d)(B:BaseOk P w K mg base cl n Γ)(hsc:fnScopeB d.N d.ps (defScope d.st)=true:=by kernel_rfl)(hnp:d.ps.length=np:=by rfl)(hns:d.N.length-np=ns:=by rfl)(hb:cB (Γ.at d) (defBody d.st)=some b:=by kernel_rfl):FnAt P w K mg base cl (n+1) d.x (gc (fnM np ns b)):=by
 obtain⟨a,fd,T⟩:=T
 exact⟨a,fd,d.ps,row_okF T B hsc hnp hns hb,T.m,T.F.kp,T.B⟩
theorem row_none(T:TxtAt K mg d):FnAt P w K mg base cl 0 d.x fun _ _=>none:=by
 obtain⟨a,fd,T⟩:=T
 have no:∀vs H Q E,¬spM K cl (fun _ _=>none) vs H Q E:=fun vs H Q E ⟨μ,h,ws,w,h2,R,rs,e,k⟩=>by cases e
 exact⟨a,fd,d.ps,⟨fun vs H Q E h=>absurd h (no vs H Q E),fun A outer s H args us vs Q E _ _ _ _ h=>absurd h (no vs H Q E)⟩,T.m,T.F.kp,T.B⟩
end
end ML
namespace ML
open PySem PySem.Spec PyProof.Rows PySem.W L2
noncomputable def Kw(h:Heap):PySem.W.Frag:=(List.range h.objs.size).filterMap fun a=>(h.get? a).map fun o=>(a,o)
theorem Kw.lookupAux(h:Heap)(a:Addr):∀l:List Nat,(l.filterMap fun a=>(h.get? a).map fun o=>(a,o)).lookup a=if a∈l then h.get? a else none
 | []=>by simp
 | b::l=>by
  cases q:h.get? b with
  | none=>
   rw[List.filterMap_cons_none (by rw[q]; rfl),Kw.lookupAux h a l]
   by_cases e:a=b
   .subst e; simp[q]
   .simp[e]
  | some o=>
   rw[List.filterMap_cons_some (b:=(b,o)) (by rw[q]; rfl),List.lookup_cons]
   by_cases e:a=b
   .subst e; simp[q]
   .have:(a==b)=false:=by simp[e]
    rw[this]; simp only[]; rw[Kw.lookupAux h a l]; simp[e]
theorem Kw.lookup{h:Heap}{a:Addr}:(Kw h).lookup a=h.get? a:=by
 unfold Kw
 rw[Kw.lookupAux]
 split
 .rfl
 .rename_i n
  cases q:h.get? a with
  | none=>rfl
  | some o=>exact absurd (List.mem_range.mpr (Heap.lt_size q)) n
theorem Kw.in(h:Heap):(Kw h).In h:=fun a o e=>Kw.lookup▸e
theorem walk_ofE{l:PySem.W.OpenLaw}{n k:Nat}{q:Program}{loose:List Str}{XP:(Str→Option Value)→Heap→Prop}{YP:World→Heap→Prop}{d:DefRec}{CX:CXT}{sp:PySem.W.Frag→Sp}{x:Str}
  (hn:l.most=some n) (hn2:n≤sizeLine) (hdf:d.params.defaults=[]) (hr:Room k callerA)
  (F:∀(w:World) (s₀:Shared) (mg mb:Str→Option Value) (fa:Addr) (h:Heap),Ground q loose [] XP w s₀ mg mb h→YP w h→mg d.name=some (.ref fa)→
   ∃fd:FuncData,(∀(s:Shared) (u:Value),BindsTo s fd ⟨[u],[]⟩ [(x,u)]) ∧
    ∀base:Heap,(Kw h).In base→base.Ns mainGlobals mg→FnOk l.prog w (Kw h) mg base CX k fa fd [x] (sp (Kw h)))
  (hsp:∀(K:PySem.W.Frag) (H:Hp) (a:Addr) (ns:List Int),ns.length≤n→Only H→SqL K H a (ns.map V.int)→sp K [.ref a] H (fun v _=>v=.bl true) fun _ _ _=>False)
  (hCX:∀(H:Hp) (s:Shared) (e:Value) (s':Shared),CX [] H s (fun _ _ _=>False) e s'→False) :
  PySem.W.WalkO q loose XP YP l.row.toRowW d [] (fun f vs=>PySem.call f vs):=by
 refine Att.attach_call hn hdf fun w s₀ s₁ mg mb fa o pm cd doc a vs ns G Y ho hd hcd hmg hobj hints hlen hg=>?_
 obtain⟨fd,hb,hF⟩:=F w s₀ mg mb fa _ G Y hmg
 exact law_call (Kw.in _) G.T.g G.T.b G.T.builtins G.T.nolimit hg hobj hints (Nat.le_trans hlen hn2) hr hF hb (fun H hO hS=>hsp _ H a ns hlen hO hS) fun H e s'=>hCX H s₁ e s'
theorem txtG{q:Program}{loose:List Str}{R:WRecords}{XP:(Str→Option Value)→Heap→Prop}{w:World}{s₀:Shared}{mg mb:Str→Option Value}{h:Heap}(G:Ground q loose R XP w s₀ mg mb h){d:Def}
  (hd:(defOf q d.x).map (fun p=>(p.1.name,p.1.params,p.1.body,p.1.scope,p.2))=some (d.x,defArgs d.st,defBody d.st,defScope d.st,[])) (hb:HBs d.x d.st d.ps) (hf:(defArgs d.st).defaults=[]):TxtAt (Kw h) mg d:=by
 obtain⟨⟨⟨n,p,b,sc,ps⟩,kw⟩,hq,e⟩:=Option.map_eq_some_iff.mp hd
 cases e
 obtain⟨a,o,pm,cd,doc,dV,kV,m,ho,hdt,hc,D⟩:=G.fn hq
 obtain rfl:dV=.none:=Dflts.none D hf
 obtain rfl:kV=.none:=Dflts.noKw D
 have lk:(Kw h).lookup a=some ⟨o.cls,o.dict,.func (PySem.W.fnOf d.x d.x (defArgs d.st) (defBody d.st) (defScope d.st) .none .none doc pm none cd .none),o.slots⟩:=by
  rw[Kw.lookup,ho]
  cases o
  cases hdt
  rfl
 have c:PySem.W.codeIn (Kw h) cd d.x=true:=by
  obtain⟨c,o',vs,t,rfl,e1,e2,e3⟩:=hc
  unfold PySem.W.codeIn
  simp only[Kw.lookup,e1]
  cases o'
  cases e2
  simp only[]
  obtain⟨vs⟩:=vs
  match vs,e3 with
  | [],e3=>cases e3
  | [_],e3=>cases e3
  | _::v::r,e3=>
   have e4:some v=some (Value.str d.x t):=by simpa using e3
   cases e4
   simp
 have k:PySem.W.keepIn (Kw h) (.ref a)=true:=by
  unfold PySem.W.keepIn
  simp only[lk]
 have F:=fun_mk (st:=d.st) lk c k
 exact⟨a,_,F,F.binds (fun kV doc pm an cdv ct us hl=>hb us hl kV doc pm an cdv ct),m⟩
noncomputable def toW:Nat→Cn→W
 | 0,_=>.non
 | n+1,c=>match c with
  | .int i=>.int i
  | .str x=>.str x
  | .tup l=>.tup (l.map (toW n))
noncomputable def toT(l:List (Str×Cn)):List (Str×W):=l.map fun p=>(p.1,toW 9 p.2)
theorem tupAt_ok{h:Heap}{v:Value}{its:Array Value}(e:tupAt h v=some its):∃a o n,v=.ref a∧h.get? a=some o∧o.cls=.type "tuple" ∧ o.data=.seq its n:=by
 cases v with
 | ref a=>
  obtain⟨⟨c,di,d,sl⟩,e1,e2⟩:=Option.bind_eq_some_iff.mp e
  cases c with
  | type t=>
   have e3:(if t="tuple" then (match d with | .seq its _=>some its | _=>none) else none)=some its:=e2
   by_cases q:t="tuple"
   .rw[if_pos q] at e3
    cases d with
    | seq its' n=>cases e3; exact⟨a,_,n,rfl,e1,by rw[q],rfl⟩
    | _=>cases e3
   .rw[if_neg q] at e3; cases e3
  | _=>cases e2
 | _=>cases e
theorem kws_of{K:PySem.W.Frag}{p:Cn→Value→Bool}{f:Cn→W}(hp:∀w v,p w v=true→KW K (f w) v)(l:List Cn):∀vs:List Value,allTwo p l vs=true→KWs K (l.map f) vs:=by
 induction l with
 | nil=>intro vs h; cases vs with | nil=>exact .nil | cons _ _=>cases h
 | cons w l ih=>
  intro vs h
  cases vs with
  | nil=>cases h
  | cons v vs=>have h2:=Bool.and_eq_true_iff.mp h; exact .cons (hp _ _ h2.1) (ih vs h2.2)
theorem constB_ok{h:Heap}{K:PySem.W.Frag}(hK:∀b o,h.get? b=some o→K.lookup b=some o)(n:Nat):∀w v,constB h n w v=true→KW K (toW n w) v:=by
 induction n with
 | zero=>intro w v e; cases e
 | succ n ih=>
  intro w v e
  cases w with
  | int i=>cases v with
   | int j t=>cases eq_of_beq (show(i==j)=true from e); exact .int
   | _=>cases e
  | str x=>cases v with
   | str j t=>cases eq_of_beq (show(x==j)=true from e); exact .str
   | _=>cases e
  | tup l=>
   have e1:((tupAt h v).any fun its=>decide (its.size≤sizeLine)&&allTwo (constB h n) l its.toList)=true:=e
   cases z:tupAt h v with
   | none=>rw[z] at e1; cases e1
   | some its=>
    rw[z] at e1
    obtain⟨a,o,m,rfl,e4,e5,e6⟩:=tupAt_ok z
    have e7:=Bool.and_eq_true_iff.mp e1
    exact .tup (hK _ _ e4) e5 e6 (of_decide_eq_true e7.1) (kws_of ih _ _ e7.2)
theorem dictAt_ok{h:Heap}{v:Value}{es:Array DictEntry}(e:dictAt h v=some es):∃a n,v=.ref a∧h.get? a=some ⟨.type "dict",none,.dict es n,#[]⟩∧(a==sysModules)=false:=by
 cases v with
 | ref a=>
  obtain⟨⟨c,di,d,sl⟩,e1,e2⟩:=Option.bind_eq_some_iff.mp e
  cases c with
  | type t=>
   have e3:(if t="dict" then (match d with | .dict es _=>if di.isNone&&sl.isEmpty&&a != sysModules then some es else none | _=>none) else none)=some es:=e2
   by_cases q:t="dict"
   .rw[if_pos q] at e3
    cases d with
    | dict es' n=>
     have e4:(if di.isNone&&sl.isEmpty&&a != sysModules then some es' else none)=some es:=e3
     by_cases z:(di.isNone&&sl.isEmpty&&a != sysModules)=true
     .rw[if_pos z] at e4
      cases e4
      have z1:=Bool.and_eq_true_iff.mp z
      have z2:=Bool.and_eq_true_iff.mp z1.1
      refine⟨a,n,rfl,?_,?_⟩
      .rw[e1,q,Option.isNone_iff_eq_none.mp z2.1,Array.isEmpty_iff.mp z2.2]
      .have:=z1.2; rw[bne,Bool.not_eq_true'] at this; exact this
     .rw[if_neg z] at e4; cases e4
    | _=>cases e3
   .rw[if_neg q] at e3; cases e3
  | _=>cases e2
 | _=>cases e
theorem tab_of{h:Heap}{K:PySem.W.Frag}(hK:∀b o,h.get? b=some o→K.lookup b=some o){P:Params}(l:List (Str×Cn)):∀es:List DictEntry,allTwo (fun p (e:DictEntry)=>isS p.1 e.key&&constB h 9 p.2 e.val) l es=true→es.map (·.hash)=l.map (fun p=>PyData.keyHash P p.1)→TabRel K (toT l) es∧PySem.W.KeysLit P es:=by
 induction l with
 | nil=>intro es a b; cases es with | nil=>exact⟨.nil,trivial⟩ | cons _ _=>cases a
 | cons p l ih=>
  intro es a b
  cases es with
  | nil=>cases a
  | cons e es=>
   have a1:=Bool.and_eq_true_iff.mp a
   have a2:=Bool.and_eq_true_iff.mp a1.1
   have b1:=List.cons.inj b
   obtain⟨r,t⟩:=ih es a1.2 b1.2
   obtain⟨eh,ek,ev⟩:=e
   cases ek with
   | str y t'=>
    have q:=eq_of_beq (show(p.1==y)=true from a2.1)
    subst q
    exact⟨.cons (hs:=0) (v:=.none) rfl (constB_ok hK _ _ _ a2.2) r,⟨_,_,rfl,b1.1⟩,t⟩
   | _=>cases a2.1
theorem mg_same{h h₀:Heap}{mg:Str→Option Value}(G:h.Ns mainGlobals mg)(k:∀b o,h₀.get? b=some o→h.get? b=some o)(hn:h₀.isNs mainGlobals=true)(x:Str):mg x=h₀.nsMap mainGlobals x:=by
 obtain⟨o,es,ep,e1,e2,e3,e4⟩:=Heap.Ns.of_isNs hn
 obtain⟨o',es',ep',f1,f2,f3,f4⟩:=G
 have:=k _ _ e1
 rw[f1] at this
 cases this
 rw[e2] at f2
 cases f2
 rw[←f4 x,←e4 x]
theorem all_of{α β:Type}{P:Str→α→Prop}(f:β→α):∀{l:List (Str×β)},(∀p∈l,P p.1 (f p.2))→AllOf P (l.map fun p=>(p.1,f p.2))
 | [],_=>trivial
 | (x,g)::r,h=>⟨h (x,g) (List.mem_cons_self ..),all_of f fun p m=>h p (List.mem_cons_of_mem _ m)⟩
theorem none_of{mg:Str→Option Value}:∀{l:List Str},(∀x∈l,mg x=none)→AllNone mg l
 | [],_=>trivial
 | x::r,h=>⟨h x (List.mem_cons_self ..),none_of fun p m=>h p (List.mem_cons_of_mem _ m)⟩
theorem see_ok{cons:List (Str×Cn)}{tabs:List (Str×List (Str×Cn))}{bins:List Str}{w:World}{h:Heap}{mg:Str→Option Value}(Y:(hookC cons tabs bins).says w h)(G:h.Ns mainGlobals mg) :
  AllOf (Glob (Kw h) mg) (toT cons)∧AllOf (TabOk (Kw h) w.params mg) (tabs.map fun p=>(p.1,toT p.2))∧AllNone mg bins:=by
 obtain⟨h₀,k,b,t⟩:=Y
 have hK:∀b o,h₀.get? b=some o→(Kw h).lookup b=some o:=fun b o e=>by rw[Kw.lookup]; exact k _ _ e
 unfold seeB at b
 simp only[Bool.and_eq_true,List.all_eq_true] at b
 obtain⟨⟨b1,b2⟩,b3⟩:=b
 have M:=mg_same G k b1
 refine⟨all_of (toW 9) fun p m=>?_,all_of toT fun p m=>?_,none_of fun x m=>?_⟩
 .have e:=b2 p m
  cases q:h₀.nsMap mainGlobals p.1 with
  | none=>rw[q] at e; cases e
  | some v=>rw[q] at e; exact(constB_ok hK _ _ _ e).glob ((M _).trans q)
 .have e:tabB h₀ p.2 (h₀.nsMap mainGlobals p.1)=(true,p.2.map fun k=>PyData.keyHash w.params k.1):=by
   unfold seeT goodT at t
   exact(List.map_inj_left.mp t) p m
  unfold tabB at e
  cases q:h₀.nsMap mainGlobals p.1 with
  | none=>rw[q] at e; cases e
  | some v=>
   rw[q] at e
   cases z:dictAt h₀ v with
   | none=>rw[Option.bind_some,z] at e; cases e
   | some es=>
    rw[Option.bind_some,z] at e
    have e2:=Prod.mk.inj e
    obtain⟨a,n,rfl,g,f⟩:=dictAt_ok z
    obtain⟨r,kl⟩:=tab_of hK (P:=w.params) p.2 es.toList e2.1 e2.2
    exact⟨a,es,n,(M _).trans q,hK _ _ g,kl,f,r⟩
 .have:=b3 x m
  rw[M]
  exact Option.isNone_iff_eq_none.mp this
theorem walk_lawE{l:PySem.W.OpenLaw}{q:Program}{loose:List Str}{XP:(Str→Option Value)→Heap→Prop}{d:DefRec}{D:Def}{g:List W→M W}{b:MS}{Γ:RC}{ds:List Def}{y:Str}{ns room:Nat}{cons:List (Str×Cn)}{tabs:List (Str×List (Str×Cn))}(hc:toT cons=Γ.con)(ht:(tabs.map fun p=>(p.1,toT p.2))=Γ.tab)(hn:l.most=some 63)(hdf:d.params.defaults=[])
  (hr:Room (room+1) callerA) (hx:D.x=d.name) (hps:D.ps=[y]) (hb:HBs D.x D.st D.ps) (hsc:fnScopeB D.N D.ps (defScope D.st)=true) (hns:D.N.length-1=ns) (hB:cB (Γ.at D) (defBody D.st)=some b) (hg:g=gc (fnM 1 ns b))
  (main:∀ns:List Int,ns.length≤63→∃h',g [.fls (ns.map W.int)] []=some (.bl true,h'))
  (lvl:∀(w:World) (K:PySem.W.Frag) (mg:Str→Option Value) (base:Heap),AllD (TxtAt K mg) ds→AllOf (Glob K mg) Γ.con→AllOf (TabOk K w.params mg) Γ.tab→AllNone mg Γ.bin→BaseOk l.prog w K mg base (fun _=>0) room Γ)
  (F:∀(w:World) (s₀:Shared) (mg mb:Str→Option Value) (h:Heap),Ground q loose [] XP w s₀ mg mb h→TxtAt (Kw h) mg D∧AllD (TxtAt (Kw h) mg) ds):PySem.W.WalkO q loose XP (hookC cons tabs Γ.bin).says l.row.toRowW d [] (fun f vs=>PySem.call f vs):=by
 refine walk_ofE (n:=63) (k:=room+1) (x:=y) (CX:=CX0) (sp:=spL g) hn (by decide) hdf hr (fun w s₀ mg mb fa h G Y hmg=>?_) (fun K H a ns hl _ hS=>spL_of main K H a ns hl hS) fun _ _ _ _ z=>z
 obtain⟨⟨a,fd,T⟩,h1⟩:=F w s₀ mg mb h G
 obtain⟨h2,h3,h4⟩:=see_ok Y G.T.g
 rw[hc] at h2
 rw[ht] at h3
 have e:=T.m.symm.trans (hx▸hmg)
 cases e
 refine⟨fd,?_,fun base _ _=>?_⟩
 .have hb2:=fun kV doc pm an cdv ct us hl=>hb us hl kV doc pm an cdv ct
  rw[hps] at hb2
  exact ftxt_bindsTo T.F hb2
 .have:=row_okF T (lvl w _ mg base h1 h2 h3 h4) hsc (np:=1) (by rw[hps]; rfl) hns hB
  rw[hps] at this
  subst hg
  exact this
end ML
namespace ML
open PySem L2
noncomputable def dt:Nat→W→Bool
 | 0,_=>false
 | _+1,.non=>true
 | _+1,.bl _=>true
 | _+1,.int _=>true
 | _+1,.str x=>PyData.strOk x&&decide (x.length≤1000)
 | n+1,.tup l=>decide (l.length≤1000)&&l.all (dt n)
 | n+1,.fls l=>decide (l.length≤1000)&&l.all (dt n)
 | _+1,.ref _=>false
 | _+1,.fdc _=>false
 | _+1,.fn _=>false
noncomputable def toD:Nat→W→PyData
 | 0,_=>.none
 | _+1,.non=>.none
 | _+1,.bl b=>.bool b
 | _+1,.int i=>.int i
 | _+1,.str x=>.str x
 | n+1,.tup l=>.tuple (l.map (toD n))
 | n+1,.fls l=>.list (l.map (toD n))
 | _+1,_=>.none
theorem lows_of{m:Nat}:∀{l:List W},(∀w∈l,low m w=true)→lows m l=true
 | [],_=>by unfold lows; rfl
 | w::r,h=>by
  unfold lows
  rw[h w List.mem_cons_self,lows_of fun w hw=>h w (List.mem_cons_of_mem _ hw)]
  rfl
theorem dt_low{m:Nat}:∀{n:Nat} {w:W},dt n w=true→low m w=true
 | 0,_,h=>by cases h
 | n+1,.non,_=>by unfold low; rfl
 | n+1,.bl _,_=>by unfold low; rfl
 | n+1,.int _,_=>by unfold low; rfl
 | n+1,.str _,_=>by unfold low; rfl
 | n+1,.tup l,h=>by
  unfold dt at h
  rw[Bool.and_eq_true] at h
  unfold low
  exact lows_of fun w hw=>dt_low (List.all_eq_true.mp h.2 w hw)
 | n+1,.fls l,h=>by
  unfold dt at h
  rw[Bool.and_eq_true] at h
  unfold low
  exact lows_of fun w hw=>dt_low (List.all_eq_true.mp h.2 w hw)
 | n+1,.ref _,h=>by cases h
 | n+1,.fdc _,h=>by cases h
 | n+1,.fn _,h=>by cases h
theorem dt_mono:∀{n m:Nat} {w:W},dt n w=true→n≤m→dt m w=true
 | 0,_,_,h,_=>by cases h
 | n+1,0,_,_,h=>by omega
 | n+1,m+1,.non,_,_=>rfl
 | n+1,m+1,.bl _,_,_=>rfl
 | n+1,m+1,.int _,_,_=>rfl
 | n+1,m+1,.str _,h,_=>h
 | n+1,m+1,.tup l,h,hn=>by
  unfold dt at h ⊢
  rw[Bool.and_eq_true] at h ⊢
  exact⟨h.1,List.all_eq_true.mpr fun w hw=>dt_mono (List.all_eq_true.mp h.2 w hw) (by omega)⟩
 | n+1,m+1,.fls l,h,hn=>by
  unfold dt at h ⊢
  rw[Bool.and_eq_true] at h ⊢
  exact⟨h.1,List.all_eq_true.mpr fun w hw=>dt_mono (List.all_eq_true.mp h.2 w hw) (by omega)⟩
 | n+1,m+1,.ref _,h,_=>by cases h
 | n+1,m+1,.fdc _,h,_=>by cases h
 | n+1,m+1,.fn _,h,_=>by cases h
theorem mapO_of{α β:Type}{f:α→Option β}{g:α→β}:∀{l:List α},(∀x∈l,f x=some (g x))→mapO f l=some (l.map g)
 | [],_=>rfl
 | x::r,h=>by
  unfold mapO
  rw[h x List.mem_cons_self,mapO_of fun y hy=>h y (List.mem_cons_of_mem _ hy)]
  rfl
theorem dataW_dt{h:MH}:∀{n m:Nat} {w:W},dt n w=true→n≤m→dataW m h w=some (toD n w)
 | 0,_,_,e,_=>by cases e
 | n+1,0,_,_,hn=>by omega
 | n+1,m+1,.non,_,_=>rfl
 | n+1,m+1,.bl _,_,_=>rfl
 | n+1,m+1,.int _,_,_=>rfl
 | n+1,m+1,.str x,e,_=>by
  unfold dt at e
  rw[Bool.and_eq_true] at e
  unfold dataW
  rw[if_pos e.1]
  rfl
 | n+1,m+1,.tup l,e,hn=>by
  unfold dt at e
  rw[Bool.and_eq_true] at e
  unfold dataW
  rw[mapO_of fun w hw=>dataW_dt (List.all_eq_true.mp e.2 w hw) (by omega)]
  rfl
 | n+1,m+1,.fls l,e,hn=>by
  unfold dt at e
  rw[Bool.and_eq_true] at e
  unfold dataW
  rw[mapO_of fun w hw=>dataW_dt (List.all_eq_true.mp e.2 w hw) (by omega)]
  rfl
 | n+1,m+1,.ref _,e,_=>by cases e
 | n+1,m+1,.fdc _,e,_=>by cases e
 | n+1,m+1,.fn _,e,_=>by cases e
theorem gc_dt{f:List W→M W}{ws:List W}{h:MH}{w:W}{n:Nat}(e:f ws h=some (w,h))(d:dt n w=true):gc f ws h=some (w,h):=gc_pure e (dt_low d) (List.prefix_refl _)
theorem gc_dt'{f:List W→M W}{ws:List W}{h t:MH}{w:W}{n:Nat}(e:f ws h=some (w,h++t))(d:dt n w=true):gc f ws h=some (w,h):=gc_pure e (dt_low d) (List.prefix_append _ _)
noncomputable def tyB(T:Ty):W→Bool
 | .bl _=>decide (T=.bool)||decide (T=.int)
 | .int _=>decide (T=.int)
 | .str _=>decide (T=.str)
 | .tup _=>decide (T=.tuple)
 | .fls _=>decide (T=.list)
 | _=>false
theorem isW_dt{T:Ty}{n:Nat}{w:W}{h:MH}(d:dt n w=true):isW T w h=some (.bl (tyB T w),h):=by
 cases n with
 | zero=>cases d
 | succ n=>
  unfold isW isTy tyB
  cases w with
  | ref _=>cases d
  | fdc _=>cases d
  | fn _=>cases d
  | non=>rfl
  | bl b=>simp only[tyW]; cases T<;>rfl
  | int b=>simp only[tyW]; cases T<;>rfl
  | str b=>simp only[tyW]; cases T<;>rfl
  | tup b=>simp only[tyW]; cases T<;>rfl
  | fls b=>simp only[tyW]; cases T<;>rfl
theorem eqB_str(h:MH)(x y:Str):eqB h (.str x) (.str y)=some (x==y):=rfl
theorem eqB_int(h:MH)(x y:Int):eqB h (.int x) (.int y)=some (x==y):=rfl
theorem eqB_bl(h:MH)(x y:Bool):eqB h (.bl x) (.bl y)=some (x==y):=rfl
noncomputable def strIn(l:List Str):W→Bool
 | .str x=>l.any (· == x)
 | _=>false
noncomputable def strsW(l:List Str):List W:=l.map .str
theorem inB_strs{n:Nat}{w:W}{l:List Str}{h:MH}{y:W}(d:dt n w=true)(hn:n≤60)(hl:l.all PyData.strOk=true)(hy:seqOf h y=some (strsW l))(hns:∀z,y≠.str z):inB h w y=some (strIn l w):=by
 have e1:=dataW_dt (h:=h) d (show n≤deep from hn)
 have e2:mapO (dataW deep h) (strsW l)=some (l.map .str):=by
  unfold strsW
  have:∀l:List Str,l.all PyData.strOk=true→mapO (dataW deep h) (l.map .str)=some (l.map PyData.str):=by
   intro l
   induction l with
   | nil=>intro _; rfl
   | cons x r ih=>
    intro hl
    rw[List.all_cons,Bool.and_eq_true] at hl
    simp only[List.map_cons]
    unfold mapO
    have:dataW deep h (.str x)=some (.str x):=by
     show dataW (59+1) h (.str x)=_
     unfold dataW
     rw[if_pos hl.1]
    rw[this,ih hl.2]
  exact this l hl
 have e3:inB h w y=match seqOf h y with
  | some l=>match dataW deep h w,mapO (dataW deep h) l with
   | some d,some ds=>some (ds.any fun e=>PyData.eqv e d)
   | _,_=>none
  | none=>none:=by
  unfold inB
  split
  .rename_i j
   exact absurd rfl (hns _)
  .rfl
 rw[e3,hy]
 simp only[e1,e2]
 congr 1
 cases n with
 | zero=>cases d
 | succ n=>
  rw[List.any_map]
  cases w with
  | ref _=>cases d
  | fdc _=>cases d
  | fn _=>cases d
  | str x=>
   unfold strIn
   congr 1
  | _=>simp[toD,PyData.eqv,strIn]
theorem inB_tups{n:Nat}{w:W}{l:List Str}{h:MH}(d:dt n w=true)(hn:n≤60)(hl:l.all PyData.strOk=true):inB h w (.tup (strsW l))=some (strIn l w):=inB_strs d hn hl rfl (fun z=>nofun)
theorem compL_pure{caps:En}{t:MT}{m:ME}{n0:Nat}{h:MH}(hn:h.length=n0)(p:W→Bool)(f:W→W):∀(l:List W) (acc:List W) (o:Option W),
  (∀w∈l,∀H',t (some w::caps) H'=some (p w,H'))→(∀w∈l,p w=true→∀H',m (some w::caps) H'=some (f w,H'))→acc.length+l.length≤cap→
  compL 1 (gNm 0) t m n0 l (o::caps) (h++[.lst acc])=some (h++[.lst (acc++(l.filter p).map f)])
 | [],acc,o,_,_,_=>by simp[compL]
 | w::l,acc,o,ht,hf,hl=>by
  have ih:=fun acc'=>compL_pure (caps:=caps) (t:=t) (m:=m) hn p f l acc' none (fun w hw=>ht w (List.mem_cons_of_mem _ hw)) (fun w hw=>hf w (List.mem_cons_of_mem _ hw))
  have hb:blank 1 (some w::caps)=none::caps:=by simp[blank]
  unfold compL
  have hg:gNm 0 w (o::caps) (h++[.lst acc])=some (some w::caps,h++[.lst acc]):=by simp[gNm]
  rw[hg]
  simp only
  rw[ht w List.mem_cons_self]
  simp only[List.length_cons] at hl
  cases hp:p w with
  | false=>
   simp only
   rw[hb,ih acc (by omega)]
   simp[List.filter_cons,hp]
  | true=>
   simp only
   rw[hf w List.mem_cons_self hp]
   have e1:(h++[MO.lst acc])[n0]?=some (.lst acc):=by rw[←hn]; simp
   have e2:(h++[MO.lst acc]).set n0 (.lst (acc++[f w]))=h++[.lst (acc++[f w])]:=by rw[←hn,List.set_append_right _ _ (Nat.le_refl _)]; simp
   simp only[e1]
   rw[if_pos (by omega),hb,e2,ih (acc++[f w]) (by rw[List.length_append]; simp; omega)]
   simp[List.filter_cons,hp]
theorem comp1{mi:MI}{ks:List Nat}{t:MT}{m:ME}{ρ:En}{h:MH}{l:List W}(p:W→Bool)(f:W→W)(hm:mi ρ h=some (.items l,h))(ht:∀w∈l,∀H',t (some w::ks.map fun k=>(ρ[k]?).join) H'=some (p w,H'))
  (hf:∀w∈l,p w=true→∀H',m (some w::ks.map fun k=>(ρ[k]?).join) H'=some (f w,H')) (hlow:∀w∈l,p w=true→low h.length (f w)=true) (hl:l.length≤cap):eComp mi 1 ks (gNm 0) t m ρ h=some (.fls ((l.filter p).map f),h):=by
 have e:=compL_pure (caps:=ks.map fun k=>(ρ[k]?).join) (t:=t) (m:=m) (h:=h) rfl p f l [] none ht hf (by simpa using hl)
 unfold eComp compR
 rw[hm]
 have er:(List.replicate 1 (none:Option W)++ks.map fun k=>(ρ[k]?).join)=none::ks.map fun k=>(ρ[k]?).join:=rfl
 simp only
 rw[er,e]
 simp only[List.nil_append,List.getElem?_append_right (Nat.le_refl _),Nat.sub_self,List.getElem?_cons_zero]
 rw[if_pos]
 refine⟨List.prefix_append _ _,lows_of fun w hw=>?_⟩
 obtain⟨w',h1,rfl⟩:=List.mem_map.mp hw
 obtain⟨h2,h3⟩:=List.mem_filter.mp h1
 exact hlow w' h2 h3
theorem compL_pure2{caps:En}{t:MT}{m:ME}{n0:Nat}{h:MH}(hn:h.length=n0)(p:W→W→Bool)(f:W→W→W):∀(l:List (W×W)) (acc:List W) (o1 o2:Option W),
  (∀w∈l,∀H',t (some w.1::some w.2::caps) H'=some (p w.1 w.2,H'))→(∀w∈l,p w.1 w.2=true→∀H',m (some w.1::some w.2::caps) H'=some (f w.1 w.2,H'))→acc.length+l.length≤cap→
  compL 2 (gTp [gNm 0,gNm 1]) t m n0 (l.map fun w=>.tup [w.1,w.2]) (o1::o2::caps) (h++[.lst acc])=some (h++[.lst (acc++(l.filter fun w=>p w.1 w.2).map fun w=>f w.1 w.2)])
 | [],acc,_,_,_,_,_=>by simp[compL]
 | (a,b)::l,acc,o1,o2,ht,hf,hl=>by
  have ih:=fun acc'=>compL_pure2 (caps:=caps) (t:=t) (m:=m) hn p f l acc' none none (fun w hw=>ht w (List.mem_cons_of_mem _ hw)) (fun w hw=>hf w (List.mem_cons_of_mem _ hw))
  have hb:blank 2 (some a::some b::caps)=none::none::caps:=by simp[blank,List.replicate]
  simp only[List.map_cons]
  unfold compL
  have hg:gTp [gNm 0,gNm 1] (.tup [a,b]) (o1::o2::caps) (h++[.lst acc])=some (some a::some b::caps,h++[.lst acc]):=by simp[gTp,gTps,bnd,gNm]
  rw[hg]
  simp only
  rw[ht (a,b) List.mem_cons_self]
  simp only[List.length_cons] at hl
  cases hp:p a b with
  | false=>
   simp only
   rw[hb,ih acc (by omega)]
   simp[List.filter_cons,hp]
  | true=>
   simp only
   rw[hf (a,b) List.mem_cons_self hp]
   have e1:(h++[MO.lst acc])[n0]?=some (.lst acc):=by rw[←hn]; simp
   have e2:(h++[MO.lst acc]).set n0 (.lst (acc++[f a b]))=h++[.lst (acc++[f a b])]:=by rw[←hn,List.set_append_right _ _ (Nat.le_refl _)]; simp
   simp only[e1]
   rw[if_pos (by omega),hb,e2,ih (acc++[f a b]) (by rw[List.length_append]; simp; omega)]
   simp[List.filter_cons,hp]
theorem comp2{mi:MI}{ks:List Nat}{t:MT}{m:ME}{ρ:En}{h:MH}{l:List (W×W)}(p:W→W→Bool)(f:W→W→W)(hm:mi ρ h=some (.items (l.map fun w=>.tup [w.1,w.2]),h))(ht:∀w∈l,∀H',t (some w.1::some w.2::ks.map fun k=>(ρ[k]?).join) H'=some (p w.1 w.2,H'))
  (hf:∀w∈l,p w.1 w.2=true→∀H',m (some w.1::some w.2::ks.map fun k=>(ρ[k]?).join) H'=some (f w.1 w.2,H')) (hlow:∀w∈l,p w.1 w.2=true→low h.length (f w.1 w.2)=true) (hl:l.length≤cap):eComp mi 2 ks (gTp [gNm 0,gNm 1]) t m ρ h=some (.fls ((l.filter fun w=>p w.1 w.2).map fun w=>f w.1 w.2),h):=by
 have e:=compL_pure2 (caps:=ks.map fun k=>(ρ[k]?).join) (t:=t) (m:=m) (h:=h) rfl p f l [] none none ht hf (by simpa using hl)
 unfold eComp compR
 rw[hm]
 have er:(List.replicate 2 (none:Option W)++ks.map fun k=>(ρ[k]?).join)=none::none::ks.map fun k=>(ρ[k]?).join:=rfl
 simp only
 rw[er,e]
 simp only[List.nil_append,List.getElem?_append_right (Nat.le_refl _),Nat.sub_self,List.getElem?_cons_zero]
 rw[if_pos]
 refine⟨List.prefix_append _ _,lows_of fun w hw=>?_⟩
 obtain⟨w',h1,rfl⟩:=List.mem_map.mp hw
 obtain⟨h2,h3⟩:=List.mem_filter.mp h1
 exact hlow w' h2 h3
end ML
namespace K30
open PySem PySem.Spec PyProof.Rows L2 ML
def top(i:Nat):Stmt:=PySem.Challenge.pw_shelfwork_k30_kinds_known.main.body.getD i (.Pass ⟨0,0,0,0⟩)
def c_SHELVES:W:=(.tup [(.str "a"),(.str "b"),(.str "c"),(.str "d")])
structure Fs where
 f_marks_let:List W→M W
 f_is_kind:List W→M W
 f_lacking:List W→M W
 f_is_less:List W→M W
 f_joined:List W→M W
 f_both_of:List W→M W
 f_law_cell:List W→M W
 f_law_drawn:List W→M W
 f_law_odd:List W→M W
 f_law_spoilt:List W→M W
 f_law_is_mark:List W→M W
 f_law_is_kind:List W→M W
 f_law_kind:List W→M W
 f_law:List W→M W
noncomputable def b_f_marks_let(F:Fs):MS:=(sSeq (sAsg (eComp (iSeq (eC c_SHELVES)) 1 [] (gNm 0) tTrue (eArgs tupW [(eC (.str "read")),(eVar 0)])) (gNm 1))
 (sSeq (sAsg (eComp (iSeq (eC c_SHELVES)) 1 [] (gNm 0) tTrue (eArgs tupW [(eC (.str "write")),(eVar 0)])) (gNm 2))
 (sRet (eOp addW (eOp addW (eOp addW (eVar 1) (eVar 2)) (eArgs flsW [(eArgs tupW [(eC (.str "say"))]),(eArgs tupW [(eC (.str "ask"))])])) (eComp (iSeq (eVar 0)) 1 [] (gNm 0) tTrue (eArgs tupW [(eC (.str "do")),(eVar 0)]))))))
noncomputable def b_f_is_kind(F:Fs):MS:=(sSeq (sIf (tNotM (tVal (eUn (isW .list) (eVar 0))))
 (sRet (eC (.bl false)))
 sNext)
 (sSeq (sAsg (eArgs F.f_marks_let [(eVar 1)]) (gNm 2))
 (sRet (eAnd (eArgs allW [(eComp (iSeq (eVar 0)) 1 [2] (gNm 0) tTrue (eOp (inW false) (eVar 0) (eVar 1)))]) (eOp (eqW false) (eVar 0) (eUn sortSet (eVar 0)))))))
noncomputable def b_f_lacking(F:Fs):MS:=(sRet (eComp (iSeq (eVar 0)) 1 [1] (gNm 0) (tVal (eOp (inW true) (eVar 0) (eVar 1))) (eVar 0)))
noncomputable def b_f_is_less(F:Fs):MS:=(sRet (eOp (eqW false) (eArgs lenW [(eArgs F.f_lacking [(eVar 0),(eVar 1)])]) (eC (.int 0))))
noncomputable def b_f_joined(F:Fs):MS:=(sRet (sortTwo (fun a b=>a++b) (eVar 0) (eVar 1)))
noncomputable def b_f_both_of(F:Fs):MS:=(sRet (sortTwo (fun a b=>a.filter (b.contains ·)) (eVar 0) (eVar 1)))
noncomputable def b_f_law_cell(F:Fs):MS:=(sSeq (sIf (tVal (eOp (eqW false) (eVar 0) (eArgs flsW [])))
 (sRet (eOp mulW (eC (.int 7)) (eVar 1)))
 sNext)
 (sRet (eOp addW (eOp ixW (eVar 0) (eOp modW (eVar 1) (eArgs lenW [(eVar 0)]))) (eOp mulW (eC (.int 6553)) (eOp divW (eVar 1) (eArgs lenW [(eVar 0)]))))))
noncomputable def b_f_law_drawn(F:Fs):MS:=(sSeq (sAsg (eOp modW (eOp addW (eOp mulW (eOp modW (eArgs F.f_law_cell [(eVar 0),(eVar 1)]) (eC (.int 2147483563))) (eC (.int 69069))) (eOp mulW (eC (.int 104723)) (eOp addW (eVar 1) (eC (.int 1))))) (eC (.int 2147483563))) (gNm 3))
 (sSeq (sAsg (eOp modW (eOp addW (eOp mulW (eVar 3) (eVar 3)) (eOp divW (eVar 3) (eC (.int 3)))) (eC (.int 2147483399))) (gNm 3))
 (sRet (eOp modW (eOp divW (eOp modW (eOp addW (eOp mulW (eVar 3) (eVar 3)) (eOp divW (eVar 3) (eC (.int 7)))) (eC (.int 2147483647))) (eC (.int 11))) (eVar 2)))))
noncomputable def b_f_law_odd(F:Fs):MS:=(sSeq (sAsg (eArgs lstW [(eUn negW (eC (.int 1))),(eC (.int 0)),(eC (.int 1)),(eC (.int 1008)),(eC (.int 1009)),(eC (.bl true)),(eC .non),(eC (.str "")),(eC (.str "a")),(eC (.str "x")),(eC (.str "p")),(eC (.str "f")),(eC (.str "x1")),(eC (.str "x1234")),(eC (.str "read")),(eArgs tupW []),(eArgs flsW []),(eArgs tupW [(eC (.str "ask"))])]) (gNm 1))
 (sSeq (sAsg (eOp addM (eVar 1) (eArgs flsW [(eArgs tupW [(eC (.str "name")),(eC (.str "x"))]),(eArgs tupW [(eC (.str "read")),(eC (.str "a"))]),(eArgs tupW [(eC (.str "do")),(eC (.str "f"))]),(eArgs tupW [(eC (.str "call")),(eC (.int 0)),(eArgs tupW []),(eArgs tupW [])]),(eArgs tupW [(eC (.str "number")),(eC (.bl true))]),(eArgs tupW [(eC (.str "ask")),(eC (.int 1))]),(eC (.int 2))])) (gNm 1))
 (sSeq (sExpr (eMethL appendM (eVar 1) [(eArgs tupW [(eC (.str "number")),(eC (.int 0))])]))
 (sRet (eOp ixW (eVar 1) (eOp modW (eVar 0) (eC (.int 26))))))))
noncomputable def b_f_law_spoilt(F:Fs):MS:=(sSeq (sIf (tAndM (tVal (eOp gtW (eVar 2) (eC (.int 0)))) (tAndM (tVal (eUn (isW .tuple) (eVar 0))) (tAndM (tVal (eOp gtW (eArgs lenW [(eVar 0)]) (eC (.int 0)))) (tVal (eOp gtW (eOp modW (eVar 1) (eC (.int 7))) (eC (.int 0)))))))
 (sSeq (sAsg (eOp modW (eOp divW (eVar 1) (eC (.int 7))) (eArgs lenW [(eVar 0)])) (gNm 3))
 (sSeq (sAsg (eArgs F.f_law_spoilt [(eOp ixW (eVar 0) (eVar 3)),(eOp divW (eVar 1) (eC (.int 91))),(eOp subW (eVar 2) (eC (.int 1)))]) (gNm 4))
 (sRet (eOp addW (eOp addW (eSl (eVar 0) none (some (eVar 3))) (eArgs tupW [(eVar 4)])) (eSl (eVar 0) (some (eOp addW (eVar 3) (eC (.int 1)))) none)))))
 sNext)
 (sSeq (sIf (tAndM (tVal (eUn (isW .tuple) (eVar 0))) (tAndM (tVal (eOp gtW (eArgs lenW [(eVar 0)]) (eC (.int 0)))) (tVal (eOp (eqW false) (eOp modW (eOp divW (eVar 1) (eC (.int 7))) (eC (.int 2))) (eC (.int 0))))))
 (sRet (eOp ixW (eArgs flsW [(eArgs listW [(eVar 0)]),(eSl (eVar 0) none (some (eUn negW (eC (.int 1))))),(eOp addW (eVar 0) (eSl (eVar 0) (some (eUn negW (eC (.int 1)))) none)),(eSl (eVar 0) (some (eC (.int 1))) none),(eUn revW (eVar 0)),(eOp mulW (eVar 0) (eC (.int 2)))]) (eOp modW (eOp divW (eVar 1) (eC (.int 14))) (eC (.int 6)))))
 sNext)
 (sSeq (sIf (tAndM (tVal (eUn (isW .int) (eVar 0))) (tVal (eOp (eqW false) (eOp modW (eOp divW (eVar 1) (eC (.int 7))) (eC (.int 2))) (eC (.int 0)))))
 (sRet (eOp ixW (eArgs flsW [(eArgs strW [(eVar 0)]),(eOp subW (eC (.int 0)) (eVar 0)),(eOp addW (eVar 0) (eC (.int 1))),(eOp (eqW false) (eVar 0) (eC (.int 1))),(eOp subW (eVar 0) (eC (.int 1))),(eOp addW (eVar 0) (eC (.int 9)))]) (eOp modW (eOp divW (eVar 1) (eC (.int 14))) (eC (.int 6)))))
 sNext)
 (sRet (eArgs F.f_law_odd [(eOp divW (eVar 1) (eC (.int 7)))])))))
noncomputable def b_f_law_is_mark(F:Fs):MS:=(sSeq (sIf (tOrM (tNotM (tVal (eUn (isW .tuple) (eVar 0)))) (tVal (eOp (inW false) (eVar 0) (eArgs tupW [(eArgs tupW [(eC (.str "say"))]),(eArgs tupW [(eC (.str "ask"))])]))))
 (sRet (eUn (isW .tuple) (eVar 0)))
 sNext)
 (sSeq (sIf (tOrM (tVal (eOp (eqW true) (eArgs lenW [(eVar 0)]) (eC (.int 2)))) (tOrM (tNotM (tVal (eUn (isW .str) (eOp ixW (eVar 0) (eC (.int 0)))))) (tNotM (tVal (eUn (isW .str) (eOp ixW (eVar 0) (eC (.int 1))))))))
 (sRet (eC (.bl false)))
 sNext)
 (sSeq (sIf (tVal (eOp (eqW false) (eOp ixW (eVar 0) (eC (.int 0))) (eC (.str "do"))))
 (sRet (eOp (inW false) (eOp ixW (eVar 0) (eC (.int 1))) (eVar 1)))
 sNext)
 (sRet (eAnd (eOp (inW false) (eOp ixW (eVar 0) (eC (.int 0))) (eArgs tupW [(eC (.str "read")),(eC (.str "write"))])) (eOp (inW false) (eOp ixW (eVar 0) (eC (.int 1))) (eArgs tupW [(eC (.str "a")),(eC (.str "b")),(eC (.str "c")),(eC (.str "d"))])))))))
noncomputable def b_f_law_is_kind(F:Fs):MS:=(sSeq (sIf (tOrM (tNotM (tVal (eUn (isW .list) (eVar 0)))) (tVal (eOp (eqW true) (eComp (iSeq (eVar 0)) 1 [1] (gNm 0) (tNotM (tVal (eArgs F.f_law_is_mark [(eVar 0),(eVar 1)]))) (eVar 0)) (eArgs flsW []))))
 (sRet (eC (.bl false)))
 sNext)
 (sRet (eOp (eqW false) (eVar 0) (eUn sortSet (eVar 0)))))
noncomputable def b_f_law_kind(F:Fs):MS:=(sSeq (sAsg (eOp addW (eArgs flsW [(eArgs tupW [(eC (.str "ask"))]),(eArgs tupW [(eC (.str "say"))])]) (eComp (iSeq (eVar 2)) 1 [] (gNm 0) tTrue (eArgs tupW [(eC (.str "do")),(eVar 0)]))) (gNm 3))
 (sSeq (sFor (iStr (eC (.str "abcd"))) (gNm 4)
 (sAsg (eOp addW (eVar 3) (eArgs flsW [(eArgs tupW [(eC (.str "read")),(eVar 4)]),(eArgs tupW [(eC (.str "write")),(eVar 4)])])) (gNm 3)))
 (sRet (eArgs sortLs [(eComp (iEnum [(eVar 3)]) 2 [0,1] (gTp [(gNm 0),(gNm 1)]) (tVal (eOp (eqW false) (eArgs F.f_law_drawn [(eVar 2),(eOp addW (eVar 3) (eVar 0)),(eC (.int 3))]) (eC (.int 0)))) (eVar 1))]))))
noncomputable def b_f_law(F:Fs):MS:=(sSeq (sAsg (eOp ixW (eArgs flsW [(eArgs tupW []),(eArgs tupW [(eC (.str "f"))]),(eArgs tupW [(eC (.str "f")),(eC (.str "g1"))])]) (eArgs F.f_law_drawn [(eVar 0),(eC (.int 0)),(eC (.int 3))])) (gNm 1))
 (sSeq (sAsg (eArgs F.f_law_kind [(eVar 0),(eC (.int 1)),(eVar 1)]) (gNm 2))
 (sSeq (sAsg (eArgs F.f_law_kind [(eVar 0),(eC (.int 20)),(eVar 1)]) (gNm 3))
 (sSeq (sAsg (eSlM (eVar 2) none none) (gNm 4))
 (sSeq (sIf (tVal (eOp (eqW true) (eVar 2) (eArgs flsW [])))
 (sSeq (sAsg (eArgs F.f_law_drawn [(eVar 0),(eC (.int 40)),(eArgs lenW [(eVar 2)])]) (gNm 5))
 (sAsg (eArgs F.f_law_spoilt [(eOp ixW (eVar 2) (eVar 5)),(eArgs F.f_law_drawn [(eVar 0),(eC (.int 41)),(eOp powW (eC (.int 10)) (eC (.int 6)))]),(eArgs F.f_law_drawn [(eVar 0),(eC (.int 42)),(eC (.int 3))])]) (gPut (eVar 4) (eVar 5))))
 sNext)
 (sSeq (sAsg (eArgs flsW [(eVar 2),(eVar 4),(eUn revW (eVar 2)),(eArgs tupleW [(eVar 2)]),(eOp addW (eVar 2) (eSl (eVar 2) none (some (eC (.int 1))))),(eArgs flsW [(eArgs tupW [(eC (.str "do")),(eC (.str "f"))])]),(eArgs flsW [(eArgs tupW [(eC (.str "read")),(eC (.str "ab"))])]),(eArgs flsW [(eArgs tupW [(eC (.str "read")),(eC (.str "p"))])])]) (gNm 6))
 (sSeq (sAsg (eOp addW (eVar 6) (eArgs flsW [(eArgs flsW [(eArgs tupW [(eC (.str "xx")),(eC (.str "a"))])]),(eArgs flsW [(eArgs tupW [(eC (.str "say")),(eC (.str "a"))])]),(eArgs flsW [(eArgs tupW [(eC (.str "read"))])]),(eArgs flsW [(eArgs tupW [(eC (.str "read")),(eC (.str "a")),(eC (.str "b"))])]),(eArgs flsW [(eArgs tupW [(eC (.str "ask"))]),(eArgs tupW [(eC (.str "say"))])]),(eArgs flsW [(eArgs tupW [(eC (.str "do"))])])])) (gNm 6))
 (sSeq (sFor (iSeq (eOp addW (eVar 6) (eArgs flsW [(eArgs F.f_law_odd [(eArgs F.f_law_drawn [(eVar 0),(eC (.int 43)),(eC (.int 26))])])]))) (gNm 7)
 (sSeq (sAsg (eArgs F.f_is_kind [(eVar 7),(eVar 1)]) (gNm 8))
 (sIf (tOrM (tNotM (tVal (eUn (isW .bool) (eVar 8)))) (tVal (eOp (eqW true) (eVar 8) (eArgs F.f_law_is_kind [(eVar 7),(eVar 1)]))))
 (sRet (eC (.bl false)))
 sNext)))
 (sSeq (sAsg (eArgs F.f_is_less [(eVar 2),(eVar 3)]) (gNm 8))
 (sSeq (sIf (tOrM (tNotM (tVal (eUn (isW .bool) (eVar 8)))) (tVal (eOp (eqW true) (eVar 8) (eOp (eqW false) (eComp (iSeq (eVar 2)) 1 [3] (gNm 0) (tVal (eOp (inW true) (eVar 0) (eVar 1))) (eVar 0)) (eArgs flsW [])))))
 (sRet (eC (.bl false)))
 sNext)
 (sSeq (sIf (tVal (eOp (eqW true) (eArgs F.f_both_of [(eVar 2),(eVar 3)]) (eComp (iSeq (eVar 2)) 1 [3] (gNm 0) (tVal (eOp (inW false) (eVar 0) (eVar 1))) (eVar 0))))
 (sRet (eC (.bl false)))
 sNext)
 (sRet (eAnd (eOp (eqW false) (eArgs F.f_joined [(eVar 2),(eVar 3)]) (eUn sortSet (eOp addW (eVar 2) (eVar 3)))) (eArgs F.f_is_less [(eVar 2),(eVar 2)]))))))))))))))
noncomputable def step(F:Fs):Fs where
 f_marks_let:=gc (fnM 1 2 (b_f_marks_let F))
 f_is_kind:=gc (fnM 2 1 (b_f_is_kind F))
 f_lacking:=gc (fnM 2 0 (b_f_lacking F))
 f_is_less:=gc (fnM 2 0 (b_f_is_less F))
 f_joined:=gc (fnM 2 0 (b_f_joined F))
 f_both_of:=gc (fnM 2 0 (b_f_both_of F))
 f_law_cell:=gc (fnM 2 0 (b_f_law_cell F))
 f_law_drawn:=gc (fnM 3 1 (b_f_law_drawn F))
 f_law_odd:=gc (fnM 1 1 (b_f_law_odd F))
 f_law_spoilt:=gc (fnM 3 2 (b_f_law_spoilt F))
 f_law_is_mark:=gc (fnM 2 0 (b_f_law_is_mark F))
 f_law_is_kind:=gc (fnM 2 0 (b_f_law_is_kind F))
 f_law_kind:=gc (fnM 3 2 (b_f_law_kind F))
 f_law:=gc (fnM 1 8 (b_f_law F))
def Fs.bot:Fs:=⟨fun _ _=>none,fun _ _=>none,fun _ _=>none,fun _ _=>none,fun _ _=>none,fun _ _=>none,fun _ _=>none,fun _ _=>none,fun _ _=>none,fun _ _=>none,fun _ _=>none,fun _ _=>none,fun _ _=>none,fun _ _=>none⟩
noncomputable def lv:Nat→Fs
 | 0=>.bot
 | n+1=>step (lv n)
def fns(F:Fs):List (Str×(List W→M W)):=[(("marks_let":Str),F.f_marks_let),(("is_kind":Str),F.f_is_kind),(("lacking":Str),F.f_lacking),(("is_less":Str),F.f_is_less),(("joined":Str),F.f_joined),(("both_of":Str),F.f_both_of),(("_law_cell":Str),F.f_law_cell),(("_law_drawn":Str),F.f_law_drawn),(("_law_odd":Str),F.f_law_odd),(("_law_spoilt":Str),F.f_law_spoilt),(("_law_is_mark":Str),F.f_law_is_mark),(("_law_is_kind":Str),F.f_law_is_kind),(("_law_kind":Str),F.f_law_kind),(("law":Str),F.f_law)]
def cons:List (Str×W):=[("SHELVES",c_SHELVES)]
def tabs:List (Str×List (Str×W)):=[]
def bins:List Str:=["all","bool","enumerate","int","isinstance","len","list","set","sorted","str","tuple"]
def rc(F:Fs):RC:=⟨⟨.function,[],false,false,[]⟩,[],false,fns F,cons,tabs,bins,[],[],[]⟩
def d_f_marks_let:Def:=⟨"marks_let",top 2,["handed"],["handed","reads","writes"],[],[],[((4,12),["shelf"]),((5,13),["shelf"]),((6,51),["name"])]⟩
def d_f_is_kind:Def:=⟨"is_kind",top 3,["thing","handed"],["thing","handed","let"],[],[],[((11,15),["mark","let"])]⟩
def d_f_lacking:Def:=⟨"lacking",top 4,["marks","kind"],["marks","kind"],[],[],[((13,11),["mark","kind"])]⟩
def d_f_is_less:Def:=⟨"is_less",top 5,["one","other"],["one","other"],[],[],[]⟩
def d_f_joined:Def:=⟨"joined",top 6,["one","other"],["one","other"],[],[],[]⟩
def d_f_both_of:Def:=⟨"both_of",top 7,["one","other"],["one","other"],[],[],[]⟩
def d_f_law_cell:Def:=⟨"_law_cell",top 9,["_law_script","_law_k"],["_law_script","_law_k"],[],[],[]⟩
def d_f_law_drawn:Def:=⟨"_law_drawn",top 10,["_law_script","_law_k","_law_many"],["_law_script","_law_k","_law_many","_law_cell_here"],[],[],[]⟩
def d_f_law_odd:Def:=⟨"_law_odd",top 11,["_law_number"],["_law_number","_law_some"],["_law_some"],[],[]⟩
def d_f_law_spoilt:Def:=⟨"_law_spoilt",top 12,["_law_thing","_law_number","_law_deep"],["_law_thing","_law_number","_law_deep","_law_at","_law_part"],[],[],[]⟩
def d_f_law_is_mark:Def:=⟨"_law_is_mark",top 13,["_law_thing","_law_handed"],["_law_thing","_law_handed"],[],[],[]⟩
def d_f_law_is_kind:Def:=⟨"_law_is_kind",top 14,["_law_thing","_law_handed"],["_law_thing","_law_handed"],[],[],[((53,43),["_law_mark","_law_handed"])]⟩
def d_f_law_kind:Def:=⟨"_law_kind",top 15,["_law_script","_law_at","_law_handed"],["_law_script","_law_at","_law_handed","_law_every","_law_shelf"],[],[],[((57,40),["_law_word"]),((60,18),["_law_k","_law_mark","_law_script","_law_at"])]⟩
def d_f_law:Def:=⟨"law",top 16,["_law_script"],["_law_script","_law_handed","_law_one","_law_other","_law_spoilt_here","_law_at","_law_some","_law_thing","_law_said"],["_law_spoilt_here"],[],[((78,40),["_law_mark","_law_other"]),((76,56),["_law_mark","_law_other"])]⟩
def defs:List Def:=[d_f_marks_let,d_f_is_kind,d_f_lacking,d_f_is_less,d_f_joined,d_f_both_of,d_f_law_cell,d_f_law_drawn,d_f_law_odd,d_f_law_spoilt,d_f_law_is_mark,d_f_law_is_kind,d_f_law_kind,d_f_law]
theorem lvl{P:Program}{w:World}{K:PySem.W.Frag}{mg:Str→Option Value}{base:Heap}(T:AllD (TxtAt K mg) defs)(c:AllOf (Glob K mg) cons)(t:AllOf (TabOk K w.params mg) tabs)(z:AllNone mg bins):∀n,BaseOk P w K mg base (fun _=>0) n (rc (lv n)):=by
 obtain⟨T0,T1,T2,T3,T4,T5,T6,T7,T8,T9,T10,T11,T12,T13,-⟩:=T
 intro n
 induction n with
 | zero=>exact⟨⟨row_none T0,row_none T1,row_none T2,row_none T3,row_none T4,row_none T5,row_none T6,row_none T7,row_none T8,row_none T9,row_none T10,row_none T11,row_none T12,row_none T13,trivial⟩,c,t,z⟩
 | succ n ih=>exact⟨⟨row_ok (b:=b_f_marks_let _) T0 ih,row_ok (b:=b_f_is_kind _) T1 ih,row_ok (b:=b_f_lacking _) T2 ih,row_ok (b:=b_f_is_less _) T3 ih,row_ok (b:=b_f_joined _) T4 ih,row_ok (b:=b_f_both_of _) T5 ih,row_ok (b:=b_f_law_cell _) T6 ih,row_ok (b:=b_f_law_drawn _) T7 ih,row_ok (b:=b_f_law_odd _) T8 ih,row_ok (b:=b_f_law_spoilt _) T9 ih,row_ok (b:=b_f_law_is_mark _) T10 ih,row_ok (b:=b_f_law_is_kind _) T11 ih,row_ok (b:=b_f_law_kind _) T12 ih,row_ok (b:=b_f_law _) T13 ih,trivial⟩,c,t,z⟩
end K30
namespace K30
open PySem L2 ML
theorem ite_ap{α:Type}{β:Type}{c:Prop}[Decidable c]{f g:α→β}{x:α}:(if c then f else g) x=if c then f x else g x:=by split<;>rfl
local macro_rules
 |`(tactic|simp![$l,*])=>`(tactic|simp[step,fnM,sSeq,sIf,sRet,sExpr,sNext,sAsg,gNm,gTp,gTps,eVar,eC,eOp,eUn,eArgs,mArgs,eAnd,eOr,eNot,eIf,eChain,tVal,tAndM,tOrM,tNotM,asB,bnd,eqW,inW,ite_ap,$l,*])
theorem bls_map(l:List W)(f:W→Bool):blsOf (l.map fun w=>.bl (f w))=some (l.map f):=by
 induction l with
 | nil=>rfl
 | cons x r ih=>simp only[List.map_cons]; unfold blsOf; rw[ih]
theorem seq_nx{a b:MS}{ρ ρ':En}{h h':MH}(e:a ρ h=some (.nx ρ',h')):sSeq a b ρ h=b ρ' h':=by unfold sSeq; rw[e]
theorem seq_ret{a b:MS}{ρ:En}{h h':MH}{w:W}(e:a ρ h=some (.ret w,h')):sSeq a b ρ h=some (.ret w,h'):=by unfold sSeq; rw[e]
theorem seq_if_ret{t:MT}{A b:MS}{ρ:En}{h h':MH}{w:W}(e:t ρ h=some (true,h))(eA:A ρ h=some (.ret w,h')):sSeq (sIf t A sNext) b ρ h=some (.ret w,h'):=by
 refine seq_ret ?_
 unfold sIf; rw[e]; simp only[if_true]; exact eA
theorem if_no{t:MT}{A:MS}{ρ:En}{h:MH}(e:t ρ h=some (false,h)):sIf t A sNext ρ h=some (.nx ρ,h):=by
 unfold sIf; rw[e]; rfl
theorem dt_tup{n:Nat}{l:List W}(d:dt n (.tup l)=true):∃m,n=m+1∧l.length≤1000∧∀w∈l,dt m w=true:=by
 cases n with
 | zero=>cases d
 | succ m=>
  unfold dt at d
  rw[Bool.and_eq_true] at d
  exact⟨m,rfl,of_decide_eq_true d.1,fun w hw=>List.all_eq_true.mp d.2 w hw⟩
noncomputable def pl:Nat→W→Bool
 | 0,_=>false
 | _+1,.int i=>decide (0≤i)&&decide (i≤1008)
 | _+1,.str x=>PyData.strOk x&&decide (x.length≤1000)
 | n+1,.tup l=>decide (l.length≤4)&&l.all (pl n)
 | _+1,_=>false
theorem pl_tup{n:Nat}{l:List W}(d:pl n (.tup l)=true):∃m,n=m+1∧l.length≤4∧∀w∈l,pl m w=true:=by
 cases n with
 | zero=>cases d
 | succ m=>
  unfold pl at d
  rw[Bool.and_eq_true] at d
  exact⟨m,rfl,of_decide_eq_true d.1,fun w hw=>List.all_eq_true.mp d.2 w hw⟩
theorem dt_of{n:Nat}{l:List W}(hl:l.length≤1000)(h:∀w∈l,dt n w=true):dt (n+1) (.tup l)=true:=by
 unfold dt
 rw[Bool.and_eq_true]
 exact⟨decide_eq_true hl,List.all_eq_true.mpr h⟩
theorem dt_fls{n:Nat}{l:List W}(hl:l.length≤1000)(h:∀w∈l,dt n w=true):dt (n+1) (.fls l)=true:=by
 unfold dt
 rw[Bool.and_eq_true]
 exact⟨decide_eq_true hl,List.all_eq_true.mpr h⟩
theorem pl_dt:∀{n:Nat} {w:W},pl n w=true→dt n w=true
 | 0,_,h=>by cases h
 | n+1,.non,h=>by cases h
 | n+1,.bl _,h=>by cases h
 | n+1,.int _,_=>rfl
 | n+1,.str _,h=>h
 | n+1,.tup l,h=>by
  obtain⟨m,e,hl,hd⟩:=pl_tup h
  cases e
  exact dt_of (by omega) fun w hw=>pl_dt (hd w hw)
 | n+1,.fls _,h=>by cases h
 | n+1,.ref _,h=>by cases h
 | n+1,.fdc _,h=>by cases h
 | n+1,.fn _,h=>by cases h
theorem at_mem{l:List W}{i:Int}(h0:0≤i)(h1:i<l.length):∃v∈l,atI l i=some v:=by
 have hj:i.toNat<l.length:=by omega
 exact⟨l[i.toNat],List.getElem_mem hj,by unfold atI ixN; rw[if_pos h0,if_pos h1]; simp[hj]⟩
theorem ix_fls{l:List W}{i:Int}(h0:0≤i)(h1:i<l.length):∃v∈l,∀h,ixW (.fls l) (.int i) h=some (v,h):=by
 obtain⟨v,hv,e⟩:=at_mem h0 h1
 exact⟨v,hv,fun h=>by simp[ixW,getL,e]⟩
theorem ix_tup{l:List W}{i:Int}(h0:0≤i)(h1:i<l.length):∃v∈l,∀h,ixW (.tup l) (.int i) h=some (v,h):=by
 obtain⟨v,hv,e⟩:=at_mem h0 h1
 exact⟨v,hv,fun h=>by simp[ixW,e]⟩
noncomputable def up:Nat→Fs→Fs
 | 0,F=>F
 | n+1,F=>step (up n F)
theorem cut_to{l:List W}{k:Nat}(hk:k≤l.length):cutW l none (some (k:Int))=l.take k:=by
 unfold cutW
 have e1:HT.sIx l.length l.length (some (k:Int))=k:=by
  have:¬((k:Int)<0):=by omega
  simp[HT.sIx,this]; omega
 have e2:HT.sIx l.length 0 none=0:=rfl
 rw[e1,e2]; simp
theorem cut_from{l:List W}{k:Nat}:cutW l (some (k:Int)) none=l.drop k:=by
 unfold cutW
 have e1:HT.sIx l.length 0 (some (k:Int))=min k l.length:=by
  have:¬((k:Int)<0):=by omega
  simp[HT.sIx,this]
 have e2:HT.sIx l.length l.length none=l.length:=rfl
 rw[e1,e2]
 have:l.drop (min k l.length)=l.drop k:=by
  by_cases h:k≤l.length
  .rw[Nat.min_eq_left h]
  .rw[Nat.min_eq_right (by omega),List.drop_length,List.drop_of_length_le (by omega)]
 rw[this]
 apply List.take_of_length_le
 rw[List.length_drop]
 omega
theorem eqB_fnil{n:Nat}{l:List W}{h:MH}(d:dt n (.fls l)=true)(hn:n≤60):eqB h (.fls l) (.fls [])=some l.isEmpty:=by
 have e1:=dataW_dt (h:=h) d (show n≤deep from hn)
 have e2:=dataW_dt (h:=h) (show dt 1 (.fls [])=true from rfl) (show 1≤deep by decide)
 unfold eqB
 simp only[eqF,e1,e2]
 congr 1
 cases n with
 | zero=>cases d
 | succ n=>
  cases l<;>simp[toD,PyData.eqv,PyData.eqvAll]
theorem at0{α:Type}(h:List α)(o:α):(h++[o])[h.length]?=some o:=by simp
noncomputable def scr(ns:List Int):W:=.fls (ns.map W.int)
theorem scr_dt{ns:List Int}(h:ns.length≤63):dt 2 (scr ns)=true:=by
 unfold scr dt
 rw[Bool.and_eq_true]
 refine⟨decide_eq_true (by simp; omega),List.all_eq_true.mpr fun w hw=>?_⟩
 obtain⟨i,_,rfl⟩:=List.mem_map.mp hw
 rfl
noncomputable def cellV(ns:List Int)(k:Int):Int:=if ns=[] then 7*k else ns.getD (k%ns.length).toNat 0+6553*(k/ns.length)
theorem s_cell{F:Fs}{ns:List Int}{k:Int}{h:MH}(hl:ns.length≤63):(step F).f_law_cell [scr ns,.int k] h=some (.int (cellV ns k),h):=by
 refine gc_dt (n:=1) ?_ rfl
 have eq:=eqB_fnil (h:=h) (scr_dt hl) (by omega)
 have sm:(small 7||small k)=true:=by rw[show small 7=true by decide]; rfl
 cases ns with
 | nil=>
  have eq':eqB h (scr []) (.fls [])=some true:=eq
  simp![b_f_law_cell,flsW,cap,eq',mulW,sm,cellV]
 | cons n r=>
  have eq':eqB h (scr (n::r)) (.fls [])=some false:=eq
  have hp:(0:Int)<(r.length:Int)+1:=by omega
  have hb:(r.length:Int)+1<1073741824:=by simp at hl; omega
  have hm0:=Int.emod_nonneg k (show((r.length:Int)+1)≠0 by omega)
  have hm1:=Int.emod_lt_of_pos k hp
  have hlen:lenW [scr (n::r)] h=some (.int ((r.length:Int)+1),h):=by simp[lenW,scr,getL]
  have hix:ixW (scr (n::r)) (.int (k%((r.length:Int)+1))) h=some (.int ((n::r).getD (k%((r.length:Int)+1)).toNat 0),h):=by
   have hj:(k%((r.length:Int)+1)).toNat<(n::r).length:=by simp; omega
   have e1:((n::r).map W.int)[(k%((r.length:Int)+1)).toNat]?=some (.int ((n::r).getD (k%((r.length:Int)+1)).toNat 0)):=by
    rw[List.getElem?_map,List.getElem?_eq_getElem hj]
    simp only[Option.map_some,List.getD,List.getElem?_eq_getElem hj,Option.getD_some]
   have e2:atI ((n::r).map W.int) (k%((r.length:Int)+1))=some (.int ((n::r).getD (k%((r.length:Int)+1)).toNat 0)):=by
    unfold atI ixN
    rw[if_pos hm0,if_pos (by simp; omega)]
    exact e1
   simp only[ixW,scr,getL,e2]
  have sm2:(small 6553||small (k/((r.length:Int)+1)))=true:=by rw[show small 6553=true by decide]; rfl
  simp![b_f_law_cell,flsW,cap,eq',hlen,modW,hp,hix,divW,hb,mulW,sm2,addW,addI,cellV]
noncomputable def h1V(ns:List Int)(k:Int):Int:=(cellV ns k%2147483563*69069+104723*(k+1))%2147483563
noncomputable def h2V(ns:List Int)(k:Int):Int:=(h1V ns k*h1V ns k+h1V ns k/3)%2147483399
noncomputable def drawV(ns:List Int)(k many:Int):Int:=(h2V ns k*h2V ns k+h2V ns k/7)%2147483647/11%many
theorem small_of{i:Int}(h0:0≤i)(h1:i<2147483648):small i=true:=by
 unfold small
 exact decide_eq_true ⟨by omega,by omega⟩
theorem s_drawn{F:Fs}{ns:List Int}{k many:Int}{h:MH}(hl:ns.length≤63)(hm:0<many):(step (step F)).f_law_drawn [scr ns,.int k,.int many] h=some (.int (drawV ns k many),h):=by
 refine gc_dt (n:=1) ?_ rfl
 have e:=fun h=>s_cell (F:=F) (k:=k) (h:=h) hl
 generalize step F=G at e
 have a1:0≤h1V ns k∧h1V ns k<2147483563:=⟨Int.emod_nonneg _ (by omega),Int.emod_lt_of_pos _ (by omega)⟩
 have a2:0≤h2V ns k∧h2V ns k<2147483399:=⟨Int.emod_nonneg _ (by omega),Int.emod_lt_of_pos _ (by omega)⟩
 have c0:0≤cellV ns k%2147483563∧cellV ns k%2147483563<2147483563:=⟨Int.emod_nonneg _ (by omega),Int.emod_lt_of_pos _ (by omega)⟩
 have s1:(small (cellV ns k%2147483563)||small 69069)=true:=by rw[small_of c0.1 (by omega)]; rfl
 have s2:(small 104723||small (k+1))=true:=by rw[show small 104723=true by decide]; rfl
 have s3:(small (h1V ns k)||small (h1V ns k))=true:=by rw[small_of a1.1 (by omega)]; rfl
 have s4:(small (h2V ns k)||small (h2V ns k))=true:=by rw[small_of a2.1 (by omega)]; rfl
 have m1:∀h,mulW (.int (cellV ns k%2147483563)) (.int 69069) h=some (.int (cellV ns k%2147483563*69069),h):=fun h=>by simp only[mulW,s1,if_true]
 have m2:∀h,mulW (.int 104723) (.int (k+1)) h=some (.int (104723*(k+1)),h):=fun h=>by simp only[mulW,s2,if_true]
 have m3:∀h,mulW (.int (h1V ns k)) (.int (h1V ns k)) h=some (.int (h1V ns k*h1V ns k),h):=fun h=>by simp only[mulW,s3,if_true]
 have m4:∀h,mulW (.int (h2V ns k)) (.int (h2V ns k)) h=some (.int (h2V ns k*h2V ns k),h):=fun h=>by simp only[mulW,s4,if_true]
 have f1:(cellV ns k%2147483563*69069+104723*(k+1))%2147483563=h1V ns k:=rfl
 have f2:(h1V ns k*h1V ns k+h1V ns k/3)%2147483399=h2V ns k:=rfl
 have f3:(h2V ns k*h2V ns k+h2V ns k/7)%2147483647/11%many=drawV ns k many:=rfl
 have b1:(sAsg (eOp modW (eOp addW (eOp mulW (eOp modW (eArgs G.f_law_cell [(eVar 0),(eVar 1)]) (eC (.int 2147483563))) (eC (.int 69069))) (eOp mulW (eC (.int 104723)) (eOp addW (eVar 1) (eC (.int 1))))) (eC (.int 2147483563))) (gNm 3)) [some (scr ns),some (.int k),some (.int many),none] h=some (.nx [some (scr ns),some (.int k),some (.int many),some (.int (h1V ns k))],h):=by
  simp![e,modW,m1,m2,addW,addI,f1]
 have b2:(sAsg (eOp modW (eOp addW (eOp mulW (eVar 3) (eVar 3)) (eOp divW (eVar 3) (eC (.int 3)))) (eC (.int 2147483399))) (gNm 3)) [some (scr ns),some (.int k),some (.int many),some (.int (h1V ns k))] h=some (.nx [some (scr ns),some (.int k),some (.int many),some (.int (h2V ns k))],h):=by
  simp![modW,m3,divW,addW,addI,f2]
 have b3:(sRet (eOp modW (eOp divW (eOp modW (eOp addW (eOp mulW (eVar 3) (eVar 3)) (eOp divW (eVar 3) (eC (.int 7)))) (eC (.int 2147483647))) (eC (.int 11))) (eVar 2))) [some (scr ns),some (.int k),some (.int many),some (.int (h2V ns k))] h=some (.ret (.int (drawV ns k many)),h):=by
  simp![modW,m4,divW,addW,addI,hm,f3]
 have row:b_f_law_drawn G [some (scr ns),some (.int k),some (.int many),none] h=some (.ret (.int (drawV ns k many)),h):=by
  unfold b_f_law_drawn
  rw[seq_nx b1,seq_nx b2,b3]
 simp only[fnM,List.length_cons,List.length_nil,if_true,List.map_cons,List.map_nil,List.replicate,List.cons_append,List.nil_append]
 simp only[row]
theorem draw_range{ns:List Int}{k many:Int}(hm:0<many):0≤drawV ns k many∧drawV ns k many<many:=⟨Int.emod_nonneg _ (by omega),Int.emod_lt_of_pos _ hm⟩
noncomputable def OD0(F:Fs):MS:=(sAsg (eArgs lstW [(eUn negW (eC (.int 1))),(eC (.int 0)),(eC (.int 1)),(eC (.int 1008)),(eC (.int 1009)),(eC (.bl true)),(eC .non),(eC (.str "")),(eC (.str "a")),(eC (.str "x")),(eC (.str "p")),(eC (.str "f")),(eC (.str "x1")),(eC (.str "x1234")),(eC (.str "read")),(eArgs tupW []),(eArgs flsW []),(eArgs tupW [(eC (.str "ask"))])]) (gNm 1))
noncomputable def OD1(F:Fs):MS:=(sAsg (eOp addM (eVar 1) (eArgs flsW [(eArgs tupW [(eC (.str "name")),(eC (.str "x"))]),(eArgs tupW [(eC (.str "read")),(eC (.str "a"))]),(eArgs tupW [(eC (.str "do")),(eC (.str "f"))]),(eArgs tupW [(eC (.str "call")),(eC (.int 0)),(eArgs tupW []),(eArgs tupW [])]),(eArgs tupW [(eC (.str "number")),(eC (.bl true))]),(eArgs tupW [(eC (.str "ask")),(eC (.int 1))]),(eC (.int 2))])) (gNm 1))
noncomputable def OD2(F:Fs):MS:=(sExpr (eMethL appendM (eVar 1) [(eArgs tupW [(eC (.str "number")),(eC (.int 0))])]))
noncomputable def OD3(F:Fs):MS:=(sRet (eOp ixW (eVar 1) (eOp modW (eVar 0) (eC (.int 26)))))
theorem OD_row(F:Fs):b_f_law_odd F=sSeq (OD0 F) (sSeq (OD1 F) (sSeq (OD2 F) (OD3 F))):=rfl
noncomputable def SP0(F:Fs):MS:=(sIf (tAndM (tVal (eOp gtW (eVar 2) (eC (.int 0)))) (tAndM (tVal (eUn (isW .tuple) (eVar 0))) (tAndM (tVal (eOp gtW (eArgs lenW [(eVar 0)]) (eC (.int 0)))) (tVal (eOp gtW (eOp modW (eVar 1) (eC (.int 7))) (eC (.int 0)))))))
 (sSeq (sAsg (eOp modW (eOp divW (eVar 1) (eC (.int 7))) (eArgs lenW [(eVar 0)])) (gNm 3))
 (sSeq (sAsg (eArgs F.f_law_spoilt [(eOp ixW (eVar 0) (eVar 3)),(eOp divW (eVar 1) (eC (.int 91))),(eOp subW (eVar 2) (eC (.int 1)))]) (gNm 4))
 (sRet (eOp addW (eOp addW (eSl (eVar 0) none (some (eVar 3))) (eArgs tupW [(eVar 4)])) (eSl (eVar 0) (some (eOp addW (eVar 3) (eC (.int 1)))) none)))))
 sNext)
noncomputable def SP1(F:Fs):MS:=(sIf (tAndM (tVal (eUn (isW .tuple) (eVar 0))) (tAndM (tVal (eOp gtW (eArgs lenW [(eVar 0)]) (eC (.int 0)))) (tVal (eOp (eqW false) (eOp modW (eOp divW (eVar 1) (eC (.int 7))) (eC (.int 2))) (eC (.int 0))))))
 (sRet (eOp ixW (eArgs flsW [(eArgs listW [(eVar 0)]),(eSl (eVar 0) none (some (eUn negW (eC (.int 1))))),(eOp addW (eVar 0) (eSl (eVar 0) (some (eUn negW (eC (.int 1)))) none)),(eSl (eVar 0) (some (eC (.int 1))) none),(eUn revW (eVar 0)),(eOp mulW (eVar 0) (eC (.int 2)))]) (eOp modW (eOp divW (eVar 1) (eC (.int 14))) (eC (.int 6)))))
 sNext)
noncomputable def SP2(F:Fs):MS:=(sIf (tAndM (tVal (eUn (isW .int) (eVar 0))) (tVal (eOp (eqW false) (eOp modW (eOp divW (eVar 1) (eC (.int 7))) (eC (.int 2))) (eC (.int 0)))))
 (sRet (eOp ixW (eArgs flsW [(eArgs strW [(eVar 0)]),(eOp subW (eC (.int 0)) (eVar 0)),(eOp addW (eVar 0) (eC (.int 1))),(eOp (eqW false) (eVar 0) (eC (.int 1))),(eOp subW (eVar 0) (eC (.int 1))),(eOp addW (eVar 0) (eC (.int 9)))]) (eOp modW (eOp divW (eVar 1) (eC (.int 14))) (eC (.int 6)))))
 sNext)
noncomputable def SP3(F:Fs):MS:=(sRet (eArgs F.f_law_odd [(eOp divW (eVar 1) (eC (.int 7)))]))
theorem SP_row(F:Fs):b_f_law_spoilt F=sSeq (SP0 F) (sSeq (SP1 F) (sSeq (SP2 F) (SP3 F))):=rfl
noncomputable def odd18:List W:=[.int (-1),.int 0,.int 1,.int 1008,.int 1009,.bl true,.non,.str "",.str "a",.str "x",.str "p",.str "f",.str "x1",.str "x1234",.str "read",.tup [],.fls [],.tup [.str "ask"]]
noncomputable def odd7:List W:=[.tup [.str "name",.str "x"],.tup [.str "read",.str "a"],.tup [.str "do",.str "f"],.tup [.str "call",.int 0,.tup [],.tup []],.tup [.str "number",.bl true],.tup [.str "ask",.int 1],.int 2]
noncomputable def odd26:List W:=odd18++odd7++[.tup [.str "number",.int 0]]
theorem odd_dt:odd26.all (dt 3)=true:=by decide +kernel
theorem s_odd'{F:Fs}(n:Int):∃v∈odd26,∀h,(step F).f_law_odd [.int n] h=some (v,h):=by
 have rg:0≤n%26∧n%26<26:=⟨Int.emod_nonneg _ (by omega),Int.emod_lt_of_pos _ (by omega)⟩
 have hv:∃v∈odd26,atI odd26 (n%26)=some v:=at_mem rg.1 (by have:odd26.length=26:=rfl; rw[this]; exact rg.2)
 obtain⟨v,hv,ev⟩:=hv
 have dv:dt 3 v=true:=List.all_eq_true.mp odd_dt v hv
 refine⟨v,hv,fun h=>gc_dt' (t:=[.lst odd18,.lst odd26]) ?_ dv⟩
 have c0:(0:Nat)≤cap:=by decide
 have c1:(1:Nat)≤cap:=by decide
 have c2:(2:Nat)≤cap:=by decide
 have c4:(4:Nat)≤cap:=by decide
 have c7:(7:Nat)≤cap:=by decide
 have c18:(18:Nat)≤cap:=by decide
 have c25:18+7≤cap:=by decide
 have c25':25<cap:=by decide
 have s0:OD0 F [some (.int n),none] h=some (.nx [some (.int n),some (.ref h.length)],h++[.lst odd18]):=by
  simp![OD0,lstW,negW,tupW,flsW,c0,c1,c18,odd18]
 have s1:OD1 F [some (.int n),some (.ref h.length)] (h++[.lst odd18])=some (.nx [some (.int n),some (.ref (h.length+1))],h++[.lst odd18,.lst (odd18++odd7)]):=by
  have ad:addM (.ref h.length) (.fls odd7) (h++[.lst odd18])=some (.ref (h.length+1),h++[.lst odd18,.lst (odd18++odd7)]):=by
   simp only[addM,getL,at0]
   rw[if_pos (by decide)]
   simp
  unfold odd7 at ad
  simp![OD1,tupW,flsW,c0,c2,c4,c7,ad]
  rfl
 have s2:OD2 F [some (.int n),some (.ref (h.length+1))] (h++[.lst odd18,.lst (odd18++odd7)])=some (.nx [some (.int n),some (.ref (h.length+1))],h++[.lst odd18,.lst odd26]):=by
  have e1:(h++[.lst odd18,.lst (odd18++odd7)])[h.length+1]?=some (MO.lst (odd18++odd7)):=by
   rw[List.getElem?_append_right (by omega)]
   simp
  have e2:∀l,(h++([MO.lst odd18,MO.lst (odd18++odd7)]:MH)).set (h.length+1) (MO.lst l)=h++[.lst odd18,.lst l]:=fun l=>by
   rw[List.set_append_right _ _ (by omega)]
   simp
  have ap:appendM (.ref (h.length+1)) [.tup [.str "number",.int 0]] (h++[.lst odd18,.lst (odd18++odd7)])=some (.non,h++[.lst odd18,.lst odd26]):=by
   simp only[appendM,e1]
   rw[if_pos (by decide),e2]
   rfl
  have gl:getL (h++[.lst odd18,.lst (odd18++odd7)]) (.ref (h.length+1))=some (odd18++odd7):=by simp only[getL,e1]
  simp![OD2,eMethL,gl,tupW,c2,ap]
 have s3:OD3 F [some (.int n),some (.ref (h.length+1))] (h++[.lst odd18,.lst odd26])=some (.ret v,h++[.lst odd18,.lst odd26]):=by
  have e1:(h++[.lst odd18,.lst odd26])[h.length+1]?=some (MO.lst odd26):=by
   rw[List.getElem?_append_right (by omega)]
   simp
  have ix:ixW (.ref (h.length+1)) (.int (n%26)) (h++[.lst odd18,.lst odd26])=some (v,h++[.lst odd18,.lst odd26]):=by
   simp only[ixW,getL,e1,ev]
  simp![OD3,modW,ix]
 have hs:b_f_law_odd F [some (.int n),none] h=some (.ret v,h++[.lst odd18,.lst odd26]):=by
  rw[OD_row,seq_nx s0,seq_nx s1,seq_nx s2,s3]
 simp only[fnM,List.length_cons,List.length_nil,if_true,List.map_cons,List.map_nil,List.replicate,List.cons_append,List.nil_append]
 simp only[hs]
theorem s_odd{F:Fs}(n:Int):∃v,dt 3 v=true∧∀h,(step F).f_law_odd [.int n] h=some (v,h):=by
 obtain⟨v,hv,e⟩:=s_odd' (F:=F) n
 exact⟨v,List.all_eq_true.mp odd_dt v hv,e⟩
theorem cut_mem{l:List W}{lo hi:Option Int}{v:W}(h:v∈cutW l lo hi):v∈l:=List.mem_of_mem_drop (List.mem_of_mem_take h)
theorem cut_len(l:List W)(lo hi:Option Int):(cutW l lo hi).length≤l.length:=by
 unfold cutW
 rw[List.length_take,List.length_drop]
 omega
theorem str_all:((_root_.List.range 1009).all fun n=>decide (n.log2<1920)&&dt 1 (.str (toString (n:Int))))=true:=by decide +kernel
theorem str_ok{i:Int}(h0:0≤i)(h1:i≤1008):dt 1 (.str (toString i))=true∧∀h,strW [.int i] h=some (.str (toString i),h):=by
 obtain⟨n,rfl⟩:=Int.eq_ofNat_of_zero_le h0
 have:=List.all_eq_true.mp str_all n (List.mem_range.mpr (by omega))
 rw[Bool.and_eq_true] at this
 refine⟨this.2,fun h=>?_⟩
 have q:((n:Int)).natAbs.log2<1920:=by simpa using this.1
 simp only[strW]
 rw[if_pos q]
theorem dt_sub{n:Nat}{l l':List W}(hd:∀v∈l,dt n v=true)(hl:l'.length≤1000)(h:∀v∈l',v∈l):dt (n+1) (.tup l')=true:=dt_of hl fun v hv=>hd v (h v hv)
noncomputable abbrev ρS(w:W)(num deep:Int)(o3 o4:Option W):En:=[some w,some (.int num),some (.int deep),o3,o4]
theorem and3{t1 t2 t3:MT}{ρ:En}{h:MH}{b1 b2 b3:Bool}(e1:t1 ρ h=some (b1,h))(e2:t2 ρ h=some (b2,h))(e3:t3 ρ h=some (b3,h)):tAndM t1 (tAndM t2 t3) ρ h=some (b1&&(b2&&b3),h):=by
 cases b1<;>cases b2<;>simp![e1,e2,e3]
theorem and2{t1 t2:MT}{ρ:En}{h:MH}{b1 b2:Bool}(e1:t1 ρ h=some (b1,h))(e2:t2 ρ h=some (b2,h)):tAndM t1 t2 ρ h=some (b1&&b2,h):=by
 cases b1<;>simp![e1,e2]
theorem half{num deep:Int}{w:W}{o3 o4:Option W}{h:MH}:tVal (eOp (eqW false) (eOp modW (eOp divW (eVar 1) (eC (.int 7))) (eC (.int 2))) (eC (.int 0))) (ρS w num deep o3 o4) h=some (num/7%2==0,h):=by
 simp![divW,modW,eqB_int]
theorem spoilt_odd{G:Fs}{w:W}{num deep:Int}{n:Nat}(eO:∃v,dt 3 v=true∧∀h,G.f_law_odd [.int (num/7)] h=some (v,h))(e:∀h,sSeq (SP0 G) (sSeq (SP1 G) (sSeq (SP2 G) (SP3 G))) (ρS w num deep none none) h=SP3 G (ρS w num deep none none) h) :
  ∃v,dt (n+3) v=true∧∀h,b_f_law_spoilt G (ρS w num deep none none) h=some (.ret v,h):=by
 obtain⟨v,dv,ev⟩:=eO
 refine⟨v,dt_mono dv (by omega),fun h=>?_⟩
 rw[SP_row,e]
 simp![SP3,divW,ev]
theorem s_spoilt{F:Fs}:∀(n:Nat) (w:W) (num deep:Int),pl n w=true→∃v,dt (n+3) v=true∧∀h,(up (n+1) F).f_law_spoilt [w,.int num,.int deep] h=some (v,h)
 | 0,_,_,_,p=>by cases p
 | n+1,w,num,deep,p=>by
  have ih:=fun(w:W) (num deep:Int) (p:pl n w=true)=>s_spoilt (F:=F) n w num deep p
  have eO:=s_odd (F:=up n F) (num/7)
  show ∃v,dt (n+1+3) v=true∧∀h,gc (fnM 3 2 (b_f_law_spoilt (up (n+1) F))) [w,.int num,.int deep] h=some (v,h)
  rw[show step (up n F)=up (n+1) F from rfl] at eO
  generalize up (n+1) F=G at ih eO
  suffices hs:∃v,dt (n+1+3) v=true∧∀h,b_f_law_spoilt G (ρS w num deep none none) h=some (.ret v,h) by
   obtain⟨v,dv,ev⟩:=hs
   refine⟨v,dv,fun h=>gc_dt ?_ dv⟩
   simp only[fnM,List.length_cons,List.length_nil,if_true,List.map_cons,List.map_nil,List.replicate,List.cons_append,List.nil_append]
   have:=ev h
   simp only[ρS] at this
   simp only[this]
  have d:=pl_dt p
  have tT:∀h,tVal (eUn (isW .tuple) (eVar 0)) (ρS w num deep none none) h=some (tyB .tuple w,h):=fun h=>by simp![isW_dt d]
  have tI:∀h,tVal (eUn (isW .int) (eVar 0)) (ρS w num deep none none) h=some (tyB .int w,h):=fun h=>by simp![isW_dt d]
  have c6:(6:Nat)≤cap:=by decide
  have r6:0≤num/14%6∧num/14%6<6:=⟨Int.emod_nonneg _ (by omega),Int.emod_lt_of_pos _ (by omega)⟩
  cases w with
  | non=>cases p
  | bl b=>cases p
  | fls l=>cases p
  | ref l=>cases p
  | fdc l=>cases p
  | fn l=>cases p
  | str x=>
   refine spoilt_odd eO fun h=>?_
   have z0:SP0 G (ρS (.str x) num deep none none) h=some (.nx (ρS (.str x) num deep none none),h):=by
    by_cases k:0<deep<;>simp![SP0,cmpI,isW_dt d,tyB,k]
   rw[seq_nx z0,seq_nx (ρ':=ρS (.str x) num deep none none) (h':=h) (by simp![SP1,isW_dt d,tyB]),seq_nx (ρ':=ρS (.str x) num deep none none) (h':=h) (by simp![SP2,isW_dt d,tyB])]
  | int i=>
   have z0:∀h,SP0 G (ρS (.int i) num deep none none) h=some (.nx (ρS (.int i) num deep none none),h):=fun h=>by
    by_cases k:0<deep<;>simp![SP0,cmpI,isW_dt d,tyB,k]
   have z1:∀h,SP1 G (ρS (.int i) num deep none none) h=some (.nx (ρS (.int i) num deep none none),h):=fun h=>by
    simp![SP1,isW_dt d,tyB]
   have hi:0≤i∧i≤1008:=by
    unfold pl at p
    rw[Bool.and_eq_true] at p
    exact⟨of_decide_eq_true p.1,of_decide_eq_true p.2⟩
   obtain⟨ds,es⟩:=str_ok hi.1 hi.2
   cases k:(num/7%2==0) with
   | false=>
    refine spoilt_odd eO fun h=>?_
    rw[seq_nx (z0 h),seq_nx (z1 h)]
    refine seq_nx ?_
    unfold SP2
    exact if_no ((and2 (tI h) half).trans (by rw[k]; simp))
   | true=>
    obtain⟨v,hv,ev⟩:=ix_fls (l:=[.str (toString i),.int (0-i),.int (i+1),.bl (i==1),.int (i-1),.int (i+9)]) (i:=num/14%6) r6.1 (by simpa using r6.2)
    have dv:dt (n+1+3) v=true:=by
     simp only[List.mem_cons,List.not_mem_nil,or_false] at hv
     rcases hv with rfl | rfl | rfl | rfl | rfl | rfl
     .exact dt_mono ds (by omega)
     all_goals rfl
    refine⟨v,dv,fun h=>?_⟩
    rw[SP_row,seq_nx (z0 h),seq_nx (z1 h)]
    refine seq_if_ret ((and2 (tI h) half).trans (by rw[k]; rfl)) ?_
    have sb:∀h,subW (.int 0) (.int i) h=some (.int (0-i),h):=fun h=>rfl
    have sb1:∀h,subW (.int i) (.int 1) h=some (.int (i-1),h):=fun h=>rfl
    have ad1:∀h,addW (.int i) (.int 1) h=some (.int (i+1),h):=fun h=>rfl
    have ad9:∀h,addW (.int i) (.int 9) h=some (.int (i+9),h):=fun h=>rfl
    have eb:∀h,eqB h (.int i) (.int 1)=some (i==1):=fun h=>rfl
    have dm:∀h,divW (.int num) (.int 14) h=some (.int (num/14),h):=fun h=>rfl
    have mm:∀h,modW (.int (num/14)) (.int 6) h=some (.int (num/14%6),h):=fun h=>rfl
    generalize W.str (toString i)=i0 at ev es
    generalize 0-i=i1 at ev sb
    generalize i-1=i2 at ev sb1
    generalize i+1=i3 at ev ad1
    generalize i+9=i4 at ev ad9
    generalize (i==1)=i5 at ev eb
    generalize num/14%6=i6 at ev mm
    simp![es,sb,sb1,ad1,ad9,eb,flsW,c6,dm,mm,ev]
  | tup l=>
   obtain⟨m,e,hl,hd⟩:=pl_tup p
   cases e
   have hdd:∀v∈l,dt n v=true:=fun v hv=>pl_dt (hd v hv)
   have tL:∀h,tVal (eOp gtW (eArgs lenW [(eVar 0)]) (eC (.int 0))) (ρS (.tup l) num deep none none) h=some (decide (0<(l.length:Int)),h):=fun h=>by simp![lenW,cmpI]
   have tD:∀h,tVal (eOp gtW (eVar 2) (eC (.int 0))) (ρS (.tup l) num deep none none) h=some (decide (0<deep),h):=fun h=>by simp![cmpI]
   have t7:∀h,tVal (eOp gtW (eOp modW (eVar 1) (eC (.int 7))) (eC (.int 0))) (ρS (.tup l) num deep none none) h=some (decide (0<num%7),h):=fun h=>by simp![modW,cmpI]
   have tA:∀h,(tAndM (tVal (eOp gtW (eVar 2) (eC (.int 0)))) (tAndM (tVal (eUn (isW .tuple) (eVar 0))) (tAndM (tVal (eOp gtW (eArgs lenW [(eVar 0)]) (eC (.int 0)))) (tVal (eOp gtW (eOp modW (eVar 1) (eC (.int 7))) (eC (.int 0))))))) (ρS (.tup l) num deep none none) h=some (decide (0<deep)&&(tyB .tuple (.tup l)&&(decide (0<(l.length:Int))&&decide (0<num%7))),h):=fun h=>and3 (tD h) (tT h) (and2 (tL h) (t7 h))
   cases k:(decide (0<deep)&&(tyB .tuple (.tup l)&&(decide (0<(l.length:Int))&&decide (0<num%7)))) with
   | true=>
    have k0:=k
    rw[Bool.and_eq_true,Bool.and_eq_true,Bool.and_eq_true] at k
    have hp:(0:Int)<(l.length:Int):=of_decide_eq_true k.2.2.1
    have rg:0≤num/7%(l.length:Int)∧num/7%(l.length:Int)<(l.length:Int):=⟨Int.emod_nonneg _ (by omega),Int.emod_lt_of_pos _ hp⟩
    have lt:∀h,lenW [.tup l] h=some (.int (l.length:Int),h):=fun h=>rfl
    have md:∀h,modW (.int (num/7)) (.int (l.length:Int)) h=some (.int (num/7%(l.length:Int)),h):=fun h=>by simp only[modW]; rw[if_pos hp]
    obtain⟨j,hj⟩:=Int.eq_ofNat_of_zero_le rg.1
    rw[hj] at rg md
    obtain⟨u,hu,eu⟩:=ix_tup (l:=l) rg.1 rg.2
    obtain⟨v,dv,ev⟩:=ih u (num/91) (deep-1) (hd u hu)
    have t1:=cut_to (l:=l) (k:=j) (by omega)
    have t2:=cut_from (l:=l) (k:=j+1)
    have s1:∀h,slW (.tup l) none (some (j:Int)) h=some (.tup (l.take j),h):=fun h=>by simp only[slW,t1]
    have s2:∀h,slW (.tup l) (some ((j:Int)+1)) none h=some (.tup (l.drop (j+1)),h):=fun h=>by
     simp only[slW]
     have:((j+1:Nat):Int)=(j:Int)+1:=by omega
     rw[←this,t2]
    have a1:∀h,addW (.tup (l.take j)) (.tup [v]) h=some (.tup (l.take j++[v]),h):=fun h=>by
     simp only[addW,addI,List.length_cons,List.length_nil,List.length_take]
     rw[if_pos (Nat.le_trans (show min j l.length+(0+1)≤10 by omega) (by decide))]
    have a2:∀h,addW (.tup (l.take j++[v])) (.tup (l.drop (j+1))) h=some (.tup (l.take j++[v]++l.drop (j+1)),h):=fun h=>by
     simp only[addW,addI,List.length_append,List.length_cons,List.length_nil,List.length_take,List.length_drop]
     rw[if_pos (Nat.le_trans (show min j l.length+(0+1)+(l.length-(j+1))≤20 by omega) (by decide))]
    have a3:∀h,addW (.int (j:Int)) (.int 1) h=some (.int ((j:Int)+1),h):=fun h=>rfl
    have c1:(1:Nat)≤cap:=by decide
    refine⟨.tup (l.take j++[v]++l.drop (j+1)),?_,fun h=>?_⟩
    .refine dt_of (n:=n+3) ?_ fun z hz=>?_
     .simp only[List.length_append,List.length_cons,List.length_nil,List.length_take,List.length_drop]; omega
     .rcases List.mem_append.mp hz with y | y
      .rcases List.mem_append.mp y with y | y
       .exact dt_mono (hdd z (List.mem_of_mem_take y)) (by omega)
       .simp at y; subst y; exact dv
      .exact dt_mono (hdd z (List.mem_of_mem_drop y)) (by omega)
    .rw[SP_row]
     refine seq_if_ret ((tA h).trans (by rw[k0])) ?_
     rw[seq_nx (ρ':=ρS (.tup l) num deep (some (.int (j:Int))) none) (h':=h) (by simp![divW,lt,md])]
     rw[seq_nx (ρ':=ρS (.tup l) num deep (some (.int (j:Int))) (some v)) (h':=h) (by simp![eu,divW,subW,ev])]
     simp![eSl,mPart,s1,s2,a1,a2,a3,tupW,c1]
   | false=>
    have z0:∀h,SP0 G (ρS (.tup l) num deep none none) h=some (.nx (ρS (.tup l) num deep none none),h):=fun h=>if_no ((tA h).trans (by rw[k]))
    have tB:∀h,(tAndM (tVal (eUn (isW .tuple) (eVar 0))) (tAndM (tVal (eOp gtW (eArgs lenW [(eVar 0)]) (eC (.int 0)))) (tVal (eOp (eqW false) (eOp modW (eOp divW (eVar 1) (eC (.int 7))) (eC (.int 2))) (eC (.int 0)))))) (ρS (.tup l) num deep none none) h=some (tyB .tuple (.tup l)&&(decide (0<(l.length:Int))&&(num/7%2==0)),h):=fun h=>and3 (tT h) (tL h) half
    cases k2:(tyB .tuple (.tup l)&&(decide (0<(l.length:Int))&&(num/7%2==0))) with
    | false=>
     refine spoilt_odd eO fun h=>?_
     have z1:SP1 G (ρS (.tup l) num deep none none) h=some (.nx (ρS (.tup l) num deep none none),h):=if_no ((tB h).trans (by rw[k2]))
     rw[seq_nx (z0 h),seq_nx z1,seq_nx (ρ':=ρS (.tup l) num deep none none) (h':=h) (by simp![SP2,isW_dt d,tyB])]
    | true=>
     obtain⟨v,hv,ev⟩:=ix_fls (l:=[.fls l,.tup (cutW l none (some (-1))),.tup (l++cutW l (some (-1)) none),.tup (cutW l (some 1) none),.tup l.reverse,.tup (List.replicate 2 l).flatten]) (i:=num/14%6) r6.1 (by simpa using r6.2)
     have q1:=cut_len l none (some (-1))
     have q2:=cut_len l (some (-1)) none
     have q3:=cut_len l (some 1) none
     have dv:dt (n+1) v=true:=by
      simp only[List.mem_cons,List.not_mem_nil,or_false] at hv
      rcases hv with rfl | rfl | rfl | rfl | rfl | rfl
      .exact dt_fls (by omega) hdd
      .exact dt_sub hdd (by omega) fun v hv=>cut_mem hv
      .exact dt_sub hdd (by simp; omega) fun v hv=>by
        rcases List.mem_append.mp hv with z | z
        .exact z
        .exact cut_mem z
      .exact dt_sub hdd (by omega) fun v hv=>cut_mem hv
      .exact dt_sub hdd (by simp; omega) fun v hv=>List.mem_reverse.mp hv
      .exact dt_sub hdd (by simp[List.replicate]; omega) fun v hv=>by
        simp[List.replicate] at hv; exact hv
     refine⟨v,dt_mono dv (by omega),fun h=>?_⟩
     have ad:∀h,addW (.tup l) (.tup (cutW l (some (-1)) none)) h=some (.tup (l++cutW l (some (-1)) none),h):=fun h=>by
      simp only[addW,addI]
      rw[if_pos (Nat.le_trans (show l.length+(cutW l (some (-1)) none).length≤10 by omega) (by decide))]
     have mu:∀h,mulW (.tup l) (.int 2) h=some (.tup (List.replicate 2 l).flatten,h):=fun h=>by
      simp only[mulW]
      rw[if_pos ⟨by omega,by omega,by omega⟩]
      rfl
     have sl:∀lo hi h,slW (.tup l) lo hi h=some (.tup (cutW l lo hi),h):=fun lo hi h=>rfl
     have dm:∀h,divW (.int num) (.int 14) h=some (.int (num/14),h):=fun h=>rfl
     have mm:∀h,modW (.int (num/14)) (.int 6) h=some (.int (num/14%6),h):=fun h=>rfl
     generalize num/14%6=i6 at ev mm
     have s1:=sl none (some (-1))
     have s2:=sl (some (-1)) none
     have s3:=sl (some 1) none
     have rv:∀h,revW (.tup l) h=some (.tup l.reverse,h):=fun h=>rfl
     have lw:∀h,listW [.tup l] h=some (.fls l,h):=fun h=>rfl
     have ng:∀h,negW (.int 1) h=some (.int (-1),h):=fun h=>rfl
     generalize (List.replicate 2 l).flatten=Z at ev mu
     generalize cutW l (some (-1)) none=Y1 at ev ad s2
     generalize cutW l none (some (-1))=Y2 at ev s1
     generalize cutW l (some 1) none=Y3 at ev s3
     generalize l++Y1=Y4 at ev ad
     generalize l.reverse=Y5 at ev rv
     rw[SP_row,seq_nx (z0 h)]
     refine seq_if_ret ((tB h).trans (by rw[k2])) ?_
     simp![eSl,mPart,s1,s2,s3,rv,lw,ng,ad,mu,flsW,c6,dm,mm,ev]
noncomputable def goodK(k:List Str):Bool:=decide (k.length≤4)&&k.all fun x=>PyData.strOk x&&decide (x.length≤1000)
theorem tupS_pl{k:List Str}(g:goodK k=true):pl 2 (tupS k)=true:=by
 unfold goodK at g
 rw[Bool.and_eq_true] at g
 unfold tupS pl
 rw[Bool.and_eq_true]
 refine⟨by simpa using g.1,List.all_eq_true.mpr fun w hw=>?_⟩
 obtain⟨x,hx,rfl⟩:=List.mem_map.mp hw
 exact List.all_eq_true.mp g.2 x hx
theorem tupS_dt{k:List Str}(g:goodK k=true):dt 2 (tupS k)=true:=pl_dt (tupS_pl g)
theorem dt_tups{ks:List (List Str)}(hl:ks.length≤1000)(g:∀k∈ks,goodK k=true):dt 3 (.fls (ks.map tupS))=true:=dt_fls (by simpa using hl) fun w hw=>by
 obtain⟨k,hk,rfl⟩:=List.mem_map.mp hw
 exact tupS_dt (g k hk)
theorem strsOf_map:∀k:List Str,strsOf (k.map .str)=some k
 | []=>rfl
 | x::r=>by simp only[List.map_cons]; unfold strsOf; rw[strsOf_map r]
theorem tkOf_tupS(k:List Str):tkOf (tupS k)=some k:=strsOf_map k
theorem tksOf_map:∀ks:List (List Str),tksOf (ks.map tupS)=some ks
 | []=>rfl
 | k::r=>by simp only[List.map_cons,tksOf,tkOf_tupS,tksOf_map r]; rfl
theorem eqv_strs:∀(n:Nat) (k:List Str) (l:List W),(∀w∈l,dt n w=true)→PyData.eqvAll (k.map .str) (l.map (toD n))=decide (strsOf l=some k)
 | n,[],[],_=>by simp[PyData.eqvAll,strsOf]
 | n,[],w::l,_=>by
  simp only[List.map_nil,List.map_cons,PyData.eqvAll]
  refine(decide_eq_false fun e=>?_).symm
  have:=strs_eq e
  cases this
 | n,x::k,[],_=>by simp[PyData.eqvAll,strsOf]
 | n,x::k,w::l,h=>by
  have ih:=eqv_strs n k l fun w hw=>h w (List.mem_cons_of_mem _ hw)
  have hw:=h w List.mem_cons_self
  simp only[List.map_cons,PyData.eqvAll,ih]
  cases n with
  | zero=>cases hw
  | succ n=>
   cases w with
   | ref _=>cases hw
   | fdc _=>cases hw
   | fn _=>cases hw
   | str y=>
    simp only[toD,PyData.eqv]
    by_cases e1:x=y
    .subst e1
     simp only[beq_self_eq_true,Bool.true_and,decide_eq_decide]
     constructor
     .intro e; unfold strsOf; rw[e]
     .intro e
      unfold strsOf at e
      split at e
      .rename_i l' e'; cases e; exact e'
      .cases e
    .have:(x==y)=false:=beq_eq_false_iff_ne.mpr e1
     rw[this,Bool.false_and]
     refine(decide_eq_false fun e=>?_).symm
     unfold strsOf at e
     split at e
     .cases e; exact e1 rfl
     .cases e
   | _=>
    simp only[toD,PyData.eqv,Bool.false_and]
    refine(decide_eq_false fun e=>?_).symm
    cases e
theorem eqv_tupS{n:Nat}{k:List Str}{w:W}(d:dt n w=true):PyData.eqv (.tuple (k.map .str)) (toD n w)=decide (tkOf w=some k):=by
 cases n with
 | zero=>cases d
 | succ n=>
  cases w with
  | ref _=>cases d
  | fdc _=>cases d
  | fn _=>cases d
  | tup l=>
   unfold dt at d
   rw[Bool.and_eq_true] at d
   simp only[toD,PyData.eqv]
   exact eqv_strs n k l (List.all_eq_true.mp d.2)
  | _=>
   simp only[toD,PyData.eqv]
   refine(decide_eq_false fun e=>?_).symm
   cases e
noncomputable def memK(ks:List (List Str))(w:W):Bool:=ks.any fun k=>decide (tkOf w=some k)
theorem memK_tupS(ks:List (List Str))(k:List Str):memK ks (tupS k)=ks.contains k:=by
 unfold memK
 rw[tkOf_tupS,List.contains_eq_any_beq]
 congr 1
 funext x
 by_cases e:k=x
 .subst e; simp
 .have:(k==x)=false:=beq_eq_false_iff_ne.mpr e
  simp[e]
theorem toD_tupS(k:List Str):toD 2 (tupS k)=.tuple (k.map .str):=by
 unfold tupS toD
 simp only[List.map_map]
 congr 1
theorem data_tups{h:MH}{ks:List (List Str)}(g:∀k∈ks,goodK k=true):mapO (dataW deep h) (ks.map tupS)=some (ks.map fun k=>.tuple (k.map .str)):=by
 rw[mapO_of (g:=toD 2) fun w hw=>?_]
 .rw[List.map_map]
  congr 1
  exact List.map_congr_left fun k _=>toD_tupS k
 .obtain⟨k,hk,rfl⟩:=List.mem_map.mp hw
  exact dataW_dt (tupS_dt (g k hk)) (show 2≤deep by decide)
theorem inB_tks{n:Nat}{w y:W}{ks:List (List Str)}{h:MH}(d:dt n w=true)(hn:n≤60)(g:∀k∈ks,goodK k=true)(hy:seqOf h y=some (ks.map tupS))(hns:∀z,y≠.str z):inB h w y=some (memK ks w):=by
 have e1:=dataW_dt (h:=h) d (show n≤deep from hn)
 have e3:inB h w y=match seqOf h y with
  | some l=>match dataW deep h w,mapO (dataW deep h) l with
   | some d,some ds=>some (ds.any fun e=>PyData.eqv e d)
   | _,_=>none
  | none=>none:=by
  unfold inB
  split
  .rename_i j
   exact absurd rfl (hns _)
  .rfl
 rw[e3,hy]
 simp only[e1,data_tups g]
 congr 1
 rw[List.any_map]
 unfold memK
 congr 1
 funext k
 exact eqv_tupS d
noncomputable def kR:List (List Str):=[["read","a"],["read","b"],["read","c"],["read","d"]]
noncomputable def kW:List (List Str):=[["write","a"],["write","b"],["write","c"],["write","d"]]
noncomputable def kL(hs:List Str):List (List Str):=kR++kW++([["say"],["ask"]]:List (List Str))++hs.map fun x=>[("do":Str),x]
noncomputable def hnd:List (List Str):=[[],["f"],["f","g1"]]
theorem kL_good:∀hs∈hnd,∀k∈kL hs,goodK k=true:=by decide +kernel
theorem kL_len:∀hs∈hnd,(kL hs).length≤12:=by decide +kernel
theorem hs_ok:∀hs∈hnd,hs.all PyData.strOk=true:=by decide +kernel
theorem low_tupS{m:Nat}(k:List Str):low m (tupS k)=true:=by
 unfold tupS low
 exact lows_of fun w hw=>by
  obtain⟨x,_,rfl⟩:=List.mem_map.mp hw
  unfold low; rfl
theorem comp_pre{mi:MI}{v:Str}{ρ:En}{h:MH}{xs:List Str}(hx:xs.length≤100)(hm:mi ρ h=some (.items (strsW xs),h)):eComp mi 1 [] (gNm 0) tTrue (eArgs tupW [(eC (.str v)),(eVar 0)]) ρ h=some (.fls (xs.map fun x=>tupS [v,x]),h):=by
 refine(comp1 (l:=strsW xs) (fun _=>true) (fun w=>.tup [.str v,w]) hm ?_ ?_ ?_ ?_).trans ?_
 .intro w _ H'; rfl
 .intro w hw _ H'; simp![tupW,cap]
 .intro w hw _
  obtain⟨x,_,rfl⟩:=List.mem_map.mp hw
  exact low_tupS [v,x]
 .simp only[strsW,List.length_map]; exact Nat.le_trans hx (by decide)
 .rw[List.filter_eq_self.mpr fun _ _=>rfl]
  unfold strsW tupS
  rw[List.map_map]
  rfl
theorem add_fls{a b:List W}(h:MH)(hl:a.length+b.length≤1000):addW (.fls a) (.fls b) h=some (.fls (a++b),h):=by
 simp only[addW,addI,getL]
 rw[if_pos (Nat.le_trans hl (by decide))]
theorem s_let{F:Fs}{hs:List Str}{h:MH}(hh:hs∈hnd):(step F).f_marks_let [.tup (strsW hs)] h=some (.fls ((kL hs).map tupS),h):=by
 refine gc_dt (n:=3) ?_ (dt_tups (Nat.le_trans (kL_len hs hh) (by decide)) (kL_good hs hh))
 have hl:hs.length≤2:=by revert hs; decide +kernel
 have e1:∀(ρ:En) (h:MH),eComp (iSeq (eC c_SHELVES)) 1 [] (gNm 0) tTrue (eArgs tupW [(eC (.str "read")),(eVar 0)]) ρ h=some (.fls (kR.map tupS),h):=fun ρ h=>comp_pre (mi:=iSeq (eC c_SHELVES)) (v:="read") (ρ:=ρ) (h:=h) (xs:=["a","b","c","d"]) (by decide) (by simp![iSeq,c_SHELVES,srcOf,strsW])
 have e2:∀(ρ:En) (h:MH),eComp (iSeq (eC c_SHELVES)) 1 [] (gNm 0) tTrue (eArgs tupW [(eC (.str "write")),(eVar 0)]) ρ h=some (.fls (kW.map tupS),h):=fun ρ h=>comp_pre (mi:=iSeq (eC c_SHELVES)) (v:="write") (ρ:=ρ) (h:=h) (xs:=["a","b","c","d"]) (by decide) (by simp![iSeq,c_SHELVES,srcOf,strsW])
 have e3:=fun(o1 o2:Option W) (h:MH)=>comp_pre (mi:=iSeq (eVar 0)) (v:="do") (ρ:=[some (.tup (strsW hs)),o1,o2]) (h:=h) (xs:=hs) (by omega) (by simp![iSeq,srcOf])
 have a1:=fun h=>add_fls (a:=kR.map tupS) (b:=kW.map tupS) h (by decide)
 have a2:=fun h=>add_fls (a:=kR.map tupS++kW.map tupS) (b:=[tupS ["say"],tupS ["ask"]]) h (by decide)
 have a3:=fun h=>add_fls (a:=kR.map tupS++kW.map tupS++[tupS ["say"],tupS ["ask"]]) (b:=hs.map fun x=>tupS ["do",x]) h (by simp[kR,kW]; omega)
 have er:kR.map tupS++kW.map tupS++[tupS ["say"],tupS ["ask"]]++(hs.map fun x=>tupS ["do",x])=(kL hs).map tupS:=by
  unfold kL
  simp only[List.map_append,List.map_map,List.map_cons,List.map_nil]
  rfl
 have c1:(1:Nat)≤cap:=by decide
 have c2:(2:Nat)≤cap:=by decide
 have t1:tupS ["say"]=.tup [.str "say"]:=rfl
 have t2:tupS ["ask"]=.tup [.str "ask"]:=rfl
 rw[er] at a3
 rw[t1,t2] at a2 a3
 generalize (hs.map fun x=>tupS ["do",x])=D at e3 a3
 generalize kR.map tupS++kW.map tupS++[.tup [.str "say"],.tup [.str "ask"]]=E at a2 a3
 generalize kR.map tupS++kW.map tupS=B at a1 a2
 generalize kR.map tupS=A at e1 a1
 generalize kW.map tupS=A2 at e2 a1
 generalize (kL hs).map tupS=Z at a3
 generalize strsW hs=hw at e3
 have row:b_f_marks_let F [some (.tup hw),none,none] h=some (.ret (.fls Z),h):=by
  unfold b_f_marks_let
  rw[seq_nx (ρ':=[some (.tup hw),some (.fls A),none]) (h':=h) (by simp[sAsg,bnd,e1,gNm])]
  rw[seq_nx (ρ':=[some (.tup hw),some (.fls A),some (.fls A2)]) (h':=h) (by simp[sAsg,bnd,e2,gNm])]
  simp![a1,a2,a3,e3,tupW,flsW,c1,c2]
 simp only[fnM,List.length_cons,List.length_nil,if_true,List.map_cons,List.map_nil,List.replicate,List.cons_append,List.nil_append]
 simp only[row]
noncomputable def markB(hs:List Str)(w:W):Bool:=memK (kL hs) w
theorem mem_two(hs:List Str)(x y:Str):(kL hs).contains [x,y]=(if x=="do" then hs.any (· == y) else ((["read","write"]:List Str).any (· == x)&&(["a","b","c","d"]:List Str).any (· == y))):=by
 have e:∀a b:Str,([x,y]==[a,b])=(x==a&&y==b):=fun a b=>by
  show(x==a&&(y==b&&([]==([]:List Str))))=_
  simp
 have e1:∀a:Str,([x,y]==[a])=false:=fun a=>by
  show(x==a&&false)=false
  simp
 have sy:∀a b:Str,(a==b)=(b==a):=fun a b=>BEq.comm
 unfold kL kR kW
 rw[List.contains_eq_any_beq]
 simp only[List.any_append,List.any_cons,List.any_nil,List.any_map,Function.comp_def,e,e1]
 by_cases h1:x="do"
 .subst h1
  have q1:(("do":Str)=="read")=false:=by decide +kernel
  have q2:(("do":Str)=="write")=false:=by decide +kernel
  simp only[q1,q2,Bool.false_and,Bool.or_false,Bool.false_or,beq_self_eq_true,Bool.true_and,if_true]
  congr 1
  funext z
  exact sy _ _
 .have q:(x=="do")=false:=beq_eq_false_iff_ne.mpr h1
  have q3:(hs.any fun z=>x=="do" && y==z)=false:=by simp[q]
  simp only[q3,q,Bool.or_false,if_false,Bool.false_eq_true]
  simp only[sy x,sy y]
  cases ("read" == x)<;>cases ("write" == x)<;>simp
theorem kL_len2:∀hs∈hnd,∀k∈kL hs,k.length=2∨k=[("say":Str)]∨k=[("ask":Str)]:=by decide +kernel
theorem memK_false{ks:List (List Str)}{w:W}(h:∀k∈ks,tkOf w≠some k):memK ks w=false:=by
 unfold memK
 rw[List.any_eq_false]
 intro k hk
 simpa using h k hk
theorem memK_none{ks:List (List Str)}{w:W}(h:tkOf w=none):memK ks w=false:=memK_false fun k _=>by rw[h]; exact nofun
theorem say_in:∀hs∈hnd,[("say":Str)]∈kL hs∧[("ask":Str)]∈kL hs:=by decide +kernel
theorem memK_of{ks:List (List Str)}{w:W}(h:memK ks w=true):∃k∈ks,tkOf w=some k:=by
 unfold memK at h
 obtain⟨k,hk,e⟩:=List.any_eq_true.mp h
 exact⟨k,hk,of_decide_eq_true e⟩
theorem memK_mk{ks:List (List Str)}{w:W}{k:List Str}(hk:k∈ks)(e:tkOf w=some k):memK ks w=true:=List.any_eq_true.mpr ⟨k,hk,decide_eq_true e⟩
noncomputable def MK0(F:Fs):MS:=(sIf (tOrM (tNotM (tVal (eUn (isW .tuple) (eVar 0)))) (tVal (eOp (inW false) (eVar 0) (eArgs tupW [(eArgs tupW [(eC (.str "say"))]),(eArgs tupW [(eC (.str "ask"))])]))))
 (sRet (eUn (isW .tuple) (eVar 0)))
 sNext)
noncomputable def MK1(F:Fs):MS:=(sIf (tOrM (tVal (eOp (eqW true) (eArgs lenW [(eVar 0)]) (eC (.int 2)))) (tOrM (tNotM (tVal (eUn (isW .str) (eOp ixW (eVar 0) (eC (.int 0)))))) (tNotM (tVal (eUn (isW .str) (eOp ixW (eVar 0) (eC (.int 1))))))))
 (sRet (eC (.bl false)))
 sNext)
noncomputable def MK2(F:Fs):MS:=(sIf (tVal (eOp (eqW false) (eOp ixW (eVar 0) (eC (.int 0))) (eC (.str "do"))))
 (sRet (eOp (inW false) (eOp ixW (eVar 0) (eC (.int 1))) (eVar 1)))
 sNext)
noncomputable def MK3(F:Fs):MS:=(sRet (eAnd (eOp (inW false) (eOp ixW (eVar 0) (eC (.int 0))) (eArgs tupW [(eC (.str "read")),(eC (.str "write"))])) (eOp (inW false) (eOp ixW (eVar 0) (eC (.int 1))) (eArgs tupW [(eC (.str "a")),(eC (.str "b")),(eC (.str "c")),(eC (.str "d"))]))))
theorem MK_row(F:Fs):b_f_law_is_mark F=sSeq (MK0 F) (sSeq (MK1 F) (sSeq (MK2 F) (MK3 F))):=rfl
theorem s_mark{F:Fs}{hs:List Str}{w:W}{n:Nat}{h:MH}(hh:hs∈hnd)(d:dt n w=true)(hn:n≤60):(step F).f_law_is_mark [w,.tup (strsW hs)] h=some (.bl (markB hs w),h):=by
 refine gc_dt (n:=1) ?_ rfl
 have ho:=hs_ok hs hh
 suffices row:b_f_law_is_mark F [some w,some (.tup (strsW hs))] h=some (.ret (.bl (markB hs w)),h) by
  simp only[fnM,List.length_cons,List.length_nil,if_true,List.map_cons,List.map_nil,List.replicate,List.cons_append,List.nil_append]
  simp only[row]
 have c1:(1:Nat)≤cap:=by decide
 have c2:(2:Nat)≤cap:=by decide
 have c4:(4:Nat)≤cap:=by decide
 have sa:∀h,inB h w (.tup [.tup [.str "say"],.tup [.str "ask"]])=some (memK [["say"],["ask"]] w):=fun h=>inB_tks (ks:=[["say"],["ask"]]) d hn (by decide +kernel) rfl (fun z=>nofun)
 rw[MK_row]
 have nt:tyB .tuple w=false→sSeq (MK0 F) (sSeq (MK1 F) (sSeq (MK2 F) (MK3 F))) [some w,some (.tup (strsW hs))] h=some (.ret (.bl (markB hs w)),h):=by
  intro q
  have:markB hs w=false:=memK_none (by cases w<;>first | rfl | cases q)
  rw[this]
  refine seq_ret ?_
  simp![MK0,isW_dt d,q]
 cases w with
 | tup l=>
  cases q:memK [["say"],["ask"]] (.tup l) with
  | true=>
   have:markB hs (.tup l)=true:=by
    obtain⟨k,hk,e⟩:=memK_of q
    refine memK_mk (k:=k) ?_ e
    simp only[List.mem_cons,List.not_mem_nil,or_false] at hk
    rcases hk with rfl | rfl
    .exact(say_in hs hh).1
    .exact(say_in hs hh).2
   rw[this]
   refine seq_ret ?_
   rw[q] at sa
   simp![MK0,isW_dt d,tyB,tupW,c1,c2,sa]
  | false=>
   rw[q] at sa
   have nsay:∀k∈([["say"],["ask"]]:List (List Str)),tkOf (.tup l)≠some k:=fun k hk e=>by
    have:=memK_mk hk e
    rw[q] at this; cases this
   have r0:MK0 F [some (.tup l),some (.tup (strsW hs))] h=some (.nx [some (.tup l),some (.tup (strsW hs))],h):=by
    simp![MK0,isW_dt d,tyB,tupW,c1,c2,sa]
   rw[seq_nx r0]
   by_cases hl:l.length=2
   .match l,hl with
    | [a,b],_=>
     obtain⟨m,rfl,_,hd⟩:=dt_tup d
     have da:=hd a (by simp)
     have db:=hd b (by simp)
     have i0:∀h,ixW (.tup [a,b]) (.int 0) h=some (a,h):=fun h=>rfl
     have i1:∀h,ixW (.tup [a,b]) (.int 1) h=some (b,h):=fun h=>rfl
     have l2:∀h,lenW [.tup [a,b]] h=some (.int 2,h):=fun h=>rfl
     cases qa:tyB .str a with
     | false=>
      have:markB hs (.tup [a,b])=false:=memK_none (by cases a<;>first | rfl | cases qa)
      rw[this]
      refine seq_ret ?_
      simp![MK1,l2,eqB_int,i0,isW_dt da,qa]
     | true=>
      cases qb:tyB .str b with
      | false=>
       have:markB hs (.tup [a,b])=false:=memK_none (by cases b<;>first | (cases a<;>rfl) | cases qb)
       rw[this]
       refine seq_ret ?_
       simp![MK1,l2,eqB_int,i0,i1,isW_dt da,isW_dt db,qa,qb]
      | true=>
       cases a with
       | str x=>
        cases b with
        | str y=>
         have mt:markB hs (.tup [.str x,.str y])=(kL hs).contains [x,y]:=memK_tupS (kL hs) [x,y]
         rw[mt,mem_two]
         have r1:MK1 F [some (.tup [.str x,.str y]),some (.tup (strsW hs))] h=some (.nx [some (.tup [.str x,.str y]),some (.tup (strsW hs))],h):=by
          simp![MK1,l2,eqB_int,i0,i1,isW_dt da,isW_dt db,qa,qb]
         rw[seq_nx r1]
         have j1:∀h,inB h (.str y) (.tup (strsW hs))=some (hs.any (· == y)):=fun h=>inB_tups (h:=h) (w:=.str y) (l:=hs) db (by omega) ho
         have j2:∀h,inB h (.str x) (.tup [.str "read",.str "write"])=some ((["read","write"]:List Str).any (· == x)):=fun h=>inB_tups (h:=h) (w:=.str x) (l:=["read","write"]) da (by omega) (by decide +kernel)
         have j3:∀h,inB h (.str y) (.tup [.str "a",.str "b",.str "c",.str "d"])=some ((["a","b","c","d"]:List Str).any (· == y)):=fun h=>inB_tups (h:=h) (w:=.str y) (l:=["a","b","c","d"]) db (by omega) (by decide +kernel)
         cases qd:(x=="do") with
         | true=>
          refine(seq_ret (w:=.bl (hs.any (· == y))) (h':=h) ?_).trans (by simp)
          simp![MK2,i0,i1,eqB_str,qd,j1]
         | false=>
          rw[seq_nx (ρ':=[some (.tup [.str x,.str y]),some (.tup (strsW hs))]) (h':=h) (by simp![MK2,i0,eqB_str,qd])]
          simp only[Bool.false_eq_true,if_false]
          generalize (["read","write"]:List Str).any (· == x)=u1 at j2
          generalize (["a","b","c","d"]:List Str).any (· == y)=u2 at j3
          cases u1<;>simp![MK3,i0,i1,tupW,c2,c4,j2,j3]
        | _=>cases qb
       | _=>cases qa
   .have:markB hs (.tup l)=false:=memK_false fun k hk e=>by
     rcases kL_len2 hs hh k hk with z | z | z
     .have:=strs_eq (show strsOf l=some k from e)
      rw[this] at hl
      simp[z] at hl
     .exact nsay k (by simp[z]) e
     .exact nsay k (by simp[z]) e
    rw[this]
    refine seq_ret ?_
    have l2:∀h,lenW [.tup l] h=some (.int (l.length:Int),h):=fun h=>rfl
    have ne:((l.length:Int)==2)=false:=beq_eq_false_iff_ne.mpr (by omega)
    simp![MK1,l2,eqB_int,ne]
 | ref _=>cases n<;>cases d
 | fdc _=>cases n<;>cases d
 | fn _=>cases n<;>cases d
 | _=>exact nt rfl
theorem compN_pure{caps:En}{t:MT}{m:ME}{n n0:Nat}{h:MH}{L:List W}(hn:h.length=n0)(hL:h[n]?=some (.lst L))(p:W→Bool)(f:W→W)
  (ht:∀w∈L,∀H',t (some w::caps) H'=some (p w,H')) (hf:∀w∈L,p w=true→∀H',m (some w::caps) H'=some (f w,H')):∀(k i:Nat) (acc:List W) (o:Option W),L.length+1≤i+k→i≤L.length→acc.length+(L.length-i)≤cap→
  compN (.live n) 1 (gNm 0) t m n0 k i (o::caps) (h++[.lst acc])=some (h++[.lst (acc++((L.drop i).filter p).map f)])
 | 0,i,acc,o,h1,h2,_=>by omega
 | k+1,i,acc,o,h1,h2,hl=>by
  have ih:=fun acc'=>compN_pure (caps:=caps) (t:=t) (m:=m) hn hL p f ht hf k (i+1) acc' none
  have hlt:n<h.length:=(List.getElem?_eq_some_iff.mp hL).1
  have sa:srcAt (.live n) i (h++[MO.lst acc])=some L[i]?:=by
   show(match (h++[MO.lst acc])[n]? with | some (.lst l)=>some l[i]? | _=>none)=_
   rw[List.getElem?_append_left hlt,hL]
  unfold compN
  by_cases hi:i<L.length
  .have e0:L[i]?=some L[i]:=List.getElem?_eq_getElem hi
   have hm:L[i]∈L:=List.getElem_mem hi
   have hb:blank 1 (some L[i]::caps)=none::caps:=by simp[blank]
   have hg:gNm 0 L[i] (o::caps) (h++[.lst acc])=some (some L[i]::caps,h++[.lst acc]):=by simp[gNm]
   rw[sa,e0]
   simp only
   rw[hg]
   simp only
   rw[ht _ hm]
   rw[List.drop_eq_getElem_cons hi]
   cases hp:p L[i] with
   | false=>
    simp only
    rw[hb,ih acc (by omega) (by omega) (by omega),List.filter_cons_of_neg (by simp[hp])]
   | true=>
    simp only
    rw[hf _ hm hp]
    have e1:(h++[MO.lst acc])[n0]?=some (.lst acc):=by rw[←hn]; simp
    have e2:(h++[MO.lst acc]).set n0 (.lst (acc++[f L[i]]))=h++[.lst (acc++[f L[i]])]:=by rw[←hn,List.set_append_right _ _ (Nat.le_refl _)]; simp
    simp only[e1]
    rw[if_pos (by omega),hb,e2,ih (acc++[f L[i]]) (by omega) (by omega) (by rw[List.length_append]; simp; omega),List.filter_cons_of_pos hp,List.map_cons,List.append_assoc]
    rfl
  .have e0:L[i]?=none:=List.getElem?_eq_none (by omega)
   rw[sa,e0,List.drop_eq_nil_of_le (by omega)]
   simp
theorem comp1L{mi:MI}{ks:List Nat}{t:MT}{m:ME}{ρ:En}{h:MH}{n:Nat}{l:List W}(p:W→Bool)(f:W→W)(hL:h[n]?=some (.lst l))(hm:mi ρ h=some (.live n,h))(ht:∀w∈l,∀H',t (some w::ks.map fun k=>(ρ[k]?).join) H'=some (p w,H'))
  (hf:∀w∈l,p w=true→∀H',m (some w::ks.map fun k=>(ρ[k]?).join) H'=some (f w,H')) (hlow:∀w∈l,p w=true→low h.length (f w)=true) (hl:l.length≤cap):eComp mi 1 ks (gNm 0) t m ρ h=some (.fls ((l.filter p).map f),h):=by
 have sl:srcLen (.live n) h=l.length:=by unfold srcLen; simp[hL]
 have e:=compN_pure (caps:=ks.map fun k=>(ρ[k]?).join) (t:=t) (m:=m) (h:=h) rfl hL p f ht hf (l.length+1) 0 [] none (by omega) (by omega) (by simpa using hl)
 unfold eComp compR
 rw[hm]
 have er:(List.replicate 1 (none:Option W)++ks.map fun k=>(ρ[k]?).join)=none::ks.map fun k=>(ρ[k]?).join:=rfl
 simp only
 rw[er,sl,e]
 simp only[List.nil_append,List.drop_zero,List.getElem?_append_right (Nat.le_refl _),Nat.sub_self,List.getElem?_cons_zero]
 rw[if_pos]
 refine⟨List.prefix_append _ _,lows_of fun w hw=>?_⟩
 obtain⟨w',h1,rfl⟩:=List.mem_map.mp hw
 obtain⟨h2,h3⟩:=List.mem_filter.mp h1
 exact hlow w' h2 h3
inductive Lst(h:MH)(l:List W):W→Prop
 | fls:Lst h l (.fls l)
 | ref (n:Nat) (e:h[n]?=some (.lst l)):Lst h l (.ref n)
structure Pln(l:List W):Prop where
 da:∀v∈l,dt 50 v=true
 len:l.length≤60
section
variable{h:MH}{l:List W}{w:W}
theorem Lst.ty(L:Lst h l w):isW .list w h=some (.bl true,h):=by
 cases L with
 | fls=>rfl
 | ref n e=>unfold isW isTy tyW; simp[e]
theorem Lst.sq(L:Lst h l w):seqOf h w=some l:=by
 cases L with
 | fls=>rfl
 | ref n e=>show getL h (.ref n)=_; unfold getL; simp[e]
theorem Lst.comp(L:Lst h l w){ks:List Nat}{t:MT}{m:ME}{r:En}(p:W→Bool)(f:W→W)(ht:∀v∈l,∀H',t (some v::ks.map fun k=>((some w::r:En)[k]?).join) H'=some (p v,H'))
  (hf:∀v∈l,p v=true→∀H',m (some v::ks.map fun k=>((some w::r:En)[k]?).join) H'=some (f v,H')) (hlow:∀v∈l,p v=true→low h.length (f v)=true) (hl:l.length≤60):eComp (iSeq (eVar 0)) 1 ks (gNm 0) t m (some w::r) h=some (.fls ((l.filter p).map f),h):=by
 have hc:l.length≤cap:=Nat.le_trans hl (by decide)
 cases L with
 | fls=>exact comp1 p f (by simp[iSeq,bnd,eVar,srcOf]) ht hf hlow hc
 | ref n e=>exact comp1L p f e (by simp[iSeq,bnd,eVar,srcOf,e]) ht hf hlow hc
theorem Lst.eq(L:Lst h l w)(P:Pln l){ks:List (List Str)}(hk:ks.length≤1000)(g:∀k∈ks,goodK k=true):∃b,eqB h w (.fls (ks.map tupS))=some b:=by
 have e1:dataW deep h w=some (.list (l.map (toD 50))):=by
  have em:mapO (dataW 59 h) l=some (l.map (toD 50)):=mapO_of fun v hv=>dataW_dt (P.da v hv) (by omega)
  cases L with
  | fls=>show dataW (59+1) h (.fls l)=_; unfold dataW; rw[em]; rfl
  | ref n e=>show dataW (59+1) h (.ref n)=_; unfold dataW; rw[e]; simp[em]
 have e2:=dataW_dt (h:=h) (dt_tups hk g) (show 3≤deep by decide)
 have ef:eqF w (.fls (ks.map tupS))=none:=by cases L<;>rfl
 unfold eqB
 rw[ef,e1,e2]
 exact⟨_,rfl⟩
end
theorem insK_len(k:List Str):∀l:List (List Str),(insK k l).length≤l.length+1
 | []=>by simp[insK]
 | x::l=>by
  unfold insK
  split
  .omega
  .split
   .simp
   .have:=insK_len k l; simp; omega
theorem ssort_len:∀l:List (List Str),(ssort l).length≤l.length
 | []=>Nat.le_refl _
 | k::l=>by
  have:=ssort_len l
  have e:=insK_len k (ssort l)
  show(insK k (ssort l)).length≤_
  simp; omega
theorem tks_of_all{hs:List Str}:∀{l:List W},(∀v∈l,markB hs v=true)→∃ks,tksOf l=some ks∧ks.length=l.length∧∀k∈ks,k∈kL hs
 | [],_=>⟨[],rfl,rfl,nofun⟩
 | v::l,h=>by
  obtain⟨ks,e1,e2,e3⟩:=tks_of_all fun v hv=>h v (List.mem_cons_of_mem _ hv)
  obtain⟨k,hk,e⟩:=memK_of (h v List.mem_cons_self)
  refine⟨k::ks,by simp only[tksOf,e,e1]; rfl,by simp[e2],fun k' hk'=>?_⟩
  rcases List.mem_cons.mp hk' with rfl | z
  .exact hk
  .exact e3 k' z
theorem kL_ne:∀hs∈hnd,∀k∈kL hs,k≠[]:=by decide +kernel
theorem sortSet_of{hs:List Str}{h:MH}{l:List W}{w:W}(hh:hs∈hnd)(L:Lst h l w)(P:Pln l)(a:∀v∈l,markB hs v=true):∃ks:List (List Str),(∀k∈ks,goodK k=true)∧ks.length≤60∧sortSet w h=some (.fls (ks.map tupS),h):=by
 obtain⟨ks,e1,e2,e3⟩:=tks_of_all a
 have hl:=P.len
 have hs1:=ssort_len ks
 refine⟨ssort ks,fun k hk=>kL_good hs hh k (e3 k (ssort_mem.mp hk)),by omega,?_⟩
 unfold sortSet
 rw[L.sq]
 simp only[Option.bind_some,e1]
 rw[if_pos ⟨by omega,by omega,fun k hk=>kL_ne hs hh k (e3 k hk)⟩]
theorem kind_list{F:Fs}{hs:List Str}{h:MH}{l:List W}{w:W}(hh:hs∈hnd)(L:Lst h l w)(P:Pln l):∃b,(step (step F)).f_is_kind [w,.tup (strsW hs)] h=some (.bl b,h)∧(step (step F)).f_law_is_kind [w,.tup (strsW hs)] h=some (.bl b,h):=by
 have eL:=fun h=>s_let (F:=F) (h:=h) hh
 have eM:=fun(v:W) (hv:v∈l) h=>s_mark (F:=F) (h:=h) hh (P.da v hv) (by omega)
 generalize step F=G at eL eM
 have g:=kL_good hs hh
 have cA:eComp (iSeq (eVar 0)) 1 [2] (gNm 0) tTrue (eOp (inW false) (eVar 0) (eVar 1)) [some w,some (.tup (strsW hs)),some (.fls ((kL hs).map tupS))] h=some (.fls (l.map fun v=>.bl (markB hs v)),h):=by
  refine(L.comp (fun _=>true) (fun v=>.bl (markB hs v)) ?_ ?_ ?_ P.len).trans ?_
  .intro v _ H'; rfl
  .intro v hv _ H'
   have:=inB_tks (h:=H') (y:=.fls ((kL hs).map tupS)) (P.da v hv) (by omega) g rfl (fun z=>nofun)
   simp![this,markB]
  .intro v _ _; unfold low; rfl
  .rw[List.filter_eq_self.mpr fun _ _=>rfl]
 have cB:eComp (iSeq (eVar 0)) 1 [1] (gNm 0) (tNotM (tVal (eArgs G.f_law_is_mark [(eVar 0),(eVar 1)]))) (eVar 0) [some w,some (.tup (strsW hs))] h=some (.fls (l.filter fun v=>!markB hs v),h):=by
  refine(L.comp (fun v=>!markB hs v) id ?_ ?_ ?_ P.len).trans ?_
  .intro v hv H'
   simp![eM v hv]
  .intro v hv _ H'; simp![]
  .intro v hv _; exact dt_low (P.da v hv)
  .rw[List.map_id]
 have aA:allW [.fls (l.map fun v=>.bl (markB hs v))] h=some (.bl (l.all (markB hs)),h):=by
  simp only[allW,foldB,seqOf,getL,bls_map]
  simp[List.all_map,Function.comp_def]
 have dF:dt 51 (.fls (l.filter fun v=>!markB hs v))=true:=dt_fls (Nat.le_trans (List.length_filter_le _ _) (Nat.le_trans P.len (by omega))) fun v hv=>P.da v (List.mem_filter.mp hv).1
 have eF:=eqB_fnil (h:=h) dF (by omega)
 have c0:(0:Nat)≤cap:=by decide
 cases q:l.all (markB hs) with
 | true=>
  have hall:=List.all_eq_true.mp q
  obtain⟨ks,gk,lk,es⟩:=sortSet_of hh L P hall
  obtain⟨b,eb⟩:=L.eq P (ks:=ks) (by omega) gk
  have nl:(l.filter fun v=>!markB hs v)=[]:=List.filter_eq_nil_iff.mpr fun v hv=>by simp[hall v hv]
  rw[nl] at eF cB
  rw[q] at aA
  refine⟨b,gc_dt (n:=1) ?_ rfl,gc_dt (n:=1) ?_ rfl⟩
  .simp![b_f_is_kind,L.ty,eL,cA,aA,es,eb]
  .simp![b_f_law_is_kind,L.ty,cB,flsW,c0,eF,es,eb]
 | false=>
  rw[q] at aA
  have nl:(l.filter fun v=>!markB hs v).isEmpty=false:=by
   obtain⟨v,hv,e⟩:=List.all_eq_false.mp q
   cases z:(l.filter fun v=>!markB hs v) with
   | cons _ _=>rfl
   | nil=>exact absurd (List.filter_eq_nil_iff.mp z v hv) (by simp[e])
  rw[nl] at eF
  refine⟨false,gc_dt (n:=1) ?_ rfl,gc_dt (n:=1) ?_ rfl⟩
  .simp![b_f_is_kind,L.ty,eL,cA,aA]
  .simp![b_f_law_is_kind,L.ty,cB,flsW,c0,eF]
theorem kind_other{F:Fs}{hs:List Str}{h:MH}{w:W}{n:Nat}(d:dt n w=true)(q:tyB .list w=false):(step F).f_is_kind [w,.tup (strsW hs)] h=some (.bl false,h)∧(step F).f_law_is_kind [w,.tup (strsW hs)] h=some (.bl false,h):=by
 refine⟨gc_dt (n:=1) ?_ rfl,gc_dt (n:=1) ?_ rfl⟩
 .simp![b_f_is_kind,isW_dt d,q]
 .simp![b_f_law_is_kind,isW_dt d,q]
noncomputable def rw2(x:Str):List (List Str):=[["read",x],["write",x]]
noncomputable def evK(hs:List Str):List (List Str):=([["ask"],["say"]]:List (List Str))++(hs.map fun x=>[("do":Str),x])++(["a","b","c","d"]:List Str).flatMap rw2
theorem ev_ok:∀hs∈hnd,(evK hs).Nodup∧(evK hs).length≤12∧∀k∈evK hs,k∈kL hs:=by decide +kernel
theorem hs_len:∀hs∈hnd,hs.length≤2:=by decide +kernel
theorem abcd:signs "abcd" = strsW ["a","b","c","d"]:=by
 have e:((("abcd":Str).cps.toList.map fun c=>(⟨#[c]⟩:Str)))=[("a":Str),"b","c","d"]:=by decide +kernel
 unfold signs strsW
 rw[←e,List.map_map]
 rfl
theorem for_every{s a t:Option W}{h:MH}:∀(xs:List Str) (A:List W) (o4:Option W),A.length+2*xs.length≤900→∃o4',forL (gNm 4) (sAsg (eOp addW (eVar 3) (eArgs flsW [(eArgs tupW [(eC (.str "read")),(eVar 4)]),(eArgs tupW [(eC (.str "write")),(eVar 4)])])) (gNm 3)) (strsW xs) [s,a,t,some (.fls A),o4] h=some (.nx [s,a,t,some (.fls (A++(xs.flatMap rw2).map tupS)),o4'],h)
 | [],A,o4,_=>⟨o4,by simp[strsW,forL]⟩
 | x::xs,A,o4,hl=>by
  simp only[List.length_cons] at hl
  obtain⟨o4',ih⟩:=for_every (s:=s) (a:=a) (t:=t) (h:=h) xs (A++[.tup [.str "read",.str x],.tup [.str "write",.str x]]) (some (.str x)) (by simp; omega)
  refine⟨o4',?_⟩
  have ad:=fun h=>add_fls (a:=A) (b:=[.tup [.str "read",.str x],.tup [.str "write",.str x]]) h (by simp; omega)
  have c2:(2:Nat)≤cap:=by decide
  have st:(sAsg (eOp addW (eVar 3) (eArgs flsW [(eArgs tupW [(eC (.str "read")),(eVar 4)]),(eArgs tupW [(eC (.str "write")),(eVar 4)])])) (gNm 3)) [s,a,t,some (.fls A),some (.str x)] h=some (.nx [s,a,t,some (.fls (A++[.tup [.str "read",.str x],.tup [.str "write",.str x]])),some (.str x)],h):=by
   generalize A++[.tup [.str "read",.str x],.tup [.str "write",.str x]]=B at ad
   simp![tupW,flsW,c2,ad]
  have hg:gNm 4 (.str x) [s,a,t,some (.fls A),o4] h=some ([s,a,t,some (.fls A),some (.str x)],h):=by simp[gNm]
  have es:strsW (x::xs)=.str x::strsW xs:=rfl
  rw[es]
  unfold forL
  rw[hg]
  simp only[st]
  rw[ih]
  simp[List.flatMap_cons,rw2,tupS]
theorem s_kind{F:Fs}{ns:List Int}{at_:Int}{hs:List Str}(hl:ns.length≤63)(hh:hs∈hnd):∃k1,SUp k1∧k1.length≤12∧(∀k∈k1,k∈kL hs)∧∀h,(step (step (step F))).f_law_kind [scr ns,.int at_,.tup (strsW hs)] h=some (.fls (k1.map tupS),h):=by
 have eD:=fun(k:Int) h=>s_drawn (F:=F) (ns:=ns) (k:=k) (many:=3) (h:=h) hl (by omega)
 generalize step (step F)=G at eD
 obtain⟨n1,n2,n3⟩:=ev_ok hs hh
 have hl2:=hs_len hs hh
 let kk:=((evK hs).zipIdx.filter fun p=>drawV ns (at_+(p.2:Nat)) 3==0).map (·.1)
 have hsub:kk.Sublist (evK hs):=by
  have:=(List.filter_sublist (p:=fun p:List Str×Nat=>drawV ns (at_+(p.2:Nat)) 3==0) (l:=(evK hs).zipIdx)).map (·.1)
  simpa[List.zipIdx_map_fst] using this
 have hlen:kk.length≤12:=Nat.le_trans hsub.length_le n2
 have hin:∀k∈kk,k∈kL hs:=fun k hk=>n3 k (hsub.mem hk)
 have hsl:=ssort_len kk
 refine⟨ssort kk,ssort_up kk,by omega,fun k hk=>hin k (ssort_mem.mp hk),fun h=>?_⟩
 refine gc_dt (n:=3) ?_ (dt_tups (by omega) fun k hk=>kL_good hs hh k (hin k (ssort_mem.mp hk)))
 have e1:=fun(o1 o2:Option W) (h:MH)=>comp_pre (mi:=iSeq (eVar 2)) (v:="do") (ρ:=[some (scr ns),some (.int at_),some (.tup (strsW hs)),o1,o2]) (h:=h) (xs:=hs) (by omega) (by simp![iSeq,srcOf])
 have a1:=fun h=>add_fls (a:=[.tup [.str "ask"],.tup [.str "say"]]) (b:=hs.map fun x=>tupS ["do",x]) h (by simp; omega)
 have c1:(1:Nat)≤cap:=by decide
 have c2:(2:Nat)≤cap:=by decide
 let A0:List W:=[.tup [.str "ask"],.tup [.str "say"]]++hs.map fun x=>tupS ["do",x]
 obtain⟨o4,ef⟩:=for_every (s:=some (scr ns)) (a:=some (.int at_)) (t:=some (.tup (strsW hs))) (h:=h) ["a","b","c","d"] A0 none (by simp[A0]; omega)
 have eA:A0++((["a","b","c","d"]:List Str).flatMap rw2).map tupS=(evK hs).map tupS:=by
  unfold evK
  simp only[List.map_append,List.map_map,List.map_cons,List.map_nil]
  rfl
 rw[eA] at ef
 have s0:(sAsg (eOp addW (eArgs flsW [(eArgs tupW [(eC (.str "ask"))]),(eArgs tupW [(eC (.str "say"))])]) (eComp (iSeq (eVar 2)) 1 [] (gNm 0) tTrue (eArgs tupW [(eC (.str "do")),(eVar 0)]))) (gNm 3)) [some (scr ns),some (.int at_),some (.tup (strsW hs)),none,none] h=some (.nx [some (scr ns),some (.int at_),some (.tup (strsW hs)),some (.fls A0),none],h):=by
  have a1':∀h,addW (.fls [.tup [.str "ask"],.tup [.str "say"]]) (.fls (hs.map fun x=>tupS ["do",x])) h=some (.fls A0,h):=a1
  generalize (hs.map fun x=>tupS ["do",x])=D at e1 a1'
  simp![tupW,flsW,c1,c2,e1,a1']
 have s1:(sFor (iStr (eC (.str "abcd"))) (gNm 4) (sAsg (eOp addW (eVar 3) (eArgs flsW [(eArgs tupW [(eC (.str "read")),(eVar 4)]),(eArgs tupW [(eC (.str "write")),(eVar 4)])])) (gNm 3))) [some (scr ns),some (.int at_),some (.tup (strsW hs)),some (.fls A0),none] h=some (.nx [some (scr ns),some (.int at_),some (.tup (strsW hs)),some (.fls ((evK hs).map tupS)),o4],h):=by
  unfold sFor
  have:iStr (eC (.str "abcd")) [some (scr ns),some (.int at_),some (.tup (strsW hs)),some (.fls A0),none] h=some (.items (strsW ["a","b","c","d"]),h):=by
   unfold iStr
   simp only[bnd,eC,abcd]
  rw[this]
  exact ef
 have s2:eComp (iEnum [(eVar 3)]) 2 [0,1] (gTp [(gNm 0),(gNm 1)]) (tVal (eOp (eqW false) (eArgs G.f_law_drawn [(eVar 2),(eOp addW (eVar 3) (eVar 0)),(eC (.int 3))]) (eC (.int 0)))) (eVar 1) [some (scr ns),some (.int at_),some (.tup (strsW hs)),some (.fls ((evK hs).map tupS)),o4] h=some (.fls (kk.map tupS),h):=by
  refine(comp2 (l:=(evK hs).zipIdx.map fun p=>(W.int (p.2:Nat),tupS p.1)) (fun a b=>match a with | .int k=>drawV ns (at_+k) 3==0 | _=>false) (fun _ b=>b) ?_ ?_ ?_ ?_ ?_).trans ?_
  .have en:ML.numbered ((evK hs).map tupS)=((evK hs).zipIdx.map fun p=>(W.int (p.2:Nat),tupS p.1)).map fun w=>.tup [w.1,w.2]:=by
    unfold ML.numbered
    rw[List.zipIdx_map,List.map_map,List.map_map]
    rfl
   simp![iEnum,enumW,sndOf,en]
  .intro w hw H'
   obtain⟨p,_,rfl⟩:=List.mem_map.mp hw
   have ad:∀h,addW (.int at_) (.int (p.2:Nat)) h=some (.int (at_+(p.2:Nat)),h):=fun h=>rfl
   simp![ad,eD,eqB_int]
  .intro w hw _ H'; simp![]
  .intro w hw _
   obtain⟨p,_,rfl⟩:=List.mem_map.mp hw
   exact low_tupS _
  .rw[List.length_map,List.length_zipIdx]; exact Nat.le_trans n2 (by decide)
  .rw[List.filter_map,List.map_map,List.map_map]
   rfl
 have s3:sortLs [.fls (kk.map tupS)] h=some (.fls ((ssort kk).map tupS),h):=by
  unfold sortLs sortL
  simp only[getL,Option.bind_some,tksOf_map]
  rw[if_pos ⟨by omega,n1.sublist hsub,fun k hk=>kL_ne hs hh k (hin k hk)⟩]
 have row:b_f_law_kind G [some (scr ns),some (.int at_),some (.tup (strsW hs)),none,none] h=some (.ret (.fls ((ssort kk).map tupS)),h):=by
  unfold b_f_law_kind
  rw[seq_nx s0,seq_nx s1]
  generalize kk.map tupS=Z at s2 s3
  simp only[sRet,eArgs,mArgs,bnd,s2,s3]
 simp only[fnM,List.length_cons,List.length_nil,if_true,List.map_cons,List.map_nil,List.replicate,List.cons_append,List.nil_append]
 simp only[row]
section
variable{F:Fs}{k1 k2:List (List Str)}{h:MH}
theorem comp_in(neg:Bool){r:En}{i:Nat}{ρ:En}(g1:∀k∈k1,goodK k=true)(g2:∀k∈k2,goodK k=true)(l1:k1.length≤100){a b:Nat}(ha:(ρ[a]?).join=some (.fls (k1.map tupS)))(hb:(ρ[b]?).join=some (.fls (k2.map tupS))) :
  eComp (iSeq (eVar a)) 1 [b] (gNm 0) (tVal (eOp (inW neg) (eVar 0) (eVar 1))) (eVar 0) ρ h=some (.fls ((k1.filter fun k=>if neg then !k2.contains k else k2.contains k).map tupS),h):=by
 have hv:eVar a ρ h=some (.fls (k1.map tupS),h):=by
  unfold eVar
  cases e:ρ[a]? with
  | none=>rw[e] at ha; cases ha
  | some o=>rw[e] at ha; simp at ha; subst ha; rfl
 refine(comp1 (l:=k1.map tupS) (fun w=>if neg then !memK k2 w else memK k2 w) id ?_ ?_ ?_ ?_ ?_).trans ?_
 .simp[iSeq,bnd,hv,srcOf]
 .intro w hw H'
  obtain⟨k,hk,rfl⟩:=List.mem_map.mp hw
  have:=inB_tks (h:=H') (y:=.fls (k2.map tupS)) (tupS_dt (g1 k hk)) (by omega) g2 rfl (fun z=>nofun)
  simp only[List.map_cons,List.map_nil,hb]
  simp![this]
 .intro w hw _ H'; simp![]
 .intro w hw _
  obtain⟨k,hk,rfl⟩:=List.mem_map.mp hw
  exact low_tupS k
 .simp only[List.length_map]; exact Nat.le_trans l1 (by decide)
 .have fe:((fun w=>if neg then !memK k2 w else memK k2 w)∘tupS)=fun k=>if neg then !k2.contains k else k2.contains k:=funext fun k=>by simp only[Function.comp,memK_tupS]
  rw[List.map_id,List.filter_map,fe]
theorem s_less(g1:∀k∈k1,goodK k=true)(g2:∀k∈k2,goodK k=true)(l1:k1.length≤100):(step (step F)).f_is_less [.fls (k1.map tupS),.fls (k2.map tupS)] h=some (.bl (k1.filter fun k=>!k2.contains k).isEmpty,h):=by
 have e:∀h,(step F).f_lacking [.fls (k1.map tupS),.fls (k2.map tupS)] h=some (.fls ((k1.filter fun k=>!k2.contains k).map tupS),h):=fun h=>by
  refine gc_dt (n:=3) ?_ (dt_tups (Nat.le_trans (List.length_filter_le _ _) (by omega)) fun k hk=>g1 k (List.mem_filter.mp hk).1)
  have:=comp_in (h:=h) true (r:=[]) (i:=0) (ρ:=[some (.fls (k1.map tupS)),some (.fls (k2.map tupS))]) (a:=0) (b:=1) g1 g2 l1 rfl rfl
  simp![b_f_lacking,this]
 generalize step F=G at e
 refine gc_dt (n:=1) ?_ rfl
 generalize (k1.filter fun k=>!k2.contains k)=Z at e
 have ln:∀h,lenW [.fls (Z.map tupS)] h=some (.int (Z.length:Int),h):=fun h=>by simp[lenW,getL]
 have eq:((Z.length:Int)==0)=Z.isEmpty:=by cases Z<;>simp; omega
 simp![b_f_is_less,e,ln,eqB_int,eq]
theorem s_both(u1:SUp k1)(g1:∀k∈k1,goodK k=true)(ne:∀k∈k1,k≠[])(l1:k1.length≤12)(l2:k2.length≤12):(step F).f_both_of [.fls (k1.map tupS),.fls (k2.map tupS)] h=some (.fls ((k1.filter fun k=>k2.contains k).map tupS),h):=by
 refine gc_dt (n:=3) ?_ (dt_tups (Nat.le_trans (List.length_filter_le _ _) (by omega)) fun k hk=>g1 k (List.mem_filter.mp hk).1)
 have su:SUp (k1.filter fun k=>k2.contains k):=u1.sublist List.filter_sublist
 have es:ssort (k1.filter fun k=>k2.contains k)=k1.filter fun k=>k2.contains k:=up_uniq (ssort_up _) su fun x=>ssort_mem
 have hl:=List.length_filter_le (fun k=>k2.contains k) k1
 have ex:sortTwo (fun a b=>a.filter (b.contains ·)) (eVar 0) (eVar 1) [some (.fls (k1.map tupS)),some (.fls (k2.map tupS))] h=some (.fls ((k1.filter fun k=>k2.contains k).map tupS),h):=by
  unfold sortTwo setKs
  simp only[bnd,eVar,seqOf,getL,Option.bind_some,tksOf_map,List.getElem?_cons_zero,List.getElem?_cons_succ]
  rw[if_pos ⟨by omega,by rw[es]; omega,fun k hk=>ne k (List.mem_filter.mp hk).1⟩,es]
 have row:b_f_both_of F [some (.fls (k1.map tupS)),some (.fls (k2.map tupS))] h=some (.ret (.fls ((k1.filter fun k=>k2.contains k).map tupS)),h):=by
  unfold b_f_both_of sRet
  rw[ex]
 simp only[fnM,List.length_cons,List.length_nil,if_true,List.map_cons,List.map_nil,List.replicate,List.cons_append,List.nil_append]
 simp only[row]
theorem s_joined(g1:∀k∈k1,goodK k=true)(g2:∀k∈k2,goodK k=true)(n1:∀k∈k1,k≠[])(n2:∀k∈k2,k≠[])(l1:k1.length≤12)(l2:k2.length≤12):(step F).f_joined [.fls (k1.map tupS),.fls (k2.map tupS)] h=some (.fls ((ssort (k1++k2)).map tupS),h)∧sortSet (.fls (k1.map tupS++k2.map tupS)) h=some (.fls ((ssort (k1++k2)).map tupS),h):=by
 have hl:=ssort_len (k1++k2)
 rw[List.length_append] at hl
 have gd:∀k∈ssort (k1++k2),goodK k=true:=fun k hk=>(List.mem_append.mp (ssort_mem.mp hk)).elim (g1 k) (g2 k)
 have nn:∀k∈k1++k2,k≠[]:=fun k hk=>(List.mem_append.mp hk).elim (n1 k) (n2 k)
 constructor
 .refine gc_dt (n:=3) ?_ (dt_tups (by omega) gd)
  have ex:sortTwo (fun a b=>a++b) (eVar 0) (eVar 1) [some (.fls (k1.map tupS)),some (.fls (k2.map tupS))] h=some (.fls ((ssort (k1++k2)).map tupS),h):=by
   unfold sortTwo setKs
   simp only[bnd,eVar,seqOf,getL,Option.bind_some,tksOf_map,List.getElem?_cons_zero,List.getElem?_cons_succ]
   rw[if_pos ⟨by omega,by omega,nn⟩]
  have row:b_f_joined F [some (.fls (k1.map tupS)),some (.fls (k2.map tupS))] h=some (.ret (.fls ((ssort (k1++k2)).map tupS)),h):=by
   unfold b_f_joined sRet
   rw[ex]
  simp only[fnM,List.length_cons,List.length_nil,if_true,List.map_cons,List.map_nil,List.replicate,List.cons_append,List.nil_append]
  simp only[row]
 .unfold sortSet
  rw[←List.map_append]
  simp only[seqOf,getL,Option.bind_some,tksOf_map]
  rw[if_pos ⟨by rw[List.length_append]; omega,by omega,nn⟩]
theorem eq_same{ks:List (List Str)}(hk:ks.length≤1000)(g:∀k∈ks,goodK k=true)(h:MH):eqB h (.fls (ks.map tupS)) (.fls (ks.map tupS))=some true:=by
 have e2:=dataW_dt (h:=h) (dt_tups hk g) (show 3≤deep by decide)
 have r1:∀k:List Str,PyData.eqvAll (k.map .str) (k.map .str)=true:=by
  intro k
  induction k with
  | nil=>rfl
  | cons x k ih=>simp[PyData.eqvAll,PyData.eqv,ih]
 have r2:∀l:List (List Str),PyData.eqvAll ((l.map tupS).map (toD 2)) ((l.map tupS).map (toD 2))=true:=by
  intro l
  induction l with
  | nil=>rfl
  | cons k l ih=>simp only[List.map_cons,PyData.eqvAll,toD_tupS,PyData.eqv,r1,ih]; rfl
 unfold eqB
 have ef:eqF (.fls (ks.map tupS)) (.fls (ks.map tupS))=none:=rfl
 rw[ef,e2]
 simp only[toD,PyData.eqv,r2]
end
theorem for_items{mi:MI}{g:MG}{b:MS}{ρ:En}{h h1:MH}{l:List W}(e:mi ρ h=some (.items l,h1)):sFor mi g b ρ h=forL g b l ρ h1:=by
 unfold sFor; rw[e]
theorem forL_nx{g:MG}{b:MS}{h:MH}(Q:En→Prop):∀(l:List W),(∀w∈l,∀ρ,Q ρ→∃ρ1 ρ2,g w ρ h=some (ρ1,h)∧b ρ1 h=some (.nx ρ2,h)∧Q ρ2)→∀ρ,Q ρ→∃ρ',Q ρ'∧forL g b l ρ h=some (.nx ρ',h)
 | [],_,ρ,q=>⟨ρ,q,by simp[forL]⟩
 | w::r,hs,ρ,q=>by
  obtain⟨ρ1,ρ2,e1,e2,q2⟩:=hs w List.mem_cons_self ρ q
  obtain⟨ρ',q',e3⟩:=forL_nx Q r (fun v hv=>hs v (List.mem_cons_of_mem _ hv)) ρ2 q2
  refine⟨ρ',q',?_⟩
  unfold forL
  rw[e1]
  simp only[e2]
  exact e3
noncomputable def LW0(F:Fs):MS:=(sAsg (eOp ixW (eArgs flsW [(eArgs tupW []),(eArgs tupW [(eC (.str "f"))]),(eArgs tupW [(eC (.str "f")),(eC (.str "g1"))])]) (eArgs F.f_law_drawn [(eVar 0),(eC (.int 0)),(eC (.int 3))])) (gNm 1))
noncomputable def LW1(F:Fs):MS:=(sAsg (eArgs F.f_law_kind [(eVar 0),(eC (.int 1)),(eVar 1)]) (gNm 2))
noncomputable def LW2(F:Fs):MS:=(sAsg (eArgs F.f_law_kind [(eVar 0),(eC (.int 20)),(eVar 1)]) (gNm 3))
noncomputable def LW3(F:Fs):MS:=(sAsg (eSlM (eVar 2) none none) (gNm 4))
noncomputable def LW4(F:Fs):MS:=(sIf (tVal (eOp (eqW true) (eVar 2) (eArgs flsW [])))
 (sSeq (sAsg (eArgs F.f_law_drawn [(eVar 0),(eC (.int 40)),(eArgs lenW [(eVar 2)])]) (gNm 5))
 (sAsg (eArgs F.f_law_spoilt [(eOp ixW (eVar 2) (eVar 5)),(eArgs F.f_law_drawn [(eVar 0),(eC (.int 41)),(eOp powW (eC (.int 10)) (eC (.int 6)))]),(eArgs F.f_law_drawn [(eVar 0),(eC (.int 42)),(eC (.int 3))])]) (gPut (eVar 4) (eVar 5))))
 sNext)
noncomputable def LW5(F:Fs):MS:=(sAsg (eArgs flsW [(eVar 2),(eVar 4),(eUn revW (eVar 2)),(eArgs tupleW [(eVar 2)]),(eOp addW (eVar 2) (eSl (eVar 2) none (some (eC (.int 1))))),(eArgs flsW [(eArgs tupW [(eC (.str "do")),(eC (.str "f"))])]),(eArgs flsW [(eArgs tupW [(eC (.str "read")),(eC (.str "ab"))])]),(eArgs flsW [(eArgs tupW [(eC (.str "read")),(eC (.str "p"))])])]) (gNm 6))
noncomputable def LW6(F:Fs):MS:=(sAsg (eOp addW (eVar 6) (eArgs flsW [(eArgs flsW [(eArgs tupW [(eC (.str "xx")),(eC (.str "a"))])]),(eArgs flsW [(eArgs tupW [(eC (.str "say")),(eC (.str "a"))])]),(eArgs flsW [(eArgs tupW [(eC (.str "read"))])]),(eArgs flsW [(eArgs tupW [(eC (.str "read")),(eC (.str "a")),(eC (.str "b"))])]),(eArgs flsW [(eArgs tupW [(eC (.str "ask"))]),(eArgs tupW [(eC (.str "say"))])]),(eArgs flsW [(eArgs tupW [(eC (.str "do"))])])])) (gNm 6))
noncomputable def LW7(F:Fs):MS:=(sFor (iSeq (eOp addW (eVar 6) (eArgs flsW [(eArgs F.f_law_odd [(eArgs F.f_law_drawn [(eVar 0),(eC (.int 43)),(eC (.int 26))])])]))) (gNm 7)
 (sSeq (sAsg (eArgs F.f_is_kind [(eVar 7),(eVar 1)]) (gNm 8))
 (sIf (tOrM (tNotM (tVal (eUn (isW .bool) (eVar 8)))) (tVal (eOp (eqW true) (eVar 8) (eArgs F.f_law_is_kind [(eVar 7),(eVar 1)]))))
 (sRet (eC (.bl false)))
 sNext)))
noncomputable def LW8(F:Fs):MS:=(sAsg (eArgs F.f_is_less [(eVar 2),(eVar 3)]) (gNm 8))
noncomputable def LW9(F:Fs):MS:=(sIf (tOrM (tNotM (tVal (eUn (isW .bool) (eVar 8)))) (tVal (eOp (eqW true) (eVar 8) (eOp (eqW false) (eComp (iSeq (eVar 2)) 1 [3] (gNm 0) (tVal (eOp (inW true) (eVar 0) (eVar 1))) (eVar 0)) (eArgs flsW [])))))
 (sRet (eC (.bl false)))
 sNext)
noncomputable def LW10(F:Fs):MS:=(sIf (tVal (eOp (eqW true) (eArgs F.f_both_of [(eVar 2),(eVar 3)]) (eComp (iSeq (eVar 2)) 1 [3] (gNm 0) (tVal (eOp (inW false) (eVar 0) (eVar 1))) (eVar 0))))
 (sRet (eC (.bl false)))
 sNext)
noncomputable def LW11(F:Fs):MS:=(sRet (eAnd (eOp (eqW false) (eArgs F.f_joined [(eVar 2),(eVar 3)]) (eUn sortSet (eOp addW (eVar 2) (eVar 3)))) (eArgs F.f_is_less [(eVar 2),(eVar 2)])))
theorem LW_row(F:Fs):b_f_law F=sSeq (LW0 F) (sSeq (LW1 F) (sSeq (LW2 F) (sSeq (LW3 F) (sSeq (LW4 F) (sSeq (LW5 F) (sSeq (LW6 F) (sSeq (LW7 F) (sSeq (LW8 F) (sSeq (LW9 F) (sSeq (LW10 F) (LW11 F))))))))))):=rfl
noncomputable abbrev rL(ns:List Int)(o1 o2 o3 o4 o5 o6 o7 o8:Option W):En:=[some (scr ns),o1,o2,o3,o4,o5,o6,o7,o8]
inductive Thing(h:MH)(w:W):Prop
 | list (l:List W) (L:Lst h l w) (P:Pln l)
 | other (d:dt 50 w=true) (q:tyB .list w=false)
theorem kind_same{F:Fs}{hs:List Str}{h:MH}{w:W}(hh:hs∈hnd)(t:Thing h w):∃b,(step (step F)).f_is_kind [w,.tup (strsW hs)] h=some (.bl b,h)∧(step (step F)).f_law_is_kind [w,.tup (strsW hs)] h=some (.bl b,h):=by
 cases t with
 | list l L P=>exact kind_list hh L P
 | other d q=>exact⟨false,kind_other d q⟩
theorem thing_dt{h:MH}{n:Nat}{w:W}(d:dt n w=true)(hn:n≤50)(hl:∀l,w=.fls l→l.length≤60):Thing h w:=by
 cases w with
 | fls l=>
  cases n with
  | zero=>cases d
  | succ n=>
   unfold dt at d
   rw[Bool.and_eq_true] at d
   exact .list l .fls ⟨fun v hv=>dt_mono (List.all_eq_true.mp d.2 v hv) (by omega),hl l rfl⟩
 | ref _=>cases n<;>cases d
 | fdc _=>cases n<;>cases d
 | fn _=>cases n<;>cases d
 | _=>exact .other (dt_mono d hn) rfl
theorem odd_thing:∀v∈odd26,∀h,Thing h v:=by
 intro v hv h
 refine thing_dt (n:=3) (List.all_eq_true.mp odd_dt v hv) (by omega) fun l e=>?_
 subst e
 have:∀w∈odd26,(match w with | .fls l=>decide (l.length≤60) | _=>true)=true:=by
  rw[←List.all_eq_true]
  decide +kernel
 simpa using this _ hv
theorem cut_all(l:List W):cutW l none none=l:=by
 unfold cutW
 simp[HT.sIx]
theorem set_last{h:MH}{a b:MO}:(h++[a]).set h.length b=h++[b]:=by
 rw[List.set_append_right _ _ (Nat.le_refl _)]; simp
theorem fixed_dt:([.fls [tupS ["do","f"]],.fls [tupS ["read","ab"]],.fls [tupS ["read","p"]],.fls [tupS ["xx","a"]],.fls [tupS ["say","a"]],.fls [tupS ["read"]],.fls [tupS ["read","a","b"]],.fls [tupS ["ask"],tupS ["say"]],.fls [tupS ["do"]]]:List W).all (fun w=>dt 4 w&&(match w with | .fls l=>decide (l.length≤60) | _=>false))=true:=by decide +kernel
theorem s_law{F:Fs}{ns:List Int}{h:MH}(hl:ns.length≤63):(step (up 3 F)).f_law [scr ns] h=some (.bl true,h):=by
 have eD:=fun(k many:Int) (hm:0<many) h=>s_drawn (F:=step F) (ns:=ns) (k:=k) (many:=many) (h:=h) hl hm
 have eK:=fun(a:Int) (hs:List Str) (hh:hs∈hnd)=>s_kind (F:=F) (ns:=ns) (at_:=a) hl hh
 have eS:=fun(w:W) (num dp:Int) (p:pl 2 w=true)=>s_spoilt (F:=F) 2 w num dp p
 have eO:=fun(n:Int)=>s_odd' (F:=step (step F)) n
 have eI:=fun(hs:List Str) (h:MH) (w:W) (hh:hs∈hnd) (t:Thing h w)=>kind_same (F:=step F) hh t
 have eL:=fun(k1 k2:List (List Str)) (h:MH) (g1:∀k∈k1,goodK k=true) (g2:∀k∈k2,goodK k=true) (l1:k1.length≤100)=>s_less (F:=step F) (h:=h) g1 g2 l1
 have eB:=fun(k1 k2:List (List Str)) (h:MH) (u1:SUp k1) (g1:∀k∈k1,goodK k=true) (ne:∀k∈k1,k≠[]) (l1:k1.length≤12) (l2:k2.length≤12)=>s_both (F:=step (step F)) (h:=h) u1 g1 ne l1 l2
 have eJ:=fun(k1 k2:List (List Str)) (h:MH) (g1:∀k∈k1,goodK k=true) (g2:∀k∈k2,goodK k=true) (n1:∀k∈k1,k≠[]) (n2:∀k∈k2,k≠[]) (l1:k1.length≤12) (l2:k2.length≤12)=>s_joined (F:=step (step F)) (h:=h) g1 g2 n1 n2 l1 l2
 show(step (step (step (step F)))).f_law [scr ns] h=_
 rw[show up (2+1) F=step (step (step F)) from rfl] at eS
 generalize step (step (step F))=G at eD eK eS eO eI eL eB eJ
 have c0:(0:Nat)≤cap:=by decide
 have c1:(1:Nat)≤cap:=by decide
 have c2:(2:Nat)≤cap:=by decide
 have c3:(3:Nat)≤cap:=by decide
 have c6:(6:Nat)≤cap:=by decide
 have c8:(8:Nat)≤cap:=by decide
 have r3:=draw_range (ns:=ns) (k:=0) (many:=3) (by omega)
 obtain⟨vh,hvh,evh⟩:=ix_fls (l:=[.tup [],.tup [.str "f"],.tup [.str "f",.str "g1"]]) (i:=drawV ns 0 3) r3.1 (by simpa using r3.2)
 obtain⟨hs,hh,rfl⟩:∃hs,hs∈hnd∧vh=.tup (strsW hs):=by
  simp only[List.mem_cons,List.not_mem_nil,or_false] at hvh
  rcases hvh with rfl | rfl | rfl
  .exact⟨[],by decide +kernel,rfl⟩
  .exact⟨["f"],by decide +kernel,rfl⟩
  .exact⟨["f","g1"],by decide +kernel,rfl⟩
 have d0:=eD 0 3 (by omega)
 have z0:LW0 G (rL ns none none none none none none none none) h=some (.nx (rL ns (some (.tup (strsW hs))) none none none none none none none),h):=by
  generalize drawV ns 0 3=dv at d0 evh
  simp![LW0,tupW,flsW,c0,c1,c2,c3,d0,evh]
 obtain⟨k1,u1,l1,i1,e1⟩:=eK 1 hs hh
 obtain⟨k2,u2,l2,i2,e2⟩:=eK 20 hs hh
 have g1:∀k∈k1,goodK k=true:=fun k hk=>kL_good hs hh k (i1 k hk)
 have g2:∀k∈k2,goodK k=true:=fun k hk=>kL_good hs hh k (i2 k hk)
 have n1:∀k∈k1,k≠[]:=fun k hk=>kL_ne hs hh k (i1 k hk)
 have n2:∀k∈k2,k≠[]:=fun k hk=>kL_ne hs hh k (i2 k hk)
 let H:W:=.tup (strsW hs)
 let K1:List W:=k1.map tupS
 let K2:List W:=k2.map tupS
 have z1:LW1 G (rL ns (some H) none none none none none none none) h=some (.nx (rL ns (some H) (some (.fls K1)) none none none none none none),h):=by
  have e1':∀h,G.f_law_kind [scr ns,.int 1,H] h=some (.fls K1,h):=e1
  generalize H=H' at e1' ⊢
  generalize K1=K' at e1' ⊢
  simp![LW1,e1']
 have z2:LW2 G (rL ns (some H) (some (.fls K1)) none none none none none none) h=some (.nx (rL ns (some H) (some (.fls K1)) (some (.fls K2)) none none none none none),h):=by
  have e2':∀h,G.f_law_kind [scr ns,.int 20,H] h=some (.fls K2,h):=e2
  generalize H=H' at e2' ⊢
  generalize K1=K' at ⊢
  generalize K2=K'' at e2' ⊢
  simp![LW2,e2']
 have z3:LW3 G (rL ns (some H) (some (.fls K1)) (some (.fls K2)) none none none none none) h=some (.nx (rL ns (some H) (some (.fls K1)) (some (.fls K2)) (some (.ref h.length)) none none none none),h++[.lst K1]):=by
  generalize H=H'
  generalize K1=K'
  generalize K2=K''
  simp![LW3,eSlM,mPart,slM,getL,cut_all]
 have lK1:K1.length=k1.length:=List.length_map ..
 have lK2:K2.length=k2.length:=List.length_map ..
 have dK1:∀v∈K1,dt 2 v=true:=fun v hv=>by
  obtain⟨k,hk,rfl⟩:=List.mem_map.mp hv
  exact tupS_dt (g1 k hk)
 have z4:∃L o5,Pln L∧LW4 G (rL ns (some H) (some (.fls K1)) (some (.fls K2)) (some (.ref h.length)) none none none none) (h++[.lst K1])=some (.nx (rL ns (some H) (some (.fls K1)) (some (.fls K2)) (some (.ref h.length)) o5 none none none),h++[.lst L]):=by
  have ef:=eqB_fnil (h:=h++[.lst K1]) (dt_tups (by omega) g1) (by omega)
  have ef':eqB (h++[.lst K1]) (.fls K1) (.fls [])=some K1.isEmpty:=ef
  cases q:K1.isEmpty with
  | true=>
   refine⟨K1,none,⟨fun v hv=>dt_mono (dK1 v hv) (by omega),by omega⟩,?_⟩
   rw[q] at ef'
   generalize H=H'
   generalize K2=K''
   simp![LW4,flsW,c0,ef']
  | false=>
   rw[q] at ef'
   have hp:(0:Int)<(K1.length:Int):=by
    cases z:K1 with
    | nil=>rw[z] at q; cases q
    | cons _ _=>simp
   have rg:=draw_range (ns:=ns) (k:=40) (many:=(K1.length:Int)) hp
   have dj:=eD 40 (K1.length:Int) hp
   have d41:=eD 41 1000000 (by omega)
   have d42:=eD 42 3 (by omega)
   obtain⟨j,hj⟩:=Int.eq_ofNat_of_zero_le rg.1
   rw[hj] at rg dj
   obtain⟨u,hu,eu⟩:=ix_fls (l:=K1) rg.1 rg.2
   have pu:pl 2 u=true:=by
    obtain⟨k,hk,rfl⟩:=List.mem_map.mp hu
    exact tupS_pl (g1 k hk)
   obtain⟨v,dv,ev⟩:=eS u (drawV ns 41 1000000) (drawV ns 42 3) pu
   have lw:∀h,lenW [.fls K1] h=some (.int (K1.length:Int),h):=fun h=>by simp[lenW,getL]
   have hjn:j<K1.length:=by omega
   have pw:∀h,powW (.int 10) (.int 6) h=some (.int 1000000,h):=fun h=>by simp[powW]
   have pt:putM (.ref h.length) (.int (j:Int)) v (h++[.lst K1])=some (.non,h++[.lst (K1.set j v)]):=by
    have ixn:ixN K1.length (j:Int)=some j:=by
     unfold ixN
     rw[if_pos (by omega),if_pos (by omega)]
     simp
    simp only[putM,at0,ixn,set_last]
   refine⟨K1.set j v,some (.int (j:Int)),⟨fun z hz=>?_,by rw[List.length_set]; omega⟩,?_⟩
   .rcases List.mem_or_eq_of_mem_set hz with z1 | z1
    .exact dt_mono (dK1 z z1) (by omega)
    .subst z1; exact dt_mono dv (by omega)
   .generalize H=H'
    generalize K2=K''
    generalize K1.set j v=K3 at pt
    generalize (K1.length:Int)=LL at dj lw
    generalize drawV ns 41 1000000=D41 at d41 ev
    generalize drawV ns 42 3=D42 at d42 ev
    simp![LW4,flsW,c0,ef',lw,dj,eu,pw,d41,d42,ev,gPut,pt]
 obtain⟨L,o5,PL,z4⟩:=z4
 let X:MH:=h++[.lst L]
 have tK1:dt 3 (.fls K1)=true:=dt_tups (by omega) g1
 have lc:=cut_len K1 none (some 1)
 have thg:∀ks:List W,(∀v∈ks,v∈K1)→ks.length≤60→Thing X (.fls ks):=fun ks hk hn=>.list ks .fls ⟨fun v hv=>dt_mono (dK1 v (hk v hv)) (by omega),hn⟩
 have fx:∀w∈([.fls [tupS ["do","f"]],.fls [tupS ["read","ab"]],.fls [tupS ["read","p"]],.fls [tupS ["xx","a"]],.fls [tupS ["say","a"]],.fls [tupS ["read"]],.fls [tupS ["read","a","b"]],.fls [tupS ["ask"],tupS ["say"]],.fls [tupS ["do"]]]:List W),Thing X w:=fun w hw=>by
  have:=List.all_eq_true.mp fixed_dt w hw
  rw[Bool.and_eq_true] at this
  refine thing_dt this.1 (by omega) fun l e=>?_
  subst e
  simpa using this.2
 let S8:List W:=[.fls K1,.ref h.length,.fls K1.reverse,.tup K1,.fls (K1++cutW K1 none (some 1)),.fls [tupS ["do","f"]],.fls [tupS ["read","ab"]],.fls [tupS ["read","p"]]]
 let S6:List W:=[.fls [tupS ["xx","a"]],.fls [tupS ["say","a"]],.fls [tupS ["read"]],.fls [tupS ["read","a","b"]],.fls [tupS ["ask"],tupS ["say"]],.fls [tupS ["do"]]]
 have t8:∀w∈S8,Thing X w:=by
  intro w hw
  simp only[S8,List.mem_cons,List.not_mem_nil,or_false] at hw
  rcases hw with rfl | rfl | rfl | rfl | rfl | rfl | rfl | rfl
  .exact thg _ (fun v hv=>hv) (by omega)
  .exact .list L (.ref _ (at0 h _)) PL
  .exact thg _ (fun v hv=>List.mem_reverse.mp hv) (by rw[List.length_reverse]; omega)
  .exact .other (dt_mono (dt_of (n:=2) (by omega) dK1) (by omega)) rfl
  .refine thg _ (fun v hv=>?_) (by rw[List.length_append]; omega)
   rcases List.mem_append.mp hv with z | z
   .exact z
   .exact cut_mem z
  all_goals exact fx _ (by simp)
 have t6:∀w∈S6,Thing X w:=by
  intro w hw
  refine fx w ?_
  simp only[S6,List.mem_cons,List.not_mem_nil,or_false] at hw ⊢
  rcases hw with rfl | rfl | rfl | rfl | rfl | rfl<;>simp
 have z5:LW5 G (rL ns (some H) (some (.fls K1)) (some (.fls K2)) (some (.ref h.length)) o5 none none none) X=some (.nx (rL ns (some H) (some (.fls K1)) (some (.fls K2)) (some (.ref h.length)) o5 (some (.fls S8)) none none),X):=by
  have rv:∀h,revW (.fls K1) h=some (.fls K1.reverse,h):=fun h=>rfl
  have tw:∀h,tupleW [.fls K1] h=some (.tup K1,h):=fun h=>rfl
  have sl:∀h,slW (.fls K1) none (some 1) h=some (.fls (cutW K1 none (some 1)),h):=fun h=>rfl
  have ad:=fun h=>add_fls (a:=K1) (b:=cutW K1 none (some 1)) h (by omega)
  simp only[S8,tupS,List.map_cons,List.map_nil]
  generalize K1++cutW K1 none (some 1)=A1 at ad ⊢
  generalize cutW K1 none (some 1)=A2 at ad sl
  generalize K1.reverse=A3 at rv ⊢
  generalize X=X'
  generalize H=H'
  generalize K2=K''
  generalize K1=K' at rv tw sl ad ⊢
  simp![LW5,rv,tw,eSl,mPart,sl,ad,tupW,flsW,c1,c2,c8]
 have z6:LW6 G (rL ns (some H) (some (.fls K1)) (some (.fls K2)) (some (.ref h.length)) o5 (some (.fls S8)) none none) X=some (.nx (rL ns (some H) (some (.fls K1)) (some (.fls K2)) (some (.ref h.length)) o5 (some (.fls (S8++S6))) none none),X):=by
  have ad:=fun h=>add_fls (a:=S8) (b:=S6) h (by simp[S8,S6])
  simp only[S6,tupS,List.map_cons,List.map_nil] at ad
  have e14:S8++S6=S8++[.fls [.tup [.str "xx",.str "a"]],.fls [.tup [.str "say",.str "a"]],.fls [.tup [.str "read"]],.fls [.tup [.str "read",.str "a",.str "b"]],.fls [.tup [.str "ask"],.tup [.str "say"]],.fls [.tup [.str "do"]]]:=rfl
  rw[e14]
  generalize S8++[.fls [.tup [.str "xx",.str "a"]],.fls [.tup [.str "say",.str "a"]],.fls [.tup [.str "read"]],.fls [.tup [.str "read",.str "a",.str "b"]],.fls [.tup [.str "ask"],.tup [.str "say"]],.fls [.tup [.str "do"]]]=S14 at ad ⊢
  generalize S8=S8' at ad ⊢
  generalize X=X'
  generalize H=H'
  generalize K2=K''
  generalize K1=K'
  simp![LW6,tupW,flsW,c1,c2,c3,c6,ad]
 obtain⟨vo,hvo,eo⟩:=eO (drawV ns 43 26)
 have d43:=eD 43 26 (by omega)
 have z7:∃p7 p8,LW7 G (rL ns (some H) (some (.fls K1)) (some (.fls K2)) (some (.ref h.length)) o5 (some (.fls (S8++S6))) none none) X=some (.nx (rL ns (some H) (some (.fls K1)) (some (.fls K2)) (some (.ref h.length)) o5 (some (.fls (S8++S6))) p7 p8),X):=by
  have ad:=fun h=>add_fls (a:=S8++S6) (b:=[vo]) h (by simp[S8,S6])
  have tA:∀w∈S8++S6++[vo],Thing X w:=by
   intro w hw
   rcases List.mem_append.mp hw with z | z
   .rcases List.mem_append.mp z with z | z
    .exact t8 w z
    .exact t6 w z
   .rw[List.mem_singleton.mp z]; exact odd_thing vo hvo X
  have eI':∀w,Thing X w→∃b,G.f_is_kind [w,H] X=some (.bl b,X)∧G.f_law_is_kind [w,H] X=some (.bl b,X):=fun w t=>eI hs X w hh t
  generalize S8++S6++[vo]=S15 at ad tA
  generalize S8++S6=S14 at ad ⊢
  generalize drawV ns 43 26=D43 at d43 eo
  have it:(iSeq (eOp addW (eVar 6) (eArgs flsW [(eArgs G.f_law_odd [(eArgs G.f_law_drawn [(eVar 0),(eC (.int 43)),(eC (.int 26))])])]))) (rL ns (some H) (some (.fls K1)) (some (.fls K2)) (some (.ref h.length)) o5 (some (.fls S14)) none none) X=some (.items S15,X):=by
   generalize X=X'
   generalize H=H'
   generalize K2=K''
   generalize K1=K'
   simp![iSeq,d43,eo,flsW,c1,ad,srcOf]
  unfold LW7
  rw[for_items it]
  obtain⟨ρ',⟨p7,p8,rfl⟩,e⟩:=forL_nx (g:=gNm 7) (b:=(sSeq (sAsg (eArgs G.f_is_kind [(eVar 7),(eVar 1)]) (gNm 8)) (sIf (tOrM (tNotM (tVal (eUn (isW .bool) (eVar 8)))) (tVal (eOp (eqW true) (eVar 8) (eArgs G.f_law_is_kind [(eVar 7),(eVar 1)])))) (sRet (eC (.bl false))) sNext))) (h:=X)
   (fun ρ=>∃o7 o8,ρ=rL ns (some H) (some (.fls K1)) (some (.fls K2)) (some (.ref h.length)) o5 (some (.fls S14)) o7 o8) S15
   (fun v hv ρ hq=>by
    obtain⟨q7,q8,rfl⟩:=hq
    obtain⟨b,f1,f2⟩:=eI' v (tA v hv)
    refine⟨rL ns (some H) (some (.fls K1)) (some (.fls K2)) (some (.ref h.length)) o5 (some (.fls S14)) (some v) q8,rL ns (some H) (some (.fls K1)) (some (.fls K2)) (some (.ref h.length)) o5 (some (.fls S14)) (some v) (some (.bl b)),by simp[gNm],?_,⟨_,_,rfl⟩⟩
    have f4:isW .bool (.bl b) X=some (.bl true,X):=isW_dt (n:=1) rfl
    generalize X=X' at f1 f2 f4 ⊢
    generalize H=H' at f1 f2 ⊢
    generalize K2=K''
    generalize K1=K'
    simp![f1,f2,f4,eqB_bl])
   _ ⟨none,none,rfl⟩
  exact⟨p7,p8,e⟩
 obtain⟨p7,p8,z7⟩:=z7
 have z8:LW8 G (rL ns (some H) (some (.fls K1)) (some (.fls K2)) (some (.ref h.length)) o5 (some (.fls (S8++S6))) p7 p8) X=some (.nx (rL ns (some H) (some (.fls K1)) (some (.fls K2)) (some (.ref h.length)) o5 (some (.fls (S8++S6))) p7 (some (.bl (k1.filter fun k=>!k2.contains k).isEmpty))),X):=by
  have f:∀h,G.f_is_less [.fls K1,.fls K2] h=some (.bl (k1.filter fun k=>!k2.contains k).isEmpty,h):=fun h=>eL k1 k2 h g1 g2 (by omega)
  generalize (k1.filter fun k=>!k2.contains k).isEmpty=bb at f ⊢
  generalize S8++S6=S14
  generalize X=X'
  generalize H=H'
  generalize K2=K'' at f ⊢
  generalize K1=K' at f ⊢
  simp![LW8,f]
 have z9:LW9 G (rL ns (some H) (some (.fls K1)) (some (.fls K2)) (some (.ref h.length)) o5 (some (.fls (S8++S6))) p7 (some (.bl (k1.filter fun k=>!k2.contains k).isEmpty))) X=some (.nx (rL ns (some H) (some (.fls K1)) (some (.fls K2)) (some (.ref h.length)) o5 (some (.fls (S8++S6))) p7 (some (.bl (k1.filter fun k=>!k2.contains k).isEmpty))),X):=by
  have cm:eComp (iSeq (eVar 2)) 1 [3] (gNm 0) (tVal (eOp (inW true) (eVar 0) (eVar 1))) (eVar 0) (rL ns (some H) (some (.fls K1)) (some (.fls K2)) (some (.ref h.length)) o5 (some (.fls (S8++S6))) p7 (some (.bl (k1.filter fun k=>!k2.contains k).isEmpty))) X=some (.fls ((k1.filter fun k=>!k2.contains k).map tupS),X):=
   (comp_in (h:=X) true (r:=[]) (i:=0) (a:=2) (b:=3) g1 g2 (by omega) rfl rfl).trans (by simp)
  have ef:=eqB_fnil (h:=X) (dt_tups (ks:=k1.filter fun k=>!k2.contains k) (Nat.le_trans (List.length_filter_le _ _) (by omega)) fun k hk=>g1 k (List.mem_filter.mp hk).1) (by omega)
  have em:((k1.filter fun k=>!k2.contains k).map tupS).isEmpty=(k1.filter fun k=>!k2.contains k).isEmpty:=by cases (k1.filter fun k=>!k2.contains k)<;>rfl
  rw[em] at ef
  generalize (k1.filter fun k=>!k2.contains k).map tupS=Z at cm ef
  generalize (k1.filter fun k=>!k2.contains k).isEmpty=bb at ef cm ⊢
  have f4:isW .bool (.bl bb) X=some (.bl true,X):=isW_dt (n:=1) rfl
  generalize S8++S6=S14 at cm ⊢
  generalize X=X' at cm ef f4 ⊢
  generalize H=H' at cm ⊢
  generalize K2=K'' at cm ⊢
  generalize K1=K' at cm ⊢
  refine if_no ?_
  have v8:eVar 8 (rL ns (some H') (some (.fls K')) (some (.fls K'')) (some (.ref h.length)) o5 (some (.fls S14)) p7 (some (.bl bb))) X'=some (.bl bb,X'):=rfl
  generalize rL ns (some H') (some (.fls K')) (some (.fls K'')) (some (.ref h.length)) o5 (some (.fls S14)) p7 (some (.bl bb))=ρ at cm v8 ⊢
  simp[tOrM,tNotM,tVal,eUn,eOp,eArgs,mArgs,flsW,c0,bnd,v8,f4,cm,eqW,ef,asB,eqB_bl]
 have z10:∀o8,LW10 G (rL ns (some H) (some (.fls K1)) (some (.fls K2)) (some (.ref h.length)) o5 (some (.fls (S8++S6))) p7 o8) X=some (.nx (rL ns (some H) (some (.fls K1)) (some (.fls K2)) (some (.ref h.length)) o5 (some (.fls (S8++S6))) p7 o8),X):=by
  intro o8
  have cm:eComp (iSeq (eVar 2)) 1 [3] (gNm 0) (tVal (eOp (inW false) (eVar 0) (eVar 1))) (eVar 0) (rL ns (some H) (some (.fls K1)) (some (.fls K2)) (some (.ref h.length)) o5 (some (.fls (S8++S6))) p7 o8) X=some (.fls ((k1.filter fun k=>k2.contains k).map tupS),X):=
   (comp_in (h:=X) false (r:=[]) (i:=0) (a:=2) (b:=3) g1 g2 (by omega) rfl rfl).trans (by simp)
  have fb:G.f_both_of [.fls K1,.fls K2] X=some (.fls ((k1.filter fun k=>k2.contains k).map tupS),X):=eB k1 k2 X u1 g1 n1 (by omega) (by omega)
  have ef:=eq_same (ks:=k1.filter fun k=>k2.contains k) (Nat.le_trans (List.length_filter_le _ _) (by omega)) (fun k hk=>g1 k (List.mem_filter.mp hk).1) X
  generalize (k1.filter fun k=>k2.contains k).map tupS=Z at cm fb ef
  generalize S8++S6=S14 at cm ⊢
  generalize X=X' at cm fb ef ⊢
  generalize H=H' at cm ⊢
  generalize K2=K'' at cm fb ⊢
  generalize K1=K' at cm fb ⊢
  refine if_no ?_
  have v2:eVar 2 (rL ns (some H') (some (.fls K')) (some (.fls K'')) (some (.ref h.length)) o5 (some (.fls S14)) p7 o8) X'=some (.fls K',X'):=rfl
  have v3:eVar 3 (rL ns (some H') (some (.fls K')) (some (.fls K'')) (some (.ref h.length)) o5 (some (.fls S14)) p7 o8) X'=some (.fls K'',X'):=rfl
  generalize rL ns (some H') (some (.fls K')) (some (.fls K'')) (some (.ref h.length)) o5 (some (.fls S14)) p7 o8=ρ at cm v2 v3 ⊢
  simp[tVal,eOp,eArgs,mArgs,bnd,v2,v3,fb,cm,eqW,ef,asB]
 have z11:∀o8,LW11 G (rL ns (some H) (some (.fls K1)) (some (.fls K2)) (some (.ref h.length)) o5 (some (.fls (S8++S6))) p7 o8) X=some (.ret (.bl true),X):=by
  intro o8
  obtain⟨j1,j2⟩:=eJ k1 k2 X g1 g2 n1 n2 (by omega) (by omega)
  have hl12:=ssort_len (k1++k2)
  rw[List.length_append] at hl12
  have ef:=eq_same (ks:=ssort (k1++k2)) (by omega) (fun k hk=>(List.mem_append.mp (ssort_mem.mp hk)).elim (g1 k) (g2 k)) X
  have fl:=eL k1 k1 X g1 g1 (by omega)
  have em:(k1.filter fun k=>!k1.contains k).isEmpty=true:=by
   rw[List.isEmpty_iff,List.filter_eq_nil_iff]
   intro k hk
   simp[hk]
  rw[em] at fl
  have ad:=add_fls (a:=K1) (b:=K2) X (by omega)
  have j1':G.f_joined [.fls K1,.fls K2] X=some (.fls ((ssort (k1++k2)).map tupS),X):=j1
  have j2':sortSet (.fls (K1++K2)) X=some (.fls ((ssort (k1++k2)).map tupS),X):=j2
  have fl':G.f_is_less [.fls K1,.fls K1] X=some (.bl true,X):=fl
  generalize (ssort (k1++k2)).map tupS=Z at j1' j2' ef
  generalize S8++S6=S14
  generalize X=X' at j1' j2' ef fl' ad ⊢
  generalize H=H'
  generalize K1++K2=K12 at ad j2'
  generalize K2=K'' at ad j1' ⊢
  generalize K1=K' at ad j1' fl' ⊢
  simp![LW11,j1',ad,j2',ef,fl']
 refine gc_dt' (n:=1) (t:=[.lst L]) ?_ rfl
 have hs2:b_f_law G (rL ns none none none none none none none none) h=some (.ret (.bl true),h++[.lst L]):=by
  rw[LW_row,seq_nx z0,seq_nx z1,seq_nx z2,seq_nx z3,seq_nx z4,seq_nx z5,seq_nx z6,seq_nx z7,seq_nx z8,seq_nx z9,seq_nx (z10 _),z11 _]
 simp only[fnM,List.length_cons,List.length_nil,if_true,List.map_cons,List.map_nil,List.replicate,List.cons_append,List.nil_append]
 simp only[hs2]
theorem lv_up:∀n,lv n=up n Fs.bot
 | 0=>rfl
 | n+1=>by show step (lv n)=step (up n Fs.bot); rw[lv_up n]
theorem main(ns:List Int)(hl:ns.length≤63):∃h',(lv 200).f_law [.fls (ns.map W.int)] []=some (.bl true,h'):=by
 refine⟨[],?_⟩
 rw[lv_up]
 exact s_law (F:=up 196 Fs.bot) hl
end K30
namespace K30
open PySem PySem.W PyProof.Rows ML
set_option maxHeartbeats 0 in
theorem txt {XP : (Str → Option Value) → Heap → Prop} {w : World} {s₀ : Shared} {mg mb : Str → Option Value} {h : Heap} (G : Ground q [] [] XP w s₀ mg mb h) : AllD (TxtAt (Kw h) mg) defs :=
  ⟨txtG G (d := d_f_marks_let) (by kernel_rfl) (ML.hb1 fun _ _ _ _ _ _ _ => by kernel_rfl) rfl,
   txtG G (d := d_f_is_kind) (by kernel_rfl) (ML.hb2 fun _ _ _ _ _ _ _ _ => by kernel_rfl) rfl,
   txtG G (d := d_f_lacking) (by kernel_rfl) (ML.hb2 fun _ _ _ _ _ _ _ _ => by kernel_rfl) rfl,
   txtG G (d := d_f_is_less) (by kernel_rfl) (ML.hb2 fun _ _ _ _ _ _ _ _ => by kernel_rfl) rfl,
   txtG G (d := d_f_joined) (by kernel_rfl) (ML.hb2 fun _ _ _ _ _ _ _ _ => by kernel_rfl) rfl,
   txtG G (d := d_f_both_of) (by kernel_rfl) (ML.hb2 fun _ _ _ _ _ _ _ _ => by kernel_rfl) rfl,
   txtG G (d := d_f_law_cell) (by kernel_rfl) (ML.hb2 fun _ _ _ _ _ _ _ _ => by kernel_rfl) rfl,
   txtG G (d := d_f_law_drawn) (by kernel_rfl) (ML.hb3 fun _ _ _ _ _ _ _ _ _ => by kernel_rfl) rfl,
   txtG G (d := d_f_law_odd) (by kernel_rfl) (ML.hb1 fun _ _ _ _ _ _ _ => by kernel_rfl) rfl,
   txtG G (d := d_f_law_spoilt) (by kernel_rfl) (ML.hb3 fun _ _ _ _ _ _ _ _ _ => by kernel_rfl) rfl,
   txtG G (d := d_f_law_is_mark) (by kernel_rfl) (ML.hb2 fun _ _ _ _ _ _ _ _ => by kernel_rfl) rfl,
   txtG G (d := d_f_law_is_kind) (by kernel_rfl) (ML.hb2 fun _ _ _ _ _ _ _ _ => by kernel_rfl) rfl,
   txtG G (d := d_f_law_kind) (by kernel_rfl) (ML.hb3 fun _ _ _ _ _ _ _ _ _ => by kernel_rfl) rfl,
   txtG G (d := d_f_law) (by kernel_rfl) (ML.hb1 fun _ _ _ _ _ _ _ => by kernel_rfl) rfl, trivial⟩
end K30
open PySem PySem.W PyProof.Rows ML
set_option maxRecDepth 100000 in
set_option maxHeartbeats 0 in
theorem PySem.Challenge.cw_shelfwork_k30_kinds_known_holds : PySem.Challenge.rw_shelfwork_k30_kinds_known.Holds := by
 refine holds_law K30.said fun said=>?_
 refine holds_open (q:=K30.q) (loose:=[]) (Xt:=fun s=>xlAt K30.q [] s&&recOk [] s) (XP:=XL K30.q []) (Yf:=K30.H.obs) (Ya:=K30.H.val) (YP:=K30.H.says) (N:=1000) K30.left (Hook.of K30.H) (Hook.keeps K30.H) (fun s e=>xl_of s (Bool.and_eq_true_iff.mp e).1) XL.keeps rfl rfl rfl (fun s e=>recFacts_of (Bool.and_eq_true_iff.mp e).2) rfl said (by decide +kernel) ⟨rfl,rfl,rfl,rfl,rfl,by decide +kernel⟩ ?hw ?hc
 case hw=>w_witness2
 case hc=>
  exact ML.walk_lawE (l:=PySem.Challenge.rw_shelfwork_k30_kinds_known) (D:=K30.d_f_law) (g:=(K30.lv 200).f_law) (b:=K30.b_f_law (K30.lv 199)) (Γ:=K30.rc (K30.lv 199)) (ds:=K30.defs) (y:="_law_script") (room:=199) (cons:=K30.consC) (tabs:=K30.tabsC) (by kernel_rfl) (by kernel_rfl) rfl rfl ⟨rfl,by decide,by decide⟩ rfl rfl (ML.hb1 fun _ _ _ _ _ _ _=>by kernel_rfl) (by kernel_rfl) rfl (by kernel_rfl) rfl K30.main (fun w K mg base T c t z=>K30.lvl T c t z 199) fun w s₀ mg mb h G=>⟨(K30.txt G).2.2.2.2.2.2.2.2.2.2.2.2.2.1,K30.txt G⟩

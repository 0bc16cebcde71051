import PyProof.Rows.All
import Wide.All
import OpenK.AllK
import Wide.FinOn
import Lean
import PyProof.EqAt
import PyProof.EqKinds
import PyProof.TupleCall
import PySem.Challenge.RW_shelfwork_k01_known
set_option Elab.async false
set_option linter.all false
set_option maxRecDepth 100000
set_option maxHeartbeats 1000000
namespace ML
open PySem PySem.W PyProof.Rows
inductive Cn where
 | int (i:Int) | str (x:Str) | tup (l:List Cn)
noncomputable def tupAt(h:Heap)(v:Value):Option (Array Value):=match v with
 | .ref a=>(h.get? a).bind fun o=>match o.cls with
  | .type t=>if t="tuple" then (match o.data with | .seq its _=>some its | _=>none) else none
  | _=>none
 | _=>none
noncomputable def isI(i:Int)(v:Value):Bool:=match v with | .int j _=>i==j | _=>false
noncomputable def isS(x:Str)(v:Value):Bool:=match v with | .str y _=>x==y | _=>false
noncomputable def allTwo{α β:Type}(p:α→β→Bool):List α→List β→Bool
 | [],[]=>true
 | a::l,b::r=>p a b&&allTwo p l r
 | _,_=>false
noncomputable def constB(h:Heap):Nat→Cn→Value→Bool
 | 0,_,_=>false
 | n+1,w,v=>match w with
  | .int i=>isI i v
  | .str x=>isS x v
  | .tup l=>(tupAt h v).any fun its=>decide (its.size≤sizeLine)&&allTwo (constB h n) l its.toList
noncomputable def dictAt(h:Heap)(v:Value):Option (Array DictEntry):=match v with
 | .ref a=>(h.get? a).bind fun o=>match o.cls with
  | .type t=>if t="dict" then (match o.data with | .dict es _=>if o.dict.isNone&&o.slots.isEmpty&&a != sysModules then some es else none | _=>none) else none
  | _=>none
 | _=>none
noncomputable def tabB(h:Heap)(l:List (Str×Cn))(v:Option Value):Bool×List Int:=match v.bind (dictAt h) with
 | some es=>(allTwo (fun p (e:DictEntry)=>isS p.1 e.key&&constB h 9 p.2 e.val) l es.toList,es.toList.map (·.hash))
 | none=>(false,[])
noncomputable def seeB(cons:List (Str×Cn))(bins:List Str)(h:Heap):Bool:=h.isNs mainGlobals&&cons.all (fun p=>(h.nsMap mainGlobals p.1).any fun v=>constB h 9 p.2 v)&&bins.all fun x=>(h.nsMap mainGlobals x).isNone
noncomputable def seeT(tabs:List (Str×List (Str×Cn)))(h:Heap):List (Bool×List Int):=tabs.map fun p=>tabB h p.2 (h.nsMap mainGlobals p.1)
noncomputable def goodT(tabs:List (Str×List (Str×Cn)))(w:World):List (Bool×List Int):=tabs.map fun p=>(true,p.2.map fun k=>PyData.keyHash w.params k.1)
noncomputable def hookC(cons:List (Str×Cn))(tabs:List (Str×List (Str×Cn)))(bins:List Str):PySem.W.Hook:=
 ⟨Bool×List (Bool×List Int),fun s=>(seeB cons bins s.heap,seeT tabs s.heap),fun w=>(true,goodT tabs w),
  fun w h=>∃h₀:Heap,(∀b o,h₀.get? b=some o→h.get? b=some o)∧seeB cons bins h₀=true∧seeT tabs h₀=goodT tabs w,
  fun w s e=>⟨s.heap,fun _ _ z=>z,congrArg Prod.fst e,congrArg Prod.snd e⟩,fun w h h' ⟨h₀,a,b⟩ k=>⟨h₀,fun _ _ z=>k _ _ (a _ _ z),b⟩⟩
theorem leftTwo{p q:Program}{loose:List Str}{Xt:Shared→Bool}{α:Type}{Yf:Shared→α}{Ya:World→α}{N:Nat}{g0:Bool}(row:String)
  (hf:∀w:World,(openEnds treeTable p (w.withFollow row false) N).map (fun s=>(openSeen q loose (importedModules p.main.body) Xt g0 s,Yf s))=some (openGood q loose,Ya (w.withFollow row false)))
  (ht:∀w:World,(openEnds treeTable p (w.withFollow row true) N).map (fun s=>(openSeen q loose (importedModules p.main.body) Xt g0 s,Yf s))=some (openGood q loose,Ya (w.withFollow row true))):LeftO p q loose Xt Yf Ya N g0:=
 byRow2 row (P:=fun w=>(openEnds treeTable p w N).map (fun s=>(openSeen q loose (importedModules p.main.body) Xt g0 s,Yf s))=some (openGood q loose,Ya w)) hf ht
end ML
namespace K1
open PySem PySem.W PyProof.Rows ML
def pw:Program:=PySem.Challenge.pw_shelfwork_k01_known
def isNm(x:String):Expr→Bool | .Name y ..=>y==x | _=>false
def drops:Stmt→Bool
 | .Assign [t] ..=>isNm "FORMS" t||isNm "__name__" t
 | _=>false
def q:Program:={ pw with main:={ pw.main with body:=pw.main.body.filter fun s=>!drops s } }
def consC:List (Str×Cn):=[("SHELVES",(.tup [(.str "a"),(.str "b"),(.str "c"),(.str "d")])),("MOST_WORTH",(.int 1008)),("MOST_FIGURES",(.int 3)),("MOST_RULES",(.int 4)),("MOST_DEEDS",(.int 60)),("MOST_NAMES",(.int 2))]
def tabsC:List (Str×List (Str×Cn)):=[("FORMS",[("number",(.tup [(.int 2),(.int 2)])),("name",(.tup [(.int 2),(.int 2)])),("read",(.tup [(.int 2),(.int 2)])),("write",(.tup [(.int 3),(.int 2)])),("add",(.tup [(.int 3),(.int 1)])),("less",(.tup [(.int 3),(.int 1)])),("then",(.tup [(.int 3),(.int 1)])),("if",(.tup [(.int 4),(.int 1)])),("loop",(.tup [(.int 3),(.int 1)])),("let",(.tup [(.int 4),(.int 2)])),("own",(.tup [(.int 4),(.int 2)])),("say",(.tup [(.int 2),(.int 1)])),("ask",(.tup [(.int 1),(.int 1)])),("do",(.tup [(.int 2),(.int 2)])),("call",(.tup [(.int 4),(.int 2)]))])]
def binsC:List Str:=["all","bool","dict","enumerate","int","isinstance","len","list","range","set","str","sum","tuple","zip"]
noncomputable def H:Hook:=hookC consC tabsC binsC
set_option maxHeartbeats 0 in
theorem said:PySem.Challenge.rw_shelfwork_k01_known.wellSaid=true:=by kernel_rfl
set_option maxHeartbeats 0 in
theorem leftF(w:World):(openEnds treeTable pw (w.withFollow "special-get-raises" false) 3400).map (fun s=>(openSeen q ["FORMS"] (importedModules pw.main.body) (fun s=>xlAt q [] s&&recOk [] s) true s,H.obs s))=some (openGood q ["FORMS"],H.val (w.withFollow "special-get-raises" false)):=by kernel_rfl
set_option maxHeartbeats 0 in
theorem leftT(w:World):(openEnds treeTable pw (w.withFollow "special-get-raises" true) 3400).map (fun s=>(openSeen q ["FORMS"] (importedModules pw.main.body) (fun s=>xlAt q [] s&&recOk [] s) true s,H.obs s))=some (openGood q ["FORMS"],H.val (w.withFollow "special-get-raises" true)):=by kernel_rfl
theorem left:LeftO pw q ["FORMS"] (fun s=>xlAt q [] s&&recOk [] s) H.obs H.val 3400:=leftTwo "special-get-raises" leftF leftT
end K1
section
namespace L2
open PySem PySem.Spec PyProof.Rows
abbrev Key:=Sum Int Str
def keyIs:Key→Value→Bool
 | .inl k,v=>Value.isInt k v
 | .inr x,v=>Value.isStrOf x v
def keyH(w:World):Key→Int
 | .inl k=>hashInt k
 | .inr x=>hashStr w x
theorem keyIs_shape:∀{k:Key} {v:Value},keyIs k v=true→(∃i t,k=Sum.inl i∧v=Value.int i t)∨(∃x t,k=Sum.inr x∧v=Value.str x t)
 | .inl i,v,h=>by
  obtain⟨t,e⟩:=Value.isInt_shape (k:=i) (v:=v) h
  exact .inl ⟨i,t,rfl,e⟩
 | .inr x,v,h=>by
  obtain⟨t,e⟩:=Value.isStrOf_shape (x:=x) (v:=v) h
  exact .inr ⟨x,t,rfl,e⟩
theorem keyIs_int(i:Int)(t:Tok):keyIs (.inl i) (.int i t)=true:=by simp[keyIs,Value.isInt]
theorem keyIs_str(x:Str)(t:Tok):keyIs (.inr x) (.str x t)=true:=by simp[keyIs,Value.isStrOf]
theorem key_ll(a b:Int):decide ((Sum.inl a:Key)=Sum.inl b)=(a==b):=by
 by_cases e:a=b
 .subst e; simp
 .have h:¬(Sum.inl a:Key)=Sum.inl b:=fun q=>e (Sum.inl.inj q)
  rw[decide_eq_false h]
  exact(beq_eq_false_iff_ne.mpr e).symm
theorem key_rr(a b:Str):decide ((Sum.inr a:Key)=Sum.inr b)=decide (a=b):=by
 by_cases e:a=b
 .subst e; simp
 .have h:¬(Sum.inr a:Key)=Sum.inr b:=fun q=>e (Sum.inr.inj q)
  rw[decide_eq_false h,decide_eq_false e]
theorem key_lr(a:Int)(b:Str):decide ((Sum.inl a:Key)=Sum.inr b)=false:=decide_eq_false (fun q=>nomatch q)
theorem key_rl(a:Str)(b:Int):decide ((Sum.inr a:Key)=Sum.inl b)=false:=decide_eq_false (fun q=>nomatch q)
def mixKind(prog:Program)(w:World):PySem.KeyKind prog w Key where
 is:=keyIs
 hash:=keyH w
 inj:=fun v a b ha hb=>by
  rcases keyIs_shape ha with ⟨i,t,rfl,rfl⟩ | ⟨x,t,rfl,rfl⟩
  .rcases keyIs_shape hb with ⟨j,u,rfl,e⟩ | ⟨y,u,rfl,e⟩
   .injection e with e1 _; rw[e1]
   .exact nomatch e
  .rcases keyIs_shape hb with ⟨j,u,rfl,e⟩ | ⟨y,u,rfl,e⟩
   .exact nomatch e
   .injection e with e1 _; rw[e1]
 byValue:=fun k v h=>by
  rcases keyIs_shape h with ⟨i,t,rfl,rfl⟩ | ⟨x,t,rfl,rfl⟩<;>rfl
 pyHash:=fun hv h=>by
  rcases keyIs_shape hv with ⟨i,t,rfl,rfl⟩ | ⟨x,t,rfl,rfl⟩
  .exact wpAny_pyHash_int h
  .exact wpAny_pyHash_str h
 eqBool:=fun hu hv h=>by
  rcases keyIs_shape hu with ⟨i,t,rfl,rfl⟩ | ⟨x,t,rfl,rfl⟩
  .rcases keyIs_shape hv with ⟨j,u,rfl,rfl⟩ | ⟨y,u,rfl,rfl⟩
   .rw[key_ll] at h; exact wpAny_eqBool_int h
   .rw[key_lr] at h; exact SeqAt.EqAt.int_str i t y u _ _ _ _ h
  .rcases keyIs_shape hv with ⟨j,u,rfl,rfl⟩ | ⟨y,u,rfl,rfl⟩
   .rw[key_rl] at h; exact SeqAt.EqAt.str_int x t j u _ _ _ _ h
   .rw[key_rr] at h; exact wpAny_eqBool_str h
 «strs»:=fun k x t v h=>by
  rcases keyIs_shape h with ⟨i,u,rfl,e⟩ | ⟨y,u,rfl,e⟩
  .exact nomatch e
  .injection e with e1 _
   subst e1
   cases v<;>rfl
theorem mixKind_int(prog:Program)(w:World)(i:Int)(t:Tok):(mixKind prog w).is (.inl i) (.int i t)=true:=keyIs_int i t
theorem mixKind_str(prog:Program)(w:World)(x:Str)(t:Tok):(mixKind prog w).is (.inr x) (.str x t)=true:=keyIs_str x t
end L2
namespace L2
open PySem PySem.Spec PyProof.Rows
inductive V where
 | non | bl (b:Bool) | int (i:Int) | str (x:Str) | byt (b:Array UInt8) | flt (b:UInt64) | ref (a:Addr) | ty (n:String)
 deriving DecidableEq
def RelV:V→Value→Prop
 | .non,u=>u=Value.none
 | .bl b,u=>u=Value.bool b
 | .int i,u=>∃t,u=Value.int i t
 | .str x,u=>∃t,u=Value.str x t
 | .byt b,u=>∃t,u=Value.bytes b t
 | .flt b,u=>∃t,u=Value.float b t
 | .ref a,u=>u=Value.ref a
 | .ty n,u=>u=Value.type n
abbrev Vals:List V→List Value→Prop:=Paired RelV
theorem Vals.length{xs:List V}{us:List Value}(r:Vals xs us):xs.length=us.length:=Paired.length r
theorem Vals.get:∀{xs:List V} {us:List Value} {i:Nat} {x:V},Vals xs us→xs[i]?=some x→∃u,us[i]?=some u∧RelV x u
 | _,_,_,_,.nil,e=>by simp at e
 | _,_,0,_,.cons r _,e=>by simp at e; subst e; exact⟨_,rfl,r⟩
 | _,_,i+1,x,.cons _ t,e=>by
  obtain⟨u,h1,h2⟩:=Vals.get (i:=i) (x:=x) t (by simpa using e)
  exact⟨u,by simpa using h1,h2⟩
theorem Vals.append:∀{xs ys:List V} {us ws:List Value},Vals xs us→Vals ys ws→Vals (xs++ys) (us++ws)
 | _,_,_,_,.nil,s=>s
 | _,_,_,_,.cons r t,s=>.cons r (Vals.append t s)
theorem Vals.take:∀{xs:List V} {us:List Value} (n:Nat),Vals xs us→Vals (xs.take n) (us.take n)
 | _,_,0,_=>.nil
 | _,_,_+1,.nil=>.nil
 | _,_,n+1,.cons r t=>.cons r (Vals.take n t)
theorem Vals.drop:∀{xs:List V} {us:List Value} (n:Nat),Vals xs us→Vals (xs.drop n) (us.drop n)
 | _,_,0,r=>r
 | _,_,_+1,.nil=>.nil
 | _,_,n+1,.cons _ t=>Vals.drop n t
def RelO:Option V→Option Value→Prop
 | some v,some u=>RelV v u
 | none,none=>True
 | _,_=>False
def KV{κ:Type}:List (κ×V)→List (κ×Value)→Prop:=Paired fun(p:κ×V) (q:κ×Value)=>p.1=q.1∧RelV p.2 q.2
def kV:Key→V
 | .inl i=>.int i
 | .inr x=>.str x
inductive HO where
 | lst (xs:List V)
 | tup (xs:List V)
 | dK (kvs:List (Key×V)) | dT (kvs:List (List Key×V))
 | set (S:Int→Bool) (n:Nat)
 | ins (C dx:Addr) (fs:List (Str×V))
 | own (x:Addr)
 | xd (fs:List (Str×V))
 | met (f x:Addr)
 | rng (lo hi:Int)
 | frz (o:Obj) (u:HO)
 | tbl (ps:Array Value)
 | ext (φ:Heap→Prop)
abbrev Hp:=Addr→Option HO
def upd(H:Hp)(a:Addr)(o:HO):Hp:=fun b=>if b=a then some o else H b
theorem upd_same{H:Hp}{a:Addr}{o:HO}:upd H a o a=some o:=by unfold upd; rw[if_pos rfl]
theorem upd_ne{H:Hp}{a b:Addr}{o:HO}(h:b≠a):upd H a o b=H b:=by unfold upd; rw[if_neg h]
theorem ne_of_none{H:Hp}{a b:Addr}{o:HO}(h:H a=some o)(h':H b=none):a≠b:=by
 intro e; subst e; rw[h] at h'; cases h'
section
variable(P:Program)(w:World)
def ObjOk(H:Hp)(h:Heap)(a:Addr):HO→Prop
 | .lst xs=>xs.length≤sizeLine∧∃(its:List Value) (n:Nat),Vals xs its∧h.get? a=some { cls:=.type "list",data:=.seq its.toArray n }
 | .tup xs=>xs.length≤sizeLine∧∃its:List Value,Vals xs its∧IsTup h a its.toArray
 | .dK kvs=>kvs.length≤sizeLine∧(a==sysModules)=false∧∃vs,KV kvs vs∧h.DictOf (mixKind P w) a vs
 | .dT kvs=>kvs.length≤sizeLine∧(a==sysModules)=false∧∃xs:List (List Key×Addr×Value),
   Paired (fun(p:List Key×V) (q:List Key×Addr×Value)=>p.1=q.1∧H q.2.1=some (.tup (p.1.map kV))∧RelV p.2 q.2.2) kvs xs ∧
   ∃o es ep,h.get? a=some o∧o.ExactDict∧o.data=.dict es ep∧es.toList=xs.map (entryOfKey (tupleKind (mixKind P w)))∧(xs.map (·.1)).Nodup
 | .set S n=>h.SetOf (intKind P w) a S n
 | .ins C dx fs=>H dx=some (.own a)∧fs.length≤1000∧dx≠a∧h.get? a=some (PySem.W.instObj C dx) ∧
   ∃mA,h.Ns1 dx mA∧(∀f,RelO (fs.lookup f) (mA f))∧PySem.Within mA (fs.map (·.1))
 | .own _=>∃o,h.get? a=some o
 | .xd fs=>∃mA,h.Ns1 a mA∧∀f,RelO (fs.lookup f) (mA f)
 | .rng lo hi=>∃t u v,h.get? a=some { cls:=.type "range",data:=.fields #[.int lo t,.int hi u,.int 1 v] }
 | .frz o u=>h.get? a=some o∧ObjOk H h a u
 | .tbl ps=>h.get? a=some { cls:=.none,data:=.fields ps }
 | .met f x=>h.get? a=some (PySem.W.methodObj (.ref f) (.ref x))
 | .ext φ=>φ h∧(∃o,h.get? a=some o)∧∀h1 h2:Heap,φ h1→(∀o,h1.get? a=some o→h2.get? a=some o)→φ h2
def HOk(H:Hp)(h:Heap):Prop:=∀a o,H a=some o→ObjOk P w H h a o
end
section
variable{P:Program}{w:World}{H H':Hp}{h h':Heap}{a:Addr}{o:HO}
theorem ObjOk.lt(x:ObjOk P w H h a o):a<h.objs.size:=by
 cases o with
 | lst xs=>obtain⟨_,_,_,_,e⟩:=x; exact Heap.lt_size e
 | tup xs=>obtain⟨_,_,_,p⟩:=x; exact p.lt
 | dK kvs=>obtain⟨_,_,_,_,o,_,_,e,_⟩:=x; exact Heap.lt_size e
 | dT kvs=>obtain⟨_,_,_,_,o,_,_,e,_⟩:=x; exact Heap.lt_size e
 | set S n=>obtain⟨o,_,_,_,e,_⟩:=x; exact Heap.lt_size e
 | ins C dx fs=>obtain⟨_,_,_,e,_⟩:=x; exact Heap.lt_size e
 | own y=>obtain⟨_,e⟩:=x; exact Heap.lt_size e
 | xd fs=>obtain⟨_,⟨_,_,_,e,_⟩,_⟩:=x; exact Heap.lt_size e
 | rng lo hi=>obtain⟨_,_,_,e⟩:=x; exact Heap.lt_size e
 | frz ob u=>obtain⟨e,_⟩:=x; exact Heap.lt_size e
 | tbl ps=>exact Heap.lt_size (show h.get? a=some _ from x)
 | met f y=>exact Heap.lt_size (show h.get? a=some _ from x)
 | ext φ=>obtain⟨_,⟨_,e⟩,_⟩:=x; exact Heap.lt_size e
theorem Paired.mapP{α β:Type}{F G:α→β→Prop}:∀{l₁:List α} {l₂:List β},Paired F l₁ l₂→(∀a b,F a b→G a b)→Paired G l₁ l₂
 | _,_,.nil,_=>.nil
 | _,_,.cons r t,f=>.cons (f _ _ r) (Paired.mapP t f)
theorem ObjOk.stay(x:ObjOk P w H h a o)(k:∀b u,(b=a∨H b=some (.own a))→h.get? b=some u→h'.get? b=some u)
  (ho:∀b,H b=some (.own a)→H' b=some (.own a)) (ht:∀b xs,H b=some (.tup xs)→H' b=some (.tup xs)):ObjOk P w H' h' a o:=by
 induction o with
 | lst xs=>obtain⟨z,its,n,r,e⟩:=x; exact⟨z,its,n,r,k _ _ (.inl rfl) e⟩
 | tup xs=>obtain⟨z,its,r,ob,e,c⟩:=x; exact⟨z,its,r,ob,k _ _ (.inl rfl) e,c⟩
 | dK kvs=>obtain⟨z,y,vs,r,ob,es,ep,e,c⟩:=x; exact⟨z,y,vs,r,ob,es,ep,k _ _ (.inl rfl) e,c⟩
 | dT kvs=>
  obtain⟨z,y,xs,r,ob,es,ep,e,c⟩:=x
  exact⟨z,y,xs,Paired.mapP r fun p q z=>⟨z.1,ht _ _ z.2.1,z.2.2⟩,ob,es,ep,k _ _ (.inl rfl) e,c⟩
 | set S n=>obtain⟨ob,es,ep,t,e,c⟩:=x; exact⟨ob,es,ep,t,k _ _ (.inl rfl) e,c⟩
 | ins C dx fs=>
  obtain⟨d,z,ne,e,mA,⟨od,es,ep,e2,c⟩,r⟩:=x
  exact⟨ho _ d,z,ne,k _ _ (.inl rfl) e,mA,⟨od,es,ep,k _ _ (.inr d) e2,c⟩,r⟩
 | own y=>obtain⟨ob,e⟩:=x; exact⟨ob,k _ _ (.inl rfl) e⟩
 | xd fs=>obtain⟨mA,⟨od,es,ep,e,c⟩,r⟩:=x; exact⟨mA,⟨od,es,ep,k _ _ (.inl rfl) e,c⟩,r⟩
 | rng lo hi=>obtain⟨t,u,v,e⟩:=x; exact⟨t,u,v,k _ _ (.inl rfl) e⟩
 | frz ob u ih=>obtain⟨e,q⟩:=x; exact⟨k _ _ (.inl rfl) e,ih q⟩
 | tbl ps=>
  have e:h.get? a=some { cls:=.none,data:=.fields ps }:=x
  show h'.get? a=some { cls:=.none,data:=.fields ps }
  exact k a _ (.inl rfl) e
 | met f y=>
  have e:h.get? a=some (PySem.W.methodObj (.ref f) (.ref y)):=x
  show h'.get? a=some (PySem.W.methodObj (.ref f) (.ref y))
  exact k a _ (.inl rfl) e
 | ext φ=>obtain⟨p,⟨o,e⟩,st⟩:=x; exact⟨st _ _ p fun o q=>k _ _ (.inl rfl) q,⟨o,k _ _ (.inl rfl) e⟩,st⟩
theorem HOk.lt(x:HOk P w H h)(e:H a=some o):a<h.objs.size:=(x a o e).lt
theorem HOk.fresh(x:HOk P w H h)(e:h.objs.size≤a):H a=none:=by
 cases q:H a with
 | none=>rfl
 | some u=>exact absurd (Nat.lt_of_lt_of_le (x.lt q) e) (Nat.lt_irrefl _)
theorem HOk.kept(x:HOk P w H h)(k:∀b u,h.get? b=some u→h'.get? b=some u):HOk P w H h':=fun a o e=>
 (x a o e).stay (fun b u _ q=>k b u q) (fun _ q=>q) fun _ _ q=>q
theorem HOk.laid(x:HOk P w H h)(k:∀b u,h.get? b=some u→h'.get? b=some u)(hp:h.objs.size≤a)(new:ObjOk P w (upd H a o) h' a o):HOk P w (upd H a o) h':=fun b u e=>by
 have hn:=x.fresh hp
 by_cases hb:b=a
 .subst hb; rw[upd_same] at e; cases e; exact new
 .rw[upd_ne hb] at e
  exact(x b u e).stay (fun c v _ q=>k c v q) (fun c q=>by rw[upd_ne (ne_of_none q hn)]; exact q) fun c xs q=>by rw[upd_ne (ne_of_none q hn)]; exact q
end
def Rd(H:Hp)(a:Addr)(u:HO):Prop:=H a=some u∨∃o,H a=some (.frz o u)
theorem Rd.ok{P:Program}{w:World}{H:Hp}{h:Heap}{a:Addr}{u:HO}(r:Rd H a u)(x:HOk P w H h):ObjOk P w H h a u:=by
 rcases r with r | ⟨o,r⟩
 .exact x a u r
 .obtain⟨_,q⟩:=x a _ r
  exact q
def Mut:Option HO→Prop
 | some (.lst _)=>True
 | some (.dK _)=>True
 | some (.dT _)=>True
 | some (.set _ _)=>True
 | some (.ins _ _ _)=>True
 | some (.ext _)=>True
 | _=>False
section
variable{P:Program}{w:World}{H:Hp}{h h':Heap}{x e:Addr}{o':HO}
theorem HOk.write(ok:HOk P w H h)(mu:Mut (H x))(he:e=x∨H e=some (.own x))(k:∀b u,b≠e→h.get? b=some u→h'.get? b=some u)(heo:∃u,h'.get? e=some u)
  (new:ObjOk P w (upd H x o') h' x o'):HOk P w (upd H x o') h':=fun b u q=>by
 have nown:∀c y,H c=some (.own y)→c≠x:=fun c y r z=>by subst z; rw[r] at mu; exact mu
 have ntup:∀c xs,H c=some (.tup xs)→c≠x:=fun c xs r z=>by subst z; rw[r] at mu; exact mu
 by_cases hb:b=x
 .subst hb; rw[upd_same] at q; cases q; exact new
 .rw[upd_ne hb] at q
  by_cases hbe:b=e
  .have q':H b=some (.own x):=by
    rcases he with z | z
    .exact absurd (hbe.trans z) hb
    .rw[hbe]; exact z
   rw[q] at q'; cases q'
   obtain⟨v,hv⟩:=heo
   exact⟨v,by rw[hbe]; exact hv⟩
  .refine(ok b u q).stay (fun c v hc r=>k c v ?_ r) (fun c r=>by rw[upd_ne (nown c b r)]; exact r) fun c xs r=>by rw[upd_ne (ntup c xs r)]; exact r
   rcases hc with rfl | hc
   .exact hbe
   .rintro rfl
    rcases he with z | z
    .exact nown c b hc z
    .rw[hc] at z; cases z; exact hb rfl
end
structure Un(fs ex:List Addr)(H H':Hp)(h h':Heap):Prop where
 keep:∀b o,h.get? b=some o→H b=none→b∉fs→b∉ex→h'.get? b=some o
 slot:∀b o,h.get? b=some o→H b=none→b∈fs→b∉ex→∃sl,h'.get? b=some { o with slots:=sl }
 free:∀b o,h.get? b=some o→H b=none→b∉ex→H' b=none
 there:∀b o,h.get? b=some o→b∉ex→∃o',h'.get? b=some o'
 tups:∀b xs,H b=some (.tup xs)→H' b=some (.tup xs)
 frzs:∀b o u,H b=some (.frz o u)→H' b=some (.frz o u)
 tbls:∀b ps,H b=some (.tbl ps)→∃more,H' b=some (.tbl (ps++more))
section
variable{fs fs' ex ex':List Addr}{H H1 H2:Hp}{h h1 h2 h':Heap}{a x e:Addr}{o:HO}
theorem Un.any(u:Un fs ex H H1 h h1){b:Addr}{ob:Obj}(q:h.get? b=some ob)(n:H b=none)(hx:b∉ex):∃sl,h1.get? b=some { ob with slots:=sl }:=by
 by_cases hb:b∈fs
 .exact u.slot b ob q n hb hx
 .exact⟨ob.slots,u.keep b ob q n hb hx⟩
theorem Un.kept(k:∀b u,h.get? b=some u→h'.get? b=some u):Un fs ex H H h h':=
 ⟨fun b ob q _ _ _=>k b ob q,fun b ob q _ _ _=>⟨ob.slots,k b ob q⟩,fun _ _ _ n _=>n,fun b ob q _=>⟨ob,k b ob q⟩,fun _ _ q=>q,fun _ _ _ q=>q,fun _ ps q=>⟨#[],by rw[q]; simp⟩⟩
theorem Un.refl:Un fs ex H H h h:=Un.kept fun _ _ q=>q
theorem Un.laid(k:∀b u,h.get? b=some u→h'.get? b=some u)(hp:h.objs.size≤a)(hn:H a=none):Un fs ex H (upd H a o) h h' where
 keep:=fun b u q _ _ _=>k b u q
 slot:=fun b u q _ _ _=>⟨u.slots,k b u q⟩
 free:=fun b u q n _=>by rw[upd_ne (Nat.ne_of_lt (Nat.lt_of_lt_of_le (Heap.lt_size q) hp))]; exact n
 there:=fun b u q _=>⟨u,k b u q⟩
 tups:=fun b xs q=>by rw[upd_ne (ne_of_none q hn)]; exact q
 frzs:=fun b u xs q=>by rw[upd_ne (ne_of_none q hn)]; exact q
 tbls:=fun b ps q=>⟨#[],by rw[upd_ne (ne_of_none q hn),q]; simp⟩
theorem Un.write(mu:Mut (H x))(he:e=x∨H e=some (.own x))(k:∀b u,b≠e→h.get? b=some u→h'.get? b=some u)(heo:∃u,h'.get? e=some u):Un fs ex H (upd H x o) h h':=by
 have hx:∀b,H b=none→b≠x:=fun b n z=>by subst z; rw[n] at mu; exact mu
 have hb:∀b,H b=none→b≠e:=fun b n z=>by
  subst z
  rcases he with r | r
  .exact hx b n r
  .rw[n] at r; cases r
 have hm:∀b u,H b=some u→¬Mut (some u)→b≠x:=fun b u q nm z=>by subst z; rw[q] at mu; exact nm mu
 refine⟨fun b u q n _ _=>k b u (hb b n) q,fun b u q n _ _=>⟨u.slots,k b u (hb b n) q⟩,fun b u q n _=>by rw[upd_ne (hx b n)]; exact n,fun b u q _=>?_,
  fun b xs q=>by rw[upd_ne (hm b _ q fun z=>z)]; exact q,fun b u xs q=>by rw[upd_ne (hm b _ q fun z=>z)]; exact q,fun b ps q=>⟨#[],by rw[upd_ne (hm b _ q fun z=>z),q]; simp⟩⟩
 by_cases hbe:b=e
 .subst hbe; exact heo
 .exact⟨u,k b u hbe q⟩
end
def trk(h:Heap)(H:Hp):List Addr:=(List.range h.objs.size).filter fun a=>(H a).isSome
def hidT(h:Heap)(H:Hp):Heap:=PySem.W.hideAll h (trk h H)
theorem hidT_size(h:Heap)(H:Hp):(hidT h H).objs.size=h.objs.size:=PySem.W.hideAll_size _ _
theorem hidT_get{h:Heap}{H:Hp}{b:Addr}{o:Obj}(e:h.get? b=some o)(n:H b=none):(hidT h H).get? b=some o:=
 PySem.W.hideAll_get _ e fun hm=>by
  have q:(H b).isSome=true:=(List.mem_filter.mp hm).2
  rw[n] at q; simp at q
theorem of_hidT{h:Heap}{H:Hp}{b:Addr}{o:Obj}(e:(hidT h H).get? b=some o):h.get? b=some o∧H b=none:=by
 have e':h.get? b=some o:=PySem.W.of_hideAll (trk h H) e
 refine⟨e',?_⟩
 cases q:H b with
 | none=>rfl
 | some x=>
  have hm:b∈trk h H:=List.mem_filter.mpr ⟨List.mem_range.mpr (Heap.lt_size e'),by simp[q]⟩
  have z:(hidT h H).get? b=none:=PySem.W.hideAll_none (trk h H) hm
  rw[z] at e; cases e
end L2
namespace L2
open PySem PySem.Spec PyProof.Rows
structure Mod(K:PySem.W.Frag)(mg:Str→Option Value)(base:Heap):Prop where
 kin:K.In base
 glob:base.Ns mainGlobals mg
 blt:∃mb,base.Ns builtinsNs mb∧∀x:Str,x≠"__name__"→mb x=bootBuiltins x
 nolimit:base.NoLimit
structure Cx where
 prog:Program
 w:World
 K:PySem.W.Frag
 mg:Str→Option Value
 base:Heap
 A:Around
 N:List Str
 s₀:Shared
 H₀:Hp
 env:Env
 outer:List Env
 stack:List Env
 ex:List Addr
 fn:Str→Bool
 calm:Bool
 pn:List (Addr×Obj)
 xe:Value→Shared→Prop
def frs(l:List Env):List Addr:=l.filterMap (·.frame)
abbrev Cx.fs(X:Cx):List Addr:=frs X.outer
def Vis(sc:Scope)(x:Str):Prop:=sc.names.lookup x=some .local∨sc.names.lookup x=some .cell∨sc.names.lookup x=some .free
def Loc(sc:Scope)(x:Str):Prop:=sc.names.lookup x=some .local∨sc.names.lookup x=some .cell
def Look(env:Env)(h:Heap)(m:Str→Option Value)(x:Str)(u:Value):Prop:=
 (env.kindOf x=some .local∧m x=some u)∨((env.kindOf x=some .cell∨env.kindOf x=some .free)∧∃c,env.cells.lookup x=some c∧h.IsCell c (some u))
structure Cx.Ok(X:Cx):Prop where
 mod:Mod X.K X.mg X.base
 kind:X.env.scope.kind=.function
 glob:X.env.globals=mainGlobals
 blt:X.env.builtins=builtinsNs
 above:X.s₀.heap.objs.size≤X.env.locals
 inj:∀x y c,X.env.cells.lookup x=some c→X.env.cells.lookup y=some c→x=y
 has:∀x,(X.env.kindOf x=some .cell∨X.env.kindOf x=some .free)→∃c,X.env.cells.lookup x=some c
 cab:∀x c,X.fn x=true→X.env.cells.lookup x=some c→X.s₀.heap.objs.size≤c
 hd:X.calm=true→X.A.handled=none
 frames:X.A.frames=some X.stack
 stk:X.stack=X.outer∨(X.stack=X.env::X.outer∧X.env.frame=some X.env.locals)
 exf:∀b∈X.ex,b≠X.env.locals∧∀x c,X.env.cells.lookup x=some c→c≠b
 bs:∀b o,X.base.get? b=some o→X.s₀.heap.get? b=some o∧X.H₀ b=none
 bsz:X.base.objs.size≤X.s₀.heap.objs.size
 noex:∀b o,X.base.get? b=some o→b∉X.ex
 exfs:∀b∈X.ex,b∉X.fs
 funs:X.s₀.heap.FunFrames X.base X.outer
 frf:∀b∈X.fs,X.H₀ b=none
structure Inv(X:Cx)(pins:List (Addr×Obj))(σ:List (Option V))(H:Hp)(s:Shared):Prop where
 ok:X.Ok
 os:s.os=X.s₀.os
 bare:AllBare s.gens
 base:Un X.fs X.ex X.H₀ H X.s₀.heap s.heap
 loc:∃m,s.heap.Ns X.env.locals m∧∀(i:Nat) (x:Str) (v:V),X.N[i]?=some x→σ[i]?=some (some v)→Vis X.env.scope x→∃u,RelV v u∧Look X.env s.heap m x u
 cell:∀x c,X.env.cells.lookup x=some c→∃v,s.heap.IsCell c v
 free:H X.env.locals=none
 freeC:∀x c,X.env.cells.lookup x=some c→H c=none
 pin:∀p∈X.pn++pins,s.heap.get? p.1=some p.2∧H p.1=none∧p.1≠X.env.locals∧p.1∉X.fs∧∀v,p.2.data≠.cell v
 hok:HOk X.prog X.w H s.heap
 len:σ.length=X.N.length
section
variable{X:Cx}{pins:List (Addr×Obj)}{σ:List (Option V)}{H H':Hp}{s:Shared}{h':Heap}
theorem Cx.Ok.nofr(ok:X.Ok){b:Addr}{o:Obj}(e:X.base.get? b=some o):b∉X.fs:=fun hb=>by
 have:=(ok.funs.mem hb).1
 rw[e] at this; cases this
theorem Inv.bs(I:Inv X pins σ H s):∀b o,X.base.get? b=some o→s.heap.get? b=some o∧H b=none:=fun b o e=>
 ⟨I.base.keep b o (I.ok.bs b o e).1 (I.ok.bs b o e).2 (I.ok.nofr e) (I.ok.noex b o e),I.base.free b o (I.ok.bs b o e).1 (I.ok.bs b o e).2 (I.ok.noex b o e)⟩
theorem Inv.bk(I:Inv X pins σ H s):∀b o,X.base.get? b=some o→s.heap.get? b=some o:=fun b o e=>(I.bs b o e).1
theorem Inv.mod(I:Inv X pins σ H s):Mod X.K X.mg X.base:=I.ok.mod
theorem Inv.kIn(I:Inv X pins σ H s):X.K.In s.heap:=I.ok.mod.kin.keeps I.bk
theorem Inv.lt(I:Inv X pins σ H s):X.env.locals<s.heap.objs.size:=let ⟨_,hn,_⟩:=I.loc; hn.lt
theorem Inv.sz(I:Inv X pins σ H s):X.s₀.heap.objs.size≤s.heap.objs.size:=Nat.le_trans I.ok.above (Nat.le_of_lt I.lt)
theorem Inv.nofs(I:Inv X pins σ H s){a:Addr}(h:s.heap.objs.size≤a):a∉X.fs:=fun hb=>by
 obtain⟨_,o,ho,_⟩:=I.ok.funs.mem hb
 exact absurd (Nat.lt_of_lt_of_le (Heap.lt_size ho) (Nat.le_trans I.sz h)) (Nat.lt_irrefl _)
theorem Inv.cne(I:Inv X pins σ H s):∀x c,X.env.cells.lookup x=some c→c≠X.env.locals:=fun x c e z=>by
 obtain⟨v,o,ho,hd⟩:=I.cell x c e
 obtain⟨m,⟨o',es,ep,ho',hd',_⟩,_⟩:=I.loc
 rw[z,ho'] at ho; cases ho; rw[hd'] at hd; cases hd
theorem Inv.funs(I:Inv X pins σ H s):s.heap.FunFrames X.base X.outer:=by
 have all:∀(l:List Env),(∀b∈frs l,b∈X.fs)→X.s₀.heap.FunFrames X.base l→s.heap.FunFrames X.base l:=by
  intro l
  induction l with
  | nil=>intro _ _; trivial
  | cons env r ih=>
   intro hs hl
   obtain⟨hk,⟨L,o,hf,hn,ho,hd⟩,hr⟩:=hl
   have hL:L∈X.fs:=hs L (by unfold frs; rw[List.filterMap_cons,hf]; exact List.mem_cons_self)
   obtain⟨sl,e⟩:=I.base.slot L o ho (I.ok.frf L hL) hL fun z=>I.ok.exfs L z hL
   exact⟨hk,⟨L,_,hf,hn,e,hd⟩,ih (fun b hb=>hs b (by unfold frs; rw[List.filterMap_cons,hf]; exact List.mem_cons_of_mem _ hb)) hr⟩
 exact all X.outer (fun _ hb=>hb) I.ok.funs
theorem Inv.stack(I:Inv X pins σ H s):s.heap.FunFrames X.base X.stack:=by
 rcases I.ok.stk with e | ⟨e,hf⟩
 .rw[e]; exact I.funs
 .rw[e]
  obtain⟨m,hn,_⟩:=I.loc
  refine .cons (by rw[I.ok.kind]; decide) hf hn ?_ I.funs
  exact Heap.get?_none_of_le (Nat.le_trans I.ok.bsz I.ok.above)
theorem Inv.stkSub(I:Inv X pins σ H s):∀b∈frs X.stack,b∈X.env.locals::X.fs:=fun b hb=>by
 rcases I.ok.stk with e | ⟨e,hf⟩
 .rw[e] at hb; exact List.mem_cons_of_mem _ hb
 .rw[e] at hb
  unfold frs at hb
  rw[List.filterMap_cons,hf] at hb
  exact hb
theorem Inv.stkFree(I:Inv X pins σ H s):∀b∈frs X.stack,H b=none:=fun b hb=>by
 rcases List.mem_cons.mp (I.stkSub b hb) with e | hb
 .rw[e]; exact I.free
 .obtain⟨_,o,ho,_⟩:=I.ok.funs.mem hb
  exact I.base.free b o ho (I.ok.frf b hb) fun z=>I.ok.exfs b z hb
theorem Inv.step{g':Array GenState}{t':Nat}{d':Drawn}{ch:List Addr}(I:Inv X pins σ H s)
  (hch:∀b∈ch,(b∈X.ex∨X.s₀.heap.objs.size≤b)∧b≠X.env.locals∧(∀x c,X.env.cells.lookup x=some c→c≠b)∧∀p∈X.pn++pins,p.1≠b)
  (keep:∀b o,b≠X.env.locals→b∉X.fs→b∉ch→s.heap.get? b=some o→H b=none→h'.get? b=some o)
  (slot:∀b o,b≠X.env.locals→b∈X.fs→b∉ch→s.heap.get? b=some o→H b=none→∃sl,h'.get? b=some { o with slots:=sl }) (free:∀b o,b∉ch→s.heap.get? b=some o→H b=none→H' b=none)
  (there:∀b o,b∉ch→s.heap.get? b=some o→∃o',h'.get? b=some o')
  (tups:∀b xs,H b=some (.tup xs)→H' b=some (.tup xs)) (frzs:∀b o u,H b=some (.frz o u)→H' b=some (.frz o u)) (tbls:∀b ps,H b=some (.tbl ps)→∃more,H' b=some (.tbl (ps++more)))
  (ns:∀m,s.heap.Ns X.env.locals m→h'.Ns X.env.locals m) (hok:HOk X.prog X.w H' h') (hg:AllBare g') :
  Inv X pins σ H' { s with heap:=h',gens:=g',drawn:=d',toks:=t' }:=by
 have neL:∀b o,X.s₀.heap.get? b=some o→b≠X.env.locals:=fun b o e=>Nat.ne_of_lt (Nat.lt_of_lt_of_le (Heap.lt_size e) I.ok.above)
 have neC:∀b o,X.s₀.heap.get? b=some o→b∉X.ex→b∉ch:=fun b o e hx hb=>by
  rcases(hch b hb).1 with z | z
  .exact hx z
  .exact absurd (Nat.lt_of_lt_of_le (Heap.lt_size e) z) (Nat.lt_irrefl _)
 have cellK:∀x c,X.env.cells.lookup x=some c→∀v,s.heap.IsCell c v→h'.IsCell c v:=fun x c e v ⟨o,ho,hd⟩=>by
  have nch:c∉ch:=fun z=>(hch c z).2.2.1 x c e rfl
  by_cases hc:c∈X.fs
  .obtain⟨sl,q⟩:=slot c o (I.cne x c e) hc nch ho (I.freeC x c e)
   exact⟨_,q,hd⟩
  .exact⟨o,keep c o (I.cne x c e) hc nch ho (I.freeC x c e),hd⟩
 refine⟨I.ok,I.os,hg,⟨fun b o e n hb hx=>?_,fun b o e n hb hx=>?_,fun b o e n hx=>?_,fun b o e hx=>?_,fun b xs e=>tups b xs (I.base.tups b xs e),fun b o xs e=>frzs b o xs (I.base.frzs b o xs e),fun b ps e=>?_⟩,?_,fun x c e=>?_,?_,fun x c e=>?_,fun p hp=>?_,hok,I.len⟩
 .exact keep b o (neL b o e) hb (neC b o e hx) (I.base.keep b o e n hb hx) (I.base.free b o e n hx)
 .obtain⟨sl,e1⟩:=I.base.slot b o e n hb hx
  obtain⟨sl',e2⟩:=slot b _ (neL b o e) hb (neC b o e hx) e1 (I.base.free b o e n hx)
  exact⟨sl',e2⟩
 .obtain⟨o',e1⟩:=I.base.there b o e hx
  exact free b o' (neC b o e hx) e1 (I.base.free b o e n hx)
 .obtain⟨o',e1⟩:=I.base.there b o e hx
  exact there b o' (neC b o e hx) e1
 .obtain⟨m1,e1⟩:=I.base.tbls b ps e
  obtain⟨m2,e2⟩:=tbls b _ e1
  exact⟨m1++m2,by rw[e2,Array.append_assoc]⟩
 .obtain⟨m,hn,hl⟩:=I.loc
  refine⟨m,ns m hn,fun i x v e1 e2 e3=>?_⟩
  obtain⟨u,r,l⟩:=hl i x v e1 e2 e3
  refine⟨u,r,?_⟩
  rcases l with l | ⟨k,c,e,z⟩
  .exact .inl l
  .exact .inr ⟨k,c,e,cellK x c e _ z⟩
 .obtain⟨v,z⟩:=I.cell x c e
  exact⟨v,cellK x c e v z⟩
 .obtain⟨m,⟨o,_,_,ho,_⟩,_⟩:=I.loc
  exact free _ o (fun z=>(hch _ z).2.1 rfl) ho I.free
 .obtain⟨v,o,ho,hd⟩:=I.cell x c e
  exact free c o (fun z=>(hch c z).2.2.1 x c e rfl) ho (I.freeC x c e)
 .obtain⟨e,n,ne,nf,d⟩:=I.pin p hp
  have nch:p.1∉ch:=fun z=>(hch p.1 z).2.2.2 p hp rfl
  exact⟨keep p.1 p.2 ne nf nch e n,free p.1 p.2 nch e n,ne,nf,d⟩
theorem Inv.un{t':Nat}(I:Inv X pins σ H s)(u:Un X.fs [] H H' s.heap h')(hok:HOk X.prog X.w H' h'):Inv X pins σ H' { s with heap:=h',toks:=t' }:=by
 obtain⟨m,⟨o,es,ep,ho,r⟩,_⟩:=id I.loc
 obtain⟨sl,hL⟩:=u.any ho I.free (by simp)
 exact I.step (g':=s.gens) (d':=s.drawn) (ch:=[]) (fun _ z=>nomatch z) (fun b o _ hb _ e n=>u.keep b o e n hb (by simp)) (fun b o _ hb _ e n=>u.slot b o e n hb (by simp)) (fun b o _ e n=>u.free b o e n (by simp)) (fun b o _ e=>u.there b o e (by simp)) u.tups u.frzs u.tbls (fun m' hm=>by
  obtain⟨o',es',ep',ho',r'⟩:=hm
  rw[ho] at ho'; cases ho'
  exact⟨_,es',ep',hL,r'⟩) hok I.bare
theorem Inv.call{g':Array GenState}{t':Nat}{d':Drawn}{ch:List Addr}(I:Inv X pins σ H s)(u:Un (frs X.stack) ch H H' s.heap h')(hok:HOk X.prog X.w H' h')(hg:AllBare g')
  (hch:∀b∈ch,(b∈X.ex∨X.s₀.heap.objs.size≤b)∧b≠X.env.locals∧(∀x c,X.env.cells.lookup x=some c→c≠b)∧∀p∈X.pn++pins,p.1≠b) :
  Inv X pins σ H' { s with heap:=h',gens:=g',drawn:=d',toks:=t' }:=by
 obtain⟨m,⟨o,es,ep,ho,r⟩,_⟩:=id I.loc
 obtain⟨sl,hL⟩:=u.any ho I.free fun z=>(hch _ z).2.1 rfl
 exact I.step (ch:=ch) hch (fun b o hL hb hc e n=>u.keep b o e n (fun z=>(List.mem_cons.mp (I.stkSub b z)).elim hL hb) hc) (fun b o _ _ hc e n=>u.any e n hc) (fun b o hc e n=>u.free b o e n hc) (fun b o hc e=>u.there b o e hc) u.tups u.frzs u.tbls (fun m' hm=>by
  obtain⟨o',es',ep',ho',r'⟩:=hm
  rw[ho] at ho'; cases ho'
  exact⟨_,es',ep',hL,r'⟩) hok hg
theorem Inv.turned{t':Nat}{it:Addr}(I:Inv X pins σ H s)(k:∀b o,b≠it→s.heap.get? b=some o→h'.get? b=some o)(hn:H it=none)(hL:it≠X.env.locals)
  (h1:it∈X.ex∨X.s₀.heap.objs.size≤it) (h2:∀x c,X.env.cells.lookup x=some c→c≠it) (h3:∀p∈X.pn++pins,p.1≠it):Inv X pins σ H { s with heap:=h',toks:=t' }:=by
 have nit:∀b u,H b=some u→b≠it:=fun b u e z=>by rw[z,hn] at e; cases e
 refine I.step (g':=s.gens) (d':=s.drawn) (ch:=[it]) (fun b hb=>?_) (fun b o _ _ hc e _=>k b o (fun z=>hc (by simp[z])) e) (fun b o _ _ hc e _=>⟨o.slots,k b o (fun z=>hc (by simp[z])) e⟩) (fun _ _ _ _ n=>n)
  (fun b o hc e=>⟨o,k b o (fun z=>hc (by simp[z])) e⟩) (fun _ _ e=>e) (fun _ _ _ e=>e) (fun b ps e=>⟨#[],by rw[e]; simp⟩) (fun m hm=>?_) (fun b u e=>?_) I.bare
 .have e:b=it:=by simpa using hb
  subst e
  exact⟨h1,hL,h2,h3⟩
 .obtain⟨o,es,ep,ho,r⟩:=hm
  exact⟨o,es,ep,k _ o (Ne.symm hL) ho,r⟩
 .refine(I.hok b u e).stay (fun c v hc q=>k c v ?_ q) (fun _ q=>q) fun _ _ q=>q
  rcases hc with z | z
  .rw[z]; exact nit b u e
  .exact nit c _ z
theorem Inv.tok(I:Inv X pins σ H s)(t:Nat):Inv X pins σ H { s with toks:=t }:=I.un (h':=s.heap) (t':=t) Un.refl I.hok
theorem Inv.kept{t':Nat}(I:Inv X pins σ H s)(k:∀b u,s.heap.get? b=some u→h'.get? b=some u):Inv X pins σ H { s with heap:=h',toks:=t' }:=I.un (Un.kept k) (I.hok.kept k)
theorem Inv.laid{a:Addr}{o:HO}{t':Nat}(I:Inv X pins σ H s)(k:∀b u,s.heap.get? b=some u→h'.get? b=some u)(hp:s.heap.objs.size≤a)(new:ObjOk X.prog X.w (upd H a o) h' a o) :
  Inv X pins σ (upd H a o) { s with heap:=h',toks:=t' }:=I.un (Un.laid k hp (I.hok.fresh hp)) (I.hok.laid k hp new)
theorem Inv.write{x e:Addr}{o:HO}{t':Nat}(I:Inv X pins σ H s)(mu:Mut (H x))(he:e=x∨H e=some (.own x))(k:∀b u,b≠e→s.heap.get? b=some u→h'.get? b=some u)(heo:∃u,h'.get? e=some u)
  (new:ObjOk X.prog X.w (upd H x o) h' x o):Inv X pins σ (upd H x o) { s with heap:=h',toks:=t' }:=I.un (Un.write mu he k heo) (I.hok.write mu he k heo new)
theorem Inv.pins_of{pins':List (Addr×Obj)}(I:Inv X pins σ H s)(h:∀p∈pins',s.heap.get? p.1=some p.2∧H p.1=none∧p.1≠X.env.locals∧p.1∉X.fs∧∀v,p.2.data≠.cell v):Inv X pins' σ H s:=
 ⟨I.ok,I.os,I.bare,I.base,I.loc,I.cell,I.free,I.freeC,fun p hp=>(List.mem_append.mp hp).elim (fun z=>I.pin p (List.mem_append_left _ z)) (h p),I.hok,I.len⟩
theorem nodup_ix{N:List Str}(hN:N.Nodup){i j:Nat}{x:Str}(a:N[i]?=some x)(b:N[j]?=some x):i=j:=by
 obtain⟨h1,e1⟩:=List.getElem?_eq_some_iff.mp a
 obtain⟨h2,e2⟩:=List.getElem?_eq_some_iff.mp b
 exact(List.getElem_inj hN).mp (e1.trans e2.symm)
theorem store_ok2{M:Model}{A:Around}{E:Value→Shared→Prop}{i:Nat}{x:Str}{v:V}{u:Value}{Q:Unit→Shared→Prop}(I:Inv X pins σ H s)(hN:X.N.Nodup)(hi:X.N[i]?=some x)(hx:Loc X.env.scope x)(r:RelV v u)
  (h:∀s',Inv X pins (σ.set i (some v)) H s'→(∃a,Heap.SameBut a s.heap s'.heap∧(a=X.env.locals∨X.env.cells.lookup x=some a))→Q () s') (hf:X.fn x=true∨X.env.scope.names.lookup x=some .local:=by first | exact .inl rfl | exact .inr rfl | assumption):wpAny M A (storeName X.env x u) Q E s:=by
 obtain⟨m,hn,hl⟩:=id I.loc
 have hcls:(X.env.scope.kind==.class||(X.env.scope.kind==.module&&X.env.locals != X.env.globals))=false:=by rw[I.ok.kind]; rfl
 have hiσ:i<σ.length:=by rw[I.len]; exact(List.getElem?_eq_some_iff.mp hi).1
 have cne:=I.cne
 have tracked:∀{a:Addr} {h':Heap},(∃o,s.heap.get? a=some o∧H a=none)→Heap.SameBut a s.heap h'→HOk X.prog X.w H h':=fun {a h'} ha hs b ob e=>by
  obtain⟨_,_,hfree⟩:=ha
  refine(I.hok b ob e).stay (fun c w' hc q=>(hs.2 c ?_).trans q) (fun _ q=>q) fun _ _ q=>q
  rintro rfl
  rcases hc with rfl | hc
  .rw[hfree] at e; cases e
  .rw[hfree] at hc; cases hc
 rcases hx with hk | hk
 .refine wpAny_storeName_local hk hn (fun h' hn' hs=>?_) hcls
  obtain⟨oL,_,_,hoL,_⟩:=id hn
  refine h _ ⟨I.ok,I.os,I.bare,⟨fun b o e n hb hx=>?_,fun b o e n hb hx=>?_,I.base.free,fun b o e hx=>?_,I.base.tups,I.base.frzs,I.base.tbls⟩,⟨_,hn',fun j y v' e1 e2 e3=>?_⟩,fun y c e=>?_,I.free,I.freeC,fun p hp=>?_,tracked ⟨oL,hoL,I.free⟩ hs,by simpa using I.len⟩ ⟨_,hs,.inl rfl⟩
  .exact(hs.2 b (Nat.ne_of_lt (Nat.lt_of_lt_of_le (Heap.lt_size e) I.ok.above))).trans (I.base.keep b o e n hb hx)
  .obtain⟨sl,e1⟩:=I.base.slot b o e n hb hx
   exact⟨sl,(hs.2 b (Nat.ne_of_lt (Nat.lt_of_lt_of_le (Heap.lt_size e) I.ok.above))).trans e1⟩
  .obtain⟨o',e1⟩:=I.base.there b o e hx
   exact⟨o',(hs.2 b (Nat.ne_of_lt (Nat.lt_of_lt_of_le (Heap.lt_size e) I.ok.above))).trans e1⟩
  .by_cases hj:j=i
   .subst hj
    rw[hi] at e1; cases e1
    rw[List.getElem?_set_self hiσ] at e2
    cases e2
    exact⟨u,r,.inl ⟨hk,by simp⟩⟩
   .rw[List.getElem?_set_ne (Ne.symm hj)] at e2
    obtain⟨u',r',q⟩:=hl j y v' e1 e2 e3
    refine⟨u',r',?_⟩
    rcases q with ⟨k,e⟩ | ⟨k,c,e,z⟩
    .refine .inl ⟨k,?_⟩
     have:y≠x:=fun e=>hj (nodup_ix hN e1 (e▸hi))
     simp[this,e]
    .exact .inr ⟨k,c,e,z.sameBut hs (cne y c e)⟩
  .obtain⟨w',z⟩:=I.cell y c e
   exact⟨w',z.sameBut hs (cne y c e)⟩
  .obtain⟨e,n,ne,nf,d⟩:=I.pin p hp
   exact⟨(hs.2 p.1 ne).trans e,n,ne,nf,d⟩
 .have hfn:X.fn x=true:=by
   rcases hf with z | z
   .exact z
   .rw[z] at hk; cases hk
  obtain⟨c,hc⟩:=I.ok.has x (.inl hk)
  obtain⟨w',z⟩:=I.cell x c hc
  refine wpAny_storeName_cell I.ok.kind hk hc z (fun h' hc' hs=>?_)
  obtain⟨oc,hoc,hocd⟩:=id z
  refine h { s with heap:=h' } ⟨I.ok,I.os,I.bare,⟨fun b o e n hb hx=>?_,fun b o e n hb hx=>?_,I.base.free,fun b o e hx=>?_,I.base.tups,I.base.frzs,I.base.tbls⟩,⟨m,hn.sameBut hs (Ne.symm (cne x c hc)),fun j y v' e1 e2 e3=>?_⟩,fun y c' e=>?_,I.free,I.freeC,fun p hp=>?_,tracked ⟨oc,hoc,I.freeC x c hc⟩ hs,by simpa using I.len⟩ ⟨c,hs,.inr hc⟩
  .exact(hs.2 b (Nat.ne_of_lt (Nat.lt_of_lt_of_le (Heap.lt_size e) (I.ok.cab x c hfn hc)))).trans (I.base.keep b o e n hb hx)
  .obtain⟨sl,e1⟩:=I.base.slot b o e n hb hx
   exact⟨sl,(hs.2 b (Nat.ne_of_lt (Nat.lt_of_lt_of_le (Heap.lt_size e) (I.ok.cab x c hfn hc)))).trans e1⟩
  .obtain⟨o',e1⟩:=I.base.there b o e hx
   exact⟨o',(hs.2 b (Nat.ne_of_lt (Nat.lt_of_lt_of_le (Heap.lt_size e) (I.ok.cab x c hfn hc)))).trans e1⟩
  .by_cases hj:j=i
   .subst hj
    rw[hi] at e1; cases e1
    rw[List.getElem?_set_self hiσ] at e2
    cases e2
    exact⟨u,r,.inr ⟨.inl hk,c,hc,hc'⟩⟩
   .rw[List.getElem?_set_ne (Ne.symm hj)] at e2
    obtain⟨u',r',q⟩:=hl j y v' e1 e2 e3
    refine⟨u',r',?_⟩
    rcases q with q | ⟨k,c',e,z'⟩
    .exact .inl q
    .refine .inr ⟨k,c',e,z'.sameBut hs ?_⟩
     rintro rfl
     exact hj (nodup_ix hN e1 (I.ok.inj _ _ _ e hc▸hi))
  .by_cases hcc:c'=c
   .subst hcc; exact⟨_,hc'⟩
   .obtain⟨w2,z2⟩:=I.cell y c' e
    exact⟨w2,z2.sameBut hs hcc⟩
  .obtain⟨e,n,ne,nf,d⟩:=I.pin p hp
   refine⟨(hs.2 p.1 ?_).trans e,n,ne,nf,d⟩
   intro q
   rw[q,hoc] at e
   have q':oc=p.2:=Option.some.inj e
   exact d w' (by rw[←q']; exact hocd)
theorem store_ok{M:Model}{A:Around}{E:Value→Shared→Prop}{i:Nat}{x:Str}{v:V}{u:Value}{Q:Unit→Shared→Prop}(I:Inv X pins σ H s)(hN:X.N.Nodup)(hi:X.N[i]?=some x)(hx:Loc X.env.scope x)(r:RelV v u)
  (h:∀s',Inv X pins (σ.set i (some v)) H s'→Q () s') (hf:X.fn x=true∨X.env.scope.names.lookup x=some .local:=by first | exact .inl rfl | exact .inr rfl | assumption):wpAny M A (storeName X.env x u) Q E s:=
 store_ok2 I hN hi hx r (fun s' I' _=>h s' I') hf
theorem Inv.call'{s':Shared}{ch:List Addr}(I:Inv X pins σ H s)(ho:s'.os=s.os)(u:Un (frs X.stack) ch H H' s.heap s'.heap)(hok:HOk X.prog X.w H' s'.heap)(hg:AllBare s'.gens)
  (hch:∀b∈ch,(b∈X.ex∨X.s₀.heap.objs.size≤b)∧b≠X.env.locals∧(∀x c,X.env.cells.lookup x=some c→c≠b)∧∀p∈X.pn++pins,p.1≠b):Inv X pins σ H' s':=by
 obtain⟨h',g',d',t',o'⟩:=s'
 have e:o'=s.os:=ho
 subst e
 exact I.call (g':=g') (t':=t') (d':=d') u hok hg hch
end
abbrev XK:=Value→Option Addr→Hp→Prop
abbrev St:=List (Option V)
abbrev VK:=V→Hp→Prop
abbrev TE:=St→Hp→VK→Prop
abbrev TT:=St→Hp→(Bool→Hp→Prop)→Prop
abbrev TA:=St→Hp→(List V→Hp→Prop)→Prop
structure Ends where
 nx:St→Hp→Prop
 rt:VK
 bk:St→Hp→Prop:=fun _ _=>False
 ct:St→Hp→Prop:=fun _ _=>False
abbrev TS:=Ends→St→Hp→Prop
def EP(X:Cx)(pins:List (Addr×Obj))(σ:St)(Q:VK)(u:Value)(s':Shared):Prop:=∃v H',Inv X pins σ H' s'∧RelV v u∧Q v H'
def TP(X:Cx)(pins:List (Addr×Obj))(σ:St)(Q:Bool→Hp→Prop)(b:Bool)(s':Shared):Prop:=∃H',Inv X pins σ H' s'∧Q b H'
def AP(X:Cx)(pins:List (Addr×Obj))(σ:St)(Q:List V→Hp→Prop)(us:List Value)(s':Shared):Prop:=∃vs H',Inv X pins σ H' s'∧Vals vs us∧Q vs H'
def SP(X:Cx)(pins:List (Addr×Obj))(D:Ends)(f:Flow)(s':Shared):Prop:=
 match f with
 | .next=>∃σ' H',Inv X pins σ' H' s'∧D.nx σ' H'
 | .brk=>∃σ' H',Inv X pins σ' H' s'∧D.bk σ' H'
 | .cont=>∃σ' H',Inv X pins σ' H' s'∧D.ct σ' H'
 | .ret u=>∃v σ' H',Inv X pins σ' H' s'∧RelV v u∧D.rt v H'
def PE(X:Cx)(e:Expr)(t:TE):Prop:=
 ∀(pins:List (Addr×Obj)) (s:Shared) (σ:St) (H:Hp) (Q:VK),Inv X pins σ H s→t σ H Q→wpAny (model X.prog X.w) X.A (eval e X.env) (EP X pins σ Q) X.xe s
def PT(X:Cx)(e:Expr)(t:TT):Prop:=
 ∀(pins:List (Addr×Obj)) (s:Shared) (σ:St) (H:Hp) (Q:Bool→Hp→Prop),Inv X pins σ H s→t σ H Q→wpAny (model X.prog X.w) X.A (isTrue e X.env (eval e X.env)) (TP X pins σ Q) X.xe s
def PW(X:Cx)(e:Expr)(t:TT):Prop:=
 ∀(whole:Sem Value) (pins:List (Addr×Obj)) (s:Shared) (σ:St) (H:Hp) (Q:Bool→Hp→Prop),Inv X pins σ H s→t σ H Q→wpAny (model X.prog X.w) X.A (isTrue e X.env whole) (TP X pins σ Q) X.xe s
theorem PW.pt{X:Cx}{e:Expr}{t:TT}(h:PW X e t):PT X e t:=h _
def PA(X:Cx)(es:List Expr)(t:TA):Prop:=
 ∀(pos:Pos) (pins:List (Addr×Obj)) (s:Shared) (σ:St) (H:Hp) (Q:List V→Hp→Prop),Inv X pins σ H s→t σ H Q→wpAny (model X.prog X.w) X.A (spliced (backTo pos (starEach es X.env))) (AP X pins σ Q) X.xe s
def PS(X:Cx)(st:Stmt)(t:TS):Prop:=
 ∀(pins:List (Addr×Obj)) (s:Shared) (σ:St) (H:Hp) (D:Ends),Inv X pins σ H s→t D σ H→wpAny (model X.prog X.w) X.A (exec st X.env) (SP X pins D) X.xe s
def PSs(X:Cx)(st:List Stmt)(t:TS):Prop:=
 ∀(pins:List (Addr×Obj)) (s:Shared) (σ:St) (H:Hp) (D:Ends),Inv X pins σ H s→t D σ H→wpAny (model X.prog X.w) X.A (execs st X.env) (SP X pins D) X.xe s
theorem thn{α:Type}{t:Sem α}{Q Q':α→Shared→Prop}{M:Model}{A:Around}{E:Value→Shared→Prop}{s:Shared}(h:wpAny M A t Q E s)(hQ:∀a s,Q a s→Q' a s):wpAny M A t Q' E s:=wpAny_mono h hQ fun _ _ x=>x
end L2
namespace L2
open PySem PySem.Spec PyProof.Rows
section
variable{X:Cx}
def tVar(i:Nat):TE:=fun σ H Q=>∃v,σ[i]?=some (some v)∧Q v H
def tC(v:V):TE:=fun _ H Q=>Q v H
theorem pe_var{i:Nat}{x:Str}{pos:Pos}(hN:X.N[i]?=some x)(hv:Vis X.env.scope x)(hd:(x==("__debug__":Str))=false:=by decide)(hcd:(x==("__classdict__":Str))=false:=by decide):PE X (.Name x pos) (tVar i):=by
 intro pins s σ H Q I h
 obtain⟨v,e,h⟩:=h
 obtain⟨m,hn,hl⟩:=I.loc
 obtain⟨u,r,l⟩:=hl i x v hN e hv
 have fin:EP X pins σ Q u s:=⟨v,H,I,r,h⟩
 rcases l with ⟨hk,hm⟩ | ⟨hk,c,hc,hcell⟩
 .exact wpAny_Name (wpAny_loadName_local I.ok.kind hk hn hm fin) hd
 .rcases hk with hk | hk
  .exact wpAny_Name (wpAny_loadName_cell I.ok.kind hk hc hcell fin) hd
  .exact wpAny_Name (wpAny_loadName_free I.ok.kind hk hc hcell fin hcd) hd
theorem pe_int{i j pos}:PE X (.Constant (.int i) j pos) (tC (.int i)):=fun _ _ _ H _ I h=>wpAny_Constant_int ⟨.int i,H,I.tok _,⟨_,rfl⟩,h⟩
theorem pe_bl{b j pos}:PE X (.Constant (.bool b) j pos) (tC (.bl b)):=fun _ _ _ H _ I h=>Constant_bool ⟨.bl b,H,I,rfl,h⟩
theorem pe_non{j pos}:PE X (.Constant .none j pos) (tC .non):=fun _ _ _ H _ I h=>Constant_none ⟨.non,H,I,rfl,h⟩
theorem pe_str{x j pos}:PE X (.Constant (.str x) j pos) (tC (.str x)):=fun _ _ _ H _ I h=>Calls.Constant_str ⟨.str x,H,I.tok _,⟨_,rfl⟩,h⟩
def Gl(X:Cx)(x:Str):Prop:=X.env.kindOf x=some .globalImplicit
theorem ld_glob{E:Value→Shared→Prop}{pins:List (Addr×Obj)}{s:Shared}{σ:St}{H:Hp}{x:Str}{u:Value}{pos:Pos}{Q:Value→Shared→Prop}(I:Inv X pins σ H s)(hg:Gl X x)(hm:X.mg x=some u)(h:Q u s)
  (hd:(x==("__debug__":Str))=false:=by decide):wpAny (model X.prog X.w) X.A (eval (.Name x pos) X.env) Q E s:=
 Calls.Name_function_global I.ok.kind hg (Calls.loadGlobal_global (by rw[I.ok.glob]; exact I.mod.glob.keeps I.bk) hm h) hd
theorem ld_blt{E:Value→Shared→Prop}{pins:List (Addr×Obj)}{s:Shared}{σ:St}{H:Hp}{x:Str}{u:Value}{pos:Pos}{Q:Value→Shared→Prop}(I:Inv X pins σ H s)(hg:Gl X x)(hm:X.mg x=none)(hv:bootBuiltins x=some u)(h:Q u s)
  (hn:x≠"__name__":=by decide) (hd:(x==("__debug__":Str))=false:=by decide):wpAny (model X.prog X.w) X.A (eval (.Name x pos) X.env) Q E s:=by
 obtain⟨mb,h1,h2⟩:=I.mod.blt
 exact Calls.Name_function_global I.ok.kind hg (Calls.loadGlobal_builtin (by rw[I.ok.glob]; exact I.mod.glob.keeps I.bk) hm (by rw[I.ok.blt]; exact h1.keeps I.bk) ((h2 x hn).trans hv) h) hd
theorem pe_glob{x:Str}{v:V}{u:Value}{pos:Pos}(hg:Gl X x)(hm:X.mg x=some u)(r:RelV v u)(hd:(x==("__debug__":Str))=false:=by decide):PE X (.Name x pos) (tC v):=
 fun _ _ _ H _ I h=>ld_glob I hg hm ⟨v,H,I,r,h⟩ hd
theorem pe_bltn{x:Str}{v:V}{u:Value}{pos:Pos}(hg:Gl X x)(hm:X.mg x=none)(hv:bootBuiltins x=some u)(r:RelV v u)(hn:x≠"__name__":=by decide)(hd:(x==("__debug__":Str))=false:=by decide):PE X (.Name x pos) (tC v):=
 fun _ _ _ H _ I h=>ld_blt I hg hm hv ⟨v,H,I,r,h⟩ hn hd
variable{a b:Expr}{ta tb:TE}{pos:Pos}
def tB(t:TE):TT:=fun σ H Q=>t σ H fun x H1=>∃c,x=.bl c∧Q c H1
theorem pt_val{e:Expr}{t:TE}(h:PE X e t)(he:∀whole,isTrue e X.env whole=(do let v ←whole; standAt e.pos; holding [v] (truthy v)):=by intro _; rfl):PT X e (tB t):=by
 intro pins s σ H Q I hw
 refine isTrue_plain (thn (h pins s σ H _ I hw) fun v s1 ⟨x,H1,I1,r1,q1⟩=>?_) (he _)
 obtain⟨d,rfl,q⟩:=q1
 cases r1
 exact wpAny_truthy_bool ⟨H1,I1,q⟩
variable{tA tB':TT}{rest:List Expr}
def tAnd(t u:TT):TT:=fun σ H Q=>t σ H fun c H1=>if c=true then u σ H1 Q else Q false H1
def tOr(t u:TT):TT:=fun σ H Q=>t σ H fun c H1=>if c=true then Q true H1 else u σ H1 Q
def tNot(t:TT):TT:=fun σ H Q=>t σ H fun c H1=>Q (!c) H1
theorem pw_and1(ha:PT X a tA):PW X (.BoolOp .And [a] pos) tA:=by
 intro wh pins s σ H Q I h
 refine isTrue_and (thn (ha pins s σ H Q I h) fun c s1 e=>?_)
 cases c with
 | true=>exact isTrue_and_nil e
 | false=>exact e
theorem pw_or1(ha:PT X a tA):PW X (.BoolOp .Or [a] pos) tA:=by
 intro wh pins s σ H Q I h
 refine isTrue_or (thn (ha pins s σ H Q I h) fun c s1 e=>?_)
 cases c with
 | false=>exact isTrue_or_nil e
 | true=>exact e
theorem pw_and(ha:PT X a tA)(hb:PW X (.BoolOp .And (b::rest) pos) tB'):PW X (.BoolOp .And (a::b::rest) pos) (tAnd tA tB'):=by
 intro wh pins s σ H Q I h
 refine isTrue_and (thn (ha pins s σ H _ I h) fun c s1 ⟨H1,I1,q1⟩=>?_)
 cases c with
 | true=>exact hb wh pins s1 σ H1 Q I1 q1
 | false=>exact⟨H1,I1,q1⟩
theorem pw_or(ha:PT X a tA)(hb:PW X (.BoolOp .Or (b::rest) pos) tB'):PW X (.BoolOp .Or (a::b::rest) pos) (tOr tA tB'):=by
 intro wh pins s σ H Q I h
 refine isTrue_or (thn (ha pins s σ H _ I h) fun c s1 ⟨H1,I1,q1⟩=>?_)
 cases c with
 | true=>exact⟨H1,I1,q1⟩
 | false=>exact hb wh pins s1 σ H1 Q I1 q1
theorem pt_not(ha:PT X a tA):PT X (.UnaryOp .Not a pos) (tNot tA):=by
 intro pins s σ H Q I h
 exact isTrue_not (ha pins s σ H (fun c H1=>Q (!c) H1) I h)
def tAndV(ta tb:TE):TE:=fun σ H Q=>ta σ H fun x H1=>∃c,x=.bl c∧if c=true then tb σ H1 Q else Q (.bl false) H1
def tOrV(ta tb:TE):TE:=fun σ H Q=>ta σ H fun x H1=>∃c,x=.bl c∧if c=true then Q (.bl true) H1 else tb σ H1 Q
def tNotV(ta:TE):TE:=fun σ H Q=>ta σ H fun x H1=>∃c,x=.bl c∧Q (.bl (!c)) H1
theorem pe_one{op}{t:TE}(h:PE X a t):PE X (.BoolOp op [a] pos) t:=fun pins s σ H Q I hw=>BoolOp_one (h pins s σ H Q I hw)
theorem pe_and(ha:PE X a ta)(hb:PE X (.BoolOp .And (b::rest) pos) tb):PE X (.BoolOp .And (a::b::rest) pos) (tAndV ta tb):=by
 intro pins s σ H Q I h
 refine BoolOp_and (thn (ha pins s σ H _ I h) fun v s1 ⟨x,H1,I1,r1,q1⟩=>?_)
 obtain⟨c,rfl,q1⟩:=q1
 cases r1
 refine wpAny_truthy_bool ?_
 cases c with
 | true=>exact hb pins s1 σ H1 Q I1 q1
 | false=>exact⟨.bl false,H1,I1,rfl,q1⟩
theorem pe_or(ha:PE X a ta)(hb:PE X (.BoolOp .Or (b::rest) pos) tb):PE X (.BoolOp .Or (a::b::rest) pos) (tOrV ta tb):=by
 intro pins s σ H Q I h
 refine BoolOp_or (thn (ha pins s σ H _ I h) fun v s1 ⟨x,H1,I1,r1,q1⟩=>?_)
 obtain⟨c,rfl,q1⟩:=q1
 cases r1
 refine wpAny_truthy_bool ?_
 cases c with
 | false=>exact hb pins s1 σ H1 Q I1 q1
 | true=>exact⟨.bl true,H1,I1,rfl,q1⟩
theorem pe_not(ha:PE X a ta):PE X (.UnaryOp .Not a pos) (tNotV ta):=by
 intro pins s σ H Q I h
 refine UnaryOp_ (thn (ha pins s σ H _ I h) fun v s1 ⟨x,H1,I1,r1,q1⟩=>?_)
 obtain⟨c,rfl,q1⟩:=q1
 cases r1
 exact not_of (wpAny_truthy_bool ⟨.bl (!c),H1,I1,rfl,q1⟩)
def tIf(t:TT)(ta tb:TE):TE:=fun σ H Q=>t σ H fun c H1=>if c=true then ta σ H1 Q else tb σ H1 Q
theorem pe_ifExp{c:Expr}(hc:PT X c tA)(ha:PE X a ta)(hb:PE X b tb):PE X (.IfExp c a b pos) (tIf tA ta tb):=by
 intro pins s σ H Q I h
 refine wpAny_IfExp (thn (hc pins s σ H _ I h) fun d s1 ⟨H1,I1,q1⟩=>?_)
 cases d with
 | true=>exact ha pins s1 σ H1 Q I1 q1
 | false=>exact hb pins s1 σ H1 Q I1 q1
end
end L2
namespace L2
open PySem PySem.Spec PyProof.Rows
def SqL(K:PySem.W.Frag)(H:Hp)(a:Addr)(xs:List V):Prop:=
 Rd H a (.lst xs) ∨
  ∃(o:Obj) (its:Array Value) (n:Nat),K.lookup a=some o∧o.cls=.type "list" ∧ o.dict=none∧o.data=.seq its n∧its.size≤sizeLine∧Vals xs its.toList
def SqT(K:PySem.W.Frag)(H:Hp)(a:Addr)(xs:List V):Prop:=
 Rd H a (.tup xs) ∨
  ∃(o:Obj) (its:Array Value) (n:Nat),K.lookup a=some o∧o.cls=.type "tuple" ∧ o.data=.seq its n∧its.size≤sizeLine∧Vals xs its.toList
def absV:Value→Option V
 | .none=>some .non
 | .bool b=>some (.bl b)
 | .int i _=>some (.int i)
 | .str x _=>some (.str x)
 | .bytes b _=>some (.byt b)
 | .float b _=>some (.flt b)
 | .ref a=>some (.ref a)
 | .type n=>some (.ty n)
 | _=>none
theorem RelV.abs{x:V}{u:Value}(r:RelV x u):absV u=some x:=by
 cases x with
 | non=>cases r; rfl
 | bl _=>cases r; rfl
 | int _=>obtain⟨t,rfl⟩:=r; rfl
 | str _=>obtain⟨t,rfl⟩:=r; rfl
 | byt _=>obtain⟨t,rfl⟩:=r; rfl
 | flt _=>obtain⟨t,rfl⟩:=r; rfl
 | ref _=>cases r; rfl
 | ty _=>cases r; rfl
theorem RelV.inj{x y:V}{u:Value}(r:RelV x u)(q:RelV y u):x=y:=Option.some.inj (r.abs.symm.trans q.abs)
theorem Vals.inj:∀{xs ys:List V} {us:List Value},Vals xs us→Vals ys us→xs=ys
 | _,_,_,.nil,.nil=>rfl
 | _,_,_,.cons r t,.cons r' t'=>by rw[r.inj r',Vals.inj t t']
section
variable{X:Cx}{pins:List (Addr×Obj)}{σ:St}{H:Hp}{s:Shared}{a:Addr}{xs ys:List V}
theorem SqL.of{K:PySem.W.Frag}(h:H a=some (.lst xs)):SqL K H a xs:=.inl (.inl h)
theorem SqT.of{K:PySem.W.Frag}(h:H a=some (.tup xs)):SqT K H a xs:=.inl (.inl h)
theorem Inv.list(I:Inv X pins σ H s)(h:SqL X.K H a xs):∃its:List Value,Vals xs its∧PlainL s.heap a its.toArray∧xs.length≤sizeLine:=by
 rcases h with h | ⟨o,its,n,hk,hc,hd,hs,hz,r⟩
 .obtain⟨z,its,n,r,e⟩:=h.ok I.hok
  exact⟨its,r,⟨_,n,e,rfl,rfl,rfl⟩,z⟩
 .refine⟨its.toList,r,⟨o,n,I.kIn a o hk,hc,hd,by simpa using hs⟩,?_⟩
  have e:=r.length
  simp only[Array.length_toList] at e
  omega
theorem Inv.tuple(I:Inv X pins σ H s)(h:SqT X.K H a xs):∃its:List Value,Vals xs its∧IsTup s.heap a its.toArray∧xs.length≤sizeLine:=by
 rcases h with h | ⟨o,its,n,hk,hc,hs,hz,r⟩
 .obtain⟨z,its,r,p⟩:=h.ok I.hok
  exact⟨its,r,p,z⟩
 .refine⟨its.toList,r,⟨o,I.kIn a o hk,hc,n,by simpa using hs⟩,?_⟩
  have e:=r.length
  simp only[Array.length_toList] at e
  omega
theorem Inv.list_inj(I:Inv X pins σ H s)(h:SqL X.K H a xs)(h':SqL X.K H a ys):xs=ys:=by
 obtain⟨its,r,⟨o,n,e,_,_,d⟩,_⟩:=I.list h
 obtain⟨its',r',⟨o',n',e',_,_,d'⟩,_⟩:=I.list h'
 rw[e] at e'; cases e'
 rw[d] at d'
 injection d' with d1 _
 have:its=its':=by simpa using congrArg Array.toList d1
 subst this
 exact r.inj r'
theorem Inv.tuple_inj(I:Inv X pins σ H s)(h:SqT X.K H a xs)(h':SqT X.K H a ys):xs=ys:=by
 obtain⟨its,r,⟨o,e,_,n,d⟩,_⟩:=I.tuple h
 obtain⟨its',r',⟨o',e',_,n',d'⟩,_⟩:=I.tuple h'
 rw[e] at e'; cases e'
 rw[d] at d'
 injection d' with d1 _
 have:its=its':=by simpa using congrArg Array.toList d1
 subst this
 exact r.inj r'
end
abbrev Cx.wish(X:Cx)(E:Value→Shared→Prop):Cx:={ X with xe:=E }
abbrev Cx.nox(X:Cx):Cx:=X.wish fun _ _=>False
theorem Cx.Ok.wish{X:Cx}(ok:X.Ok)(E:Value→Shared→Prop):(X.wish E).Ok:=
 ⟨ok.mod,ok.kind,ok.glob,ok.blt,ok.above,ok.inj,ok.has,ok.cab,ok.hd,ok.frames,ok.stk,ok.exf,ok.bs,ok.bsz,ok.noex,ok.exfs,ok.funs,ok.frf⟩
theorem Cx.Ok.unwish{X:Cx}{E:Value→Shared→Prop}(ok:(X.wish E).Ok):X.Ok:=
 ⟨ok.mod,ok.kind,ok.glob,ok.blt,ok.above,ok.inj,ok.has,ok.cab,ok.hd,ok.frames,ok.stk,ok.exf,ok.bs,ok.bsz,ok.noex,ok.exfs,ok.funs,ok.frf⟩
section
variable{X:Cx}{pins:List (Addr×Obj)}{σ:St}{H:Hp}{s:Shared}{E:Value→Shared→Prop}
theorem Inv.wish(I:Inv X pins σ H s)(E:Value→Shared→Prop):Inv (X.wish E) pins σ H s:=⟨I.ok.wish E,I.os,I.bare,I.base,I.loc,I.cell,I.free,I.freeC,I.pin,I.hok,I.len⟩
theorem Inv.unwish(I:Inv (X.wish E) pins σ H s):Inv X pins σ H s:=⟨I.ok.unwish,I.os,I.bare,I.base,I.loc,I.cell,I.free,I.freeC,I.pin,I.hok,I.len⟩
theorem SP.unwish{D:Ends}{f:Flow}{s':Shared}(h:SP (X.wish E) pins D f s'):SP X pins D f s':=by
 cases f with
 | next=>obtain⟨σ',H',I,q⟩:=h; exact⟨σ',H',I.unwish,q⟩
 | brk=>obtain⟨σ',H',I,q⟩:=h; exact⟨σ',H',I.unwish,q⟩
 | cont=>obtain⟨σ',H',I,q⟩:=h; exact⟨σ',H',I.unwish,q⟩
 | ret u=>obtain⟨v,σ',H',I,r,q⟩:=h; exact⟨v,σ',H',I.unwish,r,q⟩
theorem PSs.nox{st:List Stmt}{t:TS}(h:PSs X.nox st t):PSs X st t:=fun pins s σ H D I hw=>
 wpAny_mono (h pins s σ H D (I.wish _) hw) (fun _ _ q=>q.unwish) fun _ _ z=>False.elim z
end
section
variable{X:Cx}{st:Stmt}{rest:List Stmt}{t u:TS}{e:Expr}{te:TE}{pos:Pos}
def tNext:TS:=fun D σ H=>D.nx σ H
def tSeq(t u:TS):TS:=fun D σ H=>t { D with nx:=u D } σ H
theorem pss_nil:PSs X [] tNext:=fun _ _ σ H _ I h=>wpAny_execs_nil ⟨σ,H,I,h⟩
theorem pss_cons(h1:PS X st t)(h2:PSs X rest u):PSs X (st::rest) (tSeq t u):=by
 intro pins s σ H D I h
 refine wpAny_execs_cons (thn (h1 pins s σ H { D with nx:=u D } I h) fun f s1 q=>?_)
 cases f with
 | next=>
  obtain⟨σ',H',I',q⟩:=q
  exact h2 pins s1 σ' H' D I' q
 | ret v=>exact q
 | brk=>exact q
 | cont=>exact q
theorem pss_one(h1:PS X st t):PSs X [st] t:=by
 intro pins s σ H D I h
 refine wpAny_execs_cons (thn (h1 pins s σ H D I h) fun f s1 q=>?_)
 cases f with
 | next=>exact wpAny_execs_nil q
 | ret v=>exact q
 | brk=>exact q
 | cont=>exact q
theorem ps_pass:PS X (.Pass pos) tNext:=fun _ _ σ H _ I h=>wpAny_Pass ⟨σ,H,I,h⟩
theorem Inv.quiet{pins:List (Addr×Obj)}{σ:St}{H:Hp}{s:Shared}(I:Inv X pins σ H s):interactive X.env=false:=by simp[interactive,I.ok.kind]
def tDrop(te:TE):TS:=fun D σ H=>te σ H fun _ H1=>D.nx σ H1
theorem ps_expr(he:PE X e te)(hs:swapsWith e none pos.line X.env=pure false:=by rfl):PS X (.Expr e pos) (tDrop te):=by
 intro pins s σ H D I h
 exact wpAny_Expr_any (thn (he pins s σ H _ I h) fun v s1 ⟨x,H1,I1,r1,q1⟩=>⟨σ,H1,I1,q1⟩) I.quiet hs
def tRet(te:TE):TS:=fun D σ H=>te σ H D.rt
theorem ps_ret(he:PE X e te):PS X (.Return (some e) pos) (tRet te):=by
 intro pins s σ H D I h
 exact wpAny_Return_some (thn (he pins s σ H _ I h) fun v s1 ⟨x,H1,I1,r1,q1⟩=>⟨x,σ,H1,I1,r1,q1⟩)
def tIfS(c:TT)(t u:TS):TS:=fun D σ H=>c σ H fun b H1=>if b=true then t D σ H1 else u D σ H1
theorem ps_if{c:Expr}{a b:List Stmt}{tc:TT}(hc:PT X c tc)(ha:PSs X a t)(hb:PSs X b u):PS X (.If c a b pos) (tIfS tc t u):=by
 intro pins s σ H D I h
 refine wpAny_If (thn (hc pins s σ H _ I h) fun d s1 ⟨H1,I1,q1⟩=>?_)
 cases d with
 | true=>exact ha pins s1 σ H1 D I1 q1
 | false=>exact hb pins s1 σ H1 D I1 q1
end
abbrev TG:=V→St→Hp→(St→Hp→Prop)→Prop
abbrev TGs:=List V→St→Hp→(St→Hp→Prop)→Prop
def PG(X:Cx)(target:Expr)(t:TG):Prop:=
 ∀(pins:List (Addr×Obj)) (s:Shared) (σ:St) (H:Hp) (v:V) (u:Value) (Q:St→Hp→Prop),Inv X pins σ H s→RelV v u→t v σ H Q→
  wpAny (model X.prog X.w) X.A (assign target X.env u) (fun _ s'=>∃σ' H',Inv X pins σ' H' s'∧Q σ' H') X.xe s
def PGs(X:Cx)(ts:List Expr)(t:TGs):Prop:=
 ∀(pins:List (Addr×Obj)) (s:Shared) (σ:St) (H:Hp) (vs:List V) (us:List Value) (Q:St→Hp→Prop),Inv X pins σ H s→Vals vs us→t vs σ H Q→
  wpAny (model X.prog X.w) X.A (assignInOrder ((assignEach ts X.env).map (·.2)) us) (fun _ s'=>∃σ' H',Inv X pins σ' H' s'∧Q σ' H') X.xe s
abbrev TIp:=V→V→Hp→VK→Prop
def PIp(X:Cx)(op:Operator)(t:TIp):Prop:=
 ∀(pins:List (Addr×Obj)) (s:Shared) (σ:St) (H:Hp) (x y:V) (v u:Value) (Q:VK),Inv X pins σ H s→RelV x v→RelV y u→t x y H Q→
  wpAny (model X.prog X.w) X.A (inplaceOp op v u) (EP X pins σ Q) X.xe s
section
variable{X:Cx}{pos:Pos}
def gName(i:Nat):TG:=fun v σ H Q=>Q (σ.set i (some v)) H
theorem pg_name{i:Nat}{x:Str}(hN:X.N.Nodup)(hi:X.N[i]?=some x)(hx:Loc X.env.scope x)(hf:X.fn x=true∨X.env.scope.names.lookup x=some .local:=by first | exact .inl rfl | exact .inr rfl | assumption):PG X (.Name x pos) (gName i):=by
 intro pins s σ H v u Q I r h
 exact wpAny_assign_Name (store_ok I hN hi hx r (fun s' I'=>⟨_,H,I',h⟩) hf)
def gNil:TGs:=fun vs σ H Q=>vs=[]∧Q σ H
def gCons(t:TG)(u:TGs):TGs:=fun vs σ H Q=>∃v r,vs=v::r∧t v σ H fun σ' H'=>u r σ' H' Q
theorem pgs_nil:PGs X [] gNil:=by
 intro pins s σ H vs us Q I r h
 obtain⟨e,h⟩:=h
 subst e
 cases r
 exact assignInOrder_nil ⟨σ,H,I,h⟩
theorem pgs_cons{e:Expr}{es:List Expr}{t:TG}{u:TGs}(h1:PG X e t)(h2:PGs X es u)
  (hs:(assignEach (e::es) X.env).map (·.2)=assign e X.env::(assignEach es X.env).map (·.2):=by rfl):PGs X (e::es) (gCons t u):=by
 intro pins s σ H vs us Q I r h
 obtain⟨v,vr,e1,h⟩:=h
 subst e1
 cases r with
 | cons r rr=>
  rw[hs]
  refine assignInOrder_cons (thn (h1 pins s σ H _ _ _ I r h) fun _ s1 ⟨σ1,H1,I1,q1⟩=>?_)
  exact h2 pins s1 σ1 H1 _ _ Q I1 rr q1
def gTup(K:PySem.W.Frag)(n:Nat)(t:TGs):TG:=fun v σ H Q=>∃a xs,v=.ref a∧SqT K H a xs∧xs.length=n∧t xs σ H Q
theorem pg_tup{es:List Expr}{k:Nat}{t:TGs}{n:Nat}(hc:X.calm=true)(h:PGs X es t)
  (hn:(assignEach es X.env).length=n:=by rfl) (hst:(assignEach es X.env).findIdx? (·.1)=none:=by rfl):PG X (.Tuple es k pos) (gTup X.K n t):=by
 intro pins s σ H v u Q I r hw
 obtain⟨a,xs,e1,hq,hl,hw⟩:=hw
 subst e1
 cases r
 obtain⟨its,rv,ht,hz⟩:=I.tuple hq
 refine assign_Tuple_tuple (I.ok.hd hc) ht (by simp[hn,←hl,rv.length]) hst fun h' hx=>?_
 have I1:Inv X pins σ H { s with heap:=h' }:=I.kept (t':=s.toks) fun b o e=>hx b o (Nat.ne_of_lt (Heap.lt_size e)) e
 exact h pins _ σ H xs _ Q I1 (by simpa using rv) hw
def tAsg(te:TE)(g:TG):TS:=fun D σ H=>te σ H fun x H1=>g x σ H1 D.nx
theorem ps_asg{tg e:Expr}{te:TE}{g:TG}(he:PE X e te)(hg:PG X tg g)(hs:swapsWithSole [tg] e pos.line X.env=pure false:=by rfl)(hw:swappedStores [tg] e X.env=pure none:=by rfl)
  (h1:(assignEach [tg] X.env).map (·.2)=[assign tg X.env]:=by rfl):PS X (.Assign [tg] e pos) (tAsg te g):=by
 intro pins s σ H D I h
 refine wpAny_Assign_stores (thn (he pins s σ H _ I h) fun v s1 ⟨x,H1,I1,r1,q1⟩=>?_) hs hw
 rw[h1]
 exact thn (hg pins s1 σ H1 x v _ I1 r1 q1) fun _ s2 q=>q
theorem ps_set{i:Nat}{x:Str}{e:Expr}{te:TE}{pos':Pos}(hN:X.N.Nodup)(hi:X.N[i]?=some x)(hx:Loc X.env.scope x)(he:PE X e te)(hs:swapsWith e (some (.Name x pos')) pos.line X.env=pure false:=by rfl)(hf:X.fn x=true∨X.env.scope.names.lookup x=some .local:=by first | exact .inl rfl | exact .inr rfl | assumption) :
  PS X (.Assign [.Name x pos'] e pos) (tAsg te (gName i)):=by
 intro pins s σ H D I h
 refine wpAny_Assign_Name (thn (he pins s σ H _ I h) fun v s1 ⟨y,H1,I1,r1,q1⟩=>?_) hs
 exact store_ok I1 hN hi hx r1 (fun s2 I2=>⟨_,H1,I2,q1⟩) hf
def tAug(i:Nat)(te:TE)(ti:TIp):TS:=fun D σ H=>∃x,σ[i]?=some (some x)∧te σ H fun y H1=>ti x y H1 fun z H2=>D.nx (σ.set i (some z)) H2
theorem ps_aug{i:Nat}{x:Str}{e:Expr}{te:TE}{op:Operator}{ti:TIp}{pos':Pos}(hN:X.N.Nodup)(hi:X.N[i]?=some x)(hx:Loc X.env.scope x)(he:PE X e te)(ho:PIp X op ti)(hf:X.fn x=true∨X.env.scope.names.lookup x=some .local:=by first | exact .inl rfl | exact .inr rfl | assumption) :
  PS X (.AugAssign (.Name x pos') op e pos) (tAug i te ti):=by
 intro pins s σ H D I h
 obtain⟨v,e1,h⟩:=h
 obtain⟨m,hn,hl⟩:=I.loc
 have vis:Vis X.env.scope x:=by rcases hx with k | k; exact .inl k; exact .inr (.inl k)
 obtain⟨u,r,l⟩:=hl i x v hi e1 vis
 refine wpAny_AugAssign_Name ?_
 have go:wpAny (model X.prog X.w) X.A (eval e X.env) (fun w s₂=>wpAny (model X.prog X.w) X.A (inplaceOp op u w) (fun r s₃=>wpAny (model X.prog X.w) X.A (storeName X.env x r) (fun _=>SP X pins D .next) X.xe s₃) X.xe s₂) X.xe s:=by
  refine thn (he pins s σ H _ I h) fun w s1 ⟨y,H1,I1,r1,q1⟩=>?_
  refine thn (ho pins s1 σ H1 v y u w _ I1 r r1 q1) fun z s2 ⟨zv,H2,I2,r2,q2⟩=>?_
  exact store_ok I2 hN hi hx r2 (fun s3 I3=>⟨_,H2,I3,q2⟩) hf
 rcases l with ⟨hk,hm⟩ | ⟨hk,c,hc,hcell⟩
 .exact wpAny_loadName_local I.ok.kind hk hn hm go
 .rcases hk with hk | hk
  .exact wpAny_loadName_cell I.ok.kind hk hc hcell go
  .rcases hx with k | k
   .have:X.env.scope.names.lookup x=some .free:=hk
    rw[k] at this; cases this
   .have:X.env.scope.names.lookup x=some .free:=hk
    rw[k] at this; cases this
def ipI(f:Int→Int→Int):TIp:=fun x y H Q=>∃i j,x=.int i∧y=.int j∧Q (.int (f i j)) H
theorem ip_add:PIp X .Add (ipI fun i j=>i+j):=by
 intro pins s σ H x y v u Q I r1 r2 h
 obtain⟨i,j,e1,e2,q⟩:=h
 subst e1; subst e2
 obtain⟨t,rfl⟩:=r1
 obtain⟨t',rfl⟩:=r2
 exact iadd_int ⟨.int _,H,I.tok _,⟨_,rfl⟩,q⟩
end
section
variable{X:Cx}{pos:Pos}
def tWhile(c:TT)(tb:TS):TS:=fun D σ H=>∃W:Nat→St→Hp→Prop,(∃m,W m σ H)∧∀m σ H,W m σ H→
 c σ H fun b H1=>if b=true then ∃N:St→Hp→Prop,(∀σ' H',N σ' H'→∃m',m'<m∧W m' σ' H')∧tb { D with nx:=N,ct:=N,bk:=D.nx } σ H1 else D.nx σ H1
theorem ps_while{c:Expr}{body:List Stmt}{tc:TT}{tb:TS}(hp:PassesOwn (model X.prog X.w) X.A X.env X.xe)(hc:PT X c tc)(hb:PSs X body tb):PS X (.While c body [] pos) (tWhile tc tb):=by
 intro pins s σ H D I h
 obtain⟨W,⟨m0,w0⟩,turn⟩:=h
 refine wpAny_While (codeAny_whileLoop (fun n s'=>∃σ' H',Inv X pins σ' H' s'∧W n σ' H') ?_ m0 ⟨σ,H,I,w0⟩)
 rintro n s1 ⟨σ1,H1,I1,w1⟩
 refine wpAny_passesOwn hp (thn (hc pins s1 σ1 H1 _ I1 (turn n σ1 H1 w1)) fun b s2 ⟨H2,I2,q2⟩=>?_)
 cases b with
 | true=>
  obtain⟨N,hN,q2⟩:=q2
  rw[if_pos rfl]
  refine wpAny_passesOwn hp (thn (hb pins s2 σ1 H2 _ I2 q2) fun f s3 q3=>?_)
  cases f with
  | next=>
   obtain⟨σ3,H3,I3,n3⟩:=q3
   obtain⟨m',hm,w3⟩:=hN σ3 H3 n3
   exact⟨m',hm,σ3,H3,I3,w3⟩
  | cont=>
   obtain⟨σ3,H3,I3,n3⟩:=q3
   obtain⟨m',hm,w3⟩:=hN σ3 H3 n3
   exact⟨m',hm,σ3,H3,I3,w3⟩
  | brk=>exact q3
  | ret v=>exact q3
 | false=>
  rw[if_neg Bool.false_ne_true]
  exact wpAny_execs_nil ⟨σ1,H2,I2,q2⟩
end
structure It where
 go:Nat→Hp→Prop
 yld:Nat→Hp→V→Hp→Prop
 stop:Nat→Hp→Prop
def FpOk(X:Cx)(pins:List (Addr×Obj))(H:Hp)(b:Addr):Prop:=
 H b=none∧b≠X.env.locals∧b∉X.fs∧(b∈X.ex∨X.s₀.heap.objs.size≤b)∧(∀x c,X.env.cells.lookup x=some c→c≠b)∧∀p∈X.pn++pins,p.1≠b
theorem Inv.fpOk{X:Cx}{pins:List (Addr×Obj)}{σ:St}{H H':Hp}{s:Shared}{b:Addr}(I:Inv X pins σ H s)(hb:s.heap.objs.size≤b)(hn:H' b=none):FpOk X pins H' b:=by
 refine⟨hn,Nat.ne_of_gt (Nat.lt_of_lt_of_le I.lt hb),I.nofs hb,.inr (Nat.le_trans I.sz hb),fun x c e z=>?_,fun p hp z=>?_⟩
 .obtain⟨v,q⟩:=I.cell x c e
  exact absurd (Nat.lt_of_lt_of_le q.lt (by rw[z]; exact hb)) (Nat.lt_irrefl _)
 .exact absurd (Nat.lt_of_lt_of_le (Heap.lt_size (I.pin p hp).1) (by rw[z]; exact hb)) (Nat.lt_irrefl _)
structure Turn(P:Program)(w:World)(K:PySem.W.Frag)(tg:Expr)(J:It)(fp:List Addr)(it:Addr)(tn:Nat→Heap→Prop):Prop where
 mem:it∈fp
 obj:∀i h,tn i h→∀b∈fp,∃o,h.get? b=some o∧∀v,o.data≠.cell v
 keep:∀i h h',tn i h→(∀b∈fp,∀o,h.get? b=some o→h'.get? b=some o)→tn i h'
 item:∀(X:Cx),X.prog=P→X.w=w→X.K=K→X.calm=true→∀(i:Nat) (pins:List (Addr×Obj)) (s:Shared) (σ:St) (H:Hp) (E:Value→Shared→Prop),Inv X pins σ H s→(∀b∈fp,FpOk X pins H b)→tn i s.heap→J.go i H→
  wpAny (model P w) X.A (pyNext (.ref it)) (fun r s1=>∃u,r=some u ∧
   wpAny (model P w) X.A (letOwnedTupleGo tg (.ref it) u) (fun _ s2=>∃x H',Inv X pins σ H' s2∧RelV x u∧J.yld i H x H'∧tn (i+1) s2.heap∧∀b∈fp,H' b=none) E s1) E s
 done:∀(X:Cx),X.prog=P→X.w=w→X.K=K→X.calm=true→∀(i:Nat) (pins:List (Addr×Obj)) (s:Shared) (σ:St) (H:Hp) (E:Value→Shared→Prop),Inv X pins σ H s→(∀b∈fp,FpOk X pins H b)→tn i s.heap→J.stop i H→
  wpAny (model P w) X.A (pyNext (.ref it)) (fun r s1=>r=none∧Inv X pins σ H s1) E s
 self:∀(A:Around) (i:Nat) (s:Shared) (Q:Value→Shared→Prop) (E:Value→Shared→Prop),tn i s.heap→Q (.ref it) s→wpAny (model P w) A (pyIter (.ref it)) Q E s
abbrev TI:=St→Hp→(It→Hp→Prop)→Prop
def PIE(X:Cx)(pins:List (Addr×Obj))(σ:St)(tg:Expr)(R:It→Hp→Prop)(itv:Value)(s2:Shared):Prop:=
 ∃(it:Addr) (fp:List Addr) (tn:Nat→Heap→Prop) (J:It) (H':Hp),itv=.ref it∧Inv X pins σ H' s2∧Turn X.prog X.w X.K tg J fp it tn∧tn 0 s2.heap∧(∀b∈fp,FpOk X pins H' b)∧R J H'
def PI(X:Cx)(tg iter:Expr)(wi:TI):Prop:=
 ∀(pins:List (Addr×Obj)) (s:Shared) (σ:St) (H:Hp) (R:It→Hp→Prop),Inv X pins σ H s→wi σ H R→
  wpAny (model X.prog X.w) X.A (eval iter X.env) (fun v s1=>wpAny (model X.prog X.w) X.A (pyIter v) (PIE X pins σ tg R) X.xe s1) X.xe s
theorem go_of {M : Model} {A : Around} {E : Value → Shared → Prop} {s : Shared} {tg : Expr} {it : Addr} {u : Value} {o : Obj} {n : String} {vs : Array Value} {Q : Unit → Shared → Prop} (ho : s.heap.get? it = some o) (hc : o.cls = .type n) (hd : o.data = .fields vs)
    (hn : ["enumerate", "zip", "dict_itemiterator", "dict_reverseitemiterator", "odict_iterator", "itertools.zip_longest", "itertools.pairwise"].contains n = false) (hQ : Q () s) : wpAny M A (letOwnedTupleGo tg (.ref it) u) Q E s := by
  unfold letOwnedTupleGo
  cases tg <;> first
    | exact wpAny_pure hQ
    | (cases u <;> first
        | exact wpAny_pure hQ
        | (refine wpAny_bind (wpAny_load ho ?_)
           rw [hc, hd]
           show wpAny M A (if (["enumerate", "zip", "dict_itemiterator", "dict_reverseitemiterator", "odict_iterator", "itertools.zip_longest", "itertools.pairwise"].contains n && vs[0]? == some (rawInt _)) = true then _ else _) Q E s
           rw [if_neg (by intro h; rw [hn, Bool.false_and] at h; cases h)]
           exact wpAny_pure hQ))
def Itl(K:PySem.W.Frag)(a:Addr):It:=
 ⟨fun i H=>∃xs x,SqL K H a xs∧xs[i]?=some x,fun i H x H'=>H'=H∧∀xs,SqL K H a xs→xs[i]?=some x,fun i H=>∃xs,SqL K H a xs∧xs.length≤i⟩
def Itt(K:PySem.W.Frag)(a:Addr):It:=
 ⟨fun i H=>∃xs x,SqT K H a xs∧xs[i]?=some x,fun i H x H'=>H'=H∧∀xs,SqT K H a xs→xs[i]?=some x,fun i H=>∃xs,SqT K H a xs∧xs.length≤i⟩
def Itr(lo:Int)(n:Nat):It:=⟨fun i _=>i<n,fun i H x H'=>H'=H∧x=.int (lo+i),fun i _=>n≤i⟩
theorem turn_list{P:Program}{w:World}{K:PySem.W.Frag}{tg:Expr}(a it:Addr):Turn P w K tg (Itl K a) [it] it (fun i h=>h.IsListIter it a i) where
 mem:=by simp
 obj:=fun i h st b hb=>by
  have e:b=it:=by simpa using hb
  subst e
  obtain⟨o,e,c,d⟩:=st
  exact⟨o,e,fun v z=>by rw[d] at z; cases z⟩
 keep:=fun i h h' st k=>st.at fun o e=>k it (by simp) o e
 item:=by
  intro X hP hw hK hc i pins s σ H E I hf st hg
  subst hP hw hK
  obtain⟨xs,x,hq,hx⟩:=hg
  obtain⟨its,rv,p,hz⟩:=I.list hq
  obtain⟨u,hu,ru⟩:=rv.get hx
  obtain⟨f0,f1,f2,f3,f4,f5⟩:=hf it (by simp)
  refine wpAny_pyNext_list_item st p.isList (x:=u) (by simpa using hu) fun h' st' sb=>?_
  have I1:Inv X pins σ H { s with heap:=h' }:=I.turned (t':=s.toks) (fun b o hb e=>(sb.2 b hb).trans e) f0 f1 f3 f4 f5
  obtain⟨o,e,c,d⟩:=id st'
  exact⟨u,rfl,go_of (s:={ s with heap:=h' }) e c d (by decide) ⟨x,H,I1,ru,⟨rfl,fun ys hy=>by rw[I.list_inj hy hq]; exact hx⟩,st',fun b hb=>(hf b hb).1⟩⟩
 done:=by
  intro X hP hw hK hc i pins s σ H E I hf st hg
  subst hP hw hK
  obtain⟨xs,hq,hx⟩:=hg
  obtain⟨its,rv,p,hz⟩:=I.list hq
  obtain⟨f0,f1,f2,f3,f4,f5⟩:=hf it (by simp)
  have hl:=rv.length
  exact wpAny_pyNext_list_end (I.ok.hd hc) st p.isList (by simp; omega) fun h' eb=>⟨rfl,I.turned (t':=s.toks) (fun b o hb e=>eb b o hb e) f0 f1 f3 f4 f5⟩
 self:=fun _ _ _ _ _ st h=>wpAny_pyIter_listiter st h
theorem turn_tuple{P:Program}{w:World}{K:PySem.W.Frag}{tg:Expr}(a it:Addr):Turn P w K tg (Itt K a) [it] it (fun i h=>h.IsTupleIter it a i) where
 mem:=by simp
 obj:=fun i h st b hb=>by
  have e:b=it:=by simpa using hb
  subst e
  obtain⟨o,e,c,d⟩:=st
  exact⟨o,e,fun v z=>by rw[d] at z; cases z⟩
 keep:=fun i h h' st k=>st.at fun o e=>k it (by simp) o e
 item:=by
  intro X hP hw hK hc i pins s σ H E I hf st hg
  subst hP hw hK
  obtain⟨xs,x,hq,hx⟩:=hg
  obtain⟨its,rv,p,hz⟩:=I.tuple hq
  obtain⟨u,hu,ru⟩:=rv.get hx
  obtain⟨f0,f1,f2,f3,f4,f5⟩:=hf it (by simp)
  refine wpAny_pyNext_tuple_item st (show s.heap.IsTuple a its.toArray from p) (x:=u) (by simpa using hu) fun h' st' sb=>?_
  have I1:Inv X pins σ H { s with heap:=h' }:=I.turned (t':=s.toks) (fun b o hb e=>(sb.2 b hb).trans e) f0 f1 f3 f4 f5
  obtain⟨o,e,c,d⟩:=id st'
  exact⟨u,rfl,go_of (s:={ s with heap:=h' }) e c d (by decide) ⟨x,H,I1,ru,⟨rfl,fun ys hy=>by rw[I.tuple_inj hy hq]; exact hx⟩,st',fun b hb=>(hf b hb).1⟩⟩
 done:=by
  intro X hP hw hK hc i pins s σ H E I hf st hg
  subst hP hw hK
  obtain⟨xs,hq,hx⟩:=hg
  obtain⟨its,rv,p,hz⟩:=I.tuple hq
  obtain⟨f0,f1,f2,f3,f4,f5⟩:=hf it (by simp)
  have hl:=rv.length
  exact wpAny_pyNext_tuple_end (I.ok.hd hc) st (show s.heap.IsTuple a its.toArray from p) (by simp; omega) fun h' eb=>⟨rfl,I.turned (t':=s.toks) (fun b o hb e=>eb b o hb e) f0 f1 f3 f4 f5⟩
 self:=fun _ _ _ _ _ st h=>wpAny_pyIter_tupleiter st h
theorem turn_range{P:Program}{w:World}{K:PySem.W.Frag}{tg:Expr}(it:Addr)(lo:Int)(n:Nat):Turn P w K tg (Itr lo n) [it] it (fun i h=>IsRangeIter h it (lo+(i:Nat)*1) ((n:Int)-(i:Nat)) 1) where
 mem:=by simp
 obj:=fun i h st b hb=>by
  have e:b=it:=by simpa using hb
  subst e
  exact⟨_,st,fun v z=>by
   have z':Data.fields _=Data.cell v:=z
   cases z'⟩
 keep:=fun i h h' st k=>k it (by simp) _ st
 item:=by
  intro X hP hw hK hc i pins s σ H E I hf st hg
  subst hP hw hK
  obtain⟨f0,f1,f2,f3,f4,f5⟩:=hf it (by simp)
  have W:=Walks.range (prog:=X.prog) (w:=X.w) (I.ok.hd hc) it lo 1 n
  refine W.item i s _ _ hg st fun v h' tk hv st' kk=>?_
  obtain⟨t,rfl⟩:=hv
  have I1:Inv X pins σ H { s with heap:=h',toks:=tk }:=I.turned (fun b o hb e=>kk b o (by simpa using hb) e) f0 f1 f3 f4 f5
  refine⟨_,rfl,go_of (s:={ s with heap:=h',toks:=tk }) (n:="range_iterator") st' rfl rfl (by decide) ⟨.int (lo+i),H,I1,⟨t,?_⟩,⟨rfl,rfl⟩,st',fun b hb=>(hf b hb).1⟩⟩
  rw[Int.mul_one]
 done:=by
  intro X hP hw hK hc i pins s σ H E I hf st hg
  subst hP hw hK
  obtain⟨f0,f1,f2,f3,f4,f5⟩:=hf it (by simp)
  exact wpAny_pyNext_range_end (I.ok.hd hc) st (by have:n≤i:=hg; omega) fun h' eb=>⟨rfl,I.turned (t':=s.toks) (fun b o hb e=>eb b o hb e) f0 f1 f3 f4 f5⟩
 self:=fun _ _ _ _ _ st h=>wpAny_pyIter_rangeiter st h
end L2
namespace L2
open PySem PySem.Spec PyProof.Rows
section
variable{X:Cx}{tg:Expr}
theorem range_it{pins:List (Addr×Obj)}{σ:St}{H:Hp}{s:Shared}{R:It→Hp→Prop}{E:Value→Shared→Prop}{lo hi:Int}{t u v:Tok}{tk:Nat}(I:Inv X pins σ H s)(h1:-(2 ^ 62)≤lo)(h2:lo<2 ^ 62)(h3:-(2 ^ 62)≤hi)(h4:hi<2 ^ 62)
  (q:R (Itr lo (hi-lo).toNat) H):wpAny (model X.prog X.w) X.A (pyIter (.ref s.heap.objs.size)) (PIE X pins σ tg R) E { s with heap:=s.heap.push { cls:=.type "range",data:=.fields #[.int lo t,.int hi u,.int 1 v] },toks:=tk }:=by
 refine wpAny_pyIter_range (IsRange.new ..) (small_one h1 h2 h3 h4) ?_
 have I1:Inv X pins σ H { s with heap:=s.heap.push { cls:=.type "range",data:=.fields #[.int lo t,.int hi u,.int 1 v] },toks:=tk }:=I.kept fun b o e=>Heap.get?_push_of_some _ e
 refine⟨(s.heap.push { cls:=.type "range",data:=.fields #[.int lo t,.int hi u,.int 1 v] }).objs.size,[(s.heap.push { cls:=.type "range",data:=.fields #[.int lo t,.int hi u,.int 1 v] }).objs.size],_,_,H,rfl,
  I1.kept (t':=tk) fun b o e=>Heap.get?_push_of_some _ e,turn_range _ lo (hi-lo).toNat,?_,fun b hb=>?_,q⟩
 .have e1:lo+((0:Nat):Int)*1=lo:=by simp
  have e2:(((hi-lo).toNat:Nat):Int)-((0:Nat):Int)=Builtin.Range.rangeSize lo hi 1:=by rw[rangeSize_one]; split<;>omega
  show IsRangeIter _ _ (lo+((0:Nat):Int)*1) ((((hi-lo).toNat:Nat):Int)-((0:Nat):Int)) 1
  rw[e1,e2]
  exact Heap.get?_push_size _ rfl
 .have e:b=(s.heap.push { cls:=.type "range",data:=.fields #[.int lo t,.int hi u,.int 1 v] }).objs.size:=by simpa using hb
  subst e
  exact I1.fpOk (Nat.le_refl _) (I1.hok.fresh (Nat.le_refl _))
def iRng1(ta:TA):TI:=fun σ H R=>ta σ H fun vs H1=>∃j:Int,vs=[.int j]∧-(2 ^ 62)≤j∧j<2 ^ 62∧R (Itr 0 j.toNat) H1
theorem pi_range1{a:Expr}{ta:TA}{p pos:Pos}(hg:Gl X "range")(hm:X.mg "range" = none)(ha:PA X [a] ta)(hs:starEach [a] X.env=[(false,eval a X.env)]:=by rfl):PI X tg (.Call (.Name "range" p) [a] [] pos) (iRng1 ta):=by
 intro pins s σ H R I h
 refine Call_ (ld_blt I hg hm boot_range (PyProof.Rows.callWith_type1 (thn (ha pos pins s σ H _ I h) fun us s1 ⟨vs,H1,I1,r1,q1⟩=>?_) hs rfl))
 obtain⟨j,e,q1,q2,q⟩:=q1
 subst e
 cases r1 with
 | cons r rr=>
  cases rr
  obtain⟨t,rfl⟩:=r
  exact call_range_1 (range_it I1 (by omega) (by omega) q1 q2 (by simpa using q))
def tFor(wi:TI)(g:TG)(tb:TS):TS:=fun D σ H=>wi σ H fun J H1=>∃W:Nat→Nat→St→Hp→Prop,(∃m,W 0 m σ H1)∧∀i m σ H,W i m σ H→
 (J.stop i H∧D.nx σ H)∨(J.go i H∧∃N:St→Hp→Prop,(∀σ' H',N σ' H'→∃m',m'<m∧W (i+1) m' σ' H')∧∀x H',J.yld i H x H'→g x σ H' fun σ2 H2=>tb { D with nx:=N,ct:=N,bk:=D.nx } σ2 H2)
def pinsAt(fp:List Addr)(h:Heap):List (Addr×Obj):=fp.filterMap fun b=>(h.get? b).map fun o=>(b,o)
theorem mem_pinsAt{fp:List Addr}{h:Heap}{b:Addr}{o:Obj}(hb:b∈fp)(e:h.get? b=some o):(b,o)∈pinsAt fp h:=List.mem_filterMap.mpr ⟨b,hb,by rw[e]; rfl⟩
theorem of_pinsAt{fp:List Addr}{h:Heap}{p:Addr×Obj}(hp:p∈pinsAt fp h):p.1∈fp∧h.get? p.1=some p.2:=by
 obtain⟨b,hb,e⟩:=List.mem_filterMap.mp hp
 cases q:h.get? b with
 | none=>rw[q] at e; cases e
 | some o=>
  rw[q] at e
  have e':(b,o)=p:=Option.some.inj e
  subst e'
  exact⟨hb,q⟩
theorem Inv.pinned{pins:List (Addr×Obj)}{σ:St}{H:Hp}{s:Shared}{fp:List Addr}(I:Inv X pins σ H s)(hf:∀b∈fp,FpOk X pins H b)(ho:∀b∈fp,∃o,s.heap.get? b=some o∧∀v,o.data≠.cell v):Inv X (pins++pinsAt fp s.heap) σ H s:=
 I.pins_of fun p hp=>(List.mem_append.mp hp).elim (fun z=>I.pin p (List.mem_append_right _ z)) fun z=>by
  obtain⟨hb,e⟩:=of_pinsAt z
  obtain⟨f0,f1,f2,_⟩:=hf p.1 hb
  obtain⟨o,e',d⟩:=ho p.1 hb
  rw[e] at e'; cases e'
  exact⟨e,f0,f1,f2,d⟩
theorem Inv.unpinned{pins pl:List (Addr×Obj)}{σ:St}{H:Hp}{s:Shared}(I:Inv X (pins++pl) σ H s):Inv X pins σ H s:=I.pins_of fun p hp=>I.pin p (List.mem_append_right _ (List.mem_append_left _ hp))
theorem ps_for{iter:Expr}{body:List Stmt}{wi:TI}{g:TG}{tb:TS}{pos:Pos}(hp:PassesOwn (model X.prog X.w) X.A X.env X.xe)(hc:X.calm=true)(hi:PI X tg iter wi)(hg:PG X tg g)(hb:PSs X body tb)
  (hs:∀x,foldedSetIterable iter X.env x=pure x:=by intro _; rfl):PS X (.For tg iter body [] pos) (tFor wi g tb):=by
 intro pins s σ H D I h
 refine wpAny_For (thn (hi pins s σ H _ I h) fun v s1 h1=>thn h1 fun itv s2 h2=>?_) hs
 obtain⟨it,fp,tn,J,H2,e,I2,T,st2,f2,W,⟨m0,w0⟩,turn⟩:=h2
 subst e
 have stat:∀{H':Hp},(∀b∈fp,H' b=none)→∀b∈fp,FpOk X pins H' b:=fun hn b hb=>⟨hn b hb,(f2 b hb).2⟩
 refine codeAny_forLoop_any (fun n s'=>∃i σ' H',Inv X pins σ' H' s'∧tn i s'.heap∧(∀b∈fp,H' b=none)∧W i n σ' H') ?_ m0 ⟨0,σ,H2,I2,st2,fun b hb=>(f2 b hb).1,w0⟩
 rintro n s3 ⟨i,σ3,H3,I3,st3,fr3,w3⟩
 rcases turn i n σ3 H3 w3 with ⟨stop,qn⟩ | ⟨go,N,hN,step⟩
 .refine wpAny_passesOwn hp (thn (T.done X rfl rfl rfl hc i pins s3 σ3 H3 X.xe I3 (stat fr3) st3 stop) fun r s4 ⟨hr,I4⟩=>?_)
  subst hr
  exact wpAny_execs_nil ⟨σ3,H3,I4,qn⟩
 .refine wpAny_passesOwn hp (thn (T.item X rfl rfl rfl hc i pins s3 σ3 H3 X.xe I3 (stat fr3) st3 go) fun r s4 ⟨u,hr,h4⟩=>?_)
  subst hr
  refine wpAny_passesOwn hp (thn h4 fun _ s5 ⟨x,H5,I5,r5,y5,st5,fr5⟩=>?_)
  have I5':=I5.pinned (stat fr5) (T.obj _ _ st5)
  refine wpAny_passesOwn hp (thn (hg _ s5 σ3 H5 x u _ I5' r5 (step x H5 y5)) fun _ s6 ⟨σ6,H6,I6,q6⟩=>?_)
  refine wpAny_passesOwn hp (thn (hb _ s6 σ6 H6 _ I6 q6) fun f s7 q7=>?_)
  have again:∀{σ7:St} {H7:Hp},Inv X (pins++pinsAt fp s5.heap) σ7 H7 s7→N σ7 H7→∃m,m<n∧∃i σ' H',Inv X pins σ' H' s7∧tn i s7.heap∧(∀b∈fp,H' b=none)∧W i m σ' H':=fun {σ7 H7} I7 n7=>by
   obtain⟨m',hm,w7⟩:=hN σ7 H7 n7
   refine⟨m',hm,i+1,σ7,H7,I7.unpinned,T.keep _ _ _ st5 fun b hb o e=>(I7.pin (b,o) (List.mem_append_right _ (List.mem_append_right _ (mem_pinsAt hb e)))).1,fun b hb=>?_,w7⟩
   obtain⟨o,e,d⟩:=T.obj _ _ st5 b hb
   exact(I7.pin (b,o) (List.mem_append_right _ (List.mem_append_right _ (mem_pinsAt hb e)))).2.1
  cases f with
  | next=>obtain⟨σ7,H7,I7,n7⟩:=q7; exact again I7 n7
  | cont=>obtain⟨σ7,H7,I7,n7⟩:=q7; exact again I7 n7
  | brk=>obtain⟨σ7,H7,I7,q7⟩:=q7; exact⟨σ7,H7,I7.unpinned,q7⟩
  | ret v=>obtain⟨x7,σ7,H7,I7,r7,q7⟩:=q7; exact⟨x7,σ7,H7,I7.unpinned,r7,q7⟩
end
end L2
namespace L2
open PySem PySem.Spec PyProof.Rows
abbrev R2:=V→V→Hp→VK→Prop
def OpR(X:Cx)(f:Value→Value→Sem Value)(r:R2):Prop:=
 ∀(pins:List (Addr×Obj)) (s:Shared) (σ:St) (H:Hp) (x y:V) (v u:Value) (Q:VK),Inv X pins σ H s→RelV x v→RelV y u→r x y H Q→
  wpAny (model X.prog X.w) X.A (f v u) (EP X pins σ Q) X.xe s
def UnR(X:Cx)(f:Value→Sem Value)(r:V→Hp→VK→Prop):Prop:=
 ∀(pins:List (Addr×Obj)) (s:Shared) (σ:St) (H:Hp) (x:V) (v:Value) (Q:VK),Inv X pins σ H s→RelV x v→r x H Q→
  wpAny (model X.prog X.w) X.A (f v) (EP X pins σ Q) X.xe s
def CallR(X:Cx)(f:Value)(r:List V→Hp→VK→Prop):Prop:=
 ∀(pins:List (Addr×Obj)) (s:Shared) (σ:St) (H:Hp) (xs:List V) (us:List Value) (Q:VK),Inv X pins σ H s→Vals xs us→r xs H Q→
  wpAny (model X.prog X.w) X.A (call f us) (EP X pins σ Q) X.xe s
def tOp(r:R2)(ta tb:TE):TE:=fun σ H Q=>ta σ H fun x H1=>tb σ H1 fun y H2=>r x y H2 Q
def tUn(r:V→Hp→VK→Prop)(ta:TE):TE:=fun σ H Q=>ta σ H fun x H1=>r x H1 Q
def rI(C:Int→Int→Prop)(g:Int→Int→V):R2:=fun x y H Q=>∃i j,x=.int i∧y=.int j∧C i j∧Q (g i j) H
def rI0(g:Int→Int→V):R2:=fun x y H Q=>∃i j,x=.int i∧y=.int j∧Q (g i j) H
def rU(g:Int→V):V→Hp→VK→Prop:=fun x H Q=>∃i,x=.int i∧Q (g i) H
section
variable{X:Cx}{a b c:Expr}{ta tb tc:TE}{pos:Pos}
theorem binT(ha:PE X a ta)(hb:PE X b tb){pins:List (Addr×Obj)}{s:Shared}{σ:St}{H:Hp}{R:V→V→Hp→Prop}(I:Inv X pins σ H s)
  (h:ta σ H fun x H1=>tb σ H1 fun y H2=>R x y H2) {Q:Value→Shared→Prop} {f:Value→Value→Sem Value}
  (hf:∀v u s2 x y H2,Inv X pins σ H2 s2→RelV x v→RelV y u→R x y H2→wpAny (model X.prog X.w) X.A (f v u) Q X.xe s2) :
  wpAny (model X.prog X.w) X.A (eval a X.env) (fun v s₁=>wpAny (model X.prog X.w) X.A (eval b X.env) (fun u s₂=>wpAny (model X.prog X.w) X.A (f v u) Q X.xe s₂) X.xe s₁) X.xe s:=by
 refine thn (ha pins s σ H _ I h) fun v s1 ⟨x,H1,I1,r1,q1⟩=>?_
 refine thn (hb pins s1 σ H1 _ I1 q1) fun u s2 ⟨y,H2,I2,r2,q2⟩=>?_
 exact hf v u s2 x y H2 I2 r1 r2 q2
theorem pe_op{op:Operator}{r:R2}(ho:OpR X (binaryOp op) r)(ha:PE X a ta)(hb:PE X b tb):PE X (.BinOp a op b pos) (tOp r ta tb):=by
 intro pins s σ H Q I h
 exact wpAny_BinOp (binT ha hb I h fun v u s2 x y H2 I2 rx ry q=>ho pins s2 σ H2 x y v u Q I2 rx ry q)
theorem pe_un{op:UnaryOp}{r:V→Hp→VK→Prop}(ho:UnR X (unaryOp op) r)(ha:PE X a ta):PE X (.UnaryOp op a pos) (tUn r ta):=by
 intro pins s σ H Q I h
 exact UnaryOp_ (thn (ha pins s σ H _ I h) fun v s1 ⟨x,H1,I1,r1,q1⟩=>ho pins s1 σ H1 x v Q I1 r1 q1)
theorem opI{f:Value→Value→Sem Value}{C:Int→Int→Prop}{g:Int→Int→Int}
  (rule:∀(i j:Int) (t u:Tok) (s:Shared) (Q:Value→Shared→Prop) (E:Value→Shared→Prop),C i j→Q (.int (g i j) s.toks) { s with toks:=s.toks+1 }→wpAny (model X.prog X.w) X.A (f (.int i t) (.int j u)) Q E s) :
  OpR X f (rI C fun i j=>.int (g i j)):=by
 intro pins s σ H x y v u Q I rx ry h
 obtain⟨i,j,rfl,rfl,hc,q⟩:=h
 obtain⟨t,rfl⟩:=rx
 obtain⟨t',rfl⟩:=ry
 exact rule i j t t' s _ _ hc ⟨.int (g i j),H,I.tok _,⟨_,rfl⟩,q⟩
theorem opI0{f:Value→Value→Sem Value}{g:Int→Int→Int}
  (rule:∀(i j:Int) (t u:Tok) (s:Shared) (Q:Value→Shared→Prop) (E:Value→Shared→Prop),Q (.int (g i j) s.toks) { s with toks:=s.toks+1 }→wpAny (model X.prog X.w) X.A (f (.int i t) (.int j u)) Q E s) :
  OpR X f (rI0 fun i j=>.int (g i j)):=by
 intro pins s σ H x y v u Q I rx ry h
 obtain⟨i,j,rfl,rfl,q⟩:=h
 obtain⟨t,rfl⟩:=rx
 obtain⟨t',rfl⟩:=ry
 exact rule i j t t' s _ _ ⟨.int (g i j),H,I.tok _,⟨_,rfl⟩,q⟩
theorem opB0{f:Value→Value→Sem Value}{g:Int→Int→Bool}
  (rule:∀(i j:Int) (t u:Tok) (s:Shared) (Q:Value→Shared→Prop) (E:Value→Shared→Prop),Q (.bool (g i j)) s→wpAny (model X.prog X.w) X.A (f (.int i t) (.int j u)) Q E s) :
  OpR X f (rI0 fun i j=>.bl (g i j)):=by
 intro pins s σ H x y v u Q I rx ry h
 obtain⟨i,j,rfl,rfl,q⟩:=h
 obtain⟨t,rfl⟩:=rx
 obtain⟨t',rfl⟩:=ry
 exact rule i j t t' s _ _ ⟨.bl (g i j),H,I,rfl,q⟩
def CDiv(i j:Int):Prop:=0<j∧j<1073741824
def CPow(i j:Int):Prop:=0≤j∧j≤1000000∧i.natAbs<2 ^ 64
def CMul(i j:Int):Prop:=(-(2 ^ 64)<i∧i<2 ^ 64)∨(-(2 ^ 64)<j∧j<2 ^ 64)
theorem CMul.ok{i j:Int}(h:CMul i j):IntMulOk i j:=by
 rcases h with ⟨h1,h2⟩ | ⟨h1,h2⟩
 .exact .of_left (intBits_le_64 h1 h2)
 .exact .of_right (intBits_le_64 h1 h2)
theorem op_add:OpR X (binaryOp .Add) (rI0 fun i j=>.int (i+j)):=opI0 fun _ _ _ _ _ _ _ q=>add_int q
theorem op_sub:OpR X (binaryOp .Sub) (rI0 fun i j=>.int (i-j)):=opI0 fun _ _ _ _ _ _ _ q=>sub_int q
theorem op_mul:OpR X (binaryOp .Mult) (rI CMul fun i j=>.int (i*j)):=opI fun _ _ _ _ _ _ _ hc q=>mul_int q hc.ok
theorem op_fdiv:OpR X (binaryOp .FloorDiv) (rI CDiv fun i j=>.int (i/j)):=opI fun i j _ _ _ _ _ hc q=>by
 have h1:(0:Int)<j:=hc.1
 have h2:j<1073741824:=hc.2
 exact floordiv_int (by omega) (by rw[Int.fdiv_eq_ediv_of_nonneg i (by omega)]; exact q) (.inl (PyProof.noPylong_small (by omega)))
theorem op_mod:OpR X (binaryOp .Mod) (rI (fun _ j=>0<j) fun i j=>.int (i%j)):=opI fun i j _ _ _ _ _ hc q=>by
 have h1:(0:Int)<j:=hc
 exact mod_int' (by omega) (by rw[Int.fmod_eq_emod_of_nonneg i (by omega)]; exact q)
theorem op_pow:OpR X (binaryOp .Pow) (rI CPow fun i j=>.int (i ^ j.toNat)):=opI fun _ _ _ _ _ _ _ hc q=>pow_int_small hc.1 hc.2.1 hc.2.2 q
theorem unI{f:Value→Sem Value}{g:Int→Int}
  (rule:∀(i:Int) (t:Tok) (s:Shared) (Q:Value→Shared→Prop) (E:Value→Shared→Prop),Q (.int (g i) s.toks) { s with toks:=s.toks+1 }→wpAny (model X.prog X.w) X.A (f (.int i t)) Q E s) :
  UnR X f (rU fun i=>.int (g i)):=by
 intro pins s σ H x v Q I rx h
 obtain⟨i,rfl,q⟩:=h
 obtain⟨t,rfl⟩:=rx
 exact rule i t s _ _ ⟨.int (g i),H,I.tok _,⟨_,rfl⟩,q⟩
theorem un_neg:UnR X (unaryOp .USub) (rU fun i=>.int (-i)):=unI fun _ _ _ _ _ q=>neg_int q
end
def scal:V→V→Bool
 | .non,.non=>true | .non,.int _=>true | .int _,.non=>true | .non,.bl _=>true | .bl _,.non=>true | .non,.str _=>true | .str _,.non=>true
 | .int _,.int _=>true | .bl _,.bl _=>true | .str _,.str _=>true | .byt _,.byt _=>true
 | .int _,.str _=>true | .str _,.int _=>true | .bl _,.str _=>true | .str _,.bl _=>true
 | _,_=>false
def rEq:R2:=fun x y H Q=>scal x y=true∧Q (.bl (decide (x=y))) H
def rNe:R2:=fun x y H Q=>scal x y=true∧Q (.bl (!decide (x=y))) H
theorem dec_int{i j:Int}:decide (V.int i=V.int j)=(i==j):=by
 rw[Bool.eq_iff_iff]
 simp
theorem dec_bl{i j:Bool}:decide (V.bl i=V.bl j)=(i==j):=by
 rw[Bool.eq_iff_iff]
 simp
theorem dec_str{i j:Str}:decide (V.str i=V.str j)=(i==j):=by
 rw[Bool.eq_iff_iff]
 simp
theorem dec_byt{i j:Array UInt8}:decide (V.byt i=V.byt j)=(i.toList==j.toList):=by
 rw[Bool.eq_iff_iff]
 cases i
 cases j
 simp
section
variable{X:Cx}{a b c:Expr}{ta tb tc:TE}{pos:Pos}
theorem fin_bl{pins:List (Addr×Obj)}{σ:St}{H:Hp}{s:Shared}{Q:VK}{k k':Bool}(I:Inv X pins σ H s)(q:Q (.bl k) H)(e:k=k'):EP X pins σ Q (.bool k') s:=by
 subst e
 exact⟨.bl k,H,I,rfl,q⟩
theorem op_eq:OpR X (compareOp .Eq) rEq:=by
 intro pins s σ H x y v u Q I rx ry h
 obtain⟨hs,q⟩:=h
 cases x with
 | non=>
  cases rx
  cases y with
  | non=>cases ry; exact PySem.EqNone.eq_none_none (fin_bl I q (by simp))
  | bl j=>cases ry; exact PySem.EqNone.eq_none_bool (fin_bl I q (by simp))
  | int j=>obtain⟨t',rfl⟩:=ry; exact PySem.EqNone.eq_none_int (fin_bl I q (by simp))
  | str j=>obtain⟨t',rfl⟩:=ry; exact PySem.EqNone.eq_none_str (fin_bl I q (by simp))
  | _=>exact absurd (show false=true from hs) Bool.false_ne_true
 | bl i=>
  cases rx
  cases y with
  | non=>cases ry; exact PySem.EqNone.eq_bool_none (fin_bl I q (by simp))
  | bl j=>cases ry; exact eq_bool (fin_bl I q dec_bl)
  | str j=>obtain⟨t',rfl⟩:=ry; exact PySem.EqMixed.eq_bool_str (fin_bl I q (by simp))
  | _=>exact absurd (show false=true from hs) Bool.false_ne_true
 | int i=>
  obtain⟨t,rfl⟩:=rx
  cases y with
  | non=>cases ry; exact PySem.EqNone.eq_int_none (fin_bl I q (by simp))
  | int j=>obtain⟨t',rfl⟩:=ry; exact eq_int (fin_bl I q dec_int)
  | str j=>obtain⟨t',rfl⟩:=ry; exact PySem.EqMixed.eq_int_str (fin_bl I q (by simp))
  | _=>exact absurd (show false=true from hs) Bool.false_ne_true
 | str i=>
  obtain⟨t,rfl⟩:=rx
  cases y with
  | non=>cases ry; exact PySem.EqNone.eq_str_none (fin_bl I q (by simp))
  | bl j=>cases ry; exact PySem.EqMixed.eq_str_bool (fin_bl I q (by simp))
  | int j=>obtain⟨t',rfl⟩:=ry; exact PySem.EqMixed.eq_str_int (fin_bl I q (by simp))
  | str j=>obtain⟨t',rfl⟩:=ry; exact eq_str (fin_bl I q dec_str)
  | _=>exact absurd (show false=true from hs) Bool.false_ne_true
 | byt i=>
  obtain⟨t,rfl⟩:=rx
  cases y with
  | byt j=>obtain⟨t',rfl⟩:=ry; exact PySem.W.eq_bytes (fin_bl I q dec_byt)
  | _=>exact absurd (show false=true from hs) Bool.false_ne_true
 | _=>cases y<;>exact absurd (show false=true from hs) Bool.false_ne_true
theorem op_ne:OpR X (compareOp .NotEq) rNe:=by
 intro pins s σ H x y v u Q I rx ry h
 obtain⟨hs,q⟩:=h
 cases x with
 | non=>
  cases rx
  cases y with
  | non=>cases ry; exact PySem.EqNone.ne_none_none (fin_bl I q (by simp))
  | bl j=>cases ry; exact PySem.EqNone.ne_none_bool (fin_bl I q (by simp))
  | int j=>obtain⟨t',rfl⟩:=ry; exact PySem.EqNone.ne_none_int (fin_bl I q (by simp))
  | str j=>obtain⟨t',rfl⟩:=ry; exact PySem.EqNone.ne_none_str (fin_bl I q (by simp))
  | _=>exact absurd (show false=true from hs) Bool.false_ne_true
 | bl i=>
  cases rx
  cases y with
  | non=>cases ry; exact PySem.EqNone.ne_bool_none (fin_bl I q (by simp))
  | bl j=>cases ry; exact ne_bool (fin_bl I q (congrArg not dec_bl))
  | str j=>obtain⟨t',rfl⟩:=ry; exact PySem.EqMixed.ne_bool_str (fin_bl I q (by simp))
  | _=>exact absurd (show false=true from hs) Bool.false_ne_true
 | int i=>
  obtain⟨t,rfl⟩:=rx
  cases y with
  | non=>cases ry; exact PySem.EqNone.ne_int_none (fin_bl I q (by simp))
  | int j=>obtain⟨t',rfl⟩:=ry; exact ne_int (fin_bl I q (congrArg not dec_int))
  | str j=>obtain⟨t',rfl⟩:=ry; exact PySem.EqMixed.ne_int_str (fin_bl I q (by simp))
  | _=>exact absurd (show false=true from hs) Bool.false_ne_true
 | str i=>
  obtain⟨t,rfl⟩:=rx
  cases y with
  | non=>cases ry; exact PySem.EqNone.ne_str_none (fin_bl I q (by simp))
  | bl j=>cases ry; exact PySem.EqMixed.ne_str_bool (fin_bl I q (by simp))
  | int j=>obtain⟨t',rfl⟩:=ry; exact PySem.EqMixed.ne_str_int (fin_bl I q (by simp))
  | str j=>obtain⟨t',rfl⟩:=ry; exact ne_str (fin_bl I q (congrArg not dec_str))
  | _=>exact absurd (show false=true from hs) Bool.false_ne_true
 | byt i=>
  obtain⟨t,rfl⟩:=rx
  cases y with
  | byt j=>obtain⟨t',rfl⟩:=ry; exact PySem.W.ne_bytes (fin_bl I q (congrArg not dec_byt))
  | _=>exact absurd (show false=true from hs) Bool.false_ne_true
 | _=>cases y<;>exact absurd (show false=true from hs) Bool.false_ne_true
theorem op_lt:OpR X (compareOp .Lt) (rI0 fun i j=>.bl (decide (i<j))):=opB0 fun _ _ _ _ _ _ _ q=>lt_int q
theorem op_le:OpR X (compareOp .LtE) (rI0 fun i j=>.bl (decide (i≤j))):=opB0 fun _ _ _ _ _ _ _ q=>le_int q
theorem op_gt:OpR X (compareOp .Gt) (rI0 fun i j=>.bl (decide (j<i))):=opB0 fun _ _ _ _ _ _ _ q=>gt_int q
theorem op_ge:OpR X (compareOp .GtE) (rI0 fun i j=>.bl (decide (j≤i))):=opB0 fun _ _ _ _ _ _ _ q=>ge_int q
theorem op_in_str:OpR X (compareOp .In) (fun x y H Q=>∃i j,x=.str i∧y=.str j∧Q (.bl (!(Builtin.Str.occurrences j i 0 j.length 1).isEmpty)) H):=by
 intro pins s σ H x y v u Q I rx ry h
 obtain⟨i,j,rfl,rfl,q⟩:=h
 obtain⟨t,rfl⟩:=rx
 obtain⟨t',rfl⟩:=ry
 exact in_str (fin_bl I q rfl)
theorem op_isN:OpR X (compareOp .Is) (fun x y H Q=>y=.non∧Q (.bl (decide (x=.non))) H):=by
 intro pins s σ H x y v u Q I rx ry h
 obtain⟨rfl,q⟩:=h
 cases ry
 refine is_none_gen (fin_bl I q ?_)
 cases x<;>first
  | (cases rx; rfl)
  | (obtain⟨t,rfl⟩:=rx; rfl)
theorem op_notN:OpR X (compareOp .IsNot) (fun x y H Q=>y=.non∧Q (.bl (!decide (x=.non))) H):=by
 intro pins s σ H x y v u Q I rx ry h
 obtain⟨rfl,q⟩:=h
 cases ry
 refine isnot_none_gen (fin_bl I q ?_)
 cases x<;>first
  | (cases rx; rfl)
  | (obtain⟨t,rfl⟩:=rx; rfl)
theorem op_notin_str:OpR X (compareOp .NotIn) (fun x y H Q=>∃i j,x=.str i∧y=.str j∧Q (.bl (!(!(Builtin.Str.occurrences j i 0 j.length 1).isEmpty))) H):=by
 intro pins s σ H x y v u Q I rx ry h
 obtain⟨i,j,rfl,rfl,q⟩:=h
 obtain⟨t,rfl⟩:=rx
 obtain⟨t',rfl⟩:=ry
 exact notIn_str (fin_bl I q rfl)
theorem pe_cmpR{op:CmpOp}{r:R2}(ho:OpR X (compareOp op) r)(ha:PE X a ta)(hb:PE X b tb)(hm:behindInMarks op b=false):PE X (.Compare a [op] [b] pos) (tOp r ta tb):=by
 intro pins s σ H Q I h
 exact wpAny_Compare1 (binT ha hb I h fun v u s2 x y H2 I2 rx ry q=>ho pins s2 σ H2 x y v u Q I2 rx ry q) hm
def tTest(t:TE):TT:=fun σ H Q=>t σ H fun x H'=>∃k,x=.bl k∧Q k H'
theorem pt_cmpR{op:CmpOp}{r:R2}(ho:OpR X (compareOp op) r)(ha:PE X a ta)(hb:PE X b tb)(hm:behindInMarks op b=false):PT X (.Compare a [op] [b] pos) (tTest (tOp r ta tb)):=by
 intro pins s σ H Q I h
 refine wpAny_isTrue_Compare1 (thn (ha pins s σ H _ I h) fun v s1 ⟨x,H1,I1,r1,q1⟩=>thn (hb pins s1 σ H1 _ I1 q1) fun u s2 ⟨y,H2,I2,r2,q2⟩=>
  thn (ho pins s2 σ H2 x y v u _ I2 r1 r2 q2) fun c s3 ⟨z,H3,I3,r3,k,e,q3⟩=>?_) hm
 subst e
 cases r3
 exact wpAny_truthy_bool ⟨H3,I3,q3⟩
def tChain(r r':R2)(ta tb tc:TE):TE:=fun σ H Q=>ta σ H fun x H1=>tb σ H1 fun y H2=>r x y H2 fun z H3=>∃k,z=.bl k ∧
 (if k=true then tc σ H3 fun w' H4=>r' y w' H4 Q else Q (.bl false) H3)
theorem pe_chain{op op':CmpOp}{r r':R2}(ho:OpR X (compareOp op) r)(ho':OpR X (compareOp op') r')(ha:PE X a ta)(hb:PE X b tb)(hc:PE X c tc)
  (hm:lastMarks [op,op'] [b,c]=false:=by with_unfolding_all rfl):PE X (.Compare a [op,op'] [b,c] pos) (tChain r r' ta tb tc):=by
 intro pins s σ H Q I h
 refine Compare_chain (thn (ha pins s σ H _ I h) fun v s1 ⟨x,H1,I1,r1,q1⟩=>chain_link (thn (hb pins s1 σ H1 _ I1 q1) fun u s2 ⟨y,H2,I2,r2,q2⟩=>
  thn (ho pins s2 σ H2 x y v u _ I2 r1 r2 q2) fun d s3 ⟨z,H3,I3,r3,k,e,q3⟩=>?_)) hm
 subst e
 cases r3
 refine wpAny_truthy_bool ?_
 cases k with
 | false=>exact ite_ff ⟨.bl false,H3,I3,rfl,q3⟩
 | true=>exact ite_tt (chain_last (thn (hc pins s3 σ H3 _ I3 q3) fun w' s4 ⟨z',H4,I4,r4,q4⟩=>ho' pins s4 σ H4 y z' u w' Q I4 r2 r4 q4))
theorem pt_chain{op op':CmpOp}{r r':R2}(ho:OpR X (compareOp op) r)(ho':OpR X (compareOp op') r')(ha:PE X a ta)(hb:PE X b tb)(hc:PE X c tc)
  (hm:lastMarks [op,op'] [b,c]=false:=by with_unfolding_all rfl):PT X (.Compare a [op,op'] [b,c] pos) (tTest (tChain r r' ta tb tc)):=by
 intro pins s σ H Q I h
 refine isTrue_chain (thn (ha pins s σ H _ I h) fun v s1 ⟨x,H1,I1,r1,q1⟩=>test_link (thn (hb pins s1 σ H1 _ I1 q1) fun u s2 ⟨y,H2,I2,r2,q2⟩=>
  thn (ho pins s2 σ H2 x y v u _ I2 r1 r2 q2) fun d s3 ⟨z,H3,I3,r3,k,e,q3⟩=>?_)) hm
 subst e
 cases r3
 refine wpAny_truthy_bool ?_
 cases k with
 | false=>
  obtain⟨k',e',q'⟩:=q3
  cases e'
  exact ite_ff ⟨H3,I3,q'⟩
 | true=>
  refine ite_tt (test_last (thn (hc pins s3 σ H3 _ I3 q3) fun w' s4 ⟨z',H4,I4,r4,q4⟩=>thn (ho' pins s4 σ H4 y z' u w' _ I4 r2 r4 q4) fun d' s5 ⟨z2,H5,I5,r5,k2,e2,q5⟩=>?_))
  subst e2
  cases r5
  exact wpAny_truthy_bool ⟨H5,I5,q5⟩
theorem line63:(sizeLine:Nat)<2 ^ 63:=by rw[sizeLine_eq]; decide
theorem op_add_str:OpR X (binaryOp .Add) (fun x y H Q=>∃i j,x=.str i∧y=.str j∧i.length+j.length≤sizeLine∧Q (.str (i++j)) H):=by
 intro pins s σ H x y v u Q I rx ry h
 obtain⟨i,j,rfl,rfl,hz,q⟩:=h
 obtain⟨t,rfl⟩:=rx
 obtain⟨t',rfl⟩:=ry
 exact add_str (fun t' tk=>⟨.str (i++j),H,I.tok _,⟨_,rfl⟩,q⟩) hz
theorem vals1{x:V}{us:List Value}(r:Vals [x] us):∃u,us=[u]∧RelV x u:=by
 cases r with
 | cons r1 r2=>cases r2; exact⟨_,rfl,r1⟩
theorem vals2{x y:V}{us:List Value}(r:Vals [x,y] us):∃u w',us=[u,w']∧RelV x u∧RelV y w':=by
 cases r with
 | cons r1 r2=>
  cases r2 with
  | cons r3 r4=>cases r4; exact⟨_,_,rfl,r1,r3⟩
theorem call_int1:CallR X (.type "int") (fun xs H Q=>(∃i,xs=[.int i]∧Q (.int i) H)∨∃k,xs=[.bl k]∧Q (.int (if k then 1 else 0)) H):=by
 intro pins s σ H xs us Q I r h
 rcases h with ⟨i,rfl,q⟩ | ⟨k,rfl,q⟩
 .obtain⟨u,rfl,t,rfl⟩:=vals1 r
  exact call_int_int ⟨.int i,H,I,⟨_,rfl⟩,q⟩
 .obtain⟨u,rfl,r1⟩:=vals1 r
  cases r1
  exact call_int_bool ⟨.int (if k then 1 else 0),H,I.tok _,⟨_,rfl⟩,q⟩
theorem call_str_int:CallR X (.type "str") (fun xs H Q=>∃i,xs=[.int i]∧i.natAbs.log2<1920∧Q (.str (toString i)) H):=by
 intro pins s σ H xs us Q I r h
 obtain⟨i,rfl,hz,q⟩:=h
 obtain⟨u,rfl,t,rfl⟩:=vals1 r
 exact PySem.P.str_of_int hz ⟨.str _,H,I.tok _,⟨_,rfl⟩,q⟩
end
end L2
namespace L2
open PySem PySem.Spec PyProof.Rows
structure ObjM(h:Heap)(x dx C:Addr)(mA:Str→Option Value):Prop where
 obj:h.get? x=some (PySem.W.instObj C dx)
 ns:h.Ns1 dx mA
 ne:dx≠x
theorem lookIn_ns{h:Heap}{dx:Addr}{mA:Str→Option Value}(n:h.Ns1 dx mA):∃od,h.get? dx=some od∧∀name,PySem.W.lookIn name od=some (mA name):=by
 obtain⟨o,es,ep,ho,hd,hk,_,hm⟩:=n
 refine⟨o,ho,fun name=>?_⟩
 have e:=hm name
 unfold nsFind findBy at e
 rw[←Array.find?_toList] at e
 unfold PySem.W.lookIn
 rw[hd]
 dsimp only
 split
 .rename_i y q
  rw[q] at e
  exact congrArg some e
 .rename_i q
  rw[q] at e
  have a:es.toList.any (·.refKey)=false:=by
   rw[List.any_eq_false]
   intro y hy
   obtain⟨z,t,hkey⟩:=hk y (Array.mem_toList_iff.mp hy)
   simp[DictEntry.refKey,hkey]
  have a':¬es.toList.any (·.refKey)=true:=by rw[a]; exact Bool.false_ne_true
  rw[if_neg a']
  exact congrArg some e
theorem ObjM.look{h:Heap}{x dx C:Addr}{mA:Str→Option Value}(I:ObjM h x dx C mA):∃od,PySem.W.InstAt h x (PySem.W.instObj C dx) C (some od)∧∀name,PySem.W.lookIn name od=some (mA name):=
 let ⟨od,ho,hl⟩:=lookIn_ns I.ns
 ⟨od,⟨I.obj,rfl,rfl,ho⟩,hl⟩
section
variable{P:Program}{w:World}{H H':Hp}{h h':Heap}{a C dx:Addr}{fs fs':List (Str×V)}
theorem ins_get(hok:HOk P w H h)(e:H a=some (.ins C dx fs)):∃mA,ObjM h a dx C mA∧(∀f,RelO (fs.lookup f) (mA f))∧PySem.Within mA (fs.map (·.1))∧fs.length≤1000∧H dx=some (.own a):=by
 obtain⟨d,z,ne,ob,mA,n,r,q⟩:=(show ObjOk P w H h a (.ins C dx fs) from hok a _ e)
 exact⟨mA,⟨ob,n,ne⟩,r,q,z,d⟩
end
structure Cls(K:PySem.W.Frag)(C:Addr):Prop where
 pg:PySem.W.plainGet K C Str.empty=true
 hd:PySem.W.hasDictIn K C=true
 po:PySem.W.plainOver K C=true
 sa:PySem.W.findIn K (.ref C) "__setattr__" = some (some (.builtin "object.__setattr__"))
theorem Cls.get{K:PySem.W.Frag}{C:Addr}(c:Cls K C)(f:Str):PySem.W.plainGet K C f=true:=c.pg
section
variable{X:Cx}{pins:List (Addr×Obj)}{σ:St}{H:Hp}{s:Shared}{A:Around}{E:Value→Shared→Prop}{Q:Value→Shared→Prop}{c:Value}{b:Bool}
inductive TyOf(K:PySem.W.Frag)(H:Hp):V→Value→Prop where
 | non:TyOf K H .non (.type "NoneType")
 | bl (x:Bool):TyOf K H (.bl x) (.type "bool")
 | int (i:Int):TyOf K H (.int i) (.type "int")
 | str (x:Str):TyOf K H (.str x) (.type "str")
 | flt (x:UInt64):TyOf K H (.flt x) (.type "float")
 | lst {a:Addr} {xs:List V} (e:H a=some (.lst xs)):TyOf K H (.ref a) (.type "list")
 | frz {a:Addr} {o:Obj} {xs:List V} (e:H a=some (.frz o (.lst xs))):TyOf K H (.ref a) (.type "list")
 | tup {a:Addr} {xs:List V} (e:H a=some (.tup xs)):TyOf K H (.ref a) (.type "tuple")
 | dK {a:Addr} {kvs:List (Key×V)} (e:H a=some (.dK kvs)):TyOf K H (.ref a) (.type "dict")
 | dT {a:Addr} {kvs:List (List Key×V)} (e:H a=some (.dT kvs)):TyOf K H (.ref a) (.type "dict")
 | ins {a C dx:Addr} {fs:List (Str×V)} (e:H a=some (.ins C dx fs)) (cl:Cls K C) (ha:PySem.W.findIn K (.ref C) "__class__" = some (some (.builtin "object.__class__")))
   (hn:PySem.W.specialIn K (.builtin "object.__class__") "__get__" = some (some (.builtin "getset_descriptor.__get__"))) (htk:PySem.W.takesIn K (.builtin "object.__class__")=some true)
   (hm:PySem.W.mroIn K C (.type "object")=some true):TyOf K H (.ref a) (.ref C)
theorem isinst_ok{x:V}{u t:Value}(I:Inv X pins σ H s)(rx:RelV x u)(ty:TyOf X.K H x t)(e:PySem.W.kitOne X.K t c=some b)(h:∀tk,Q (.bool b) { s with toks:=tk }) :
  wpAny (model X.prog X.w) A (call (.builtin "isinstance") [u,c]) Q E s:=by
 cases ty with
 | non=>cases (show u=Value.none from rx); exact PySem.W.kia_one PySem.W.kitx_none I.kIn True.intro e (fun z=>nomatch z) h
 | bl y=>cases (show u=Value.bool y from rx); exact PySem.W.kia_one PySem.W.kitx_bool I.kIn True.intro e (fun z=>nomatch z) h
 | int i=>obtain⟨t,q⟩:=(show ∃t,u=Value.int i t from rx); cases q; exact PySem.W.kia_one PySem.W.kitx_int I.kIn True.intro e (fun z=>nomatch z) h
 | str y=>obtain⟨t,q⟩:=(show ∃t,u=Value.str y t from rx); cases q; exact PySem.W.kia_one PySem.W.kitx_str I.kIn True.intro e (fun z=>nomatch z) h
 | flt y=>obtain⟨t,q⟩:=(show ∃t,u=Value.float y t from rx); cases q; exact PySem.W.kia_one PySem.W.kitx_float I.kIn True.intro e (fun z=>nomatch z) h
 | @lst a xs ea=>
  cases (show u=Value.ref a from rx)
  obtain⟨_,_,n,_,h1⟩:=(show ObjOk X.prog X.w H s.heap a (.lst xs) from I.hok a _ ea)
  exact PySem.W.kia_one PySem.W.kitx_list I.kIn ⟨_,h1,rfl⟩ e (fun z=>nomatch z) h
 | @frz a ob xs ea=>
  cases (show u=Value.ref a from rx)
  obtain⟨_,_,_,n,_,h1⟩:=(show ObjOk X.prog X.w H s.heap a (.frz ob (.lst xs)) from I.hok a _ ea)
  exact PySem.W.kia_one PySem.W.kitx_list I.kIn ⟨_,h1,rfl⟩ e (fun z=>nomatch z) h
 | @tup a xs ea=>
  cases (show u=Value.ref a from rx)
  obtain⟨_,_,_,p⟩:=(show ObjOk X.prog X.w H s.heap a (.tup xs) from I.hok a _ ea)
  obtain⟨o,h1,h2,_⟩:=p
  exact PySem.W.kia_one PySem.W.kitx_tuple I.kIn ⟨o,h1,h2⟩ e (fun z=>nomatch z) h
 | @dK a kvs ea=>
  cases (show u=Value.ref a from rx)
  obtain⟨_,_,vs,_,p⟩:=(show ObjOk X.prog X.w H s.heap a (.dK kvs) from I.hok a _ ea)
  obtain⟨o,es,ep,h1,h2,_⟩:=p
  exact PySem.W.kia_one PySem.W.kitx_dict I.kIn ⟨o,h1,h2.1⟩ e (fun z=>nomatch z) h
 | @dT a kvs ea=>
  cases (show u=Value.ref a from rx)
  obtain⟨_,_,xs,_,o,es,ep,h1,h2,_⟩:=(show ObjOk X.prog X.w H s.heap a (.dT kvs) from I.hok a _ ea)
  exact PySem.W.kia_one PySem.W.kitx_dict I.kIn ⟨o,h1,h2.1⟩ e (fun z=>nomatch z) h
 | @ins a C dx fs ea cl ha hn htk hm=>
  cases (show u=Value.ref a from rx)
  obtain⟨mA,O,_⟩:=ins_get I.hok ea
  obtain⟨od,J,_⟩:=O.look
  exact PySem.W.kia_one (PySem.W.kitx_own (cl.get _) cl.hd ha hn htk hm) I.kIn J e (fun z=>nomatch z) h
end
end L2
namespace L2
open PySem PySem.Spec PyProof.Rows
structure Room(k:Nat)(A:Around):Prop where
 hd:A.handled=none
 dp:A.depth+3*k+5<recursionLimit
 un:A.units+16*k+200<cLine
theorem Room.deeper{k:Nat}{A:Around}(r:Room (k+1) A)(env:Env):Room k (A.deeper env):=
 ⟨r.hd,by have:=r.dp; show A.depth+1+3*k+5<_; omega,by have:=r.un; show A.units+3+16*k+200<_; omega⟩
theorem Room.depth{k:Nat}{A:Around}(r:Room k A):A.depth<recursionLimit:=by have:=r.dp; omega
theorem Room.units{k:Nat}{A:Around}(r:Room k A):A.units+64<cLine:=by have:=r.un; omega
def tNil:TA:=fun _ H Q=>Q [] H
def tCons(ta:TE)(tr:TA):TA:=fun σ H Q=>ta σ H fun x H1=>tr σ H1 fun xs H2=>Q (x::xs) H2
section
variable{X:Cx}{e:Expr}{es:List Expr}{te:TE}{t:TA}{pos:Pos}
theorem pa_nil:PA X [] tNil:=fun _ _ _ _ H Q I h=>Calls.spliced_nil ⟨[],H,I,.nil,h⟩
theorem pa_cons(ha:PE X e te)(hr:PA X es t)(hs:starEach (e::es) X.env=(false,eval e X.env)::starEach es X.env:=by rfl):PA X (e::es) (tCons te t):=by
 intro pos pins s σ H Q I h
 rw[hs]
 show wpAny _ _ (spliced ((false,eval e X.env)::backTo pos (starEach es X.env))) _ _ s
 refine Calls.spliced_cons (thn (ha pins s σ H _ I h) fun u s1 ⟨x,H1,I1,r1,q1⟩=>?_)
 exact thn (hr pos pins s1 σ H1 _ I1 q1) fun us s2 ⟨xs,H2,I2,r2,q2⟩=>⟨x::xs,H2,I2,.cons r1 r2,q2⟩
def tTup(t:TA):TE:=fun σ H Q=>t σ H fun xs H1=>xs.length≤sizeLine∧∀p,H1 p=none→Q (.ref p) (upd H1 p (.tup xs))
def tLst(t:TA):TE:=fun σ H Q=>t σ H fun xs H1=>xs.length≤sizeLine∧∀p,H1 p=none→Q (.ref p) (upd H1 p (.lst xs))
theorem pe_tup{x1}(h:PA X es t):PE X (.Tuple es x1 pos) (tTup t):=by
 intro pins s σ H Q I hq
 refine wpAny_Tuple_spliced (thn (h pos pins s σ H _ I hq) fun us s1 ⟨xs,H1,I1,r,z,q⟩=>⟨by rw[←r.length]; exact z,?_⟩)
 have hf:H1 s1.heap.objs.size=none:=I1.hok.fresh (Nat.le_refl _)
 refine⟨.ref s1.heap.objs.size,upd H1 s1.heap.objs.size (.tup xs),I1.laid (t':=s1.toks) (fun b u e=>Heap.get?_push_of_some _ e) (Nat.le_refl _) ?_,rfl,q _ hf⟩
 exact⟨z,us,r,⟨_,Heap.get?_push_size _ rfl,rfl,_,rfl⟩⟩
theorem pe_lst(h:PA X es t):PE X (.List es pos) (tLst t):=by
 intro pins s σ H Q I hq
 refine wpAny_List_spliced (thn (h pos pins s σ H _ I hq) fun us s1 ⟨xs,H1,I1,r,z,q⟩=>⟨by rw[←r.length]; exact z,?_⟩)
 have hf:H1 s1.heap.objs.size=none:=I1.hok.fresh (Nat.le_refl _)
 refine⟨.ref s1.heap.objs.size,upd H1 s1.heap.objs.size (.lst xs),I1.laid (t':=s1.toks) (fun b u e=>Heap.get?_push_of_some _ e) (Nat.le_refl _) ?_,rfl,q _ hf⟩
 exact⟨z,us,0,r,Heap.get?_push_size _ rfl⟩
end
abbrev Sp:=List V→Hp→VK→XK→Prop
abbrev CXT:=List Env→Hp→Shared→XK→Value→Shared→Prop
structure Env0(P:Program)(w:World)(K:PySem.W.Frag)(mg:Str→Option Value)(base:Heap)(A:Around)(outer:List Env)(s:Shared)(H:Hp):Prop where
 frames:A.frames=some outer
 mod:Mod K mg base
 bs:∀b o,base.get? b=some o→s.heap.get? b=some o∧H b=none
 bsz:base.objs.size≤s.heap.objs.size
 funs:s.heap.FunFrames base outer
 frf:∀b∈frs outer,H b=none
 hok:HOk P w H s.heap
 bare:AllBare s.gens
def CE(outer:List Env)(P:Program)(w:World)(H:Hp)(s:Shared)(Q:VK)(u:Value)(s':Shared):Prop:=
 ∃v H',s'.os=s.os∧AllBare s'.gens∧Un (frs outer) [] H H' s.heap s'.heap∧HOk P w H' s'.heap∧RelV v u∧Q v H'
def CR(CX:CXT)(outer:List Env)(P:Program)(w:World)(H:Hp)(s:Shared)(Q:VK)(E:XK)(r:Result)(s':Shared):Prop:=
 match r with
 | .ok (.ret u)=>CE outer P w H s Q u s'
 | .ok _=>False
 | .error e=>CX outer H s E e s'
structure FnOk(P:Program)(w:World)(K:PySem.W.Frag)(mg:Str→Option Value)(base:Heap)(CX:CXT)(k:Nat)(f:Addr)(fd:FuncData)(ps:List Str)(sp:Sp):Prop where
 len:∀vs H Q E,sp vs H Q E→vs.length=ps.length
 run:∀(A:Around) (outer:List Env) (s:Shared) (H:Hp) (args:Args) (us:List Value) (vs:List V) (Q:VK) (E:XK),Room k A→Env0 P w K mg base A outer s H→BindsTo s fd args (ps.zip us)→Vals vs us→sp vs H Q E→
  codeAny (model P w) A (.call (.ref f) args) (CR CX outer P w H s Q E) s
theorem FnOk.imp{P:Program}{w:World}{K:PySem.W.Frag}{mg:Str→Option Value}{base:Heap}{CX:CXT}{k:Nat}{f:Addr}{fd:FuncData}{ps:List Str}{sp sp':Sp}(F:FnOk P w K mg base CX k f fd ps sp)
  (h:∀vs H Q E,sp' vs H Q E→sp vs H Q E):FnOk P w K mg base CX k f fd ps sp':=
 ⟨fun vs H Q E q=>F.len vs H Q E (h _ _ _ _ q),fun A outer s H args us vs Q E hr he hb hv hs=>F.run A outer s H args us vs Q E hr he hb hv (h _ _ _ _ hs)⟩
section
variable{X:Cx}{pins:List (Addr×Obj)}{σ:St}{H:Hp}{s s':Shared}
theorem Inv.env0(I:Inv X pins σ H s):Env0 X.prog X.w X.K X.mg X.base X.A X.stack s H:=
 ⟨I.ok.frames,I.ok.mod,I.bs,Nat.le_trans I.ok.bsz I.sz,I.stack,I.stkFree,I.hok,I.bare⟩
theorem Inv.after{Q:VK}{u:Value}(I:Inv X pins σ H s)(h:CE X.stack X.prog X.w H s Q u s'):EP X pins σ Q u s':=by
 obtain⟨v,H',os,bare,un,hok,r,q⟩:=h
 obtain⟨hh,g,d,t,os'⟩:=s'
 obtain rfl:os'=s.os:=os
 exact⟨v,H',I.call (h':=hh) (g':=g) (d':=d) (t':=t) (ch:=[]) un hok bare (fun b z=>absurd z (by simp)),r,q⟩
end
def tCall(sp:Sp)(dvs:List V)(E:XK)(t:TA):TE:=fun σ H Q=>t σ H fun vs H1=>sp (vs++dvs) H1 Q E
def Binds(K:PySem.W.Frag)(fd:FuncData)(ps:List Str)(ds:List Value):Prop:=
 ∀(s:Shared) (us:List Value),K.In s.heap→(us++ds).length=ps.length→BindsTo s fd ⟨us,[]⟩ (ps.zip (us++ds))
theorem Binds.all{K:PySem.W.Frag}{fd:FuncData}{ps:List Str}(h:∀us:List Value,us.length=ps.length→bindArgs fd ⟨us,[]⟩=pure (ps.zip us)):Binds K fd ps []:=fun s us _ hl=>by
 rw[List.append_nil] at hl ⊢
 exact .of_eq (h us hl)
def Passes(CX:CXT)(X:Cx)(E:XK):Prop:=∀(pins:List (Addr×Obj)) (σ:St) (H:Hp) (s:Shared) (e:Value) (s':Shared),Inv X pins σ H s→CX X.stack H s E e s'→X.xe e s'
section
variable{X:Cx}{CX:CXT}{k:Nat}{f C:Addr}{fd:FuncData}{ps:List Str}{sp:Sp}{dvs:List V}{ds:List Value}{E:XK}{x m:Str}{p pos apos:Pos}{e o:Expr}{es:List Expr}{ta:TE}{t:TA}
theorem run_fn{pins:List (Addr×Obj)}{σ:St}{H:Hp}{s:Shared}{Q:VK}{us:List Value}{vs:List V}(F:FnOk X.prog X.w X.K X.mg X.base CX k f fd ps sp)(hr:Room k X.A)(hb:Binds X.K fd ps ds)(hd:Vals dvs ds)(hx:Passes CX X E)
  (I:Inv X pins σ H s) (r:Vals vs us) (h:sp (vs++dvs) H Q E):wpAny (model X.prog X.w) X.A (call (.ref f) us) (EP X pins σ Q) X.xe s:=by
 have r2:Vals (vs++dvs) (us++ds):=r.append hd
 have hl:(us++ds).length=ps.length:=by rw[←r2.length]; exact F.len _ _ _ _ h
 refine wpAny_call (codeAny_mono (F.run X.A X.stack s H ⟨us,[]⟩ (us++ds) (vs++dvs) Q E hr I.env0 (hb s us I.kIn hl) r2 h) fun r s' hq=>?_)
 cases r with
 | error e=>exact hx pins σ H s e s' I hq
 | ok fl=>
  cases fl with
  | ret u=>exact I.after hq
  | next=>exact False.elim hq
  | brk=>exact False.elim hq
  | cont=>exact False.elim hq
theorem pe_call(F:FnOk X.prog X.w X.K X.mg X.base CX k f fd ps sp)(hr:Room k X.A)(hg:Gl X x)(hm:X.mg x=some (.ref f))(hk:PySem.W.keepIn X.K (.ref f)=true)(hb:Binds X.K fd ps ds)(hd:Vals dvs ds)(hx:Passes CX X E)
  (ha:PA X (e::es) t) (hdb:(x==("__debug__":Str))=false:=by decide) (he:starEach (e::es) X.env=(false,eval e X.env)::starEach es X.env:=by rfl) (hpl:(backTo pos (starEach es X.env)).any (·.1)=false:=by rfl) :
  PE X (.Call (.Name x p) (e::es) [] pos) (tCall sp dvs E t):=by
 intro pins s σ H Q I h
 refine wpAny_Call_Name_kw (ld_glob I hg hm ?_ hdb)
 refine PySem.W.callWith_K (h₀:=X.base) I.ok.mod.kin hk (thn (ha pos pins s σ H _ I h) fun us s1 ⟨vs,H1,I1,r,q⟩=>⟨I1.kIn,?_⟩) he hpl
 exact run_fn F hr hb hd hx I1 r q
theorem pe_call0(F:FnOk X.prog X.w X.K X.mg X.base CX k f fd ps sp)(hr:Room k X.A)(hg:Gl X x)(hm:X.mg x=some (.ref f))(hk:PySem.W.keepIn X.K (.ref f)=true)(hb:Binds X.K fd ps ds)(hd:Vals dvs ds)(hx:Passes CX X E)
  (hdb:(x==("__debug__":Str))=false:=by decide):PE X (.Call (.Name x p) [] [] pos) (tCall sp dvs E tNil):=by
 intro pins s σ H Q I h
 refine wpAny_Call_Name_kw (ld_glob I hg hm ?_ hdb)
 exact PySem.W.callWith_K0 I.kIn hk (run_fn (us:=[]) F hr hb hd hx I .nil h)
end
section
variable{X:Cx}{CX:CXT}{k:Nat}{f C:Addr}{fd:FuncData}{ps ks:List Str}{sp:Sp}{E:XK}{x m:Str}{p pos apos kpos:Pos}{e o:Expr}{es:List Expr}{kws:List Keyword}{te ta:TE}{t tk:TA}{nm:Option Str}
variable{g:List Value→List Value→List Value}{gV:List V→List V→List V}
end
structure FnScope(N P:List Str)(sc:Scope):Prop where
 kind:sc.kind=.function
 co:sc.isCoroutine=false
 gen:sc.isGenerator=false
 nd:N.Nodup
 pre:N.take P.length=P
 par:∀x∈P,sc.names.lookup x=some .local∨sc.names.lookup x=some .cell
 nofree:∀y∈sc.names,y.2≠.free
theorem bindL_out{kindOf:Str→Option NameKind}{x:Str}:∀{binds:List (Str×Value)} {m:Str→Option Value},(∀v,(x,v)∉binds)→bindL kindOf binds m x=m x
 | [],_,_=>rfl
 | (n,v)::r,m,h=>by
  unfold bindL
  rw[bindL_out fun w hw=>h w (List.mem_cons_of_mem _ hw)]
  split
  .have:x≠n:=by rintro rfl; exact h v List.mem_cons_self
   simp[this]
  .rfl
theorem bindC_out{kindOf:Str→Option NameKind}{x:Str}:∀{binds:List (Str×Value)} {m:Str→Option Value},(∀v,(x,v)∉binds)→bindC kindOf binds m x=m x
 | [],_,_=>rfl
 | (n,v)::r,m,h=>by
  unfold bindC
  rw[bindC_out fun w hw=>h w (List.mem_cons_of_mem _ hw)]
  split
  .rfl
  .have:x≠n:=by rintro rfl; exact h v List.mem_cons_self
   simp[this]
theorem bindL_get{kindOf:Str→Option NameKind}{x:Str}{v:Value}:∀{P:List Str} {vs:List Value} {i:Nat} {m:Str→Option Value},P.Nodup→P[i]?=some x→vs[i]?=some v→kindOf x=some .local→
  bindL kindOf (P.zip vs) m x=some v
 | [],_,_,_,_,h,_,_=>by simp at h
 | _::_,[],_,_,_,_,h,_=>by simp at h
 | p::P,w::vs,0,m,nd,h1,h2,hk=>by
  simp at h1 h2; subst h1; subst h2
  show bindL kindOf ((p,w)::P.zip vs) m p=_
  unfold bindL
  rw[bindL_out fun v hv=>(List.nodup_cons.mp nd).1 (List.of_mem_zip hv).1,if_pos hk]
  simp
 | p::P,w::vs,i+1,m,nd,h1,h2,hk=>by
  show bindL kindOf ((p,w)::P.zip vs) m x=_
  unfold bindL
  exact bindL_get (i:=i) (List.nodup_cons.mp nd).2 (by simpa using h1) (by simpa using h2) hk
theorem bindC_get{kindOf:Str→Option NameKind}{x:Str}{v:Value}:∀{P:List Str} {vs:List Value} {i:Nat} {m:Str→Option Value},P.Nodup→P[i]?=some x→vs[i]?=some v→kindOf x≠some .local→
  bindC kindOf (P.zip vs) m x=some v
 | [],_,_,_,_,h,_,_=>by simp at h
 | _::_,[],_,_,_,_,h,_=>by simp at h
 | p::P,w::vs,0,m,nd,h1,h2,hk=>by
  simp at h1 h2; subst h1; subst h2
  show bindC kindOf ((p,w)::P.zip vs) m p=_
  unfold bindC
  rw[bindC_out fun v hv=>(List.nodup_cons.mp nd).1 (List.of_mem_zip hv).1,if_neg hk]
  simp
 | p::P,w::vs,i+1,m,nd,h1,h2,hk=>by
  show bindC kindOf ((p,w)::P.zip vs) m x=_
  unfold bindC
  exact bindC_get (i:=i) (List.nodup_cons.mp nd).2 (by simpa using h1) (by simpa using h2) hk
def start(N:List Str)(vs:List V):St:=vs.map some++List.replicate (N.length-vs.length) none
def cxOf(CX:CXT)(P:Program)(w:World)(K:PySem.W.Frag)(mg:Str→Option Value)(base:Heap)(N:List Str)(qual:Str)(scope:Scope)(f:Addr)(cd:Value)(A:Around)(outer:List Env)(s:Shared)(H:Hp)(E:XK):Cx where
 prog:=P
 w:=w
 K:=K
 mg:=mg
 base:=base
 A:=A.deeper (envOfC qual scope s.heap.objs.size f cd)
 N:=N
 s₀:=s
 H₀:=H
 env:=envOfC qual scope s.heap.objs.size f cd
 outer:=outer
 stack:=envOfC qual scope s.heap.objs.size f cd::outer
 ex:=[]
 calm:=true
 fn:=fun _=>true
 pn:=[]
 xe:=fun e s'=>wpAny (model P w) (A.deeper (envOfC qual scope s.heap.objs.size f cd)) (leaving (envOfC qual scope s.heap.objs.size f cd) e) (fun _ s''=>CX outer H s E e s'') (fun e' s''=>CX outer H s E e' s'') s'
theorem cell_has{sc:Scope}{n:Nat}{x:Str}(h:sc.names.lookup x=some .cell):∃c,(cellsFrom n sc.names []).lookup x=some c:=by
 have q:=PySem.W.cellsFrom_some sc.names n [] (.inl h)
 exact Option.isSome_iff_exists.mp q
theorem inv_start{CX:CXT}{P:Program}{w:World}{K:PySem.W.Frag}{mg:Str→Option Value}{base:Heap}{N ps:List Str}{qual:Str}{scope:Scope}{f:Addr}{cd:Value}{A:Around}{outer:List Env}{s s1:Shared}{H:Hp}{E:XK}{us:List Value}{vs:List V}
  (S:FnScope N ps scope) (hd:A.handled=none) (e0:Env0 P w K mg base A outer s H) (hl:vs.length=ps.length) (r:Vals vs us)
  (x:InCallC s s.heap.objs.size (bindL (envOfC qual scope s.heap.objs.size f cd).kindOf (ps.zip us) fun _=>none) (cellsFrom (s.heap.objs.size+1) scope.names []) (bindC (envOfC qual scope s.heap.objs.size f cd).kindOf (ps.zip us) fun _=>none) s1) :
  Inv (cxOf CX P w K mg base N qual scope f cd A outer s H E) [] (start N vs) H s1:=by
 have hpl:ps.length≤N.length:=by have:=congrArg List.length S.pre; rw[List.length_take] at this; omega
 obtain⟨h1,tk,rfl,hk⟩:=x.done
 have noA:∀b:Addr,b∉(cxOf CX P w K mg base N qual scope f cd A outer s H E).ex:=fun b z=>absurd (show b∈([]:List Addr) from z) (by simp)
 refine⟨⟨e0.mod,S.kind,rfl,rfl,Nat.le_refl _,fun y z c h1 h2=>?_,fun y hy=>?_,fun y c _ h=>?_,fun _=>hd,Around.frames_deeper e0.frames,.inr ⟨rfl,rfl⟩,fun b z=>absurd z (noA b),e0.bs,e0.bsz,fun b _ _=>noA b,fun b z=>absurd z (noA b),e0.funs,e0.frf⟩,
  rfl,e0.bare,Un.kept hk,⟨_,x.toInCall.ns,fun i y v h1 h2 h3=>?_⟩,fun y c h=>⟨_,x.cell y c h⟩,e0.hok.fresh (Nat.le_refl _),fun y c h=>?_,fun p hp=>absurd (show p∈([]:List (Addr×Obj)) from hp) (by simp),e0.hok.kept hk,?_⟩
 .exact name_of_addr x.apart (PySem.mem_of_lookup h1) (PySem.mem_of_lookup h2)
 .have hy:scope.names.lookup y=some .cell∨scope.names.lookup y=some .free:=hy
  rcases hy with hy | hy
  .exact cell_has hy
  .exact absurd rfl (S.nofree _ (PySem.mem_of_lookup hy))
 .exact Nat.le_of_lt (x.above y c (PySem.mem_of_lookup h))
 .have hi:i<vs.length:=by
   unfold start at h2
   by_cases hi:i<vs.length
   .exact hi
   .rw[List.getElem?_append_right (by simpa using hi)] at h2
    rw[List.getElem?_replicate] at h2
    split at h2<;>cases h2
  have ha:vs[i]?=some v:=by
   unfold start at h2
   rw[List.getElem?_append_left (by simpa using hi),List.getElem?_map] at h2
   cases e:vs[i]? with
   | none=>rw[e] at h2; cases h2
   | some a=>rw[e] at h2; cases h2; rfl
  obtain⟨u,hu,rv⟩:=r.get ha
  have hp:ps[i]?=some y:=by
   rw[←S.pre,List.getElem?_take_of_lt (by omega)]; exact h1
  have ndP:ps.Nodup:=by rw[←S.pre]; exact S.nd.sublist (List.take_sublist _ _)
  refine⟨u,rv,?_⟩
  rcases S.par y (List.mem_of_getElem? hp) with k | k
  .exact .inl ⟨k,bindL_get ndP hp hu k⟩
  .obtain⟨c,e⟩:=cell_has (n:=s.heap.objs.size+1) k
   refine .inr ⟨.inl k,c,e,?_⟩
   have q:=x.cell y c e
   rw[bindC_get ndP hp hu (by show scope.names.lookup y≠_; rw[k]; decide)] at q
   exact q
 .exact e0.hok.fresh (Nat.le_of_lt (x.above y c (PySem.mem_of_lookup h)))
 .unfold start
  show _=N.length
  rw[List.length_append,List.length_map,List.length_replicate]
  omega
theorem fn_of{CX:CXT}{P:Program}{w:World}{K:PySem.W.Frag}{mg:Str→Option Value}{base:Heap}{k:Nat}{f:Addr}{name qual:Str}{params:Arguments}{body:List Stmt}{scope:Scope}{dV kV doc pm cdv ct oc:Value}{an od:Option Addr}
  {osl:Array (Option Value)} {N ps:List Str} {sp:Sp} (lk:K.lookup f=some ⟨oc,od,.func (PySem.W.fnOf name qual params body scope dV kV doc pm an cdv ct),osl⟩) (hcd:PySem.W.codeIn K cdv qual=true) (S:FnScope N ps scope)
  (len:∀vs H Q E,sp vs H Q E→vs.length=ps.length)
  (hbody:∀(A:Around) (outer:List Env) (s:Shared) (H:Hp) (vs:List V) (Q:VK) (E:XK),Room k (A.deeper (envOfC qual scope s.heap.objs.size f cdv))→sp vs H Q E→
   ∃t,PSs (cxOf CX P w K mg base N qual scope f cdv A outer s H E) body t∧t { nx:=fun _ H'=>Q .non H',rt:=Q } (start N vs) H) :
  FnOk P w K mg base CX (k+1) f (PySem.W.fnOf name qual params body scope dV kV doc pm an cdv ct) ps sp:=by
 refine⟨len,fun A outer s H args us vs Q E hr e0 hb r hsp=>?_⟩
 have hl:=len _ _ _ _ hsp
 have KX:K.In s.heap:=e0.mod.kin.keeps fun b o e=>(e0.bs b o e).1
 have lim:s.heap.NoLimit:=e0.mod.nolimit.keeps fun b o e=>(e0.bs b o e).1
 have hkind:∀y∈ps.zip us,scope.names.lookup y.1=some .local∨(scope.names.lookup y.1=some .cell∧((cellsFrom (s.heap.objs.size+1) scope.names []).lookup y.1).isSome=true):=fun⟨n,v⟩ hy=>by
  rcases S.par n (List.of_mem_zip hy).1 with q | q
  .exact .inl q
  .exact .inr ⟨q,PySem.W.cellsFrom_some _ _ _ (.inl q)⟩
 refine codeAny_call_function hr.depth (KX _ _ lk) rfl S.co S.gen rfl (PySem.W.codeRec_of KX hcd) (hb _ _ _ _ ?_)
 refine wpAny_newFunctionEnv_cells S.kind hkind fun env he s1 x=>?_
 subst he
 refine⟨lim.keeps x.toInCall.keep,codeAny_func ?_⟩
 obtain⟨t,ht,hq⟩:=hbody A outer s H vs Q E (hr.deeper _) hsp
 have I:Inv (cxOf CX P w K mg base N qual scope f cdv A outer s H E) [] (start N vs) H s1:=inv_start S hr.hd e0 hl r x
 refine wpAny_mono (ht [] s1 (start N vs) H _ I hq) (fun fl s' hs=>?_) fun e s' hs=>hs
 have fin:∀{σ':St} {H':Hp} {v:V} {u:Value},Inv (cxOf CX P w K mg base N qual scope f cdv A outer s H E) [] σ' H' s'→RelV v u→Q v H'→CE outer P w H s Q u s':=
  fun {σ' H' v u} J rv q=>⟨v,H',J.os,J.bare,J.base,J.hok,rv,q⟩
 cases fl with
 | ret u=>
  obtain⟨v,σ',H',J,rv,q⟩:=hs
  exact fin J rv q
 | next=>
  obtain⟨σ',H',J,q⟩:=hs
  exact fin (v:=V.non) (u:=Value.none) J rfl q
 | brk=>
  obtain⟨_,_,_,q⟩:=hs
  exact False.elim q
 | cont=>
  obtain⟨_,_,_,q⟩:=hs
  exact False.elim q
end L2
namespace L2
open PySem PySem.Spec PyProof.Rows
section
variable{X:Cx}{x:Str}{p pos:Pos}{e:Expr}{es:List Expr}{t:TA}{id T:String}{r:List V→Hp→VK→Prop}
def tCB(r:List V→Hp→VK→Prop)(t:TA):TE:=fun σ H Q=>t σ H fun vs H1=>r vs H1 Q
theorem pe_callB(hc:CallR X (.builtin id) r)(hg:Gl X x)(hm:X.mg x=none)(hv:bootBuiltins x=some (.builtin id))(ha:PA X (e::es) t)(hn:x≠"__name__":=by decide)(hdb:(x==("__debug__":Str))=false:=by decide)
  (he:starEach (e::es) X.env=(false,eval e X.env)::starEach es X.env:=by rfl) (hpl:(backTo pos (starEach es X.env)).any (·.1)=false:=by rfl):PE X (.Call (.Name x p) (e::es) [] pos) (tCB r t):=by
 intro pins s σ H Q I h
 refine wpAny_Call_Name_kw (ld_blt I hg hm hv ?_ hn hdb)
 exact PyProof.Rows.callWith_builtin1 (thn (ha pos pins s σ H _ I h) fun us s1 ⟨vs,H1,I1,r1,q1⟩=>hc pins s1 σ H1 vs us Q I1 r1 q1) he hpl
theorem pe_callTy(hc:CallR X (.type T) r)(hg:Gl X x)(hm:X.mg x=none)(hv:bootBuiltins x=some (.type T))(ha:PA X (e::es) t)(hn:x≠"__name__":=by decide)(hdb:(x==("__debug__":Str))=false:=by decide)
  (he:starEach (e::es) X.env=(false,eval e X.env)::starEach es X.env:=by rfl) (hpl:(backTo pos (starEach es X.env)).any (·.1)=false:=by rfl):PE X (.Call (.Name x p) (e::es) [] pos) (tCB r t):=by
 intro pins s σ H Q I h
 refine wpAny_Call_Name_kw (ld_blt I hg hm hv ?_ hn hdb)
 exact PyProof.Rows.callWith_type1 (thn (ha pos pins s σ H _ I h) fun us s1 ⟨vs,H1,I1,r1,q1⟩=>hc pins s1 σ H1 vs us Q I1 r1 q1) he hpl
end
end L2
namespace HT
open PySem PyProof.Rows
section
open PySem.SeqAt
open PySem.AutoSeq1 (wpAny_loadPart')
open PySem.MeetsSeq PySem.MeetsSeq2 PySem.MeetsSeq3
end
section
variable{prog:Program}{w:World}{A:Around}{E:Value→Shared→Prop}{s:Shared}
theorem cat_tup{t b:Addr}{vs ws:List Value}{Q:Value→Shared→Prop}(ht:IsTup s.heap t vs.toArray)(hb:IsTup s.heap b ws.toArray)(hv:vs≠[])
  (h1:ws=[]→Q (.ref t) s) (h2:ws≠[]→Q (.ref s.heap.objs.size) { s with heap:=s.heap.push { cls:=.type "tuple",data:=.seq (vs++ws).toArray } })
  (hsz:vs.length+ws.length≤sizeLine):wpAny (model prog w) A (binaryOp .Add (.ref t) (.ref b)) Q E s:=by
 obtain⟨⟨cls,dd,data,sl⟩,ho,hc,n,hd⟩:=id ht
 obtain⟨⟨cls2,dd2,data2,sl2⟩,ho2,hc2,n2,hd2⟩:=id hb
 simp only at hc hd hc2 hd2
 subst hc hd hc2 hd2
 have e:vs.toArray++ws.toArray=(vs++ws).toArray:=by simp
 by_cases hw:ws=[]
 .exact concat_meets ⟨_,ho,rfl⟩ ⟨_,ho2,rfl⟩ noFill_tuple_add seq_tuple_add PySem.F.slot_tuple_add PySem.F.entry_tuple_add (PySem.F.args_tuple_add_2 _ _)
   (tuple_addW1 t b vs.toArray ws.toArray n n2 dd dd2 sl sl2 (by simpa using hv) (by simp[hw])) ⟨ho,ho2,h1 hw⟩
 .refine concat_meets ⟨_,ho,rfl⟩ ⟨_,ho2,rfl⟩ noFill_tuple_add seq_tuple_add PySem.F.slot_tuple_add PySem.F.entry_tuple_add (PySem.F.args_tuple_add_2 _ _)
   (tuple_addW2 t b vs.toArray ws.toArray n n2 dd dd2 sl sl2 (by simpa using hv) (by simpa using hw) (by rw[List.size_toArray,List.size_toArray]; exact hsz)) ⟨ho,ho2,?_⟩
  rw[e]
  exact h2 hw
def sIx(n d:Nat):Option Int→Nat
 | none=>d
 | some v=>if v<0 then (v+(n:Int)).toNat else min v.toNat n
theorem sIx_le(n d:Nat)(hd:d≤n)(o:Option Int):sIx n d o≤n:=by
 cases o with
 | none=>exact hd
 | some v=>
  show(if v<0 then (v+(n:Int)).toNat else min v.toNat n)≤n
  by_cases hv:v<0
  .rw[if_pos hv]; omega
  .rw[if_neg hv]; exact Nat.min_le_right _ _
theorem clip_eq(v:Int)(n d:Nat):(if v<0 then max (v+(n:Int)) 0 else min v (n:Int))=((sIx n d (some v):Nat):Int):=by
 show(if v<0 then max (v+(n:Int)) 0 else min v (n:Int))=(((if v<0 then (v+(n:Int)).toNat else min v.toNat n):Nat):Int)
 by_cases hv:v<0
 .simp only[if_pos hv]; omega
 .simp only[if_neg hv]; omega
theorem adjust_gen(lo hi:Option Int)(n:Nat):Builtin.Slice.sliceAdjust lo hi 1 (n:Int)=(((sIx n 0 lo:Nat):Int),((sIx n n hi:Nat):Int)):=by
 have h1:¬((1:Int)<0):=by omega
 unfold Builtin.Slice.sliceAdjust
 simp only[h1,if_false]
 refine Prod.ext ?_ ?_
 .cases lo with
  | none=>rfl
  | some v=>exact clip_eq v n 0
 .cases hi with
  | none=>rfl
  | some v=>exact clip_eq v n n
theorem places_gen(i j:Nat):Builtin.Slice.slicePlaces (i:Int) (j:Int) 1=j-i:=by
 unfold Builtin.Slice.slicePlaces
 have h1:(1:Int)>0:=by omega
 simp only[h1,if_true,Int.ediv_one]
 split<;>omega
theorem slicePart_{v:Value}{o:Option Int}{Q:Option Int→Shared→Prop}(p:IsPart v o)(h:Q o s):wpAny (model prog w) A (Builtin.Slice.slicePartIndex v) Q E s:=by
 cases p with
 | none=>exact slicePart_none h
 | int i t=>exact slicePart_int h
theorem sliceApplied_gen{sl:Addr}{vl vu:Value}{lo hi:Option Int}{n:Nat}{Q:Int×Int×Nat→Shared→Prop}(hs:s.heap.IsSliceOf sl vl vu .none)(pl:IsPart vl lo)(pu:IsPart vu hi)
  (h:Q (((sIx n 0 lo:Nat):Int),1,sIx n n hi-sIx n 0 lo) s):wpAny (model prog w) A (Builtin.Slice.sliceApplied (.ref sl) (pure (n:Int))) Q E s:=by
 obtain⟨os,hos,hcs,hds⟩:=id hs
 unfold Builtin.Slice.sliceApplied Builtin.Slice.sliceFields
 refine wpAny_bind (wpAny_bind (wpAny_field hos hds (x:=vl) rfl (wpAny_bind (wpAny_field hos hds (x:=vu) rfl (wpAny_bind (wpAny_field hos hds (x:=.none) rfl (wpAny_pure ?_)))))))
 refine wpAny_bind (slicePart_none ?_)
 show wpAny _ _ (if ((1:Int)==0)=true then _ else _) _ _ s
 rw[if_neg (by decide)]
 refine wpAny_bind (slicePart_ pl (wpAny_bind (slicePart_ pu (wpAny_bind (wpAny_pure ?_)))))
 show wpAny _ _ (match Builtin.Slice.sliceAdjust lo hi 1 (n:Int) with | (lo,hi)=>pure (lo,(1:Int),Builtin.Slice.slicePlaces lo hi 1)) _ _ s
 rw[adjust_gen lo hi n]
 show wpAny _ _ (pure (((sIx n 0 lo:Nat):Int),(1:Int),Builtin.Slice.slicePlaces ((sIx n 0 lo:Nat):Int) ((sIx n n hi:Nat):Int) 1)) _ _ s
 rw[places_gen]
 exact wpAny_pure h
theorem pick_gen(xs:Array Value)(i k:Nat):((List.range k).filterMap fun(m:Nat)=>xs[((i:Int)+(m:Int)*1).toNat]?).toArray=((xs.toList.drop i).take k).toArray:=by
 have e:(fun(m:Nat)=>xs[((i:Int)+(m:Int)*1).toNat]?)=fun m=>xs[i+m]?:=by
  funext m
  have:((i:Int)+(m:Int)*1).toNat=i+m:=by omega
  rw[this]
 rw[e]
 have:=pick_run xs i k
 rw[List.filterMap_map] at this
 have e2:((fun x=>xs[x]?)∘fun x=>i+x)=fun m=>xs[i+m]?:=rfl
 rw[e2] at this
 rw[this]
theorem getItem_tuple_cut{t sl:Addr}{items:Array Value}{vl vu:Value}{lo hi:Option Int}{Q:Value→Shared→Prop}(ht:IsTup s.heap t items)(hs:s.heap.IsSliceOf sl vl vu .none)(pl:IsPart vl lo)(pu:IsPart vu hi)
  (hw:¬(sIx items.size 0 lo=0∧sIx items.size items.size hi=items.size))
  (h:Q (.ref s.heap.objs.size) { s with heap:=s.heap.push { cls:=.type "tuple",data:=.seq ((items.toList.drop (sIx items.size 0 lo)).take (sIx items.size items.size hi-sIx items.size 0 lo)).toArray } })
  (hsz:items.size≤sizeLine):wpAny (model prog w) A (getItem (.ref t) (.ref sl)) Q E s:=by
 have htake:sizeOk (.seq ((items.toList.drop (sIx items.size 0 lo)).take (sIx items.size items.size hi-sIx items.size 0 lo)).toArray):=by
  show((items.toList.drop (sIx items.size 0 lo)).take (sIx items.size items.size hi-sIx items.size 0 lo)).toArray.size≤sizeLine
  rw[List.size_toArray,List.length_take,List.length_drop,Array.length_toList]
  omega
 have hj:sIx items.size items.size hi≤items.size:=sIx_le _ _ (Nat.le_refl _) hi
 obtain⟨os,hos,hcs,hds⟩:=id hs
 have hTs:s.TypeIs (.ref sl) "slice":=⟨os,hos,hcs⟩
 unfold getItem
 try with_reducible refine wpAny_holding ?_
 first | refine wpAny_bind (wpAny_pure ?_) | skip
 refine wpAny_bind (wpAny_sequenceKey ht.typeIs (by decide) ?_)
 refine wpAny_bind (wpAny_callSpecial?_slot (name:=Str.ofString "__getitem__") ht.typeIs PyProof.Rows.slot_tuple_getitem
  (wpAny_call_entry PyProof.Rows.slot_tuple_getitem ht.typeIs entry_tuple_getitem ?_ (args_tuple_getitem _ _)))
 show wpAny _ _ (Builtin.Tuple.tupleItemsOf (.ref t) >>= _) _ _ s
 refine wpAny_bind (tupleItemsOf_ ht ?_)
 refine wpAny_bind (wpAny_typeOf hTs ?_)
 rw[if_pos (by decide)]
 refine wpAny_bind (sliceApplied_gen hs pl pu ?_)
 have hno:¬((((sIx items.size 0 lo:Nat):Int)==0&&(1:Int)==1&&(sIx items.size items.size hi-sIx items.size 0 lo)==items.size)=true):=by
  intro q
  rw[Bool.and_eq_true,Bool.and_eq_true] at q
  have q1:((sIx items.size 0 lo:Nat):Int)=0:=eq_of_beq q.1.1
  have q2:sIx items.size items.size hi-sIx items.size 0 lo=items.size:=eq_of_beq q.2
  exact hw ⟨by omega,by omega⟩
 show wpAny _ _ (if (((sIx items.size 0 lo:Nat):Int)==0&&(1:Int)==1&&(sIx items.size items.size hi-sIx items.size 0 lo)==items.size)=true then _ else _) _ _ s
 rw[if_neg hno,pick_gen]
 first
  | exact wpAny_bind (m:=Builtin.Tuple.tupleExact _) (wpAny_newObj_type (wpAny_pure ⟨_,rfl,wpAny_pure h⟩) htake)
  | exact wpAny_bind (m:=Builtin.Tuple.tupleExact _) (wpAny_newObj_type (wpAny_bind (wpAny_pure (wpAny_pure ⟨_,rfl,wpAny_pure h⟩))) htake)
  | exact wpAny_bind (wpAny_bind (m:=Builtin.Tuple.tupleExact _) (wpAny_newObj_type (wpAny_pure (wpAny_pure ⟨_,rfl,wpAny_pure h⟩)) htake))
  | exact wpAny_bind (wpAny_bind (m:=Builtin.Tuple.tupleExact _) (wpAny_newObj_type (wpAny_pure ⟨_,rfl,wpAny_pure h⟩) htake))
end
end HT
namespace L2
open PySem PySem.Spec PyProof.Rows
abbrev TO:=St→Hp→(Option Int→Hp→Prop)→Prop
def PO(X:Cx)(e:Option Expr)(t:TO):Prop:=
 ∀(pins:List (Addr×Obj)) (s:Shared) (σ:St) (H:Hp) (Q:Option Int→Hp→Prop),Inv X pins σ H s→t σ H Q→
  wpAny (model X.prog X.w) X.A (evalPart e X.env) (fun u s'=>∃o H',Inv X pins σ H' s'∧IsPart u o∧Q o H') X.xe s
def tNoPart:TO:=fun _ H Q=>Q none H
def tPart(t:TE):TO:=fun σ H Q=>t σ H fun x H1=>∃i,x=.int i∧Q (some i) H1
section
variable{X:Cx}{e:Expr}{te:TE}{lo hi:Option Expr}{tl th:TO}{pos p2:Pos}
theorem po_none:PO X none tNoPart:=by
 intro pins s σ H Q I h
 rw[evalPart_none]
 exact wpAny_pure ⟨none,H,I,.none,h⟩
theorem po_some(h:PE X e te):PO X (some e) (tPart te):=by
 intro pins s σ H Q I hw
 rw[evalPart_some]
 refine thn (h pins s σ H _ I hw) fun u s1 ⟨x,H1,I1,r1,q1⟩=>?_
 obtain⟨i,rfl,q⟩:=q1
 obtain⟨t,rfl⟩:=r1
 exact⟨some i,H1,I1,.int i t,q⟩
def SlR(X:Cx)(r:V→Option Int→Option Int→Hp→VK→Prop):Prop:=
 ∀(pins:List (Addr×Obj)) (s:Shared) (σ:St) (H:Hp) (x:V) (v vl vu:Value) (lo hi:Option Int) (sl:Addr) (Q:VK),Inv X pins σ H s→RelV x v→s.heap.IsSliceOf sl vl vu .none→IsPart vl lo→IsPart vu hi→r x lo hi H Q→
  ∃T id,typeLookup (.type T) "__getitem__" = pure (some (.builtin id))∧s.TypeIs v T∧wpAny (model X.prog X.w) X.A (getItem v (.ref sl)) (EP X pins σ Q) X.xe s
def tSl(r:V→Option Int→Option Int→Hp→VK→Prop)(te:TE)(tl th:TO):TE:=fun σ H Q=>te σ H fun x H1=>tl σ H1 fun l H2=>th σ H2 fun u H3=>r x l u H3 Q
theorem pe_slice{r:V→Option Int→Option Int→Hp→VK→Prop}(hr:SlR X r)(he:PE X e te)(hl:PO X lo tl)(hu:PO X hi th):PE X (.Subscript e (.Slice lo hi none p2) pos) (tSl r te tl th):=by
 intro pins s σ H Q I h
 refine Subscript_ (thn (he pins s σ H _ I h) fun v s1 ⟨x,H1,I1,r1,q1⟩=>?_)
 refine wpAny_Slice (thn (hl pins s1 σ H1 _ I1 q1) fun vl s2 ⟨l,H2,I2,pl,q2⟩=>thn (hu pins s2 σ H2 _ I2 q2) fun vu s3 ⟨u,H3,I3,pu,q3⟩=>?_)
 rw[evalPart_none]
 refine wpAny_pure ?_
 have I4:Inv X pins σ H3 { s3 with heap:=s3.heap.push { cls:=.type "slice",data:=.fields #[vl,vu,.none] } }:=I3.kept (t':=s3.toks) fun b ob q=>Heap.get?_push_of_some _ q
 obtain⟨T,id,hT,ht,hg⟩:=hr pins { s3 with heap:=s3.heap.push { cls:=.type "slice",data:=.fields #[vl,vu,.none] } } σ H3 x v vl vu l u s3.heap.objs.size Q I4 r1 (Heap.IsSliceOf.new ..) pl pu q3
 show wpAny (model X.prog X.w) X.A (subscriptTail e (.Slice lo hi none p2) v (.ref s3.heap.objs.size)) (EP X pins σ Q) X.xe { s3 with heap:=s3.heap.push { cls:=.type "slice",data:=.fields #[vl,vu,.none] } }
 exact tail_any (ops:=[.ref s3.heap.objs.size,v]) ht hT hg (by with_unfolding_all rfl)
def cutV(xs:List V)(lo hi:Option Int):List V:=(xs.drop (HT.sIx xs.length 0 lo)).take (HT.sIx xs.length xs.length hi-HT.sIx xs.length 0 lo)
theorem cutV_length(xs:List V)(lo hi:Option Int):(cutV xs lo hi).length≤xs.length:=by
 unfold cutV
 rw[List.length_take,List.length_drop]
 omega
def rSlT(K:PySem.W.Frag):V→Option Int→Option Int→Hp→VK→Prop:=fun x lo hi H Q=>∃a xs,x=.ref a∧SqT K H a xs ∧
 ¬(HT.sIx xs.length 0 lo=0∧HT.sIx xs.length xs.length hi=xs.length)∧∀p,H p=none→Q (.ref p) (upd H p (.tup (cutV xs lo hi)))
theorem sl_tup:SlR X (rSlT X.K):=by
 intro pins s σ H x v vl vu lo hi sl Q I rx hs pl pu h
 obtain⟨a,xs,rfl,hx,hw,q⟩:=h
 cases rx
 obtain⟨its,r,ht,hz⟩:=I.tuple hx
 have hlen:its.toArray.size=xs.length:=by rw[List.size_toArray]; exact r.length.symm
 refine⟨"tuple",_,PyProof.Rows.slot_tuple_getitem.lookup,ht.typeIs,?_⟩
 refine HT.getItem_tuple_cut ht hs pl pu (by rw[hlen]; exact hw) ?_ (by rw[hlen]; exact hz)
 rw[hlen]
 refine⟨.ref s.heap.objs.size,_,I.laid (t':=s.toks) (o:=.tup (cutV xs lo hi)) (fun b ob q=>Heap.get?_push_of_some _ q) (Nat.le_refl _) ?_,rfl,q _ (I.hok.fresh (Nat.le_refl _))⟩
 exact⟨Nat.le_trans (cutV_length xs lo hi) hz,_,(r.drop (HT.sIx xs.length 0 lo)).take (HT.sIx xs.length xs.length hi-HT.sIx xs.length 0 lo),IsTup.new _ _⟩
def rCatT(K:PySem.W.Frag):R2:=fun x y H Q=>∃a b xs ys,x=.ref a∧y=.ref b∧SqT K H a xs∧SqT K H b ys∧xs≠[]∧xs.length+ys.length≤sizeLine ∧
 (ys=[]→Q (.ref a) H)∧(ys≠[]→∀p,H p=none→Q (.ref p) (upd H p (.tup (xs++ys))))
theorem Vals.nil_iff{xs:List V}{us:List Value}(r:Vals xs us):us=[]↔xs=[]:=by
 cases r with
 | nil=>simp
 | cons _ _=>simp
theorem op_catT:OpR X (binaryOp .Add) (rCatT X.K):=by
 intro pins s σ H x y v u Q I rx ry h
 obtain⟨a,b,xs,ys,rfl,rfl,ha,hb,hx,hz,q1,q2⟩:=h
 cases rx
 cases ry
 obtain⟨its,r1,p1,_⟩:=I.tuple ha
 obtain⟨its2,r2,p2,_⟩:=I.tuple hb
 refine HT.cat_tup p1 p2 (fun z=>hx (r1.nil_iff.mp z)) (fun z=>⟨.ref a,H,I,rfl,q1 (r2.nil_iff.mp z)⟩) (fun z=>?_) (by rw[←r1.length,←r2.length]; exact hz)
 refine⟨.ref s.heap.objs.size,_,I.laid (t':=s.toks) (o:=.tup (xs++ys)) (fun b ob q=>Heap.get?_push_of_some _ q) (Nat.le_refl _) ?_,rfl,q2 (fun w=>z (r2.nil_iff.mpr w)) _ (I.hok.fresh (Nat.le_refl _))⟩
 exact⟨by rw[List.length_append]; exact hz,_,r1.append r2,IsTup.new _ _⟩
end
end L2
namespace L2
open PySem PySem.Spec PyProof.Rows
def ixN(n:Nat)(i:Int):Option Nat:=if 0≤i then (if i<n then some i.toNat else none) else if -(n:Int)≤i then some (i+n).toNat else none
def atI{α:Type}(xs:List α)(i:Int):Option α:=(ixN xs.length i).bind fun j=>xs[j]?
theorem ixN_seq{n:Nat}{i:Int}{j:Nat}(h:ixN n i=some j):seqIndex? i n=some j∧j<n∧-(n:Int)≤i∧i<n:=by
 unfold ixN at h
 by_cases h0:0≤i
 .rw[if_pos h0] at h
  by_cases h1:i<n
  .rw[if_pos h1] at h
   have e:i.toNat=j:=Option.some.inj h
   exact⟨by rw[seqIndex_of h0 h1,e],by omega,by omega,h1⟩
  .rw[if_neg h1] at h; cases h
 .rw[if_neg h0] at h
  by_cases h1:-(n:Int)≤i
  .rw[if_pos h1] at h
   have e:(i+n).toNat=j:=Option.some.inj h
   exact⟨by rw[seqIndex_neg (by omega) h1,e],by omega,h1,by omega⟩
  .rw[if_neg h1] at h; cases h
theorem atI_get{α:Type}{xs:List α}{i:Int}{v:α}(h:atI xs i=some v):∃j,seqIndex? i xs.length=some j∧xs[j]?=some v∧j<xs.length∧-(xs.length:Int)≤i∧i<xs.length:=by
 unfold atI at h
 cases e:ixN xs.length i with
 | none=>rw[e] at h; cases h
 | some j=>
  rw[e] at h
  obtain⟨h1,h2,h3,h4⟩:=ixN_seq e
  exact⟨j,h1,h,h2,h3,h4⟩
def PlainIx(b:Expr):Prop:=∀o i,subscripted b false o i=operate [o,i] (getItem o i)
def IxR(X:Cx)(r:R2):Prop:=
 ∀(value slice:Expr) (pins:List (Addr×Obj)) (s:Shared) (σ:St) (H:Hp) (x y:V) (v u:Value) (Q:VK),Inv X pins σ H s→RelV x v→RelV y u→r x y H Q→
  subscripted slice false v u=operate [v,u] (getItem v u)→wpAny (model X.prog X.w) X.A (subscriptTail value slice v u) (EP X pins σ Q) X.xe s
def MtR(X:Cx)(id:String)(r:V→List V→Hp→VK→Prop):Prop:=
 ∀(pins:List (Addr×Obj)) (s:Shared) (σ:St) (H:Hp) (x:V) (xs:List V) (v:Value) (us:List Value) (Q:VK),Inv X pins σ H s→RelV x v→Vals xs us→r x xs H Q→
  wpAny (model X.prog X.w) X.A (call (.builtin id) (v::us)) (EP X pins σ Q) X.xe s
section
variable{X:Cx}{a b:Expr}{ta tb:TE}{pos:Pos}
theorem pe_ix{r:R2}(hr:IxR X r)(ha:PE X a ta)(hb:PE X b tb)(hs:PlainIx b):PE X (.Subscript a b pos) (tOp r ta tb):=by
 intro pins s σ H Q I h
 exact Subscript_ (binT ha hb I h fun v u s2 x y H2 I2 rx ry q=>hr a b pins s2 σ H2 x y v u Q I2 rx ry q (hs _ _))
def rIxL(K:PySem.W.Frag):R2:=fun x y H Q=>∃p xs i v,x=.ref p∧y=.int i∧SqL K H p xs∧atI xs i=some v∧Q v H
def rIxT(K:PySem.W.Frag):R2:=fun x y H Q=>∃p xs i v,x=.ref p∧y=.int i∧SqT K H p xs∧atI xs i=some v∧Q v H
def rIxS:R2:=fun x y H Q=>∃z i c,x=.str z∧y=.int i∧z.length≤sizeLine∧atI z.cps.toList i=some c∧Q (.str ⟨#[c]⟩) H
theorem ix_list:IxR X (rIxL X.K):=by
 intro value slice pins s σ H x y v u Q I rx ry h hs
 obtain⟨p,xs,i,z,rfl,rfl,hq,he,q⟩:=h
 cases rx
 obtain⟨t,rfl⟩:=ry
 obtain⟨its,r,pl,hz⟩:=I.list hq
 obtain⟨j,h1,h2,h3,h4,h5⟩:=atI_get he
 obtain⟨w,ew,rw'⟩:=r.get h2
 have hl:=r.length
 have hn:=line63
 have fin:EP X pins σ Q w s:=⟨z,H,I,rw',q⟩
 by_cases h0:0≤i
 .have hj:i.toNat=j:=by
   rw[seqIndex_of h0 h5] at h1
   exact Option.some.inj h1
  exact item_listR pl.isList h0 (by omega) (by rw[hj]; simpa using ew) fin hs
 .have hj:(i+(its.toArray.size:Int)).toNat=j:=by
   rw[seqIndex_neg (by omega) h4] at h1
   rw[List.size_toArray,←hl]
   exact Option.some.inj h1
  exact subscriptTail_builtinR (x:=w) pl.isList.typeIs slot_list_getitem.lookup
   (wpAny_getItem_list_neg (Q:=fun r s'=>r=w∧EP X pins σ Q r s') pl.isList (by omega) (by rw[List.size_toArray]<;>omega) (by omega) (by rw[hj]; simpa using ew) ⟨rfl,fin⟩) hs
theorem ix_tup:IxR X (rIxT X.K):=by
 intro value slice pins s σ H x y v u Q I rx ry h hs
 obtain⟨p,xs,i,z,rfl,rfl,hq,he,q⟩:=h
 cases rx
 obtain⟨t,rfl⟩:=ry
 obtain⟨its,r,pl,hz⟩:=I.tuple hq
 obtain⟨j,h1,h2,h3,h4,h5⟩:=atI_get he
 obtain⟨w,ew,rw'⟩:=r.get h2
 have hl:=r.length
 have hn:=line63
 have fin:EP X pins σ Q w s:=⟨z,H,I,rw',q⟩
 exact subscriptTail_builtinR (x:=w) pl.typeIs slot_tuple_getitem.lookup
  (getItem_tuple (j:=j) (Q:=fun r s'=>r=w∧EP X pins σ Q r s') pl (by omega) (by omega) (by rw[List.size_toArray,←hl]; exact h1) (by simpa using ew) ⟨rfl,fin⟩) hs
theorem ix_str:IxR X rIxS:=by
 intro value slice pins s σ H x y v u Q I rx ry h hs
 obtain⟨z,i,c,rfl,rfl,hz,he,q⟩:=h
 obtain⟨t,rfl⟩:=rx
 obtain⟨t',rfl⟩:=ry
 obtain⟨j,h1,h2,h3,h4,h5⟩:=atI_get he
 have hl:z.cps.toList.length=z.length:=by simp[Str.length]
 rw[hl] at h1 h4 h5
 have hn:=line63
 exact tail_any (typeIs_str s z t) slot_str_getitem.lookup (getItem_str (c:=c) (by
  have e1:decide (i < -(2 ^ 63:Int))=false:=decide_eq_false (by omega)
  have e2:decide (i≥2 ^ 63)=false:=decide_eq_false (by omega)
  rw[e1,e2,Bool.or_false]) (by rw[h1]; simpa using h2) ⟨.str ⟨#[c]⟩,H,I.tok _,⟨_,rfl⟩,q⟩) hs
theorem slice_bounds(lo hi:Option Int)(n:Nat):(sliceBounds lo hi none n).1=((HT.sIx n 0 lo:Nat):Int)∧(sliceBounds lo hi none n).2.1=((HT.sIx n n hi:Nat):Int)∧(sliceBounds lo hi none n).2.2=1:=by
 refine⟨?_,?_,rfl⟩
 .cases lo with
  | none=>simp[sliceBounds,HT.sIx]
  | some i=>
   simp only[sliceBounds,HT.sIx,Option.getD_none,show(1:Int)>0 by decide,if_true]
   by_cases h:i<0
   .simp only[h,if_true]<;>omega
   .simp only[h,if_false]<;>omega
 .cases hi with
  | none=>simp[sliceBounds,HT.sIx]
  | some i=>
   simp only[sliceBounds,HT.sIx,Option.getD_none,show(1:Int)>0 by decide,if_true]
   by_cases h:i<0
   .simp only[h,if_true]<;>omega
   .simp only[h,if_false]<;>omega
theorem slicePick_cut(its:List Value)(lo hi:Option Int):slicePick its.toArray lo hi none=((its.drop (HT.sIx its.length 0 lo)).take (HT.sIx its.length its.length hi-HT.sIx its.length 0 lo)).toArray:=by
 obtain⟨h1,h2,h3⟩:=slice_bounds lo hi its.toArray.size
 unfold slicePick
 rw[h1,h2,h3]
 simp only[sliceRange_one,pick_run,List.size_toArray]<;>rfl
def rSlL(K:PySem.W.Frag):V→Option Int→Option Int→Hp→VK→Prop:=fun x lo hi H Q=>∃a xs,x=.ref a∧SqL K H a xs∧∀p,H p=none→Q (.ref p) (upd H p (.lst (cutV xs lo hi)))
theorem sl_list:SlR X (rSlL X.K):=by
 intro pins s σ H x v vl vu lo hi sl Q I rx hs pl pu h
 obtain⟨a,xs,rfl,hx,q⟩:=h
 cases rx
 obtain⟨its,r,ht,hz⟩:=I.list hx
 have hlen:=r.length
 refine⟨"list",_,slot_list_getitem.lookup,ht.isList.typeIs,?_⟩
 refine wpAny_getItem_list_slice ht.isList hs pl pu .none (by simp) ?_ (by rw[List.size_toArray]<;>omega)
 rw[slicePick_cut,←hlen]
 refine⟨.ref s.heap.objs.size,_,I.laid (t':=s.toks) (o:=.lst (cutV xs lo hi)) (fun b ob q=>Heap.get?_push_of_some _ q) (Nat.le_refl _) ?_,rfl,q _ (I.hok.fresh (Nat.le_refl _))⟩
 exact⟨Nat.le_trans (cutV_length xs lo hi) hz,_,0,(r.drop (HT.sIx xs.length 0 lo)).take (HT.sIx xs.length xs.length hi-HT.sIx xs.length 0 lo),Heap.get?_push_size _ rfl⟩
theorem call_len_seq:CallR X (.builtin "len") (fun xs H Q=>∃p ys,xs=[.ref p]∧(SqL X.K H p ys∨SqT X.K H p ys)∧Q (.int ys.length) H):=by
 intro pins s σ H xs us Q I r h
 obtain⟨p,ys,rfl,hq,q⟩:=h
 obtain⟨u,rfl,rx⟩:=vals1 r
 cases rx
 have hn:=line63
 rcases hq with hq | hq
 .obtain⟨its,r',pl,hz⟩:=I.list hq
  have hlen:=r'.length
  exact Calls.call_len_list pl.isList (by simp only[List.size_toArray]<;>omega) ⟨.int ys.length,H,I.tok _,⟨s.toks+1,by rw[List.size_toArray,hlen]⟩,q⟩
 .obtain⟨its,r',pl,hz⟩:=I.tuple hq
  have hlen:=r'.length
  exact len_tuple pl (by simp only[List.size_toArray]<;>omega) ⟨.int ys.length,H,I.tok _,⟨s.toks+1,by rw[List.size_toArray,hlen]⟩,q⟩
theorem call_len_str:CallR X (.builtin "len") (fun xs H Q=>∃z,xs=[.str z]∧z.length≤sizeLine∧Q (.int z.length) H):=by
 intro pins s σ H xs us Q I r h
 obtain⟨z,rfl,hz,q⟩:=h
 obtain⟨u,rfl,t,rfl⟩:=vals1 r
 have hn:=line63
 exact len_str (by omega) ⟨.int z.length,H,I.tok _,⟨_,rfl⟩,q⟩
theorem call_list_of:CallR X (.type "list") (fun xs H Q=>∃p ys,xs=[.ref p]∧(SqL X.K H p ys∨SqT X.K H p ys)∧∀l,H l=none→Q (.ref l) (upd H l (.lst ys))):=by
 intro pins s σ H xs us Q I r h
 obtain⟨p,ys,rfl,hq,q⟩:=h
 obtain⟨u,rfl,rx⟩:=vals1 r
 cases rx
 have fin:∀(its:List Value),Vals ys its→ys.length≤sizeLine→∀(h':Heap) (c':Nat),(∀b o',s.heap.get? b=some o'→h'.get? b=some o')→
   h'.get? s.heap.objs.size=some { cls:=.type "list",dict:=none,data:=.seq its.toArray c',slots:=#[] }→EP X pins σ Q (.ref s.heap.objs.size) { s with heap:=h' }:=fun its r' hz h' c' kp e=>
  ⟨.ref s.heap.objs.size,_,I.laid (t':=s.toks) kp (Nat.le_refl _) (show ObjOk X.prog X.w _ h' _ (.lst ys) from ⟨hz,its,c',r',e⟩),rfl,q _ (I.hok.fresh (Nat.le_refl _))⟩
 rcases hq with hq | hq
 .obtain⟨its,r',pl,hz⟩:=I.list hq
  have hlen:=r'.length
  obtain⟨o,ho,hc,n,hd⟩:=pl.isList
  exact call_list_seq p (.inl rfl) ho hc hd (fun h' c' kp e=>fin its r' hz h' c' kp e) (by simp only[List.size_toArray]<;>omega)
 .obtain⟨its,r',pl,hz⟩:=I.tuple hq
  have hlen:=r'.length
  obtain⟨o,ho,hc,n,hd⟩:=pl
  exact call_list_seq p (.inr rfl) ho hc hd (fun h' c' kp e=>fin its r' hz h' c' kp e) (by simp only[List.size_toArray]<;>omega)
theorem call_tuple_of:CallR X (.type "tuple") (fun xs H Q=>∃p ys,xs=[.ref p]∧((SqL X.K H p ys∧∀l,H l=none→Q (.ref l) (upd H l (.tup ys)))∨(SqT X.K H p ys∧Q (.ref p) H))):=by
 intro pins s σ H xs us Q I r h
 obtain⟨p,ys,rfl,h⟩:=h
 obtain⟨u,rfl,rx⟩:=vals1 r
 cases rx
 rcases h with ⟨hq,q⟩ | ⟨hq,q⟩
 .obtain⟨its,r',pl,hz⟩:=I.list hq
  have hlen:=r'.length
  refine call_tuple_list pl.isList (fun h' kp=>?_) (by simp only[List.size_toArray]<;>omega)
  have I1:Inv X pins σ H { s with heap:=h' }:=I.kept (t':=s.toks) kp
  have I2:Inv X pins σ (upd H h'.objs.size (.tup ys)) { s with heap:=h'.push { cls:=.type "tuple",data:=.seq its.toArray } }:=
   I1.laid (t':=s.toks) (fun b o e=>Heap.get?_push_of_some _ e) (Nat.le_refl _) (show ObjOk X.prog X.w _ _ _ (.tup ys) from ⟨hz,its,r',IsTup.new _ _⟩)
  exact⟨.ref h'.objs.size,_,I2,rfl,q _ (I1.hok.fresh (Nat.le_refl _))⟩
 .obtain⟨its,r',pl,hz⟩:=I.tuple hq
  exact call_tuple_same pl ⟨.ref p,H,I,rfl,q⟩
def tyV(K:PySem.W.Frag)(T:String)(x:V)(H:Hp):Prop:=match x with
 | .str _=>T="str"
 | .int _=>T="int"
 | .ref p=>(T="list" ∧ ∃xs,SqL K H p xs)∨(T="tuple" ∧ ∃o,K.lookup p=some o∧o.cls=.type "tuple" ∧ o.dict=none) ∨
   (T="dict" ∧ ((∃kvs,H p=some (.dK kvs))∨∃kvs,H p=some (.dT kvs)))∨(T="set" ∧ ∃S n,H p=some (.set S n))
 | _=>False
theorem tyV_is{pins:List (Addr×Obj)}{σ:St}{H:Hp}{s:Shared}{T:String}{x:V}{v:Value}(I:Inv X pins σ H s)(r:RelV x v)(ty:tyV X.K T x H) :
  s.TypeIs v T∧∀a,v=.ref a→∃ob,s.heap.get? a=some ob∧ob.dict=none:=by
 cases x with
 | str z=>
  obtain⟨t,rfl⟩:=r
  cases (show T="str" from ty)
  exact⟨typeIs_str s z t,fun _ e=>nomatch e⟩
 | int i=>
  obtain⟨t,rfl⟩:=r
  cases (show T="int" from ty)
  exact⟨typeIs_int s i t,fun _ e=>nomatch e⟩
 | ref p=>
  cases r
  rcases ty with ⟨rfl,xs,hq⟩ | ⟨rfl,o,hk,hc,hd⟩ | ⟨rfl,hk⟩ | ⟨rfl,S,n,hk⟩
  .obtain⟨its,_,pl,_⟩:=I.list hq
   refine⟨pl.isList.typeIs,fun a e=>?_⟩
   cases e
   obtain⟨o,n,e,c,hd,_⟩:=pl
   exact⟨o,e,hd⟩
  .refine⟨⟨o,I.kIn p o hk,hc⟩,fun a e=>?_⟩
   cases e
   exact⟨o,I.kIn _ o hk,hd⟩
  .have z:∃o,s.heap.get? p=some o∧o.ExactDict:=by
    rcases hk with ⟨kvs,hk⟩ | ⟨kvs,hk⟩
    .obtain⟨_,_,_,_,o,_,_,e,ex,_⟩:=I.hok p _ hk
     exact⟨o,e,ex⟩
    .obtain⟨_,_,_,_,o,_,_,e,ex,_⟩:=I.hok p _ hk
     exact⟨o,e,ex⟩
   obtain⟨o,e,ex⟩:=z
   refine⟨⟨o,e,ex.1⟩,fun a e2=>?_⟩
   cases e2
   exact⟨o,e,ex.2.1⟩
  .obtain⟨o,_,_,_,e,ex,_⟩:=I.hok p _ hk
   refine⟨⟨o,e,ex.1⟩,fun a e2=>?_⟩
   cases e2
   exact⟨o,e,ex.2.1⟩
 | _=>exact False.elim ty
def tBM0(K:PySem.W.Frag)(T:String)(r:V→List V→Hp→VK→Prop)(to:TE):TE:=fun σ H Q=>to σ H fun x H1=>tyV K T x H1∧r x [] H1 Q
def tBM(K:PySem.W.Frag)(T:String)(r:V→List V→Hp→VK→Prop)(to:TE)(t:TA):TE:=fun σ H Q=>to σ H fun x H1=>tyV K T x H1∧t σ H1 fun xs H2=>r x xs H2 Q
variable{o e:Expr}{es:List Expr}{to:TE}{t:TA}{name:Str}{apos cpos:Pos}{T id:String}{r:V→List V→Hp→VK→Prop}
theorem pe_bm0(pa:PlainAttrs T)(slot:Slot T name id)(hty:typeOf (.builtin id)=pure (.type "method_descriptor"))(hm:MtR X id r)(ho:PE X o to)
  (hbase:attributeBase o name X.env (eval o X.env)=eval o X.env:=by rfl) (hline:(apos.endLine==cpos.line)=true:=by rfl):PE X (.Call (.Attribute o name apos) [] [] cpos) (tBM0 X.K T r to):=by
 intro pins s σ H Q I h
 refine wpAny_Call_method0_late hbase hline (thn (ho pins s σ H _ I h) fun v s1 ⟨x,H1,I1,r1,ty,q1⟩=>?_)
 obtain⟨h1,h2⟩:=tyV_is I1 r1 ty
 exact⟨T,id,pa,slot,hty,h1,h2,Calls.callWith_builtin rfl (PySem.evalArgs_none (hm pins s1 σ H1 x [] v [] Q I1 r1 .nil q1))⟩
theorem pe_bm(pa:PlainAttrs T)(slot:Slot T name id)(hty:typeOf (.builtin id)=pure (.type "method_descriptor"))(hm:MtR X id r)(ho:PE X o to)(ha:PA X (e::es) t)
  (hbase:attributeBase o name X.env (eval o X.env)=eval o X.env:=by rfl)
  (hfew:((backTo cpos (starEach (e::es) X.env)).all (fun x=>!x.1)&&(backToKw cpos (keywordEach [] X.env)).all (fun x=>x.1.isSome)
   && decide ((e::es).length+([]:List Keyword).length+(if ([]:List Keyword).isEmpty then 0 else 1)<30))=true:=by rfl)
  (hline:(apos.endLine==cpos.line)=true:=by rfl) (hs:starEach (e::es) X.env=(false,eval e X.env)::starEach es X.env:=by rfl) (hplain:(backTo cpos (starEach es X.env)).any (·.1)=false:=by rfl) :
  PE X (.Call (.Attribute o name apos) (e::es) [] cpos) (tBM X.K T r to t):=by
 intro pins s σ H Q I h
 refine wpAny_Call_method_late hbase hfew hline rfl (thn (ho pins s σ H _ I h) fun v s1 ⟨x,H1,I1,r1,ty,q1⟩=>?_)
 obtain⟨h1,h2⟩:=tyV_is I1 r1 ty
 refine⟨T,id,pa,slot,hty,h1,h2,?_⟩
 have hA:=ha cpos pins s1 σ H1 _ I1 q1
 rw[hs] at hA ⊢
 refine Calls.callWith_builtin (by show(false||(backTo cpos (starEach es X.env)).any (·.1))=false; rw[hplain]<;>rfl) (Calls.evalArgs_plain ?_)
 exact thn hA fun us s2 ⟨vs,H2,I2,r2,q2⟩=>hm pins s2 σ H2 x vs v us Q I2 r1 r2 q2
end
end L2
namespace L2
open PySem PySem.Spec PyProof.Rows
def MtM(X:Cx)(id:String)(r:V→List V→Hp→VK→Prop):Prop:=
 ∀(pins:List (Addr×Obj)) (s:Shared) (σ:St) (H:Hp) (x:V) (xs:List V) (v:Value) (us:List Value) (Q:VK),Inv X pins σ H s→RelV x v→Vals xs us→r x xs H Q→
  wpAny (model X.prog X.w) X.A (call (.builtin id) (v::us)) (EP X pins σ Q) X.xe s
theorem Vals.one:∀{x:V} {us:List Value},Vals [x] us→∃u,us=[u]∧RelV x u
 | _,_,.cons r .nil=>⟨_,rfl,r⟩
theorem Vals.zero:∀{us:List Value},Vals [] us→us=[]
 | _,.nil=>rfl
theorem Vals.dropLast{xs:List V}{us:List Value}(h:Vals xs us):Vals xs.dropLast us.dropLast:=by
 induction h with
 | nil=>exact .nil
 | cons r t ih=>
  cases t with
  | nil=>exact .nil
  | cons q t'=>exact .cons r ih
theorem Vals.reverse{xs:List V}{us:List Value}(h:Vals xs us):Vals xs.reverse us.reverse:=by
 induction h with
 | nil=>exact .nil
 | cons r t ih=>rw[List.reverse_cons,List.reverse_cons]; exact Vals.append ih (.cons r .nil)
theorem Vals.rep{xs:List V}{us:List Value}(h:Vals xs us):∀k:Nat,Vals (List.replicate k xs).flatten (List.replicate k us).flatten
 | 0=>.nil
 | k+1=>by
  rw[List.replicate_succ,List.replicate_succ,List.flatten_cons,List.flatten_cons]
  exact Vals.append h (Vals.rep h k)
theorem erase_last{α:Type}(l:List α):l.eraseIdx (l.length-1)=l.dropLast:=by
 induction l with
 | nil=>rfl
 | cons a r ih=>
  cases r with
  | nil=>rfl
  | cons b r=>
   have e:(a::b::r).length-1=((b::r).length-1)+1:=by
    have h1:(a::b::r).length=r.length+2:=rfl
    have h2:(b::r).length=r.length+1:=rfl
    omega
   rw[e,List.eraseIdx_cons_succ,ih]
   all_goals rfl
theorem foldl_rep(its:List Value):∀(k:Nat) (acc:List Value),
  List.foldl (fun x1 x2=>x1++x2) acc.toArray (List.replicate k its.toArray)=(acc++(List.replicate k its).flatten).toArray
 | 0,acc=>by simp
 | k+1,acc=>by
  have e:acc.toArray++its.toArray=(acc++its).toArray:=by simp
  have e2:(acc++its)++(List.replicate k its).flatten=acc++(List.replicate (k+1) its).flatten:=by
   rw[List.replicate_succ,List.flatten_cons,List.append_assoc]
  rw[←e2,←foldl_rep its k (acc++its),←e,List.replicate_succ,List.foldl_cons]
section
variable{X:Cx}{pins:List (Addr×Obj)}{σ:St}{H:Hp}{s:Shared}{l b:Addr}{xs ys zs:List V}
theorem Inv.lset{its its':List Value}{n:Nat}{f:Array Value→Array Value}{t':Nat}(I:Inv X pins σ H s)(hH:H l=some (.lst xs))
  (e:s.heap.get? l=some { cls:=.type "list",data:=.seq its.toArray n }) (hf:f its.toArray=its'.toArray) (hv:Vals ys its') (hz:ys.length≤sizeLine) :
  Inv X pins σ (upd H l (.lst ys)) { s with heap:=s.heap.update l (Obj.mapSeq f),toks:=t' }:=by
 have q:=PySem.IsL.update e f
 rw[hf] at q
 refine I.write (x:=l) (e:=l) (by rw[hH]; exact trivial) (.inl rfl) (fun b' u hb hu=>(Heap.get?_update_other s.heap (Obj.mapSeq f) (Ne.symm hb)).trans hu) ⟨_,q⟩ ?_
 exact⟨hz,its',_,hv,q⟩
theorem Inv.lnew{its:List Value}{t':Nat}(I:Inv X pins σ H s)(hv:Vals ys its)(hz:ys.length≤sizeLine) :
  Inv X pins σ (upd H s.heap.objs.size (.lst ys)) { s with heap:=s.heap.push { cls:=.type "list",data:=.seq its.toArray },toks:=t' }:=
 I.laid (fun _ _ q=>Heap.get?_push_of_some _ q) (Nat.le_refl _) ⟨hz,its,0,hv,Heap.get?_push_size _ rfl⟩
theorem Inv.fresh(I:Inv X pins σ H s):H s.heap.objs.size=none:=I.hok.fresh (Nat.le_refl _)
theorem Inv.lstM(I:Inv X pins σ H s)(hH:H l=some (.lst xs)):xs.length≤sizeLine∧∃(its:List Value) (n:Nat),Vals xs its∧xs.length=its.length∧s.heap.get? l=some { cls:=.type "list",data:=.seq its.toArray n }:=by
 obtain⟨z,its,n,r,e⟩:=I.hok l _ hH
 exact⟨z,its,n,r,r.length,e⟩
theorem notLongL{n:Nat}(h:n≤sizeLine):Builtin.List.listTooLong n=false:=by
 unfold Builtin.List.listTooLong
 exact decide_eq_false (by omega)
end
section
variable{X:Cx}
def rAppend:V→List V→Hp→VK→Prop:=fun x vs H Q=>∃l xs y,x=.ref l∧vs=[y]∧H l=some (.lst xs)∧xs.length<sizeLine∧Q .non (upd H l (.lst (xs++[y])))
theorem mt_append:MtM X "list.append" rAppend:=by
 intro pins s σ H x vs v us Q I rx rv h
 obtain⟨l,xs,y,rfl,rfl,hH,hz,q⟩:=h
 cases rx
 obtain⟨u,rfl,ru⟩:=rv.one
 obtain⟨z,its,n,r,hl,e⟩:=I.lstM hH
 refine call_meets F.slot_list_append ⟨_,e,rfl⟩ F.entry_list_append (F.args_list_append_2 _ _) (PySem.list_append l its.toArray n u (by rw[List.size_toArray]; omega)) ⟨e,?_⟩
 refine⟨.non,_,I.lset (its':=its++[u]) hH e (by simp) (r.append (.cons ru .nil)) ?_,rfl,q⟩
 rw[List.length_append,List.length_singleton]
 omega
def rPop:V→List V→Hp→VK→Prop:=fun x vs H Q=>∃l xs y,x=.ref l∧vs=[]∧H l=some (.lst xs)∧xs[xs.length-1]?=some y∧Q y (upd H l (.lst xs.dropLast))
theorem mt_pop:MtM X "list.pop" rPop:=by
 intro pins s σ H x vs v us Q I rx rv h
 obtain⟨l,xs,y,rfl,rfl,hH,hy,q⟩:=h
 cases rx
 have hus:=rv.zero
 subst hus
 obtain⟨z,its,n,r,hl,e⟩:=I.lstM hH
 obtain⟨u,hu,ru⟩:=r.get hy
 have hy':its.toArray[its.toArray.size-1]?=some u:=by
  show its.toArray[its.length-1]?=some u
  rw[←Array.getElem?_toList,←hl]
  exact hu
 refine call_meets F.slot_list_pop ⟨_,e,rfl⟩ F.entry_list_pop (F.args_list_pop_1 _) (MeetsSeq.list_pop_last l its.toArray n u hy' (by rw[List.size_toArray]; omega)) ⟨e,?_⟩
 refine⟨y,_,I.lset (its':=its.dropLast) hH e ?_ r.dropLast ?_,ru,q⟩
 .show its.toArray.eraseIdxIfInBounds (its.toArray.size-1)=its.dropLast.toArray
  rw[List.size_toArray,List.eraseIdxIfInBounds_toArray,erase_last]
 .rw[List.length_dropLast]
  omega
theorem len_rep{α:Type}(xs:List α)(k:Nat):(List.replicate k xs).flatten.length=k*xs.length:=by
 induction k with
 | zero=>simp
 | succ k ih=>rw[List.replicate_succ,List.flatten_cons,List.length_append,ih,Nat.succ_mul,Nat.add_comm]
end
end L2
namespace L2
open PySem PySem.Spec PyProof.Rows
section
variable{κ:Type}[DecidableEq κ]
def valV(kvs:List (κ×V))(k:κ):Option V:=(kvs.find? fun kv=>decide (kv.1=k)).map (·.2)
def putK(kvs:List (κ×V))(k:κ)(v:V):List (κ×V):=
 if (kvs.any fun kv=>decide (kv.1=k))=true then kvs.map (fun kv=>if kv.1=k then (kv.1,v) else kv) else kvs++[(k,v)]
theorem valV_pos{p:κ×V}{r:List (κ×V)}{k:κ}(e:p.1=k):valV (p::r) k=some p.2:=by simp[valV,List.find?_cons,e]
theorem valV_neg{p:κ×V}{r:List (κ×V)}{k:κ}(e:¬p.1=k):valV (p::r) k=valV r k:=by simp[valV,List.find?_cons,e]
theorem length_putK(kvs:List (κ×V))(k:κ)(v:V):(putK kvs k v).length≤kvs.length+1:=by
 unfold putK
 split
 .rw[List.length_map]; omega
 .rw[List.length_append,List.length_cons,List.length_nil]; omega
theorem RelO.getD{o:Option V}{u:Option Value}{d:V}{d':Value}(r:RelO o u)(rd:RelV d d'):RelV (o.getD d) (u.getD d'):=by
 cases o with
 | none=>cases u with
  | none=>exact rd
  | some _=>exact(show False from r).elim
 | some _=>cases u with
  | none=>exact(show False from r).elim
  | some _=>exact r
theorem KV.val{kvs:List (κ×V)}{vs:List (κ×Value)}(r:KV kvs vs)(k:κ):RelO (valV kvs k) (valueAt vs k):=by
 unfold KV at r
 induction r with
 | nil=>exact True.intro
 | @cons p q ps qs h t ih=>
  obtain⟨h1,h2⟩:=h
  by_cases e:p.1=k
  .have e':q.1=k:=h1.symm.trans e
   have b:valueAt (q::qs) k=some q.2:=by simp[valueAt,List.find?_cons,e']
   rw[valV_pos e,b]; exact h2
  .have e':¬q.1=k:=fun z=>e (h1.trans z)
   have b:valueAt (q::qs) k=valueAt qs k:=by simp[valueAt,List.find?_cons,e']
   rw[valV_neg e,b]; exact ih
theorem KV.any{kvs:List (κ×V)}{vs:List (κ×Value)}(r:KV kvs vs)(k:κ):(kvs.any fun kv=>decide (kv.1=k))=vs.any fun kv=>decide (kv.1=k):=by
 unfold KV at r
 induction r with
 | nil=>rfl
 | cons h t ih=>rw[List.any_cons,List.any_cons,ih,h.1]
theorem KV.repl{kvs:List (κ×V)}{vs:List (κ×Value)}(r:KV kvs vs)(k:κ){y:V}{u:Value}(ry:RelV y u) :
  KV (kvs.map fun kv=>if kv.1=k then (kv.1,y) else kv) (vs.map fun kv=>if kv.1=k then (kv.1,u) else kv):=by
 unfold KV at r ⊢
 induction r with
 | nil=>exact .nil
 | @cons p q ps qs h t ih=>
  rw[List.map_cons,List.map_cons]
  refine .cons ?_ ih
  obtain⟨h1,h2⟩:=h
  by_cases e:p.1=k
  .rw[if_pos e,if_pos (h1.symm.trans e)]; exact⟨h1,ry⟩
  .rw[if_neg e,if_neg (fun z=>e (h1.trans z))]; exact⟨h1,h2⟩
theorem KV.put{kvs:List (κ×V)}{vs:List (κ×Value)}(r:KV kvs vs)(k:κ){y:V}{u:Value}(ry:RelV y u):KV (putK kvs k y) (stored vs k u):=by
 unfold putK stored
 rw[r.any k]
 by_cases e:(vs.any fun kv=>decide (kv.1=k))=true
 .rw[if_pos e,if_pos e]; exact r.repl k ry
 .rw[if_neg e,if_neg e]; exact Paired.snoc r ⟨rfl,ry⟩
theorem KV.length{kvs:List (κ×V)}{vs:List (κ×Value)}(r:KV kvs vs):kvs.length=vs.length:=Paired.length r
end
theorem kV_is{P:Program}{w:World}{k:Key}{u:Value}(r:RelV (kV k) u):(mixKind P w).is k u=true:=by
 cases k with
 | inl i=>obtain⟨t,e⟩:=(show ∃t,u=Value.int i t from r); subst e; exact mixKind_int P w i t
 | inr x=>obtain⟨t,e⟩:=(show ∃t,u=Value.str x t from r); subst e; exact mixKind_str P w x t
theorem items_are{P:Program}{w:World}:∀{ks:List Key} {us:List Value},Vals (ks.map kV) us→ItemsAre (mixKind P w) ks us
 | [],_,r=>by rw[List.map_nil] at r; cases r; exact .nil
 | k::ks,_,r=>by
  rw[List.map_cons] at r
  cases r with
  | cons h t=>exact .cons (kV_is h) (items_are t)
abbrev KT(H:Hp):List (List Key×V)→List (List Key×Addr×Value)→Prop:=Paired fun p q=>p.1=q.1∧H q.2.1=some (.tup (p.1.map kV))∧RelV p.2 q.2.2
theorem KT.val{H:Hp}{kvs:List (List Key×V)}{xs:List (List Key×Addr×Value)}(r:KT H kvs xs)(k:List Key):RelO (valV kvs k) ((atKey xs k).map (·.2)):=by
 induction r with
 | nil=>exact True.intro
 | @cons p q ps qs h t ih=>
  obtain⟨h1,_,h2⟩:=h
  by_cases e:p.1=k
  .have e':q.1=k:=h1.symm.trans e
   have b:atKey (q::qs) k=some q.2:=by simp[atKey,List.find?_cons,e']
   rw[valV_pos e,b]; exact h2
  .have e':¬q.1=k:=fun z=>e (h1.trans z)
   have b:atKey (q::qs) k=atKey qs k:=by simp[atKey,List.find?_cons,e']
   rw[valV_neg e,b]; exact ih
section
variable{P:Program}{w:World}{H:Hp}{h:Heap}{a:Addr}
theorem rd_of{u:HO}(ok:HOk P w H h)(e:Rd H a u):ObjOk P w H h a u:=e.ok ok
theorem dk_rd{kvs:List (Key×V)}(ok:HOk P w H h)(e:Rd H a (.dK kvs)):kvs.length≤sizeLine∧(a==sysModules)=false∧∃vs,KV kvs vs∧h.DictOf (mixKind P w) a vs:=
 show ObjOk P w H h a (.dK kvs) from rd_of ok e
theorem dk_of{kvs:List (Key×V)}(ok:HOk P w H h)(e:H a=some (.dK kvs)):kvs.length≤sizeLine∧(a==sysModules)=false∧∃vs,KV kvs vs∧h.DictOf (mixKind P w) a vs:=dk_rd ok (.inl e)
theorem key_of{ks:List Key}(ok:HOk P w H h)(e:H a=some (.tup (ks.map kV))):(tupleKind (mixKind P w)).is h ks a:=by
 obtain⟨_,its,r,o,h1,h2,n,h3⟩:=(show ObjOk P w H h a (.tup (ks.map kV)) from ok a _ e)
 exact⟨o,its.toArray,n,h1,h2,h3,by simpa using items_are r⟩
theorem dt_rd{kvs:List (List Key×V)}(ok:HOk P w H h)(e:Rd H a (.dT kvs)):kvs.length≤sizeLine∧(a==sysModules)=false ∧
  ∃xs,KT H kvs xs∧h.DictOfH (tupleKind (mixKind P w)) a xs:=by
 obtain⟨z,y,xs,r,o,es,ep,h1,h2,h3,h4,h5⟩:=(show ObjOk P w H h a (.dT kvs) from rd_of ok e)
 refine⟨z,y,xs,r,o,es,ep,h1,h2,h3,h4,fun x hx=>?_,h5⟩
 have all:∀{l:List (List Key×V)} {m:List (List Key×Addr×Value)},KT H l m→∀x∈m,(tupleKind (mixKind P w)).is h x.1 x.2.1:=by
  intro l m q
  induction q with
  | nil=>intro x hx; exact nomatch hx
  | @cons p q ps qs hq t ih=>
   intro x hx
   rcases List.mem_cons.mp hx with e | hx
   .subst e
    exact key_of ok (by rw[←hq.1]; exact hq.2.1)
   .exact ih x hx
 exact all r x hx
end
def DGet(H:Hp)(a:Addr)(y:V)(r:Option V):Prop:=
 (∃kvs k,Rd H a (.dK kvs)∧y=kV k∧r=valV kvs k)∨∃kvs k b,Rd H a (.dT kvs)∧y=.ref b∧H b=some (.tup (k.map kV))∧r=valV kvs k
section
variable{X:Cx}{pins:List (Addr×Obj)}{σ:St}{H:Hp}{s:Shared}{a:Addr}{y v:V}{u r:Value}{o:Option V}{A:Around}{E:Value→Shared→Prop}
theorem Inv.big(I:Inv X pins σ H s):sysModules<s.heap.objs.size:=by
 have h:mainGlobals<s.heap.objs.size:=(I.mod.glob.keeps I.bk).lt
 exact Nat.lt_trans (by decide) h
theorem d_write{h':Heap}{t':Nat}{ob:HO}(I:Inv X pins σ H s)(mu:Mut (H a))(hs:Heap.SameBut a s.heap h')(he:∃q,h'.get? a=some q)(new:ObjOk X.prog X.w (upd H a ob) h' a ob) :
  Inv X pins σ (upd H a ob) { s with heap:=h',toks:=t' }:=
 I.write (x:=a) (e:=a) mu (.inl rfl) (fun b q hb z=>(hs.2 b hb).trans z) he new
theorem dk_new{P:Program}{w:World}{H':Hp}{h':Heap}{kvs:List (Key×V)}{vs:List (Key×Value)}(z:kvs.length≤sizeLine)(hd:(a==sysModules)=false)(rel:KV kvs vs)(dd:h'.DictOf (mixKind P w) a vs) :
  ObjOk P w H' h' a (.dK kvs):=⟨z,hd,vs,rel,dd⟩
end
theorem dk_empty{P:Program}{w:World}{H:Hp}(h:Heap)(hb:sysModules<h.objs.size):ObjOk P w H (h.push { cls:=.type "dict",data:=.dict #[] }) h.objs.size (.dK []):=
 ⟨Nat.zero_le _,beq_eq_false_iff_ne.mpr (Ne.symm (Nat.ne_of_lt hb)),[],.nil,Heap.DictOf.new h⟩
def tDNewK:TE:=fun _ H Q=>∀p,H p=none→Q (.ref p) (upd H p (.dK []))
section
variable{X:Cx}{pos:Pos}
theorem pe_dnewK:PE X (.Dict [] [] pos) tDNewK:=fun pins s σ H Q I h=>
 wpAny_Dict_empty ⟨.ref s.heap.objs.size,_,I.laid (a:=s.heap.objs.size) (o:=.dK []) (t':=s.toks) (fun _ _ q=>Heap.get?_push_of_some _ q) (Nat.le_refl _) (dk_empty s.heap I.big),rfl,h _ (I.hok.fresh (Nat.le_refl _))⟩
end
def tPairs:List (TE×TE)→St→Hp→(List (V×V)→Hp→Prop)→Prop
 | [],_,H,Q=>Q [] H
 | (tk,tv)::r,σ,H,Q=>tk σ H fun x H1=>tv σ H1 fun y H2=>tPairs r σ H2 fun ps H3=>Q ((x,y)::ps) H3
abbrev VV:List (V×V)→List (Value×Value)→Prop:=Paired fun p q=>RelV p.1 q.1∧RelV p.2 q.2
def PPs(X:Cx)(pos:Pos)(keys:List (Option Expr))(values:List Expr)(trs:List (TE×TE)):Prop:=
 ∀(pins:List (Addr×Obj)) (s:Shared) (σ:St) (H:Hp) (Q:List (V×V)→Hp→Prop),Inv X pins σ H s→tPairs trs σ H Q→
  wpAny (model X.prog X.w) X.A (evalPairs (pairTrees keys values X.env pos)) (fun vs s'=>∃ps H',Inv X pins σ H' s'∧VV ps vs∧Q ps H') X.xe s
theorem pps_nil{X:Cx}{pos:Pos}:PPs X pos [] [] []:=fun pins s σ H Q I h=>pairTrees_nil_walk ⟨[],H,I,.nil,h⟩
theorem pps_cons{X:Cx}{pos:Pos}{k v:Expr}{ks:List (Option Expr)}{vs:List Expr}{tk tv:TE}{trs:List (TE×TE)}(hk:PE X k tk)(hv:PE X v tv)(hr:PPs X pos ks vs trs) :
  PPs X pos (some k::ks) (v::vs) ((tk,tv)::trs):=fun pins s σ H Q I h=>
 pairTrees_cons_walk (thn (hk pins s σ H _ I h) fun u s1 ⟨x,H1,I1,rx,q1⟩=>thn (hv pins s1 σ H1 _ I1 q1) fun w2 s2 ⟨y,H2,I2,ry,q2⟩=>
  thn (hr pins s2 σ H2 _ I2 q2) fun ws s3 ⟨ps,H3,I3,rel,q3⟩=>⟨(x,y)::ps,H3,I3,.cons ⟨rx,ry⟩ rel,q3⟩)
def mergeK(kvs more:List (Key×V)):List (Key×V):=more.foldl (fun acc kv=>putK acc kv.1 kv.2) kvs
theorem KV.merge:∀{more:List (Key×V)} {rs:List (Key×Value)} {kvs:List (Key×V)} {vs:List (Key×Value)},KV more rs→KV kvs vs→KV (mergeK kvs more) (merged vs rs):=by
 intro more rs kvs vs r
 unfold KV at r
 induction r generalizing kvs vs with
 | nil=>intro q; exact q
 | @cons p q ps qs h t ih=>
  intro r0
  have e:KV (putK kvs p.1 p.2) (stored vs q.1 q.2):=by
   have:=r0.put p.1 h.2
   rw[←h.1]; exact this
  exact ih e
theorem length_mergeK:∀(more kvs:List (Key×V)),(mergeK kvs more).length≤kvs.length+more.length
 | [],kvs=>by show kvs.length≤kvs.length+0; omega
 | p::r,kvs=>by
  have h1:=length_mergeK r (putK kvs p.1 p.2)
  have h2:=length_putK kvs p.1 p.2
  show(mergeK (putK kvs p.1 p.2) r).length≤_
  rw[List.length_cons]; omega
theorem carries_of{P:Program}{w:World}:∀{kvs:List (Key×V)} {ws:List (Value×Value)},VV (kvs.map fun kv=>(kV kv.1,kv.2)) ws→∃rs,Carries (mixKind P w) ws rs∧KV kvs rs
 | [],_,r=>by rw[List.map_nil] at r; cases r; exact⟨[],True.intro,.nil⟩
 | p::kvs,_,r=>by
  rw[List.map_cons] at r
  cases r with
  | @cons a b as bs h t=>
   obtain⟨rs,c,q⟩:=carries_of (P:=P) (w:=w) t
   obtain⟨b1,b2⟩:=b
   exact⟨(p.1,b2)::rs,⟨kV_is h.1,rfl,c⟩,.cons ⟨rfl,h.2⟩ q⟩
def tDisp(trs:List (TE×TE)):TE:=fun σ H Q=>∀p,H p=none→tPairs trs σ (upd H p (.dK [])) fun ps H2=>H2 p=some (.dK [])∧∃kvs:List (Key×V),ps=kvs.map (fun kv=>(kV kv.1,kv.2))∧kvs.length≤15∧Q (.ref p) (upd H2 p (.dK (mergeK [] kvs)))
theorem pe_disp{X:Cx}{pos:Pos}{keys:List (Option Expr)}{values:List Expr}{trs:List (TE×TE)}(h:PPs X pos keys values trs)(hall:keys.all (·.isSome)=true)(hl:keys.length=values.length)(h0:keys≠[])
  (h15:keys.length≤15):PE X (.Dict keys values pos) (tDisp trs):=by
 intro pins s σ H Q I q
 have hn:=I.hok.fresh (Nat.le_refl s.heap.objs.size)
 have I1:=I.laid (a:=s.heap.objs.size) (o:=.dK []) (h':=s.heap.push { cls:=.type "dict",data:=.dict #[] }) (t':=s.toks) (fun _ _ q=>Heap.get?_push_of_some _ q) (Nat.le_refl _) (dk_empty s.heap I.big)
 refine wpAny_Dict_walk (knd:=mixKind X.prog X.w) hall hl h0 h15 (thn (h pins _ σ _ _ I1 (q _ hn)) fun ws s2 ⟨ps,H2,I2,rel,e,kvs,ep,lk,q2⟩=>?_)
 subst ep
 obtain⟨rs,c,rk⟩:=carries_of (P:=X.prog) (w:=X.w) rel
 obtain⟨z,hd,vs0,r0,dd⟩:=dk_of I2.hok e
 cases r0
 refine⟨rs,c,dd,fun h' dd' hs=>⟨.ref s.heap.objs.size,_,?_,rfl,q2⟩⟩
 have hz:(mergeK [] kvs).length≤sizeLine:=by
  have h1:=length_mergeK kvs []
  rw[List.length_nil] at h1
  rw[sizeLine_eq]; omega
 have he:∃q,h'.get? s.heap.objs.size=some q:=let ⟨q,_,_,hq,_⟩:=dd'; ⟨q,hq⟩
 exact d_write I2 (by rw[e]; exact True.intro) hs he (dk_new hz hd (rk.merge .nil) dd')
structure M2(X:Cx)(o:Expr)(m:Str)(apos:Pos)(e f:Expr)(cpos:Pos):Prop where
 base:attributeBase o m X.env (eval o X.env)=eval o X.env
 few:((backTo cpos (starEach [e,f] X.env)).all (fun x=>!x.1)&&(backToKw cpos (keywordEach [] X.env)).all (fun x=>x.1.isSome)
  && decide (([e,f]:List Expr).length+([]:List Keyword).length+(if ([]:List Keyword).isEmpty then 0 else 1)<30))=true
 line:(apos.endLine==cpos.line)=true
 trees:backTo cpos (starEach [e,f] X.env)=[(false,eval e X.env),(false,eval f X.env)]
def IsD(H:Hp)(a:Addr):Prop:=(∃kvs,Rd H a (.dK kvs))∨∃kvs,Rd H a (.dT kvs)
theorem isD_at{X:Cx}{pins:List (Addr×Obj)}{σ:St}{H:Hp}{s:Shared}{a:Addr}(I:Inv X pins σ H s)(d:IsD H a) :
  s.TypeIs (.ref a) "dict" ∧ (∀b,Value.ref a=.ref b→∃ob,s.heap.get? b=some ob∧ob.dict=none)∧(a==sysModules)=false:=by
 rcases d with ⟨kvs,e⟩ | ⟨kvs,e⟩
 .obtain⟨_,hd,vs,_,dd⟩:=dk_rd I.hok e
  refine⟨dd.typeIs,fun b q=>?_,hd⟩
  cases q
  obtain⟨ob,_,_,h1,h2,_⟩:=dd
  exact⟨ob,h1,h2.2.1⟩
 .obtain⟨_,hd,xs,_,dd⟩:=dt_rd I.hok e
  refine⟨dd.typeIs,fun b q=>?_,hd⟩
  cases q
  obtain⟨ob,_,_,h1,h2,_⟩:=dd
  exact⟨ob,h1,h2.2.1⟩
section
variable{X:Cx}{pins:List (Addr×Obj)}{σ:St}{H:Hp}{s:Shared}{a:Addr}{y d:V}{u r:Value}{o:Option V}{A:Around}{E:Value→Shared→Prop}
theorem d_get2{Q:Value→Shared→Prop}(hu:A.units+1<cLine)(I:Inv X pins σ H s)(g:DGet H a y o)(ry:RelV y u)(rd:RelV d r)(h:∀w' s',Inv X pins σ H s'→RelV (o.getD d) w'→Q w' s') :
  wpAny (model X.prog X.w) A (call (.builtin "dict.get") [.ref a,u,r]) Q E s:=by
 rcases g with ⟨kvs,k,e,ey,l⟩ | ⟨kvs,k,b,e,ey,eb,l⟩
 .subst ey
  obtain⟨z,hd,vs,rel,dd⟩:=dk_rd I.hok e
  refine call_meetsIn PySem.F.slot_dict_get dd.typeIs PySem.F.entry_dict_get (PySem.F.args_dict_get_3 _ _ _) (meets_dict_get_default (mixKind X.prog X.w) a (kV_is ry) hd r) ⟨_,dd.mapOf,h _ _ (I.tok _) ?_⟩
  rw[l]
  exact(rel.val k).getD rd
 .subst ey
  cases (show u=Value.ref b from ry)
  obtain⟨z,hd,xs,rel,dd⟩:=dt_rd I.hok e
  refine call_meetsIn PySem.F.slot_dict_get dd.typeIs PySem.F.entry_dict_get (PySem.F.args_dict_get_3 _ _ _) (meetsH_dict_get_default (tupleKind (mixKind X.prog X.w)) a b hd r) ⟨tupleKind_room_in1 hu,k,xs,key_of I.hok eb,dd,h _ _ (I.tok _) ?_⟩
  rw[l]
  exact(rel.val k).getD rd
end
def tDGet2(td ty tx:TE):TE:=fun σ H Q=>td σ H fun x H1=>∃a,x=.ref a∧IsD H1 a∧ty σ H1 fun y H2=>tx σ H2 fun z H3=>∃o,DGet H3 a y o∧Q (o.getD z) H3
section
variable{X:Cx}{o e f:Expr}{apos cpos:Pos}{td ty tx:TE}
theorem pe_dget2(hu:X.A.units+1<cLine)(ho:PE X o td)(he:PE X e ty)(hf:PE X f tx)(m:M2 X o "get" apos e f cpos):PE X (.Call (.Attribute o "get" apos) [e,f] [] cpos) (tDGet2 td ty tx):=by
 intro pins s σ H Q I h
 refine wpAny_Call_method m.base m.few m.line PySem.F.plainAttrs_dict PySem.F.slot_dict_get PySem.F.type_dict_get (thn (ho pins s σ H _ I h) fun u s1 ⟨x,H1,I1,rx,a,ex,d,q1⟩=>?_)
 subst ex
 obtain rfl:u=Value.ref a:=rx
 obtain⟨t1,t2,_⟩:=isD_at I1 d
 refine⟨t1,t2,?_⟩
 rw[m.trees]
 refine Calls.callWith_builtin rfl (Calls.evalArgs_plain (Calls.spliced_cons (thn (he pins s1 σ H1 _ I1 q1) fun iv s2 ⟨y,H2,I2,ry,q2⟩=>
  Calls.spliced_cons (thn (hf pins s2 σ H2 _ I2 q2) fun fv s3 ⟨z,H3,I3,rz,ov,g,q3⟩=>Calls.spliced_nil ?_))))
 exact d_get2 hu I3 g ry rz fun w' s4 I4 rw'=>⟨_,H3,I4,rw',q3⟩
end
section
variable{X:Cx}{pins:List (Addr×Obj)}{σ:St}{H:Hp}{s:Shared}{a:Addr}{kvs:List (Key×V)}{A:Around}{E:Value→Shared→Prop}
theorem d_copyOf{Q:Value→Shared→Prop}(I:Inv X pins σ H s)(e:Rd H a (.dK kvs))(h:∀p s',H p=none→Inv X pins σ (upd H p (.dK kvs)) s'→Q (.ref p) s'):wpAny (model X.prog X.w) A (call (.type "dict") [.ref a]) Q E s:=by
 obtain⟨z,hd,vs,rel,dd⟩:=dk_rd I.hok e
 refine kt_call_dict hd dd (by rw[←rel.length]; exact z) fun h' dd' hs=>?_
 refine h _ _ (I.hok.fresh (Nat.le_refl _)) (I.laid (a:=s.heap.objs.size) (o:=.dK kvs) (t':=s.toks) (fun b q hq=>?_) (Nat.le_refl _) (dk_new z (beq_eq_false_iff_ne.mpr (Ne.symm (Nat.ne_of_lt I.big))) rel dd'))
 exact(hs.2 b (Nat.ne_of_lt (Heap.lt_size hq))).trans (Heap.get?_push_of_some _ hq)
end
end L2
namespace Att
open PySem PySem.W PySem.Calls PyProof.Rows
theorem ints_of_wellAll{P:Params}{h:Heap}:∀(ns:List Int) (vs:List Value),WellAll P h vs (ns.map WData.int)→IntsAre vs ns:=by
 intro ns
 induction ns with
 | nil=>
  intro vs w
  rw[List.map_nil] at w
  cases w
  exact .nil
 | cons n ns ih=>
  intro vs w
  rw[List.map_cons] at w
  cases w with
  | cons a b=>
   cases a
   exact .cons _ _ (ih _ b)
theorem script_of{l:OpenLaw}{n:Nat}(hn:l.most=some n){P:Params}{h:Heap}{args:List WData}{vals:List Value}
  (hpre:l.row.toRowW.claim.pre args=true) (hwl:WellAll P h vals args) :
  ∃a vs ns,vals=[Value.ref a]∧args=[WData.list (ns.map WData.int)]∧h.get? a=some { cls:=.type "list",data:=.seq vs.toArray }∧IntsAre vs ns∧ns.length≤n:=by
 have hsh:WShape.hasAll [] args [.list .int]=true:=(pre_splitW hpre).1
 have hc:l.pre.holds [] { args:=args }=true:=(pre_splitW hpre).2
 obtain⟨d,r,rfl,h1,h2⟩:=hasAllW_cons hsh
 obtain rfl:=hasAllW_nil h2
 obtain⟨xs,rfl,h3⟩:=hasW_list h1
 obtain⟨ns,rfl⟩:=items_int h3
 have hlen:ns.length≤n:=by
  unfold OpenLaw.pre at hc
  have h4:(WTm.not (.lt (.lit (.int (n:Int))) (.len (.arg 0)))).holds [] { args:=[.list (ns.map .int)] }=true:=by
   have h4:=(holds_andW hc).1
   rw[hn] at h4
   exact h4
  have h5:=condW_of h4 (w_not (w_lt w_lit (w_len_list (w_arg rfl))))
  rw[List.length_map] at h5
  refine Nat.le_of_not_lt fun q=>?_
  have q':(n:Int)<((ns.length:Nat):Int):=by omega
  first
   | (rw[decide_eq_true q'] at h5; exact absurd h5 (by decide))
   | (simp at h5; omega)
 cases hwl with
 | cons w1 w2=>
  cases w2
  cases w1 with
  | list ho hall=>exact⟨_,_,ns,rfl,rfl,ho,ints_of_wellAll ns _ hall,hlen⟩
theorem post_true(l:OpenLaw)(args:List WData):l.row.toRowW.claim.post args (.bool true) args=true:=
 postW_of (r:=l.row.toRowW) (X:=(true==true))
  (show WShape.has [] (.bool true) .bool=true by first | rfl | decide | simp[WShape.has,WShape.arms,WShape.armsAll])
  (show(WTm.eq .res (.lit (.bool true))).value [] { args:=args,res:=some (.bool true),after:=args }=some (.bool (true==true)) from w_eq_bool (w_res rfl) w_lit) rfl
theorem attach_call{l:OpenLaw}{n:Nat}{q:Program}{loose:List Str}{XP:(Str→Option Value)→Heap→Prop}{YP:World→Heap→Prop}{d:DefRec}
  (hn:l.most=some n) (hdf:d.params.defaults=[])
  (call:∀(w:World) (s₀ s₁:Shared) (mg mb:Str→Option Value) (fa:Addr) (o:Obj) (pm cd doc:Value) (a:Addr) (vs:List Value) (ns:List Int),
   Ground q loose [] XP w s₀ mg mb s₁.heap→YP w s₁.heap→
   s₁.heap.get? fa=some o→o.data=.func (docDef d.name d.params d.body d.scope pm cd doc)→s₁.heap.CodeRec cd d.name→mg d.name=some (.ref fa)→
   s₁.heap.get? a=some { cls:=.type "list",data:=.seq vs.toArray }→IntsAre vs ns→ns.length≤n→s₁.gens = #[]→
   codeAny (model l.prog w) callerA (.call (.ref fa) ⟨[.ref a],[]⟩) (fun r s'=>r=.ok (.ret (.bool true))∧OldK s₁.heap s'.heap∧s'.os=s₁.os∧AllBare s'.gens) s₁) :
  WalkO q loose XP YP l.row.toRowW d [] (fun f vs=>PySem.call f vs):=by
 intro w s₀ s₁ mg mb G Y fa o pm cd doc dV kV ho hd hcd hD hmg hg args vals as hpre hlay hrd hwl hlo
 obtain rfl:dV=.none:=Dflts.none hD hdf
 obtain rfl:kV=.none:=Dflts.noKw hD
 obtain⟨a,vs,ns,rfl,rfl,hobj,hints,hlen⟩:=script_of hn hpre hwl
 refine enter_call (codeAny_mono (call w s₀ s₁ mg mb fa o pm cd doc a vs ns G Y ho (fd_plain hd) hcd hmg hobj hints hlen hg) fun r s' hq=>?_)
 obtain⟨rfl,h2,h3,h4⟩:=hq
 exact⟨.inl ⟨.bool true,.bool true,[],rfl,fun _=>rfl,.bool true,post_true l _,fun _=>⟨List.Pairwise.nil,fun _ hm=>(nomatch hm)⟩⟩,h2,h3,h4⟩
end Att
namespace L2
open PySem PySem.Spec PyProof.Rows
theorem vals_ints:∀{vs:List Value} {ns:List Int},IntsAre vs ns→Vals (ns.map V.int) vs
 | _,_,.nil=>.nil
 | _,_,.cons n t h=>.cons ⟨t,rfl⟩ (vals_ints h)
def Only(H:Hp):Prop:=∀b,H b=none∨∃o xs,H b=some (.frz o (.lst xs))
theorem law_call{P:Program}{w:World}{K:PySem.W.Frag}{mg mb:Str→Option Value}{CX:CXT}{k:Nat}{fa a:Addr}{fd:FuncData}{x:Str}{sp:Sp}{s₁:Shared}{vs:List Value}{ns:List Int}
  (KX:K.In s₁.heap) (hns:s₁.heap.Ns mainGlobals mg) (hb:s₁.heap.Ns builtinsNs mb) (hbb:∀x:Str,x≠"__name__"→mb x=bootBuiltins x) (hlim:s₁.heap.NoLimit) (hg:s₁.gens = #[])
  (ha:s₁.heap.get? a=some { cls:=.type "list",data:=.seq vs.toArray }) (hi:IntsAre vs ns) (hl:ns.length≤sizeLine) (hr:Room k callerA)
  (F:∀base:Heap,K.In base→base.Ns mainGlobals mg→FnOk P w K mg base CX k fa fd [x] sp) (hbind:∀(s:Shared) (u:Value),BindsTo s fd ⟨[u],[]⟩ [(x,u)])
  (hsp:∀H:Hp,Only H→SqL K H a (ns.map V.int)→sp [.ref a] H (fun v _=>v=.bl true) fun _ _ _=>False)
  (hCX:∀H e s',CX [] H s₁ (fun _ _ _=>False) e s'→False) :
  codeAny (model P w) callerA (.call (.ref fa) ⟨[.ref a],[]⟩) (fun r s'=>r=.ok (.ret (.bool true))∧OldK s₁.heap s'.heap∧s'.os=s₁.os∧AllBare s'.gens) s₁:=by
 have rv:=vals_ints hi
 have lenV:=hi.length
 have core:∀H:Hp,Only H→SqL K H a (ns.map V.int)→HOk P w H s₁.heap→(∀b,H b≠none→b=a)→(H a≠none→K.lookup a=none)→
   codeAny (model P w) callerA (.call (.ref fa) ⟨[.ref a],[]⟩) (fun r s'=>r=.ok (.ret (.bool true))∧OldK s₁.heap s'.heap∧s'.os=s₁.os∧AllBare s'.gens) s₁:=by
  intro H hO hS hok hA hK
  have base_of:∀{b:Addr} {o:Obj},s₁.heap.get? b=some o→H b=none→(hidT s₁.heap H).get? b=some o:=fun e n=>hidT_get e n
  have noA:∀{b:Addr} {o:Obj} {es:Array DictEntry} {ep:Nat},s₁.heap.get? b=some o→o.data=.dict es ep→H b=none:=fun {b o es ep} e d=>by
   cases q:H b with
   | none=>rfl
   | some u=>
    have e':b=a:=hA b (by rw[q]; simp)
    subst e'
    rw[ha] at e; cases e
    have d':Data.seq vs.toArray _=Data.dict es ep:=d
    cases d'
  have nsK:∀{b:Addr} {m:Str→Option Value},s₁.heap.Ns b m→(hidT s₁.heap H).Ns b m:=fun {b m} ⟨o,es,ep,e,d,r⟩=>⟨o,es,ep,base_of e (noA e d),d,r⟩
  have hKb:K.In (hidT s₁.heap H):=fun b o e=>base_of (KX b o e) (by
   cases q:H b with
   | none=>rfl
   | some u=>
    have e':b=a:=hA b (by rw[q]; simp)
    subst e'
    rw[hK (by rw[q]; simp)] at e; cases e)
  have hM:Mod K mg (hidT s₁.heap H):=⟨hKb,nsK hns,⟨mb,nsK hb,hbb⟩,let ⟨mc,h1,h2⟩:=hlim; ⟨mc,nsK h1,h2⟩⟩
  have e0:Env0 P w K mg (hidT s₁.heap H) callerA [] s₁ H:=⟨rfl,hM,fun b o e=>of_hidT e,Nat.le_of_eq (hidT_size _ _),trivial,fun b hb=>absurd (show b∈([]:List Addr) from hb) (by simp),hok,.of_eq hg⟩
  refine codeAny_mono ((F _ hKb (nsK hns)).run callerA [] s₁ H ⟨[.ref a],[]⟩ [.ref a] [.ref a] _ _ hr e0 (hbind s₁ (.ref a)) (.cons rfl .nil) (hsp H hO hS)) fun r s' h=>?_
  cases r with
  | error e=>exact(hCX H e s' h).elim
  | ok fl=>
   cases fl with
   | next=>exact False.elim h
   | brk=>exact False.elim h
   | cont=>exact False.elim h
   | ret u=>
    obtain⟨v,H',os,bare,un,hok',r',q⟩:=h
    have q':v=.bl true:=q
    subst q'
    obtain rfl:u=Value.bool true:=r'
    refine⟨rfl,OldK.of_keep fun b o e=>?_,os,bare⟩
    cases q:H b with
    | none=>exact un.keep b o e q (by intro z; exact absurd (show b∈([]:List Addr) from z) (by simp)) (by simp)
    | some u=>
     rcases hO b with z | ⟨ob,xs,z⟩
     .rw[q] at z; cases z
     .have z2:=un.frzs b ob _ z
      obtain⟨e1,_⟩:=hok b _ z
      obtain⟨e2,_⟩:=hok' b _ z2
      rw[e] at e1; cases e1
      exact e2
 cases hk:K.lookup a with
 | some o=>
  have e:=KX a o hk
  rw[ha] at e
  cases e
  refine core (fun _=>none) (fun _=>.inl rfl) (.inr ⟨_,vs.toArray,_,hk,rfl,rfl,rfl,by rw[List.size_toArray,lenV]; exact hl,by simpa using rv⟩) (fun b u z=>by have z':(none:Option HO)=some u:=z; cases z') (fun b z=>absurd rfl z) fun z=>absurd rfl z
 | none=>
  refine core (fun b=>if b=a then some (.frz { cls:=.type "list",data:=.seq vs.toArray } (.lst (ns.map V.int))) else none) (fun b=>?_) (.inl (.inr ⟨{ cls:=.type "list",data:=.seq vs.toArray },if_pos rfl⟩)) (fun b u z=>?_) (fun b z=>?_) fun _=>hk
  .by_cases hb:b=a
   .exact .inr ⟨_,_,if_pos hb⟩
   .exact .inl (if_neg hb)
  .by_cases hb:b=a
   .have z':=(if_pos hb).symm.trans z
    cases z'
    subst hb
    exact⟨ha,by rw[List.length_map]; exact hl,vs,_,rv,ha⟩
   .have z':=(if_neg hb).symm.trans z
    cases z'
  .by_cases hb:b=a
   .exact hb
   .exact absurd (if_neg hb) z
end L2
namespace L2
open PySem PySem.Spec PyProof.Rows
end L2
namespace L2
open PySem PySem.Spec PyProof.Rows
def defArgs(s:Stmt):Arguments:=match s with
 | .FunctionDef _ a _ _ _ _ _ _ _ _=>a
 | _=>{ posonlyargs:=[],args:=[],vararg:=none,kwonlyargs:=[],kw_defaults:=[],kwarg:=none,defaults:=[] }
def defBody(s:Stmt):List Stmt:=match s with
 | .FunctionDef _ _ b _ _ _ _ _ _ _=>b
 | _=>[]
def defScope(s:Stmt):Scope:=match s with
 | .FunctionDef _ _ _ _ _ _ sc _ _ _=>sc
 | _=>{ kind:=.function,names:=[],isGenerator:=false,isCoroutine:=false }
abbrev CX0:CXT:=fun _ _ _ _ _ _=>False
abbrev E0:XK:=fun _ _ _=>False
theorem pass0{X:Cx}:Passes CX0 X E0:=fun _ _ _ _ _ _ _ h=>h.elim
structure Fun(K:PySem.W.Frag)(x qual:Str)(st:Stmt)(f:Addr)(fd:FuncData):Prop where
 ex:∃(oc:Value) (od:Option Addr) (kV doc pm:Value) (an:Option Addr) (cdv ct:Value) (osl:Array (Option Value)),
  fd=PySem.W.fnOf x qual (defArgs st) (defBody st) (defScope st) .none kV doc pm an cdv ct∧K.lookup f=some ⟨oc,od,.func fd,osl⟩∧PySem.W.codeIn K cdv qual=true
 kp:PySem.W.keepIn K (.ref f)=true
section
variable{P:Program}{w:World}{K:PySem.W.Frag}{mg:Str→Option Value}{base:Heap}
theorem Fun.ok{x qual:Str}{st:Stmt}{f:Addr}{fd:FuncData}{N ps:List Str}{k:Nat}{sp:Sp}(F:Fun K x qual st f fd)(S:FnScope N ps (defScope st))(len:∀vs H Q E,sp vs H Q E→vs.length=ps.length)
  (hbody:∀(cdv:Value) (A:Around) (outer:List Env) (s:Shared) (H:Hp) (vs:List V) (Q:VK) (E:XK),Room k (A.deeper (envOfC qual (defScope st) s.heap.objs.size f cdv))→sp vs H Q E→
   ∃t,PSs (cxOf CX0 P w K mg base N qual (defScope st) f cdv A outer s H E).nox (defBody st) t∧t { nx:=fun _ H'=>Q .non H',rt:=Q } (start N vs) H):FnOk P w K mg base CX0 (k+1) f fd ps sp:=by
 obtain⟨oc,od,kV,doc,pm,an,cdv,ct,osl,rfl,lk,hcd⟩:=F.ex
 refine fn_of lk hcd S len fun A outer s H vs Q E hr hsp=>?_
 obtain⟨t,h,q⟩:=hbody cdv A outer s H vs Q E hr hsp
 exact⟨t,h.nox,q⟩
theorem Fun.binds{x qual:Str}{st:Stmt}{f:Addr}{fd:FuncData}{ps:List Str}(F:Fun K x qual st f fd)
  (h:∀(kV doc pm:Value) (an:Option Addr) (cdv ct:Value) (us:List Value),us.length=ps.length→bindArgs (PySem.W.fnOf x qual (defArgs st) (defBody st) (defScope st) .none kV doc pm an cdv ct) ⟨us,[]⟩=pure (ps.zip us)):Binds K fd ps []:=by
 obtain⟨oc,od,kV,doc,pm,an,cdv,ct,osl,rfl,lk,hcd⟩:=F.ex
 exact .all (h kV doc pm an cdv ct)
theorem fun_mk{x qual:Str}{st:Stmt}{f:Addr}{oc:Value}{od an:Option Addr}{osl:Array (Option Value)}{kV doc pm cdv ct:Value}(l:K.lookup f=some ⟨oc,od,.func (PySem.W.fnOf x qual (defArgs st) (defBody st) (defScope st) .none kV doc pm an cdv ct),osl⟩)
  (c:PySem.W.codeIn K cdv qual=true) (k:PySem.W.keepIn K (.ref f)=true):Fun K x qual st f (PySem.W.fnOf x qual (defArgs st) (defBody st) (defScope st) .none kV doc pm an cdv ct):=⟨⟨oc,od,kV,doc,pm,an,cdv,ct,osl,rfl,l,c⟩,k⟩
end
end L2
end
set_option bootstrap.genMatcherCode false
set_option genSizeOf false
set_option genSizeOfSpec false
namespace ML
open PySem PySem.Spec PyProof.Rows L2
inductive W where
 | non | bl (b:Bool) | int (i:Int) | str (x:Str) | tup (l:List W) | fls (l:List W) | ref (n:Nat) | fdc (l:List (Key×W)) | fn (a:Addr)
 deriving Inhabited
inductive MO where
 | lst (l:List W) | dic (l:List (Key×W)) | ins (c:Nat) (fs:List (Str×W))
abbrev MH:=List MO
abbrev M(α:Type):=MH→Option (α×MH)
abbrev En:=List (Option W)
abbrev ME:=En→M W
abbrev MT:=En→M Bool
noncomputable def bnd{α β:Type}(m:M α)(f:α→M β):M β:=fun h=>match m h with
 | some (a,h')=>f a h'
 | none=>none
theorem bnd_some{α β:Type}{m:M α}{f:α→M β}{h h':MH}{a:α}(e:m h=some (a,h')):bnd m f h=f a h':=by unfold bnd; rw[e]
theorem of_bnd{α β:Type}{m:M α}{f:α→M β}{h:MH}{r:β×MH}(e:bnd m f h=some r):∃a h',m h=some (a,h')∧f a h'=some r:=by
 unfold bnd at e
 split at e
 .rename_i a h' e'
  exact⟨a,h',e',e⟩
 .cases e
noncomputable def SqF(K:PySem.W.Frag)(μ:List Addr)(H:Hp)(a:Addr)(vs:List V):Prop:=(Rd H a (.lst vs)∧a∉μ) ∨
 ∃(o:Obj) (its:Array Value) (n:Nat),K.lookup a=some o∧o.cls=.type "list" ∧ o.dict=none∧o.data=.seq its n∧its.size≤sizeLine∧Vals vs its.toList
theorem SqF.sq{K:PySem.W.Frag}{μ:List Addr}{H:Hp}{a:Addr}{vs:List V}(h:SqF K μ H a vs):SqL K H a vs:=h.elim (fun h=>.inl h.1) .inr
noncomputable def SqD(μ:List Addr)(H:Hp)(a:Addr)(l:List (Key×V)):Prop:=Rd H a (.dK l)∧a∉μ
section rel
variable(K:PySem.W.Frag)(cl:Nat→Addr)(μ:List Addr)(H:Hp)
mutual
inductive RW:W→V→Prop
 | non:RW .non .non
 | bl (b:Bool):RW (.bl b) (.bl b)
 | int (i:Int):RW (.int i) (.int i)
 | str (x:Str):RW (.str x) (.str x)
 | tup {a:Addr} {vs:List V} {l:List W}:SqT K H a vs→RWs l vs→RW (.tup l) (.ref a)
 | ref {n:Nat} {a:Addr}:μ[n]?=some a→RW (.ref n) (.ref a)
 | fls {a:Addr} {vs:List V} {l:List W}:SqF K μ H a vs→RWs l vs→RW (.fls l) (.ref a)
 | fdc {a:Addr} {l:List (Key×W)} {l':List (Key×V)} {ws:List W} {vs:List V}:SqD μ H a l'→l.map (·.1)=l'.map (·.1)→ws=l.map (·.2)→vs=l'.map (·.2)→RWs ws vs→RW (.fdc l) (.ref a)
 | fn {a:Addr}:RW (.fn a) (.ref a)
inductive RWs:List W→List V→Prop
 | nil:RWs [] []
 | cons {w:W} {v:V} {l:List W} {vs:List V}:RW w v→RWs l vs→RWs (w::l) (v::vs)
end
noncomputable def RKs{κ:Type}(l:List (κ×W))(l':List (κ×V)):Prop:=l.map (·.1)=l'.map (·.1)∧RWs K μ H (l.map (·.2)) (l'.map (·.2))
noncomputable def OR(a:Addr):MO→Prop
 | .lst l=>∃vs,H a=some (.lst vs)∧RWs K μ H l vs
 | .dic l=>∃l',H a=some (.dK l')∧RKs K μ H l l'
 | .ins c fs=>∃dx fs',H a=some (.ins (cl c) dx fs')∧RKs K μ H fs fs'
structure HR(h:MH):Prop where
 len:μ.length=h.length
 nd:μ.Nodup
 ob:∀(n:Nat) (a:Addr) (o:MO),μ[n]?=some a→h[n]?=some o→OR K cl μ H a o
structure ER(ρ:En)(σ:L2.St):Prop where
 len:ρ.length=σ.length
 at_:∀(i:Nat) (w:W),ρ[i]?=some (some w)→∃v,σ[i]?=some (some v)∧RW K μ H w v
end rel
structure Ext(μ:List Addr)(H:Hp)(μ':List Addr)(H':Hp):Prop where
 pre:μ<+:μ'
 fr:∀b o,H b=some o→b∉μ→H' b=some o∧b∉μ'
section
variable{K:PySem.W.Frag}{cl:Nat→Addr}{μ μ' μ'':List Addr}{H H' H'':Hp}{h h':MH}
theorem Ext.refl:Ext μ H μ H:=⟨List.prefix_refl _,fun _ _ e n=>⟨e,n⟩⟩
theorem Ext.trans(a:Ext μ H μ' H')(b:Ext μ' H' μ'' H''):Ext μ H μ'' H'':=
 ⟨a.pre.trans b.pre,fun c o e n=>let ⟨e1,n1⟩:=a.fr c o e n; b.fr c o e1 n1⟩
theorem Ext.get(a:Ext μ H μ' H'){n:Nat}{x:Addr}(e:μ[n]?=some x):μ'[n]?=some x:=by
 obtain⟨r,rfl⟩:=a.pre
 rw[List.getElem?_append_left (List.getElem?_eq_some_iff.mp e).1]; exact e
theorem OR.some{a:Addr}{o:MO}(q:OR K cl μ H a o):∃u,H a=some u∧Mut (some u):=by
 cases o with
 | lst l=>obtain⟨vs,q,_⟩:=q; exact⟨_,q,trivial⟩
 | dic l=>obtain⟨l',q,_⟩:=q; exact⟨_,q,trivial⟩
 | ins c fs=>obtain⟨dx,fs',q,_⟩:=q; exact⟨_,q,trivial⟩
theorem HR.mem_some(R:HR K cl μ H h){a:Addr}(hm:a∈μ):∃u,H a=some u∧Mut (some u):=by
 obtain⟨n,hn⟩:=List.mem_iff_getElem?.mp hm
 have hl:n<h.length:=by rw[←R.len]; exact(List.getElem?_eq_some_iff.mp hn).1
 exact(R.ob n a h[n] hn (List.getElem?_eq_getElem hl)).some
theorem HR.fresh(R:HR K cl μ H h){a:Addr}(e:H a=none):a∉μ:=fun hm=>by
 obtain⟨u,q,_⟩:=R.mem_some hm
 rw[e] at q; cases q
theorem HR.notours(R:HR K cl μ H h){a:Addr}{u:HO}(e:H a=some u)(n:¬Mut (some u)):a∉μ:=fun hm=>by
 obtain⟨u',q,m⟩:=R.mem_some hm
 rw[e] at q; cases q
 exact n m
theorem HR.notup(R:HR K cl μ H h){a:Addr}{xs:List V}(e:Rd H a (.tup xs)):a∉μ:=by
 rcases e with e | ⟨o,e⟩
 .exact R.notours e fun z=>z
 .exact R.notours e fun z=>z
theorem SqF.ext(E:Ext μ H μ' H'){a:Addr}{vs:List V}(e:SqF K μ H a vs):SqF K μ' H' a vs:=by
 rcases e with ⟨e | ⟨o,e⟩,n⟩ | e
 .exact .inl ⟨.inl (E.fr _ _ e n).1,(E.fr _ _ e n).2⟩
 .exact .inl ⟨.inr ⟨o,(E.fr _ _ e n).1⟩,(E.fr _ _ e n).2⟩
 .exact .inr e
theorem SqD.ext(E:Ext μ H μ' H'){a:Addr}{l:List (Key×V)}(e:SqD μ H a l):SqD μ' H' a l:=by
 obtain⟨e | ⟨o,e⟩,n⟩:=e
 .exact⟨.inl (E.fr _ _ e n).1,(E.fr _ _ e n).2⟩
 .exact⟨.inr ⟨o,(E.fr _ _ e n).1⟩,(E.fr _ _ e n).2⟩
theorem SqT.ext(R:HR K cl μ H h)(E:Ext μ H μ' H'){a:Addr}{xs:List V}(e:SqT K H a xs):SqT K H' a xs:=by
 rcases e with e | e
 .have n:=R.notup e
  rcases e with e | ⟨o,e⟩
  .exact .inl (.inl (E.fr _ _ e n).1)
  .exact .inl (.inr ⟨o,(E.fr _ _ e n).1⟩)
 .exact .inr e
mutual
theorem RW.ext(R:HR K cl μ H h)(E:Ext μ H μ' H'):∀{w:W} {v:V},RW K μ H w v→RW K μ' H' w v
 | _,_,.non=>.non
 | _,_,.bl b=>.bl b
 | _,_,.int i=>.int i
 | _,_,.str x=>.str x
 | _,_,.tup s r=>.tup (SqT.ext R E s) (RWs.ext R E r)
 | _,_,.ref e=>.ref (E.get e)
 | _,_,.fls s r=>.fls (SqF.ext E s) (RWs.ext R E r)
 | _,_,.fdc s k e1 e2 r=>.fdc (SqD.ext E s) k e1 e2 (RWs.ext R E r)
 | _,_,.fn=>.fn
theorem RWs.ext(R:HR K cl μ H h)(E:Ext μ H μ' H'):∀{l:List W} {vs:List V},RWs K μ H l vs→RWs K μ' H' l vs
 | _,_,.nil=>.nil
 | _,_,.cons r t=>.cons (RW.ext R E r) (RWs.ext R E t)
end
theorem ER.ext(R:HR K cl μ H h)(E:Ext μ H μ' H'){ρ:En}{σ:L2.St}(e:ER K μ H ρ σ):ER K μ' H' ρ σ:=
 ⟨e.len,fun i w q=>let ⟨v,q1,r⟩:=e.at_ i w q; ⟨v,q1,r.ext R E⟩⟩
theorem RWs.length:∀{l:List W} {vs:List V},RWs K μ H l vs→l.length=vs.length
 | _,_,.nil=>rfl
 | _,_,.cons _ t=>congrArg (· + 1) (RWs.length t)
theorem RWs.get:∀{l:List W} {vs:List V} {i:Nat} {w:W},RWs K μ H l vs→l[i]?=some w→∃v,vs[i]?=some v∧RW K μ H w v
 | _,_,_,_,.nil,e=>by simp at e
 | _,_,0,_,.cons r _,e=>by simp at e; subst e; exact⟨_,rfl,r⟩
 | _,_,i+1,w,.cons _ t,e=>by
  obtain⟨v,h1,h2⟩:=RWs.get (i:=i) (w:=w) t (by simpa using e)
  exact⟨v,by simpa using h1,h2⟩
theorem RWs.append:∀{l l':List W} {vs vs':List V},RWs K μ H l vs→RWs K μ H l' vs'→RWs K μ H (l++l') (vs++vs')
 | _,_,_,_,.nil,s=>s
 | _,_,_,_,.cons r t,s=>.cons r (RWs.append t s)
theorem RWs.take:∀{l:List W} {vs:List V} (n:Nat),RWs K μ H l vs→RWs K μ H (l.take n) (vs.take n)
 | _,_,0,_=>.nil
 | _,_,_+1,.nil=>.nil
 | _,_,n+1,.cons r t=>.cons r (RWs.take n t)
theorem RWs.drop:∀{l:List W} {vs:List V} (n:Nat),RWs K μ H l vs→RWs K μ H (l.drop n) (vs.drop n)
 | _,_,0,r=>r
 | _,_,_+1,.nil=>.nil
 | _,_,n+1,.cons _ t=>RWs.drop n t
theorem RWs.reverse{l:List W}{vs:List V}(r:RWs K μ H l vs):RWs K μ H l.reverse vs.reverse:=by
 have:∀{l:List W} {vs:List V},RWs K μ H l vs→∀{l':List W} {vs':List V},RWs K μ H l' vs'→RWs K μ H (l.reverseAux l') (vs.reverseAux vs'):=by
  intro l vs r
  induction l generalizing vs with
  | nil=>cases r; intro l' vs' s; exact s
  | cons w l ih=>cases r with | cons r t=>intro l' vs' s; exact ih t (.cons r s)
 exact this r .nil
theorem RWs.dropLast:∀{l:List W} {vs:List V},RWs K μ H l vs→RWs K μ H l.dropLast vs.dropLast
 | _,_,.nil=>.nil
 | _,_,.cons _ .nil=>.nil
 | _,_,.cons r (.cons r2 t)=>.cons r (RWs.dropLast (.cons r2 t))
theorem RWs.rep{l:List W}{vs:List V}(r:RWs K μ H l vs):∀k:Nat,RWs K μ H (List.replicate k l).flatten (List.replicate k vs).flatten
 | 0=>.nil
 | k+1=>by
  rw[List.replicate_succ,List.replicate_succ,List.flatten_cons,List.flatten_cons]
  exact r.append (RWs.rep r k)
theorem RWs.ints:∀ns:List Int,RWs K μ H (ns.map W.int) (ns.map V.int)
 | []=>.nil
 | n::r=>.cons (.int n) (RWs.ints r)
theorem OR.ext(R:HR K cl μ H h)(E:Ext μ H μ' H'){a:Addr}{o:MO}(e:H' a=H a)(q:OR K cl μ H a o):OR K cl μ' H' a o:=by
 cases o with
 | lst l=>obtain⟨vs,q,r⟩:=q; exact⟨vs,e.trans q,r.ext R E⟩
 | dic l=>obtain⟨l',q,k,r⟩:=q; exact⟨l',e.trans q,k,r.ext R E⟩
 | ins c fs=>obtain⟨dx,fs',q,k,r⟩:=q; exact⟨dx,fs',e.trans q,k,r.ext R E⟩
theorem Ext.new{p:Addr}{u:HO}(hp:H p=none):Ext μ H (μ++[p]) (upd H p u):=
 ⟨List.prefix_append _ _,fun b o e n=>by
  have ne:b≠p:=ne_of_none e hp
  exact⟨by rw[upd_ne ne]; exact e,by simp[n,ne]⟩⟩
theorem Ext.side{p:Addr}{u:HO}(hp:H p=none):Ext μ H μ (upd H p u):=
 ⟨List.prefix_refl _,fun b o e n=>⟨by rw[upd_ne (ne_of_none e hp)]; exact e,n⟩⟩
theorem HR.side{p:Addr}{u:HO}(R:HR K cl μ H h)(hp:H p=none):HR K cl μ (upd H p u) h:=
 have hm:=R.fresh hp
 ⟨R.len,R.nd,fun n a o e1 e2=>OR.ext R (Ext.side hp) (upd_ne (by rintro rfl; exact hm (List.mem_of_getElem? e1))) (R.ob n a o e1 e2)⟩
theorem HR.new{p:Addr}{u:HO}{o:MO}(R:HR K cl μ H h)(hp:H p=none)(q:OR K cl (μ++[p]) (upd H p u) p o):HR K cl (μ++[p]) (upd H p u) (h++[o]):=by
 have hm:=R.fresh hp
 refine⟨by simp[R.len],?_,fun n a o' e1 e2=>?_⟩
 .rw[List.nodup_append]
  exact⟨R.nd,by simp,by simp; exact fun a ha=>by rintro rfl; exact hm ha⟩
 .by_cases hn:n<μ.length
  .rw[List.getElem?_append_left hn] at e1
   rw[List.getElem?_append_left (by rw[←R.len]; exact hn)] at e2
   exact OR.ext R (Ext.new hp) (upd_ne (by rintro rfl; exact hm (List.mem_of_getElem? e1))) (R.ob n a o' e1 e2)
  .rw[List.getElem?_append_right (by omega)] at e1
   rw[List.getElem?_append_right (by rw[←R.len]; omega)] at e2
   rw[R.len] at e1
   have:n-h.length=0:=by
    by_cases z:n-h.length=0
    .exact z
    .rw[List.getElem?_eq_none (by simp; omega)] at e1; cases e1
   rw[this] at e1 e2
   simp at e1 e2
   subst e1; subst e2
   exact q
theorem Ext.put{n:Nat}{a:Addr}{u:HO}(hn:μ[n]?=some a):Ext μ H μ (upd H a u):=
 ⟨List.prefix_refl _,fun b o e m=>⟨by rw[upd_ne (by rintro rfl; exact m (List.mem_of_getElem? hn))]; exact e,m⟩⟩
theorem HR.put{n:Nat}{a:Addr}{u:HO}{o:MO}(R:HR K cl μ H h)(hn:μ[n]?=some a)(q:OR K cl μ (upd H a u) a o):HR K cl μ (upd H a u) (h.set n o):=by
 refine⟨by simp[R.len],R.nd,fun m b o' e1 e2=>?_⟩
 by_cases hm:m=n
 .subst hm
  rw[hn] at e1; cases e1
  rw[List.getElem?_set_self (by rw[←R.len]; exact(List.getElem?_eq_some_iff.mp hn).1)] at e2
  cases e2
  exact q
 .rw[List.getElem?_set_ne (Ne.symm hm)] at e2
  have ne:b≠a:=by
   rintro rfl
   obtain⟨h1,e1'⟩:=List.getElem?_eq_some_iff.mp e1
   obtain⟨h2,e2'⟩:=List.getElem?_eq_some_iff.mp hn
   exact hm ((List.getElem_inj R.nd).mp (e1'.trans e2'.symm))
  exact OR.ext R (Ext.put hn) (upd_ne ne) (R.ob m b o' e1 e2)
end
noncomputable def KQ(K:PySem.W.Frag)(cl:Nat→Addr)(μ:List Addr)(H:Hp)(h':MH)(w:W)(Q:VK):Prop:=
 ∀μ' H' v,Ext μ H μ' H'→HR K cl μ' H' h'→RW K μ' H' w v→Q v H'
inductive tM(K:PySem.W.Frag)(cl:Nat→Addr)(m:ME)(σ:L2.St)(H:Hp)(Q:VK):Prop
 | mk (μ:List Addr) (h:MH) (ρ:En) (w:W) (h':MH) (p0:HR K cl μ H h) (p1:ER K μ H ρ σ) (p2:m ρ h=some (w,h')) (p3:KQ K cl μ H h' w Q):tM K cl m σ H Q
inductive tMT(K:PySem.W.Frag)(cl:Nat→Addr)(m:MT)(σ:L2.St)(H:Hp)(Q:Bool→Hp→Prop):Prop
 | mk (μ:List Addr) (h:MH) (ρ:En) (b:Bool) (h':MH) (p0:HR K cl μ H h) (p1:ER K μ H ρ σ) (p2:m ρ h=some (b,h')) (p3:∀μ' H',Ext μ H μ' H'→HR K cl μ' H' h'→Q b H'):tMT K cl m σ H Q
abbrev SE(X:Cx)(cl:Nat→Addr)(e:Expr)(m:ME):Prop:=PE X e (tM X.K cl m)
abbrev ST(X:Cx)(cl:Nat→Addr)(e:Expr)(m:MT):Prop:=PT X e (tMT X.K cl m)
theorem PE.wk{X:Cx}{e:Expr}{t t':TE}(h:PE X e t)(w:∀σ H Q,t' σ H Q→t σ H Q):PE X e t':=fun pins s σ H Q I q=>h pins s σ H Q I (w σ H Q q)
theorem PT.wk{X:Cx}{e:Expr}{t t':TT}(h:PT X e t)(w:∀σ H Q,t' σ H Q→t σ H Q):PT X e t':=fun pins s σ H Q I q=>h pins s σ H Q I (w σ H Q q)
theorem PA.wk{X:Cx}{e:List Expr}{t t':TA}(h:PA X e t)(w:∀σ H Q,t' σ H Q→t σ H Q):PA X e t':=fun pos pins s σ H Q I q=>h pos pins s σ H Q I (w σ H Q q)
theorem PS.wk{X:Cx}{e:Stmt}{t t':TS}(h:PS X e t)(w:∀D σ H,t' D σ H→t D σ H):PS X e t':=fun pins s σ H D I q=>h pins s σ H D I (w D σ H q)
theorem PSs.wk{X:Cx}{e:List Stmt}{t t':TS}(h:PSs X e t)(w:∀D σ H,t' D σ H→t D σ H):PSs X e t':=fun pins s σ H D I q=>h pins s σ H D I (w D σ H q)
noncomputable def eVar(i:Nat):ME:=fun ρ h=>match ρ[i]? with
 | some (some w)=>some (w,h)
 | _=>none
noncomputable def eC(w:W):ME:=fun _ h=>some (w,h)
noncomputable def eOp(f:W→W→M W)(a b:ME):ME:=fun ρ=>bnd (a ρ) fun x=>bnd (b ρ) fun y=>f x y
noncomputable def eUn(f:W→M W)(a:ME):ME:=fun ρ=>bnd (a ρ) f
noncomputable def mArgs:List ME→En→M (List W)
 | [],_=>fun h=>some ([],h)
 | m::r,ρ=>bnd (m ρ) fun x=>bnd (mArgs r ρ) fun xs h=>some (x::xs,h)
noncomputable def eArgs(f:List W→M W)(as:List ME):ME:=fun ρ=>bnd (mArgs as ρ) f
noncomputable def asB(w:W):M Bool:=fun h=>match w with
 | .bl b=>some (b,h)
 | _=>none
noncomputable def tVal(a:ME):MT:=fun ρ=>bnd (a ρ) asB
noncomputable def tAndM(a b:MT):MT:=fun ρ=>bnd (a ρ) fun x=>if x=true then b ρ else fun h=>some (false,h)
noncomputable def tOrM(a b:MT):MT:=fun ρ=>bnd (a ρ) fun x=>if x=true then (fun h=>some (true,h)) else b ρ
noncomputable def tNotM(a:MT):MT:=fun ρ=>bnd (a ρ) fun x h=>some (!x,h)
noncomputable def eAnd(a b:ME):ME:=fun ρ=>bnd (a ρ) fun x=>bnd (asB x) fun c=>if c=true then b ρ else fun h=>some (.bl false,h)
noncomputable def eOr(a b:ME):ME:=fun ρ=>bnd (a ρ) fun x=>bnd (asB x) fun c=>if c=true then (fun h=>some (.bl true,h)) else b ρ
noncomputable def eNot(a:ME):ME:=fun ρ=>bnd (a ρ) fun x=>bnd (asB x) fun c h=>some (.bl (!c),h)
noncomputable def eIf(t:MT)(a b:ME):ME:=fun ρ=>bnd (t ρ) fun c=>if c=true then a ρ else b ρ
noncomputable def eChain(f g:W→W→M W)(a b c:ME):ME:=fun ρ=>bnd (a ρ) fun x=>bnd (b ρ) fun y=>bnd (f x y) fun z=>bnd (asB z) fun k=>if k=true then bnd (c ρ) fun u=>g y u else fun h=>some (.bl false,h)
inductive rM(K:PySem.W.Frag)(cl:Nat→Addr)(f:W→W→M W)(x:V)(y:V)(H:Hp)(Q:VK):Prop
 | mk (μ:List Addr) (h:MH) (wx:W) (wy:W) (w:W) (h':MH) (p0:HR K cl μ H h) (p1:RW K μ H wx x) (p2:RW K μ H wy y) (p3:f wx wy h=some (w,h')) (p4:KQ K cl μ H h' w Q):rM K cl f x y H Q
inductive rM1(K:PySem.W.Frag)(cl:Nat→Addr)(f:W→M W)(x:V)(H:Hp)(Q:VK):Prop
 | mk (μ:List Addr) (h:MH) (wx:W) (w:W) (h':MH) (p0:HR K cl μ H h) (p1:RW K μ H wx x) (p2:f wx h=some (w,h')) (p3:KQ K cl μ H h' w Q):rM1 K cl f x H Q
inductive rMs(K:PySem.W.Frag)(cl:Nat→Addr)(f:List W→M W)(xs:List V)(H:Hp)(Q:VK):Prop
 | mk (μ:List Addr) (h:MH) (ws:List W) (w:W) (h':MH) (p0:HR K cl μ H h) (p1:RWs K μ H ws xs) (p2:f ws h=some (w,h')) (p3:KQ K cl μ H h' w Q):rMs K cl f xs H Q
inductive tMA(K:PySem.W.Frag)(cl:Nat→Addr)(ms:List ME)(σ:L2.St)(H:Hp)(Q:List V→Hp→Prop):Prop
 | mk (μ:List Addr) (h:MH) (ρ:En) (ws:List W) (h':MH) (p0:HR K cl μ H h) (p1:ER K μ H ρ σ) (p2:mArgs ms ρ h=some (ws,h')) (p3:∀μ' H' vs,Ext μ H μ' H'→HR K cl μ' H' h'→RWs K μ' H' ws vs→Q vs H'):tMA K cl ms σ H Q
abbrev SA(X:Cx)(cl:Nat→Addr)(es:List Expr)(ms:List ME):Prop:=PA X es (tMA X.K cl ms)
section
variable{X:Cx}{cl:Nat→Addr}{a b c:Expr}{ma mb mc:ME}{pos:Pos}{μ μ':List Addr}{H H':Hp}{h h':MH}
theorem KQ.pure{w:W}{v:V}{Q:VK}{K:PySem.W.Frag}(k:KQ K cl μ H h w Q)(R:HR K cl μ H h)(r:RW K μ H w v):Q v H:=k μ H v .refl R r
theorem KQ.ext{w:W}{Q:VK}{K:PySem.W.Frag}(E:Ext μ H μ' H')(k:KQ K cl μ H h w Q):KQ K cl μ' H' h w Q:=fun μ2 H2 v E2 R2 r2=>k μ2 H2 v (E.trans E2) R2 r2
theorem se_var(i:Nat){x:Str}(hN:X.N[i]?=some x:=by rfl)(hv:Vis X.env.scope x:=by first | exact Or.inl rfl | exact Or.inr (Or.inl rfl) | exact Or.inr (Or.inr rfl))
  (hd:(x==("__debug__":Str))=false:=by decide) (hcd:(x==("__classdict__":Str))=false:=by decide):SE X cl (.Name x pos) (eVar i):=
 PE.wk (pe_var (i:=i) hN hv hd hcd) fun σ H Q q0=>by
  obtain⟨μ,h,ρ,w,h',R,er,e,k⟩:=q0
  unfold eVar at e
  split at e
  .rename_i w' q
   cases e
   obtain⟨v,q1,r⟩:=er.at_ i _ q
   exact⟨v,q1,k.pure R r⟩
  .cases e
theorem se_c{w:W}{v:V}(he:PE X a (tC v))(r:∀μ H,RW X.K μ H w v):SE X cl a (eC w):=
 PE.wk he fun σ H Q q0=>by
  obtain⟨μ,h,ρ,w',h',R,er,e,k⟩:=q0
  cases e
  exact k.pure R (r μ H)
theorem se_int{i:Int}{j}:SE X cl (.Constant (.int i) j pos) (eC (.int i)):=se_c pe_int fun _ _=>.int i
theorem se_bl{i:Bool}{j}:SE X cl (.Constant (.bool i) j pos) (eC (.bl i)):=se_c pe_bl fun _ _=>.bl i
theorem se_non{j}:SE X cl (.Constant .none j pos) (eC .non):=se_c pe_non fun _ _=>.non
theorem se_str{i:Str}{j}:SE X cl (.Constant (.str i) j pos) (eC (.str i)):=se_c pe_str fun _ _=>.str i
theorem se_glob{x:Str}{w:W}{v:V}{u:Value}(hm:X.mg x=some u)(r:RelV v u)(rw:∀μ H,RW X.K μ H w v)(hg:Gl X x:=by rfl)(hd:(x==("__debug__":Str))=false:=by decide):SE X cl (.Name x pos) (eC w):=
 se_c (pe_glob hg hm r hd) rw
theorem eop_read{K:PySem.W.Frag}{f:W→W→M W}{σ:L2.St}{Q:VK}(q:tM K cl (eOp f ma mb) σ H Q):tOp (rM K cl f) (tM K cl ma) (tM K cl mb) σ H Q:=by
 obtain⟨μ,h,ρ,w,h',R,er,e,k⟩:=q
 obtain⟨x,h1,e1,e⟩:=of_bnd e
 obtain⟨y,h2,e2,e3⟩:=of_bnd e
 exact⟨μ,h,ρ,x,h1,R,er,e1,fun μ1 H1 vx E1 R1 rx=>⟨μ1,h1,ρ,y,h2,R1,er.ext R E1,e2,fun μ2 H2 vy E2 R2 ry=>⟨μ2,h2,x,y,w,h',R2,rx.ext R1 E2,ry,e3,k.ext (E1.trans E2)⟩⟩⟩
theorem se_op{op:Operator}{f:W→W→M W}(ho:OpR X (binaryOp op) (rM X.K cl f))(ha:SE X cl a ma)(hb:SE X cl b mb):SE X cl (.BinOp a op b pos) (eOp f ma mb):=
 PE.wk (pe_op ho ha hb) fun σ H Q q=>eop_read q
theorem se_cmp{op:CmpOp}{f:W→W→M W}(ho:OpR X (compareOp op) (rM X.K cl f))(ha:SE X cl a ma)(hb:SE X cl b mb)(hm:behindInMarks op b=false:=by first | exact nomark _ | rfl):SE X cl (.Compare a [op] [b] pos) (eOp f ma mb):=
 PE.wk (pe_cmpR ho ha hb hm) fun σ H Q q=>eop_read q
theorem se_un{op:UnaryOp}{f:W→M W}(ho:UnR X (unaryOp op) (rM1 X.K cl f))(ha:SE X cl a ma):SE X cl (.UnaryOp op a pos) (eUn f ma):=
 PE.wk (pe_un ho ha) fun σ H Q q0=>by
  obtain⟨μ,h,ρ,w,h',R,er,e,k⟩:=q0
  obtain⟨x,h1,e1,e⟩:=of_bnd e
  exact⟨μ,h,ρ,x,h1,R,er,e1,fun μ1 H1 vx E1 R1 rx=>⟨μ1,h1,x,w,h',R1,rx,e,k.ext E1⟩⟩
theorem RW.bl_of{K:PySem.W.Frag}{k:Bool}{v:V}(r:RW K μ H (.bl k) v):v=.bl k:=by cases r; rfl
theorem asB_of{w:W}{b:Bool}(e:asB w h=some (b,h')):w=.bl b∧h=h':=by
 unfold asB at e; split at e
 .cases e; exact⟨rfl,rfl⟩
 .cases e
theorem tval_read{K:PySem.W.Frag}{σ:L2.St}{Q:Bool→Hp→Prop}(q:tMT K cl (tVal ma) σ H Q):tM K cl ma σ H fun x H1=>∃c,x=.bl c∧Q c H1:=by
 obtain⟨μ,h,ρ,b,h',R,er,e,k⟩:=q
 obtain⟨x,h1,e1,e⟩:=of_bnd e
 obtain⟨rfl,rfl⟩:=asB_of e
 exact⟨μ,h,ρ,_,h1,R,er,e1,fun μ1 H1 vx E1 R1 rx=>⟨b,rx.bl_of,k μ1 H1 E1 R1⟩⟩
theorem st_val(ha:SE X cl a ma)(he:∀whole,isTrue a X.env whole=(do let v ←whole; standAt a.pos; holding [v] (truthy v)):=by intro _; rfl):ST X cl a (tVal ma):=
 PT.wk (pt_val ha he) fun σ H Q q=>tval_read q
theorem st_cmp{op:CmpOp}{f:W→W→M W}(ho:OpR X (compareOp op) (rM X.K cl f))(ha:SE X cl a ma)(hb:SE X cl b mb)(hm:behindInMarks op b=false:=by first | exact nomark _ | rfl):ST X cl (.Compare a [op] [b] pos) (tVal (eOp f ma mb)):=
 PT.wk (pt_cmpR ho ha hb hm) fun σ H Q q=>by
  obtain⟨μ,h,ρ,w,h',R,er,e,k⟩:=tval_read q
  exact eop_read ⟨μ,h,ρ,w,h',R,er,e,k⟩
theorem chain_read{K:PySem.W.Frag}{f g:W→W→M W}{σ:L2.St}{Q:VK}(q:tM K cl (eChain f g ma mb mc) σ H Q):tChain (rM K cl f) (rM K cl g) (tM K cl ma) (tM K cl mb) (tM K cl mc) σ H Q:=by
 obtain⟨μ,h,ρ,w,h',R,er,e,k⟩:=q
 obtain⟨x,h1,e1,e⟩:=of_bnd e
 obtain⟨y,h2,e2,e⟩:=of_bnd e
 obtain⟨z,h3,e3,e⟩:=of_bnd e
 obtain⟨c,h4,e4,e⟩:=of_bnd e
 obtain⟨rfl,rfl⟩:=asB_of e4
 refine⟨μ,h,ρ,x,h1,R,er,e1,fun μ1 H1 vx E1 R1 rx=>⟨μ1,h1,ρ,y,h2,R1,er.ext R E1,e2,fun μ2 H2 vy E2 R2 ry=>⟨μ2,h2,x,y,_,h3,R2,rx.ext R1 E2,ry,e3,fun μ3 H3 vz E3 R3 rz=>⟨c,rz.bl_of,?_⟩⟩⟩⟩
 cases c with
 | true=>
  rw[if_pos rfl] at e ⊢
  obtain⟨u,h5,e5,e6⟩:=of_bnd e
  exact⟨μ3,h3,ρ,u,h5,R3,((er.ext R E1).ext R1 E2).ext R2 E3,e5,fun μ4 H4 vu E4 R4 ru=>⟨μ4,h5,y,u,w,h',R4,(ry.ext R2 E3).ext R3 E4,ru,e6,k.ext (E1.trans (E2.trans (E3.trans E4)))⟩⟩
 | false=>
  rw[if_neg Bool.false_ne_true] at e ⊢
  cases e
  exact k μ3 H3 _ (E1.trans (E2.trans E3)) R3 (.bl false)
theorem se_chain{op op':CmpOp}{f g:W→W→M W}(ho:OpR X (compareOp op) (rM X.K cl f))(ho':OpR X (compareOp op') (rM X.K cl g))(ha:SE X cl a ma)(hb:SE X cl b mb)(hc:SE X cl c mc)
  (hm:lastMarks [op,op'] [b,c]=false:=by with_unfolding_all rfl):SE X cl (.Compare a [op,op'] [b,c] pos) (eChain f g ma mb mc):=
 PE.wk (pe_chain ho ho' ha hb hc hm) fun σ H Q q=>chain_read q
theorem st_chain{op op':CmpOp}{f g:W→W→M W}(ho:OpR X (compareOp op) (rM X.K cl f))(ho':OpR X (compareOp op') (rM X.K cl g))(ha:SE X cl a ma)(hb:SE X cl b mb)(hc:SE X cl c mc)
  (hm:lastMarks [op,op'] [b,c]=false:=by with_unfolding_all rfl):ST X cl (.Compare a [op,op'] [b,c] pos) (tVal (eChain f g ma mb mc)):=
 PT.wk (pt_chain ho ho' ha hb hc hm) fun σ H Q q=>by
  obtain⟨μ,h,ρ,w,h',R,er,e,k⟩:=tval_read q
  exact chain_read ⟨μ,h,ρ,w,h',R,er,e,k⟩
abbrev SW(X:Cx)(cl:Nat→Addr)(e:Expr)(m:MT):Prop:=PW X e (tMT X.K cl m)
theorem PW.wk{e:Expr}{t t':TT}(h:PW X e t)(w:∀σ H Q,t' σ H Q→t σ H Q):PW X e t':=fun wh pins s σ H Q I q=>h wh pins s σ H Q I (w σ H Q q)
variable{ta tb:MT}{rest:List Expr}
theorem sw_and1(ha:ST X cl a ta):SW X cl (.BoolOp .And [a] pos) ta:=pw_and1 ha
theorem sw_or1(ha:ST X cl a ta):SW X cl (.BoolOp .Or [a] pos) ta:=pw_or1 ha
theorem sw_and(ha:ST X cl a ta)(hb:SW X cl (.BoolOp .And (b::rest) pos) tb):SW X cl (.BoolOp .And (a::b::rest) pos) (tAndM ta tb):=
 PW.wk (pw_and ha hb) fun σ H Q q0=>by
  obtain⟨μ,h,ρ,w,h',R,er,e,k⟩:=q0
  obtain⟨x,h1,e1,e⟩:=of_bnd e
  refine⟨μ,h,ρ,x,h1,R,er,e1,fun μ1 H1 E1 R1=>?_⟩
  cases x with
  | true=>rw[if_pos rfl] at e ⊢; exact⟨μ1,h1,ρ,w,h',R1,er.ext R E1,e,fun μ2 H2 E2 R2=>k μ2 H2 (E1.trans E2) R2⟩
  | false=>rw[if_neg Bool.false_ne_true] at e ⊢; cases e; exact k μ1 H1 E1 R1
theorem sw_or(ha:ST X cl a ta)(hb:SW X cl (.BoolOp .Or (b::rest) pos) tb):SW X cl (.BoolOp .Or (a::b::rest) pos) (tOrM ta tb):=
 PW.wk (pw_or ha hb) fun σ H Q q0=>by
  obtain⟨μ,h,ρ,w,h',R,er,e,k⟩:=q0
  obtain⟨x,h1,e1,e⟩:=of_bnd e
  refine⟨μ,h,ρ,x,h1,R,er,e1,fun μ1 H1 E1 R1=>?_⟩
  cases x with
  | false=>rw[if_neg Bool.false_ne_true] at e ⊢; exact⟨μ1,h1,ρ,w,h',R1,er.ext R E1,e,fun μ2 H2 E2 R2=>k μ2 H2 (E1.trans E2) R2⟩
  | true=>rw[if_pos rfl] at e ⊢; cases e; exact k μ1 H1 E1 R1
theorem st_bool(h:SW X cl a ta):ST X cl a ta:=h.pt
theorem st_not(ha:ST X cl a ta):ST X cl (.UnaryOp .Not a pos) (tNotM ta):=
 PT.wk (pt_not ha) fun σ H Q q0=>by
  obtain⟨μ,h,ρ,w,h',R,er,e,k⟩:=q0
  obtain⟨x,h1,e1,e⟩:=of_bnd e
  cases e
  exact⟨μ,h,ρ,x,_,R,er,e1,fun μ1 H1 E1 R1=>k μ1 H1 E1 R1⟩
theorem se_one{op}(h:SE X cl a ma):SE X cl (.BoolOp op [a] pos) ma:=pe_one h
theorem se_and(ha:SE X cl a ma)(hb:SE X cl (.BoolOp .And (b::rest) pos) mb):SE X cl (.BoolOp .And (a::b::rest) pos) (eAnd ma mb):=
 PE.wk (pe_and ha hb) fun σ H Q q0=>by
  obtain⟨μ,h,ρ,w,h',R,er,e,k⟩:=q0
  obtain⟨x,h1,e1,e⟩:=of_bnd e
  obtain⟨c,h2,e2,e⟩:=of_bnd e
  obtain⟨rfl,rfl⟩:=asB_of e2
  refine⟨μ,h,ρ,_,h1,R,er,e1,fun μ1 H1 vx E1 R1 rx=>⟨c,rx.bl_of,?_⟩⟩
  cases c with
  | true=>rw[if_pos rfl] at e ⊢; exact⟨μ1,h1,ρ,w,h',R1,er.ext R E1,e,k.ext E1⟩
  | false=>rw[if_neg Bool.false_ne_true] at e ⊢; cases e; exact k μ1 H1 _ E1 R1 (.bl false)
theorem se_or(ha:SE X cl a ma)(hb:SE X cl (.BoolOp .Or (b::rest) pos) mb):SE X cl (.BoolOp .Or (a::b::rest) pos) (eOr ma mb):=
 PE.wk (pe_or ha hb) fun σ H Q q0=>by
  obtain⟨μ,h,ρ,w,h',R,er,e,k⟩:=q0
  obtain⟨x,h1,e1,e⟩:=of_bnd e
  obtain⟨c,h2,e2,e⟩:=of_bnd e
  obtain⟨rfl,rfl⟩:=asB_of e2
  refine⟨μ,h,ρ,_,h1,R,er,e1,fun μ1 H1 vx E1 R1 rx=>⟨c,rx.bl_of,?_⟩⟩
  cases c with
  | false=>rw[if_neg Bool.false_ne_true] at e ⊢; exact⟨μ1,h1,ρ,w,h',R1,er.ext R E1,e,k.ext E1⟩
  | true=>rw[if_pos rfl] at e ⊢; cases e; exact k μ1 H1 _ E1 R1 (.bl true)
theorem se_not(ha:SE X cl a ma):SE X cl (.UnaryOp .Not a pos) (eNot ma):=
 PE.wk (pe_not ha) fun σ H Q q0=>by
  obtain⟨μ,h,ρ,w,h',R,er,e,k⟩:=q0
  obtain⟨x,h1,e1,e⟩:=of_bnd e
  obtain⟨c,h2,e2,e⟩:=of_bnd e
  obtain⟨rfl,rfl⟩:=asB_of e2
  cases e
  exact⟨μ,h,ρ,_,_,R,er,e1,fun μ1 H1 vx E1 R1 rx=>⟨c,rx.bl_of,k μ1 H1 _ E1 R1 (.bl _)⟩⟩
theorem se_if{t:Expr}(ht:ST X cl t ta)(ha:SE X cl a ma)(hb:SE X cl b mb):SE X cl (.IfExp t a b pos) (eIf ta ma mb):=
 PE.wk (pe_ifExp ht ha hb) fun σ H Q q0=>by
  obtain⟨μ,h,ρ,w,h',R,er,e,k⟩:=q0
  obtain⟨x,h1,e1,e⟩:=of_bnd e
  refine⟨μ,h,ρ,x,h1,R,er,e1,fun μ1 H1 E1 R1=>?_⟩
  cases x with
  | true=>rw[if_pos rfl] at e ⊢; exact⟨μ1,h1,ρ,w,h',R1,er.ext R E1,e,k.ext E1⟩
  | false=>rw[if_neg Bool.false_ne_true] at e ⊢; exact⟨μ1,h1,ρ,w,h',R1,er.ext R E1,e,k.ext E1⟩
variable{es:List Expr}{ms:List ME}{e:Expr}{m:ME}
theorem sa_nil:SA X cl [] []:=PA.wk pa_nil fun σ H Q q0=>by
 obtain⟨μ,h,ρ,ws,h',R,er,e,k⟩:=q0
 cases e
 exact k μ H [] .refl R .nil
theorem sa_cons(ha:SE X cl e m)(hr:SA X cl es ms)(hs:starEach (e::es) X.env=(false,eval e X.env)::starEach es X.env:=by rfl):SA X cl (e::es) (m::ms):=
 PA.wk (pa_cons ha hr hs) fun σ H Q q0=>by
  obtain⟨μ,h,ρ,ws,h',R,er,e,k⟩:=q0
  obtain⟨x,h1,e1,e⟩:=of_bnd e
  obtain⟨xs,h2,e2,e⟩:=of_bnd e
  cases e
  exact⟨μ,h,ρ,x,h1,R,er,e1,fun μ1 H1 vx E1 R1 rx=>⟨μ1,h1,ρ,xs,_,R1,er.ext R E1,e2,fun μ2 H2 vs E2 R2 rs=>k μ2 H2 _ (E1.trans E2) R2 (.cons (rx.ext R1 E2) rs)⟩⟩
noncomputable def cap:Nat:=1000000
theorem cap_le:cap≤sizeLine:=by decide
noncomputable def tupW:List W→M W:=fun ws h=>if ws.length≤cap then some (.tup ws,h) else none
noncomputable def flsW:List W→M W:=fun ws h=>if ws.length≤cap then some (.fls ws,h) else none
noncomputable def lstW:List W→M W:=fun ws h=>if ws.length≤cap then some (.ref h.length,h++[.lst ws]) else none
theorem KQ.tup{K:PySem.W.Frag}{ws:List W}{xs:List V}{Q:VK}{p:Addr}(k:KQ K cl μ H h (.tup ws) Q)(R:HR K cl μ H h)(rs:RWs K μ H ws xs)(hp:H p=none):Q (.ref p) (upd H p (.tup xs)):=
 k μ _ _ (.side hp) (R.side hp) (.tup (SqT.of upd_same) (rs.ext R (.side hp)))
theorem KQ.lst{K:PySem.W.Frag}{ws:List W}{xs:List V}{Q:VK}{p:Addr}(k:KQ K cl μ H (h++[.lst ws]) (.ref h.length) Q)(R:HR K cl μ H h)(rs:RWs K μ H ws xs)(hp:H p=none):Q (.ref p) (upd H p (.lst xs)):=
 k (μ++[p]) _ _ (.new hp) (R.new hp ⟨xs,upd_same,rs.ext R (.new hp)⟩) (.ref (by rw[←R.len]; simp))
theorem KQ.fls{K:PySem.W.Frag}{ws:List W}{xs:List V}{Q:VK}{p:Addr}(k:KQ K cl μ H h (.fls ws) Q)(R:HR K cl μ H h)(rs:RWs K μ H ws xs)(hp:H p=none):Q (.ref p) (upd H p (.lst xs)):=
 k μ _ _ (.side hp) (R.side hp) (.fls (.inl ⟨.inl upd_same,R.fresh hp⟩) (rs.ext R (.side hp)))
theorem se_tup{x1}(hs:SA X cl es ms):SE X cl (.Tuple es x1 pos) (eArgs tupW ms):=
 PE.wk (pe_tup hs) fun σ H Q q0=>by
  obtain⟨μ,h,ρ,w,h',R,er,e,k⟩:=q0
  obtain⟨ws,h1,e1,e⟩:=of_bnd e
  refine⟨μ,h,ρ,ws,h1,R,er,e1,fun μ1 H1 vs E1 R1 rs=>?_⟩
  unfold tupW at e
  split at e
  .rename_i hl
   cases e
   exact⟨Nat.le_trans (by rw[←rs.length]; exact hl) cap_le,fun p hp=>(k.ext E1).tup R1 rs hp⟩
  .cases e
theorem se_fls(hs:SA X cl es ms):SE X cl (.List es pos) (eArgs flsW ms):=
 PE.wk (pe_lst hs) fun σ H Q q0=>by
  obtain⟨μ,h,ρ,w,h',R,er,e,k⟩:=q0
  obtain⟨ws,h1,e1,e⟩:=of_bnd e
  refine⟨μ,h,ρ,ws,h1,R,er,e1,fun μ1 H1 vs E1 R1 rs=>?_⟩
  unfold flsW at e
  split at e
  .rename_i hl
   cases e
   exact⟨Nat.le_trans (by rw[←rs.length]; exact hl) cap_le,fun p hp=>(k.ext E1).fls R1 rs hp⟩
  .cases e
theorem se_lst(hs:SA X cl es ms):SE X cl (.List es pos) (eArgs lstW ms):=
 PE.wk (pe_lst hs) fun σ H Q q0=>by
  obtain⟨μ,h,ρ,w,h',R,er,e,k⟩:=q0
  obtain⟨ws,h1,e1,e⟩:=of_bnd e
  refine⟨μ,h,ρ,ws,h1,R,er,e1,fun μ1 H1 vs E1 R1 rs=>?_⟩
  unfold lstW at e
  split at e
  .rename_i hl
   cases e
   exact⟨Nat.le_trans (by rw[←rs.length]; exact hl) cap_le,fun p hp=>(k.ext E1).lst R1 rs hp⟩
  .cases e
end
noncomputable def spM(K:PySem.W.Frag)(cl:Nat→Addr)(f:List W→M W):Sp:=fun vs H Q _=>rMs K cl f vs H Q
mutual
noncomputable def low(m:Nat):W→Bool
 | .tup l=>lows m l
 | .fls l=>lows m l
 | .ref n=>decide (n<m)
 | .fdc l=>lowk m l
 | _=>true
noncomputable def lowk(m:Nat):List (Key×W)→Bool
 | []=>true
 | (_,w)::r=>low m w&&lowk m r
noncomputable def lows(m:Nat):List W→Bool
 | []=>true
 | w::r=>low m w&&lows m r
end
open Classical in
noncomputable def gc(f:List W→M W):List W→M W:=fun ws h=>match f ws h with
 | some (w,h')=>if h<+:h' then (if low h.length w=true then some (w,h) else match w with
   | .ref n=>match h'[n]? with
    | some (.lst l)=>if lows h.length l=true then some (.fls l,h) else some (w,h')
    | _=>some (w,h')
   | _=>some (w,h')) else some (w,h')
 | none=>none
theorem gc_pure{f:List W→M W}{ws:List W}{h h':MH}{w:W}(e:f ws h=some (w,h'))(p:low h.length w=true)(q:h<+:h'):gc f ws h=some (w,h):=by
 unfold gc; rw[e]; simp only[p,q,if_true]
theorem lowk_eq(m:Nat):∀l:List (Key×W),lowk m l=lows m (l.map (·.2))
 | []=>by unfold lowk lows; rfl
 | (k,w)::r=>by unfold lowk; rw[lowk_eq m r]; simp only[List.map_cons]; conv=>rhs; unfold lows
section
variable{K:PySem.W.Frag}{cl:Nat→Addr}{μ μ':List Addr}{H H':Hp}
mutual
theorem RW.low:∀{w:W} {v:V},RW K μ H w v→ML.low μ.length w=true
 | _,_,.non=>by unfold ML.low; rfl
 | _,_,.bl b=>by unfold ML.low; rfl
 | _,_,.int i=>by unfold ML.low; rfl
 | _,_,.str x=>by unfold ML.low; rfl
 | _,_,.tup s r=>by unfold ML.low; exact RWs.low r
 | _,_,.fls s r=>by unfold ML.low; exact RWs.low r
 | _,_,.fdc s k e1 e2 r=>by unfold ML.low; rw[lowk_eq,←e1]; exact RWs.low r
 | _,_,.fn=>by unfold ML.low; rfl
 | _,_,.ref e=>by unfold ML.low; simpa using (List.getElem?_eq_some_iff.mp e).1
theorem RWs.low:∀{l:List W} {vs:List V},RWs K μ H l vs→lows μ.length l=true
 | _,_,.nil=>by unfold lows; rfl
 | _,_,.cons r t=>by unfold lows; rw[RW.low r,RWs.low t]; rfl
end
mutual
theorem RW.cut(pre:μ<+:μ'):∀{w:W} {v:V},ML.low μ.length w=true→RW K μ' H w v→RW K μ H w v
 | _,_,_,.non=>.non
 | _,_,_,.bl b=>.bl b
 | _,_,_,.int i=>.int i
 | _,_,_,.str x=>.str x
 | .tup l,_,p,.tup s r=>.tup s (RWs.cut pre (by unfold ML.low at p; exact p) r)
 | .fls l,_,p,.fls s r=>.fls (s.elim (fun z=>.inl ⟨z.1,fun q=>z.2 (pre.subset q)⟩) .inr) (RWs.cut pre (by unfold ML.low at p; exact p) r)
 | .fdc l,_,p,.fdc s k e1 e2 r=>.fdc ⟨s.1,fun q=>s.2 (pre.subset q)⟩ k e1 e2 (RWs.cut pre (by unfold ML.low at p; rw[lowk_eq,←e1] at p; exact p) r)
 | .fn _,_,_,.fn=>.fn
 | .ref n,_,p,.ref e=>by
  have p':n<μ.length:=by unfold ML.low at p; simpa using p
  obtain⟨t,rfl⟩:=pre
  rw[List.getElem?_append_left p'] at e
  exact .ref e
theorem RWs.cut(pre:μ<+:μ'):∀{l:List W} {vs:List V},lows μ.length l=true→RWs K μ' H l vs→RWs K μ H l vs
 | _,_,_,.nil=>.nil
 | w::l,_,p,.cons r t=>by
  have p':ML.low μ.length w=true∧lows μ.length l=true:=by unfold lows at p; simpa using p
  exact .cons (RW.cut pre p'.1 r) (RWs.cut pre p'.2 t)
end
theorem HR.cut{h h':MH}(R:HR K cl μ H h)(E:Ext μ H μ' H')(R':HR K cl μ' H' h')(p:h<+:h'):HR K cl μ H' h:=by
 obtain⟨t,rfl⟩:=p
 refine⟨R.len,R.nd,fun n a o e1 e2=>?_⟩
 have q:=R.ob n a o e1 e2
 have q':=R'.ob n a o (E.get e1) (by rw[List.getElem?_append_left (List.getElem?_eq_some_iff.mp e2).1]; exact e2)
 cases o with
 | lst l=>obtain⟨vs0,_,r0⟩:=q; obtain⟨vs,z,r⟩:=q'; exact⟨vs,z,RWs.cut E.pre r0.low r⟩
 | dic l=>obtain⟨l0,_,_,r0⟩:=q; obtain⟨l',z,k,r⟩:=q'; exact⟨l',z,k,RWs.cut E.pre r0.low r⟩
 | ins c fs=>obtain⟨_,fs0,_,_,r0⟩:=q; obtain⟨dx,fs',z,k,r⟩:=q'; exact⟨dx,fs',z,k,RWs.cut E.pre r0.low r⟩
theorem gc_ok{f:List W→M W}{vs:List V}{Q:VK}{E:XK}(q:spM K cl (gc f) vs H Q E):spM K cl f vs H Q E:=by
 obtain⟨μ,h,ws,w,h',R,rs,e,k⟩:=q
 unfold gc at e
 split at e
 .rename_i w1 h1 e1
  have plain:∀{w h'},some (w1,h1)=some (w,h')→KQ K cl μ H h' w Q→spM K cl f vs H Q E:=fun q k=>by cases q; exact⟨μ,h,ws,_,_,R,rs,e1,k⟩
  split at e
  .rename_i c
   have cut:∀{μ' H'},Ext μ H μ' H'→Ext μ H μ H':=fun E'=>⟨List.prefix_refl _,fun b o e n=>⟨(E'.fr b o e n).1,n⟩⟩
   split at e
   .rename_i p
    cases e
    refine⟨μ,h,ws,_,h1,R,rs,e1,fun μ' H' v E' R' r'=>?_⟩
    exact k μ H' v (cut E') (R.cut E' R' c) (RW.cut E'.pre (by rw[R.len]; exact p) r')
   .rename_i p
    split at e
    .rename_i n
     split at e
     .rename_i l ho
      split at e
      .rename_i pl
       cases e
       refine⟨μ,h,ws,_,h1,R,rs,e1,fun μ' H' v E' R' r'=>?_⟩
       cases r' with
       | @ref _ a hm=>
        obtain⟨vs',hv,rv⟩:=R'.ob n a _ hm ho
        refine k μ H' _ (cut E') (R.cut E' R' c) (.fls (.inl ⟨.inl hv,fun z=>?_⟩) (RWs.cut E'.pre (by rw[R.len]; exact pl) rv))
        obtain⟨m,hmm⟩:=List.mem_iff_getElem?.mp z
        have h2:=E'.get hmm
        have hlt:m<μ.length:=(List.getElem?_eq_some_iff.mp hmm).1
        obtain⟨z1,z2⟩:=List.getElem?_eq_some_iff.mp h2
        obtain⟨z3,z4⟩:=List.getElem?_eq_some_iff.mp hm
        have:m=n:=(List.getElem_inj R'.nd).mp (z2.trans z4.symm)
        subst this
        refine p ?_
        unfold low
        rw[R.len] at hlt
        simpa using hlt
      .exact plain e k
     .exact plain e k
    .exact plain e k
  .exact plain e k
 .cases e
end
section
variable{X:Cx}{cl:Nat→Addr}{k:Nat}{f:Addr}{fd:FuncData}{ps:List Str}{x:Str}{p pos:Pos}{e:Expr}{es:List Expr}{g:List W→M W}{m:ME}{ms:List ME}
theorem args_read{K:PySem.W.Frag}{f:List W→M W}{σ:L2.St}{H:Hp}{Q:VK}(q:tM K cl (eArgs f ms) σ H Q):tMA K cl ms σ H fun vs H1=>rMs K cl f vs H1 Q:=by
 obtain⟨μ,h,ρ,w,h',R,er,e,k⟩:=q
 obtain⟨ws,h1,e1,e⟩:=of_bnd e
 exact⟨μ,h,ρ,ws,h1,R,er,e1,fun μ1 H1 vs E1 R1 rs=>⟨μ1,h1,ws,w,h',R1,rs,e,k.ext E1⟩⟩
theorem se_call(F:FnOk X.prog X.w X.K X.mg X.base CX0 k f fd ps (spM X.K cl g))(hr:Room k X.A)(hm:X.mg x=some (.ref f))(hk:PySem.W.keepIn X.K (.ref f)=true)(hb:Binds X.K fd ps [])
  (ha:SA X cl (e::es) ms) (hg:Gl X x:=by rfl) (hdb:(x==("__debug__":Str))=false:=by decide) (hst:starEach (e::es) X.env=(false,eval e X.env)::starEach es X.env:=by rfl) (hpl:(backTo pos (starEach es X.env)).any (·.1)=false:=by rfl):SE X cl (.Call (.Name x p) (e::es) [] pos) (eArgs g ms):=
 PE.wk (pe_call F hr hg hm hk hb .nil pass0 ha hdb hst hpl) fun σ H Q q=>by
  obtain⟨μ,h,ρ,ws,h1,R,er,e1,k1⟩:=args_read q
  exact⟨μ,h,ρ,ws,h1,R,er,e1,fun μ1 H1 vs E1 R1 rs=>by show spM X.K cl g (vs++[]) H1 Q E0; rw[List.append_nil]; exact k1 μ1 H1 vs E1 R1 rs⟩
theorem se_call0(F:FnOk X.prog X.w X.K X.mg X.base CX0 k f fd ps (spM X.K cl g))(hr:Room k X.A)(hm:X.mg x=some (.ref f))(hk:PySem.W.keepIn X.K (.ref f)=true)(hb:Binds X.K fd ps [])
  (hg:Gl X x:=by rfl) (hdb:(x==("__debug__":Str))=false:=by decide):SE X cl (.Call (.Name x p) [] [] pos) (eArgs g []):=
 PE.wk (pe_call0 F hr hg hm hk hb .nil pass0 hdb) fun σ H Q q=>by
  obtain⟨μ,h,ρ,ws,h1,R,er,e1,k1⟩:=args_read q
  cases e1
  exact k1 μ H [] .refl R .nil
theorem se_callB{id:String}(hc:CallR X (.builtin id) (rMs X.K cl g))(hm:X.mg x=none)(hv:bootBuiltins x=some (.builtin id))(ha:SA X cl (e::es) ms)(hg:Gl X x:=by rfl)(hn:x≠"__name__":=by decide)(hdb:(x==("__debug__":Str))=false:=by decide)(hst:starEach (e::es) X.env=(false,eval e X.env)::starEach es X.env:=by rfl)(hpl:(backTo pos (starEach es X.env)).any (·.1)=false:=by rfl) :
  SE X cl (.Call (.Name x p) (e::es) [] pos) (eArgs g ms):=
 PE.wk (pe_callB hc hg hm hv ha hn hdb hst hpl) fun σ H Q q=>args_read q
theorem se_callTy{id:String}(hc:CallR X (.type id) (rMs X.K cl g))(hm:X.mg x=none)(hv:bootBuiltins x=some (.type id))(ha:SA X cl (e::es) ms)(hg:Gl X x:=by rfl)(hn:x≠"__name__":=by decide)(hdb:(x==("__debug__":Str))=false:=by decide)(hst:starEach (e::es) X.env=(false,eval e X.env)::starEach es X.env:=by rfl)(hpl:(backTo pos (starEach es X.env)).any (·.1)=false:=by rfl) :
  SE X cl (.Call (.Name x p) (e::es) [] pos) (eArgs g ms):=
 PE.wk (pe_callTy hc hg hm hv ha hn hdb hst hpl) fun σ H Q q=>args_read q
end
inductive Fl where
 | nx (ρ:En) | ret (w:W) | bk (ρ:En) | ct (ρ:En)
abbrev MS:=En→MH→Option (Fl×MH)
abbrev MG:=W→En→M En
noncomputable def KF(K:PySem.W.Frag)(cl:Nat→Addr)(μ:List Addr)(H:Hp)(h':MH)(fl:Fl)(D:Ends):Prop:=∀μ' H',Ext μ H μ' H'→HR K cl μ' H' h'→match fl with
 | .nx ρ=>∀σ,ER K μ' H' ρ σ→D.nx σ H'
 | .ret w=>∀v,RW K μ' H' w v→D.rt v H'
 | .bk ρ=>∀σ,ER K μ' H' ρ σ→D.bk σ H'
 | .ct ρ=>∀σ,ER K μ' H' ρ σ→D.ct σ H'
inductive tMS(K:PySem.W.Frag)(cl:Nat→Addr)(m:MS)(D:Ends)(σ:L2.St)(H:Hp):Prop
 | mk (μ:List Addr) (h:MH) (ρ:En) (fl:Fl) (h':MH) (p0:HR K cl μ H h) (p1:ER K μ H ρ σ) (p2:m ρ h=some (fl,h')) (p3:KF K cl μ H h' fl D):tMS K cl m D σ H
abbrev SS(X:Cx)(cl:Nat→Addr)(st:Stmt)(m:MS):Prop:=PS X st (tMS X.K cl m)
abbrev SB(X:Cx)(cl:Nat→Addr)(st:List Stmt)(m:MS):Prop:=PSs X st (tMS X.K cl m)
inductive tMG(K:PySem.W.Frag)(cl:Nat→Addr)(g:MG)(v:V)(σ:L2.St)(H:Hp)(Q:L2.St→Hp→Prop):Prop
 | mk (μ:List Addr) (h:MH) (ρ:En) (w:W) (ρ':En) (h':MH) (p0:HR K cl μ H h) (p1:ER K μ H ρ σ) (p2:RW K μ H w v) (p3:g w ρ h=some (ρ',h')) (p4:∀μ' H' σ',Ext μ H μ' H'→HR K cl μ' H' h'→ER K μ' H' ρ' σ'→Q σ' H'):tMG K cl g v σ H Q
abbrev SG(X:Cx)(cl:Nat→Addr)(e:Expr)(g:MG):Prop:=PG X e (tMG X.K cl g)
theorem PG.wk{X:Cx}{e:Expr}{t t':TG}(h:PG X e t)(w:∀v σ H Q,t' v σ H Q→t v σ H Q):PG X e t':=fun pins s σ H v u Q I r q=>h pins s σ H v u Q I r (w v σ H Q q)
theorem KF.ext{K:PySem.W.Frag}{cl:Nat→Addr}{μ μ':List Addr}{H H':Hp}{h:MH}{fl:Fl}{D:Ends}(E:Ext μ H μ' H')(k:KF K cl μ H h fl D):KF K cl μ' H' h fl D:=fun μ2 H2 E2 R2=>k μ2 H2 (E.trans E2) R2
theorem KF.nx{K:PySem.W.Frag}{cl:Nat→Addr}{μ:List Addr}{H:Hp}{h:MH}{ρ:En}{σ:L2.St}{D:Ends}(k:KF K cl μ H h (.nx ρ) D)(R:HR K cl μ H h)(er:ER K μ H ρ σ):D.nx σ H:=k μ H .refl R σ er
noncomputable def sNext:MS:=fun ρ h=>some (.nx ρ,h)
noncomputable def sSeq(a b:MS):MS:=fun ρ h=>match a ρ h with
 | some (.nx ρ',h')=>b ρ' h'
 | r=>r
noncomputable def sExpr(m:ME):MS:=fun ρ h=>match m ρ h with
 | some (_,h')=>some (.nx ρ,h')
 | none=>none
noncomputable def sRet(m:ME):MS:=fun ρ h=>match m ρ h with
 | some (w,h')=>some (.ret w,h')
 | none=>none
noncomputable def sIf(t:MT)(a b:MS):MS:=fun ρ h=>match t ρ h with
 | some (c,h')=>if c=true then a ρ h' else b ρ h'
 | none=>none
noncomputable def sAsg(m:ME)(g:MG):MS:=fun ρ h=>match m ρ h with
 | some (w,h')=>match g w ρ h' with
  | some (ρ',h2)=>some (.nx ρ',h2)
  | none=>none
 | none=>none
noncomputable def gNm(i:Nat):MG:=fun w ρ h=>if i<ρ.length then some (ρ.set i (some w),h) else none
noncomputable def gTps:List MG→List W→En→M En
 | [],[]=>fun ρ h=>some (ρ,h)
 | g::gs,w::ws=>fun ρ=>bnd (g w ρ) fun ρ'=>gTps gs ws ρ'
 | _,_=>fun _ _=>none
noncomputable def gTp(gs:List MG):MG:=fun w=>match w with
 | .tup ws=>gTps gs ws
 | _=>fun _ _=>none
noncomputable def sAug(i:Nat)(f:W→W→M W)(m:ME):MS:=fun ρ h=>match ρ[i]? with
 | some (some x)=>match m ρ h with
  | some (y,h1)=>match f x y h1 with
   | some (z,h2)=>if i<ρ.length then some (.nx (ρ.set i (some z)),h2) else none
   | none=>none
  | none=>none
 | _=>none
section
variable{X:Cx}{cl:Nat→Addr}{st:Stmt}{rest:List Stmt}{a b:MS}{e:Expr}{m:ME}{pos:Pos}
theorem ER.set{K:PySem.W.Frag}{μ:List Addr}{H:Hp}{ρ:En}{σ:L2.St}{i:Nat}{w:W}{v:V}(er:ER K μ H ρ σ)(hi:i<ρ.length)(r:RW K μ H w v):ER K μ H (ρ.set i (some w)) (σ.set i (some v)):=by
 refine⟨by simp[er.len],fun j w' e=>?_⟩
 by_cases hj:j=i
 .subst hj
  rw[List.getElem?_set_self hi] at e
  cases e
  exact⟨v,by rw[List.getElem?_set_self (by rw[←er.len]; exact hi)],r⟩
 .rw[List.getElem?_set_ne (Ne.symm hj)] at e
  obtain⟨v',e',r'⟩:=er.at_ j w' e
  exact⟨v',by rw[List.getElem?_set_ne (Ne.symm hj)]; exact e',r'⟩
theorem sb_nil:SB X cl [] sNext:=PSs.wk pss_nil fun D σ H q0=>by
 obtain⟨μ,h,ρ,fl,h',R,er,e,k⟩:=q0
 cases e
 exact k.nx R er
theorem sb_one(h1:SS X cl st a):SB X cl [st] a:=pss_one h1
theorem sb_cons(h1:SS X cl st a)(h2:SB X cl rest b):SB X cl (st::rest) (sSeq a b):=PSs.wk (pss_cons h1 h2) fun D σ H q0=>by
 obtain⟨μ,h,ρ,fl,h',R,er,e,k⟩:=q0
 unfold sSeq at e
 split at e
 .rename_i ρ1 h1 e1
  exact⟨μ,h,ρ,_,h1,R,er,e1,fun μ1 H1 E1 R1 σ1 er1=>⟨μ1,h1,ρ1,fl,h',R1,er1,e,k.ext E1⟩⟩
 .rename_i r hr
  refine⟨μ,h,ρ,fl,h',R,er,e,fun μ1 H1 E1 R1=>?_⟩
  have k1:=k μ1 H1 E1 R1
  cases fl with
  | nx ρ1=>exact absurd e (hr ρ1 h')
  | ret w=>exact k1
  | bk ρ1=>exact k1
  | ct ρ1=>exact k1
theorem ss_pass:SS X cl (.Pass pos) sNext:=PS.wk ps_pass fun D σ H q0=>by
 obtain⟨μ,h,ρ,fl,h',R,er,e,k⟩:=q0
 cases e
 exact k.nx R er
theorem ss_expr(he:SE X cl e m)(hs:swapsWith e none pos.line X.env=pure false:=by rfl):SS X cl (.Expr e pos) (sExpr m):=PS.wk (ps_expr he hs) fun D σ H q0=>by
 obtain⟨μ,h,ρ,fl,h',R,er,e,k⟩:=q0
 unfold sExpr at e
 split at e
 .rename_i w h1 e1
  cases e
  exact⟨μ,h,ρ,w,_,R,er,e1,fun μ1 H1 v E1 R1 _=>k μ1 H1 E1 R1 σ (er.ext R E1)⟩
 .cases e
theorem ss_ret(he:SE X cl e m):SS X cl (.Return (some e) pos) (sRet m):=PS.wk (ps_ret he) fun D σ H q0=>by
 obtain⟨μ,h,ρ,fl,h',R,er,e,k⟩:=q0
 unfold sRet at e
 split at e
 .rename_i w h1 e1
  cases e
  exact⟨μ,h,ρ,w,_,R,er,e1,fun μ1 H1 v E1 R1 r=>k μ1 H1 E1 R1 v r⟩
 .cases e
theorem ss_if{c:Expr}{t:MT}{sa sb:List Stmt}(hc:ST X cl c t)(ha:SB X cl sa a)(hb:SB X cl sb b):SS X cl (.If c sa sb pos) (sIf t a b):=PS.wk (ps_if hc ha hb) fun D σ H q0=>by
 obtain⟨μ,h,ρ,fl,h',R,er,e,k⟩:=q0
 unfold sIf at e
 split at e
 .rename_i c h1 e1
  refine⟨μ,h,ρ,c,h1,R,er,e1,fun μ1 H1 E1 R1=>?_⟩
  cases c with
  | true=>rw[if_pos rfl] at e ⊢; exact⟨μ1,h1,ρ,fl,h',R1,er.ext R E1,e,k.ext E1⟩
  | false=>rw[if_neg Bool.false_ne_true] at e ⊢; exact⟨μ1,h1,ρ,fl,h',R1,er.ext R E1,e,k.ext E1⟩
 .cases e
theorem sg_name(i:Nat){x:Str}(hN:X.N.Nodup)(hi:X.N[i]?=some x:=by rfl)(hx:Loc X.env.scope x:=by first | exact Or.inl rfl | exact Or.inr rfl)(hf:X.fn x=true∨X.env.scope.names.lookup x=some .local:=by first | exact .inl rfl | exact .inr rfl | assumption):SG X cl (.Name x pos) (gNm i):=
 PG.wk (pg_name (i:=i) hN hi hx hf) fun v σ H Q q0=>by
  obtain⟨μ,h,ρ,w,ρ',h',R,er,r,e,k⟩:=q0
  unfold gNm at e
  split at e
  .rename_i hi
   cases e
   exact k μ H _ .refl R (er.set hi r)
  .cases e
inductive tMGs(K:PySem.W.Frag)(cl:Nat→Addr)(gs:List MG)(vs:List V)(σ:L2.St)(H:Hp)(Q:L2.St→Hp→Prop):Prop
 | mk (μ:List Addr) (h:MH) (ρ:En) (ws:List W) (ρ':En) (h':MH) (p0:HR K cl μ H h) (p1:ER K μ H ρ σ) (p2:RWs K μ H ws vs) (p3:gTps gs ws ρ h=some (ρ',h')) (p4:∀μ' H' σ',Ext μ H μ' H'→HR K cl μ' H' h'→ER K μ' H' ρ' σ'→Q σ' H'):tMGs K cl gs vs σ H Q
abbrev SGs(X:Cx)(cl:Nat→Addr)(es:List Expr)(gs:List MG):Prop:=PGs X es (tMGs X.K cl gs)
theorem PGs.wk{es:List Expr}{t t':TGs}(h:PGs X es t)(w:∀v σ H Q,t' v σ H Q→t v σ H Q):PGs X es t':=fun pins s σ H v u Q I r q=>h pins s σ H v u Q I r (w v σ H Q q)
theorem sgs_nil:SGs X cl [] []:=PGs.wk pgs_nil fun vs σ H Q q0=>by
 obtain⟨μ,h,ρ,ws,ρ',h',R,er,rs,e,k⟩:=q0
 cases rs with
 | nil=>cases e; exact⟨rfl,k μ H _ .refl R er⟩
 | cons r t=>cases e
theorem sgs_cons{es:List Expr}{g:MG}{gs:List MG}(h1:SG X cl e g)(h2:SGs X cl es gs)
  (hs:(assignEach (e::es) X.env).map (·.2)=assign e X.env::(assignEach es X.env).map (·.2):=by rfl):SGs X cl (e::es) (g::gs):=PGs.wk (pgs_cons h1 h2 hs) fun vs σ H Q q0=>by
 obtain⟨μ,h,ρ,ws,ρ',h',R,er,rs,e,k⟩:=q0
 cases rs with
 | nil=>cases e
 | cons r t=>
  obtain⟨ρ1,h1,e1,e2⟩:=of_bnd e
  exact⟨_,_,rfl,μ,h,ρ,_,ρ1,h1,R,er,r,e1,fun μ1 H1 σ1 E1 R1 er1=>⟨μ1,h1,ρ1,_,ρ',h',R1,er1,t.ext R E1,e2,fun μ2 H2 σ2 E2 R2 er2=>k μ2 H2 σ2 (E1.trans E2) R2 er2⟩⟩
theorem sg_tup{es:List Expr}{n:Nat}{gs:List MG}(hc:X.calm=true)(hg:SGs X cl es gs)
  (hl:(assignEach es X.env).length=gs.length:=by rfl) (hst:(assignEach es X.env).findIdx? (·.1)=none:=by rfl):SG X cl (.Tuple es n pos) (gTp gs):=PG.wk (pg_tup hc hg hl hst) fun v σ H Q q0=>by
 obtain⟨μ,h,ρ,w,ρ',h',R,er,r,e,k⟩:=q0
 cases r with
 | @tup a vs l s rs=>
  have e':gTps gs l ρ h=some (ρ',h'):=e
  have ll:∀(gs:List MG) (l:List W) (ρ:En) (h:MH),gTps gs l ρ h=some (ρ',h')→gs.length=l.length:=by
   intro gs
   induction gs with
   | nil=>intro l ρ h e; cases l with | nil=>rfl | cons=>cases e
   | cons g gs ih=>
    intro l ρ h e
    cases l with
    | nil=>cases e
    | cons w l=>
     obtain⟨ρ1,h1,e1,e2⟩:=of_bnd e
     simp only[List.length_cons]; rw[ih l ρ1 h1 e2]
  exact⟨a,vs,rfl,s,by rw[←rs.length]; exact(ll gs l ρ h e').symm,μ,h,ρ,l,ρ',h',R,er,rs,e',k⟩
 | _=>cases e
theorem ss_asg{tg:Expr}{g:MG}(he:SE X cl e m)(hg:SG X cl tg g)(hs:swapsWithSole [tg] e pos.line X.env=pure false:=by rfl)(hw:swappedStores [tg] e X.env=pure none:=by rfl)
  (h1:(assignEach [tg] X.env).map (·.2)=[assign tg X.env]:=by rfl):SS X cl (.Assign [tg] e pos) (sAsg m g):=PS.wk (ps_asg he hg hs hw h1) fun D σ H q0=>by
 obtain⟨μ,h,ρ,fl,h',R,er,e,k⟩:=q0
 unfold sAsg at e
 split at e
 .rename_i w h1 e1
  split at e
  .rename_i ρ2 h2 e2
   cases e
   exact⟨μ,h,ρ,w,h1,R,er,e1,fun μ1 H1 v E1 R1 r=>⟨μ1,h1,ρ,w,ρ2,_,R1,er.ext R E1,r,e2,fun μ2 H2 σ2 E2 R2 er2=>k μ2 H2 (E1.trans E2) R2 σ2 er2⟩⟩
  .cases e
 .cases e
theorem ss_set(i:Nat){x:Str}{pos':Pos}(hN:X.N.Nodup)(he:SE X cl e m)(hi:X.N[i]?=some x:=by rfl)(hx:Loc X.env.scope x:=by first | exact Or.inl rfl | exact Or.inr rfl)(hs:swapsWith e (some (.Name x pos')) pos.line X.env=pure false:=by rfl)
  (hf:X.fn x=true∨X.env.scope.names.lookup x=some .local:=by first | exact .inl rfl | exact .inr rfl | assumption):SS X cl (.Assign [.Name x pos'] e pos) (sAsg m (gNm i)):=PS.wk (ps_set (i:=i) hN hi hx he hs hf) fun D σ H q0=>by
 obtain⟨μ,h,ρ,fl,h',R,er,e,k⟩:=q0
 unfold sAsg at e
 split at e
 .rename_i w h1 e1
  split at e
  .rename_i ρ2 h2 e2
   cases e
   refine⟨μ,h,ρ,w,h1,R,er,e1,fun μ1 H1 v E1 R1 r=>?_⟩
   unfold gNm at e2
   split at e2
   .rename_i hi
    cases e2
    exact k μ1 H1 E1 R1 _ ((er.ext R E1).set hi r)
   .cases e2
  .cases e
 .cases e
theorem ss_aug(i:Nat){x:Str}{op:Operator}{f:W→W→M W}{pos':Pos}(hN:X.N.Nodup)(ho:PIp X op (rM X.K cl f))(he:SE X cl e m)(hi:X.N[i]?=some x:=by rfl)(hx:Loc X.env.scope x:=by first | exact Or.inl rfl | exact Or.inr rfl)
  (hf:X.fn x=true∨X.env.scope.names.lookup x=some .local:=by first | exact .inl rfl | exact .inr rfl | assumption):SS X cl (.AugAssign (.Name x pos') op e pos) (sAug i f m):=PS.wk (ps_aug (i:=i) hN hi hx he ho hf) fun D σ H q0=>by
 obtain⟨μ,h,ρ,fl,h',R,er,e,k⟩:=q0
 unfold sAug at e
 split at e
 .rename_i w0 e0
  split at e
  .rename_i y h1 e1
   split at e
   .rename_i z h2 e2
    split at e
    .rename_i hi
     cases e
     obtain⟨v0,q0,r0⟩:=er.at_ i w0 e0
     exact⟨v0,q0,μ,h,ρ,y,h1,R,er,e1,fun μ1 H1 vy E1 R1 ry=>⟨μ1,h1,w0,y,z,_,R1,r0.ext R E1,ry,e2,fun μ2 H2 vz E2 R2 rz=>k μ2 H2 (E1.trans E2) R2 _ (((er.ext R E1).ext R1 E2).set hi rz)⟩⟩
    .cases e
   .cases e
  .cases e
 .cases e
end
noncomputable def whileN(c:MT)(b:MS):Nat→MS
 | 0=>fun _ _=>none
 | n+1=>fun ρ h=>match c ρ h with
  | some (true,h1)=>match b ρ h1 with
   | some (.nx ρ2,h2)=>whileN c b n ρ2 h2
   | some (.ct ρ2,h2)=>whileN c b n ρ2 h2
   | some (.bk ρ2,h2)=>some (.nx ρ2,h2)
   | some (.ret w,h2)=>some (.ret w,h2)
   | none=>none
  | some (false,h1)=>some (.nx ρ,h1)
  | none=>none
theorem whileN_mono{c:MT}{b:MS}:∀{n:Nat} {ρ:En} {h:MH} {r:Fl×MH},whileN c b n ρ h=some r→∀k,whileN c b (n+k) ρ h=some r
 | 0,_,_,_,e,_=>by cases e
 | n+1,ρ,h,r,e,k=>by
  rw[show n+1+k=(n+k)+1 by omega]
  unfold whileN at e ⊢
  cases e1:c ρ h with
  | none=>rw[e1] at e; cases e
  | some p=>
   obtain⟨t,h1⟩:=p
   rw[e1] at e
   cases t with
   | false=>exact e
   | true=>
    simp only at e ⊢
    cases e2:b ρ h1 with
    | none=>rw[e2] at e; cases e
    | some q=>
     obtain⟨fl,h2⟩:=q
     rw[e2] at e
     cases fl with
     | nx ρ2=>exact whileN_mono (n:=n) e k
     | ct ρ2=>exact whileN_mono (n:=n) e k
     | bk ρ2=>exact e
     | ret w=>exact e
open Classical in
noncomputable def sWhile(c:MT)(b:MS):MS:=fun ρ h=>if q:∃n r,whileN c b n ρ h=some r then some q.choose_spec.choose else none
theorem sWhile_of{c:MT}{b:MS}{n:Nat}{ρ:En}{h:MH}{r:Fl×MH}(e:whileN c b n ρ h=some r):sWhile c b ρ h=some r:=by
 unfold sWhile
 have q:∃n r,whileN c b n ρ h=some r:=⟨n,r,e⟩
 rw[dif_pos q]
 have e1:=q.choose_spec.choose_spec
 have e2:=whileN_mono e1 n
 have e3:=whileN_mono e q.choose
 rw[Nat.add_comm] at e3
 rw[e2] at e3
 exact e3
theorem of_sWhile{c:MT}{b:MS}{ρ:En}{h:MH}{r:Fl×MH}(e:sWhile c b ρ h=some r):∃n,whileN c b n ρ h=some r:=by
 unfold sWhile at e
 split at e
 .rename_i q
  have e1:=q.choose_spec.choose_spec
  cases e
  exact⟨_,e1⟩
 .cases e
section
variable{X:Cx}{cl:Nat→Addr}{pos:Pos}
theorem ss_while{c:Expr}{body:List Stmt}{t:MT}{b:MS}(hc:ST X cl c t)(hb:SB X cl body b)(hp:PassesOwn (model X.prog X.w) X.A X.env X.xe:=by exact PassesOwn.never):SS X cl (.While c body [] pos) (sWhile t b):=PS.wk (ps_while hp hc hb) fun D σ H q0=>by
 obtain⟨μ,h,ρ,fl,h',R,er,e,k⟩:=q0
 obtain⟨n0,e⟩:=of_sWhile e
 refine⟨fun n σ H=>∃μ h ρ fl h',HR X.K cl μ H h∧ER X.K μ H ρ σ∧whileN t b n ρ h=some (fl,h')∧KF X.K cl μ H h' fl D,⟨n0,μ,h,ρ,fl,h',R,er,e,k⟩,?_⟩
 rintro n σ H ⟨μ,h,ρ,fl,h',R,er,e,k⟩
 cases n with
 | zero=>cases e
 | succ n=>
  unfold whileN at e
  cases e1:t ρ h with
  | none=>rw[e1] at e; cases e
  | some p=>
   obtain⟨c,h1⟩:=p
   rw[e1] at e
   refine⟨μ,h,ρ,c,h1,R,er,e1,fun μ1 H1 E1 R1=>?_⟩
   cases c with
   | false=>
    rw[if_neg Bool.false_ne_true]
    cases e
    exact k μ1 H1 E1 R1 σ (er.ext R E1)
   | true=>
    rw[if_pos rfl]
    refine⟨fun σ' H'=>∃μ h ρ fl h',HR X.K cl μ H' h∧ER X.K μ H' ρ σ'∧whileN t b n ρ h=some (fl,h')∧KF X.K cl μ H' h' fl D,fun σ' H' q=>⟨n,Nat.lt_succ_self n,q⟩,?_⟩
    simp only at e
    cases e2:b ρ h1 with
    | none=>rw[e2] at e; cases e
    | some q=>
     obtain⟨f2,h2⟩:=q
     rw[e2] at e
     refine⟨μ1,h1,ρ,f2,h2,R1,er.ext R E1,e2,fun μ2 H2 E2 R2=>?_⟩
     cases f2 with
     | nx ρ2=>exact fun σ2 er2=>⟨μ2,h2,ρ2,fl,h',R2,er2,e,k.ext (E1.trans E2)⟩
     | ct ρ2=>exact fun σ2 er2=>⟨μ2,h2,ρ2,fl,h',R2,er2,e,k.ext (E1.trans E2)⟩
     | bk ρ2=>cases e; exact fun σ2 er2=>k μ2 H2 (E1.trans E2) R2 σ2 er2
     | ret w=>cases e; exact fun v rv=>k μ2 H2 (E1.trans E2) R2 v rv
end
inductive Src where
 | items (l:List W) | live (n:Nat)
noncomputable def srcAt(s:Src)(i:Nat)(h:MH):Option (Option W):=match s with
 | .items l=>some l[i]?
 | .live n=>match h[n]? with
  | some (.lst l)=>some l[i]?
  | _=>none
noncomputable def JR(K:PySem.W.Frag)(cl:Nat→Addr)(J:It)(s:Src)(μ:List Addr)(H:Hp):Prop:=∀μ2 H2 h2,Ext μ H μ2 H2→HR K cl μ2 H2 h2→∀i,
 (∀w,srcAt s i h2=some (some w)→J.go i H2∧∀x H3,J.yld i H2 x H3→Ext μ2 H2 μ2 H3∧HR K cl μ2 H3 h2∧RW K μ2 H3 w x)∧(srcAt s i h2=some none→J.stop i H2)
abbrev MI:=En→M Src
inductive tMI(K:PySem.W.Frag)(cl:Nat→Addr)(m:MI)(σ:L2.St)(H:Hp)(R:It→Hp→Prop):Prop
 | mk (μ:List Addr) (h:MH) (ρ:En) (src:Src) (h':MH) (p0:HR K cl μ H h) (p1:ER K μ H ρ σ) (p2:m ρ h=some (src,h')) (p3:∀μ' H' J,Ext μ H μ' H'→HR K cl μ' H' h'→JR K cl J src μ' H'→R J H'):tMI K cl m σ H R
abbrev SI(X:Cx)(cl:Nat→Addr)(tg e:Expr)(m:MI):Prop:=PI X tg e (tMI X.K cl m)
theorem PI.wk{X:Cx}{tg e:Expr}{t t':TI}(h:PI X tg e t)(w:∀σ H Q,t' σ H Q→t σ H Q):PI X tg e t':=fun pins s σ H Q I q=>h pins s σ H Q I (w σ H Q q)
theorem JR.ext{K:PySem.W.Frag}{cl:Nat→Addr}{J:It}{s:Src}{μ μ':List Addr}{H H':Hp}(E:Ext μ H μ' H')(j:JR K cl J s μ H):JR K cl J s μ' H':=fun μ2 H2 h2 E2=>j μ2 H2 h2 (E.trans E2)
noncomputable def forN(s:Src)(g:MG)(b:MS):Nat→Nat→MS
 | 0,_=>fun _ _=>none
 | k+1,i=>fun ρ h=>match srcAt s i h with
  | some (some w)=>match g w ρ h with
   | some (ρ1,h1)=>match b ρ1 h1 with
    | some (.nx ρ2,h2)=>forN s g b k (i+1) ρ2 h2
    | some (.ct ρ2,h2)=>forN s g b k (i+1) ρ2 h2
    | some (.bk ρ2,h2)=>some (.nx ρ2,h2)
    | some (.ret w,h2)=>some (.ret w,h2)
    | none=>none
   | none=>none
  | some none=>some (.nx ρ,h)
  | none=>none
noncomputable def forL(g:MG)(b:MS):List W→MS
 | []=>fun ρ h=>some (.nx ρ,h)
 | w::r=>fun ρ h=>match g w ρ h with
  | some (ρ1,h1)=>match b ρ1 h1 with
   | some (.nx ρ2,h2)=>forL g b r ρ2 h2
   | some (.ct ρ2,h2)=>forL g b r ρ2 h2
   | some (.bk ρ2,h2)=>some (.nx ρ2,h2)
   | some (.ret w,h2)=>some (.ret w,h2)
   | none=>none
  | none=>none
theorem forN_items{g:MG}{b:MS}(l:List W):∀(k i:Nat) (ρ:En) (h:MH),l.length+1≤i+k→i≤l.length→forN (.items l) g b k i ρ h=forL g b (l.drop i) ρ h
 | 0,i,ρ,h,hk,hi=>by omega
 | k+1,i,ρ,h,hk,hi=>by
  by_cases hl:i<l.length
  .rw[List.drop_eq_getElem_cons hl]
   unfold forN forL
   simp only[srcAt,List.getElem?_eq_getElem hl]
   cases e1:g l[i] ρ h with
   | none=>rfl
   | some p=>
    obtain⟨ρ1,h1⟩:=p
    simp only
    cases e2:b ρ1 h1 with
    | none=>rfl
    | some q=>
     obtain⟨fl,h2⟩:=q
     cases fl with
     | nx ρ2=>exact forN_items l k (i+1) ρ2 h2 (by omega) hl
     | ct ρ2=>exact forN_items l k (i+1) ρ2 h2 (by omega) hl
     | bk ρ2=>rfl
     | ret w=>rfl
  .have hi':i=l.length:=by omega
   subst hi'
   rw[List.drop_length]
   unfold forN forL
   simp[srcAt]
noncomputable def srcLen(s:Src)(h:MH):Nat:=match s with
 | .items l=>l.length
 | .live n=>match h[n]? with
  | some (.lst l)=>l.length
  | _=>0
noncomputable def sFor(mi:MI)(g:MG)(b:MS):MS:=fun ρ h=>match mi ρ h with
 | some (.items l,h1)=>forL g b l ρ h1
 | some (.live n,h1)=>forN (.live n) g b (srcLen (.live n) h1+1) 0 ρ h1
 | none=>none
section
variable{X:Cx}{cl:Nat→Addr}{pos:Pos}
theorem for_read{K:PySem.W.Frag}{J:It}{src:Src}{g:MG}{b:MS}{D:Ends}{σ:L2.St}{μ:List Addr}{H:Hp}{h h':MH}{ρ:En}{fl:Fl}{k0:Nat}(R:HR K cl μ H h)(er:ER K μ H ρ σ)(j:JR K cl J src μ H)(e:forN src g b k0 0 ρ h=some (fl,h'))
  (k:KF K cl μ H h' fl D):∃W:Nat→Nat→L2.St→Hp→Prop,(∃m,W 0 m σ H)∧∀i m σ H,W i m σ H→
   (J.stop i H∧D.nx σ H)∨(J.go i H∧∃N:L2.St→Hp→Prop,(∀σ' H',N σ' H'→∃m',m'<m∧W (i+1) m' σ' H')∧∀x H',J.yld i H x H'→tMG K cl g x σ H' fun σ2 H2=>tMS K cl b { D with nx:=N,ct:=N,bk:=D.nx } σ2 H2):=by
 refine⟨fun i m σ H=>∃μ h ρ fl h',HR K cl μ H h∧ER K μ H ρ σ∧JR K cl J src μ H∧forN src g b m i ρ h=some (fl,h')∧KF K cl μ H h' fl D,⟨k0,μ,h,ρ,fl,h',R,er,j,e,k⟩,?_⟩
 rintro i m σ H ⟨μ,h,ρ,fl,h',R,er,j,e,k⟩
 cases m with
 | zero=>cases e
 | succ m=>
  unfold forN at e
  obtain⟨jg,js⟩:=j μ H h .refl R i
  cases es:srcAt src i h with
  | none=>rw[es] at e; cases e
  | some o=>
   rw[es] at e
   cases o with
   | none=>
    cases e
    exact .inl ⟨js es,k.nx R er⟩
   | some w=>
    obtain⟨go,yl⟩:=jg w es
    simp only at e
    cases e1:g w ρ h with
    | none=>rw[e1] at e; cases e
    | some p=>
     obtain⟨ρ1,h1⟩:=p
     rw[e1] at e
     simp only at e
     cases e2:b ρ1 h1 with
     | none=>rw[e2] at e; cases e
     | some q=>
      obtain⟨f2,h2⟩:=q
      rw[e2] at e
      refine .inr ⟨go,fun σ' H'=>∃μ h ρ fl h',HR K cl μ H' h∧ER K μ H' ρ σ'∧JR K cl J src μ H'∧forN src g b m (i+1) ρ h=some (fl,h')∧KF K cl μ H' h' fl D,fun σ' H' q=>⟨m,Nat.lt_succ_self m,q⟩,fun x H1 y1=>?_⟩
      obtain⟨E1,R1,rx⟩:=yl x H1 y1
      refine⟨μ,h,ρ,w,ρ1,h1,R1,er.ext R E1,rx,e1,fun μ2 H2 σ2 E2 R2 er2=>⟨μ2,h1,ρ1,f2,h2,R2,er2,e2,fun μ3 H3 E3 R3=>?_⟩⟩
      have E:=E1.trans (E2.trans E3)
      cases f2 with
      | nx ρ2=>exact fun σ3 er3=>⟨μ3,h2,ρ2,fl,h',R3,er3,j.ext E,e,k.ext E⟩
      | ct ρ2=>exact fun σ3 er3=>⟨μ3,h2,ρ2,fl,h',R3,er3,j.ext E,e,k.ext E⟩
      | bk ρ2=>cases e; exact fun σ3 er3=>k μ3 H3 E R3 σ3 er3
      | ret w=>cases e; exact fun v rv=>k μ3 H3 E R3 v rv
theorem ss_for{tg iter:Expr}{body:List Stmt}{mi:MI}{g:MG}{b:MS}(hc:X.calm=true)(hi:SI X cl tg iter mi)(hg:SG X cl tg g)(hb:SB X cl body b)
  (hs:∀x,foldedSetIterable iter X.env x=pure x:=by intro _; rfl) (hp:PassesOwn (model X.prog X.w) X.A X.env X.xe:=by exact PassesOwn.never):SS X cl (.For tg iter body [] pos) (sFor mi g b):=PS.wk (ps_for hp hc hi hg hb hs) fun D σ H q0=>by
 obtain⟨μ,h,ρ,fl,h',R,er,e,k⟩:=q0
 unfold sFor at e
 split at e
 .rename_i l h1 e1
  refine⟨μ,h,ρ,.items l,h1,R,er,e1,fun μ1 H1 J E1 R1 j=>?_⟩
  have q:=forN_items (g:=g) (b:=b) l (l.length+1) 0 ρ h1 (by omega) (by omega)
  rw[List.drop_zero,e] at q
  exact for_read R1 (er.ext R E1) j q (k.ext E1)
 .rename_i n h1 e1
  exact⟨μ,h,ρ,.live n,h1,R,er,e1,fun μ1 H1 J E1 R1 j=>for_read R1 (er.ext R E1) j e (k.ext E1)⟩
 .cases e
end
noncomputable def fnM(np k:Nat)(b:MS):List W→M W:=fun ws h=>if ws.length=np then (match b (ws.map some++List.replicate k none) h with
 | some (.ret w,h')=>some (w,h')
 | some (.nx _,h')=>some (.non,h')
 | _=>none) else none
section
variable{P:Program}{w:World}{K:PySem.W.Frag}{mg:Str→Option Value}{base:Heap}{cl:Nat→Addr}
theorem start_er{μ:List Addr}{H:Hp}{N:List Str}{ws:List W}{vs:List V}{k:Nat}(rs:RWs K μ H ws vs)(hk:N.length-vs.length=k):ER K μ H (ws.map some++List.replicate k none) (L2.start N vs):=by
 subst hk
 unfold L2.start
 refine⟨by simp[rs.length],fun i w e=>?_⟩
 by_cases hi:i<ws.length
 .rw[List.getElem?_append_left (by simpa using hi),List.getElem?_map] at e
  cases e1:ws[i]? with
  | none=>rw[e1] at e; cases e
  | some w'=>
   rw[e1] at e
   cases e
   obtain⟨v,e2,r⟩:=rs.get e1
   exact⟨v,by rw[List.getElem?_append_left (by rw[List.length_map,←rs.length]; exact hi),List.getElem?_map,e2]; rfl,r⟩
 .rw[List.getElem?_append_right (by simpa using hi),List.getElem?_replicate] at e
  split at e<;>cases e
theorem fn_ok{x qual:Str}{st:Stmt}{f:Addr}{fd:FuncData}{N ps:List Str}{k np ns:Nat}{b:MS}(F:Fun K x qual st f fd)(S:FnScope N ps (defScope st))(hnp:ps.length=np)(hns:N.length-np=ns)
  (hb:∀(cdv:Value) (A:Around) (outer:List Env) (s:Shared) (H:Hp) (E:XK),Room k (A.deeper (envOfC qual (defScope st) s.heap.objs.size f cdv))→
   SB (cxOf CX0 P w K mg base N qual (defScope st) f cdv A outer s H E).nox cl (defBody st) b):FnOk P w K mg base CX0 (k+1) f fd ps (spM K cl (gc (fnM np ns b))):=by
 have len:∀vs H Q E,spM K cl (fnM np ns b) vs H Q E→vs.length=ps.length:=by
  rintro vs H Q E ⟨μ,h,ws,w,h',R,rs,e,k⟩
  unfold fnM at e
  split at e
  .rename_i hl
   rw[hnp,←hl,rs.length]
  .cases e
 refine FnOk.imp (sp:=spM K cl (fnM np ns b)) (F.ok S len fun cdv A outer s H vs Q E hr hsp=>⟨_,hb cdv A outer s H E hr,?_⟩) fun vs H Q E q=>gc_ok (E:=E) q
 have hlen:=len _ _ _ _ hsp
 obtain⟨μ,h,ws,w,h',R,rs,e,k⟩:=hsp
 unfold fnM at e
 split at e
 .rename_i hl
  split at e
  .rename_i w1 h1 e1
   cases e
   exact⟨μ,h,_,_,_,R,start_er rs (by rw[hlen,hnp]; exact hns),e1,fun μ1 H1 E1 R1 v rv=>k μ1 H1 v E1 R1 rv⟩
  .rename_i ρ1 h1 e1
   cases e
   exact⟨μ,h,_,_,_,R,start_er rs (by rw[hlen,hnp]; exact hns),e1,fun μ1 H1 E1 R1 σ1 _=>k μ1 H1 .non E1 R1 .non⟩
  .cases e
 .cases e
end
noncomputable def getL(h:MH):W→Option (List W)
 | .fls l=>some l
 | .ref n=>match h[n]? with
  | some (.lst l)=>some l
  | _=>none
 | _=>none
section
variable{K:PySem.W.Frag}{cl:Nat→Addr}{μ:List Addr}{H:Hp}{h:MH}
theorem getL_of{w:W}{v:V}{l:List W}(R:HR K cl μ H h)(r:RW K μ H w v)(e:getL h w=some l):∃a vs,v=.ref a∧SqL K H a vs∧RWs K μ H l vs:=by
 cases r with
 | @fls a vs l' s rs=>cases e; exact⟨a,vs,rfl,s.sq,rs⟩
 | @ref n a hn=>
  simp only[getL] at e
  split at e
  .rename_i l' ho
   cases e
   obtain⟨vs,hv,rs⟩:=R.ob n a _ hn ho
   exact⟨a,vs,rfl,SqL.of hv,rs⟩
  .cases e
 | _=>cases e
theorem RW.int_of{i:Int}{v:V}(r:RW K μ H (.int i) v):v=.int i:=by cases r; rfl
theorem RW.str_of{i:Str}{v:V}(r:RW K μ H (.str i) v):v=.str i:=by cases r; rfl
theorem RW.tup_of{l:List W}{v:V}(r:RW K μ H (.tup l) v):∃a vs,v=.ref a∧SqT K H a vs∧RWs K μ H l vs:=by cases r with | @tup a vs l s rs=>exact⟨a,vs,rfl,s,rs⟩
end
noncomputable def addI(x y:W):Option W:=match x,y with
 | .int i,.int j=>some (.int (i+j))
 | .str i,.str j=>if i.length+j.length≤cap then some (.str (i++j)) else none
 | .tup l,.tup l'=>if l.length+l'.length≤cap then some (.tup (l++l')) else none
 | _,_=>none
noncomputable def addW(x y:W):M W:=fun h=>match addI x y with
 | some w=>some (w,h)
 | none=>match getL h x,getL h y with
  | some l,some l'=>if l.length+l'.length≤cap then some (.fls (l++l'),h) else none
  | _,_=>none
noncomputable def addM(x y:W):M W:=fun h=>match getL h x,getL h y with
 | some l,some l'=>if l.length+l'.length≤cap then some (.ref h.length,h++[.lst (l++l')]) else none
 | _,_=>none
section
variable{prog:Program}{w:World}{A:Around}{E:Value→Shared→Prop}{s:Shared}
theorem cat_list{t b:Addr}{vs ws:List Value}{Q:Value→Shared→Prop}(ht:s.heap.IsList t vs.toArray)(hb:s.heap.IsList b ws.toArray)
  (h2:Q (.ref s.heap.objs.size) { s with heap:=s.heap.push { cls:=.type "list",data:=.seq (vs++ws).toArray } })
  (hsz:vs.length+ws.length≤sizeLine):wpAny (model prog w) A (binaryOp .Add (.ref t) (.ref b)) Q E s:=by
 obtain⟨⟨cls,dd,data,sl⟩,ho,hc,n,hd⟩:=id ht
 obtain⟨⟨cls2,dd2,data2,sl2⟩,ho2,hc2,n2,hd2⟩:=id hb
 simp only at hc hd hc2 hd2
 subst hc hd hc2 hd2
 have e:vs.toArray++ws.toArray=(vs++ws).toArray:=by simp
 refine concat_meets ⟨_,ho,rfl⟩ ⟨_,ho2,rfl⟩ noFill_list_add seq_list_add PySem.F.slot_list_add PySem.F.entry_list_add (PySem.F.args_list_add_2 _ _)
  (list_addW t b vs.toArray ws.toArray n n2 dd dd2 sl sl2 (by rw[List.size_toArray,List.size_toArray]; exact hsz)) ⟨ho,ho2,?_⟩
 rw[e]
 exact h2
theorem cat_tup0{t b:Addr}{ws:List Value}{Q:Value→Shared→Prop}(ht:IsTup s.heap t ([]:List Value).toArray)(hb:IsTup s.heap b ws.toArray)(h1:Q (.ref b) s) :
  wpAny (model prog w) A (binaryOp .Add (.ref t) (.ref b)) Q E s:=by
 obtain⟨⟨cls,dd,data,sl⟩,ho,hc,n,hd⟩:=id ht
 obtain⟨⟨cls2,dd2,data2,sl2⟩,ho2,hc2,n2,hd2⟩:=id hb
 simp only at hc hd hc2 hd2
 subst hc hd hc2 hd2
 exact concat_meets ⟨_,ho,rfl⟩ ⟨_,ho2,rfl⟩ noFill_tuple_add seq_tuple_add PySem.F.slot_tuple_add PySem.F.entry_tuple_add (PySem.F.args_tuple_add_2 _ _)
  (tuple_addW0 t b _ ws.toArray n n2 dd dd2 sl sl2 rfl) ⟨ho,ho2,h1⟩
end
section
variable{X:Cx}{cl:Nat→Addr}
theorem op_addL{P:List W→MH→W→MH→Prop}{pins:List (Addr×Obj)}{s:Shared}{σ:L2.St}{H:Hp}{x y:V}{v u:Value}{Q:VK}{μ:List Addr}{h:MH}{wx wy:W}{l l':List W}(I:Inv X pins σ H s)(rx:RelV x v)(ry:RelV y u)
  (R:HR X.K cl μ H h) (ax:RW X.K μ H wx x) (ay:RW X.K μ H wy y) (e1:getL h wx=some l) (e2:getL h wy=some l') (hl:l.length+l'.length≤cap)
  (k:∀p xs,H p=none→RWs X.K μ H (l++l') xs→Q (.ref p) (upd H p (.lst xs))):wpAny (model X.prog X.w) X.A (binaryOp .Add v u) (EP X pins σ Q) X.xe s:=by
 obtain⟨a,vs,rfl,sa,ra⟩:=getL_of R ax e1
 obtain⟨b,vs',rfl,sb,rb⟩:=getL_of R ay e2
 cases rx
 cases ry
 obtain⟨its,r1,p1,_⟩:=I.list sa
 obtain⟨its2,r2,p2,_⟩:=I.list sb
 have hz:vs.length+vs'.length≤sizeLine:=Nat.le_trans (by rw[←ra.length,←rb.length]; exact hl) cap_le
 refine cat_list p1.isList p2.isList ?_ (by rw[←r1.length,←r2.length]; exact hz)
 exact⟨.ref _,_,I.lnew (t':=s.toks) (r1.append r2) (by rw[List.length_append]; exact hz),rfl,k _ _ I.fresh (ra.append rb)⟩
theorem op_addW:OpR X (binaryOp .Add) (rM X.K cl addW):=by
 rintro pins s σ H x y v u Q I rx ry ⟨μ,h,wx,wy,w,h',R,ax,ay,e,k⟩
 unfold addW at e
 split at e
 .rename_i w' e'
  cases e
  unfold addI at e'
  split at e'
  .rename_i i j
   cases e'
   exact op_add pins s σ H x y v u Q I rx ry ⟨i,j,ax.int_of,ay.int_of,k.pure R (.int _)⟩
  .rename_i i j
   split at e'
   .rename_i hl
    cases e'
    exact op_add_str pins s σ H x y v u Q I rx ry ⟨i,j,ax.str_of,ay.str_of,Nat.le_trans hl cap_le,k.pure R (.str _)⟩
   .cases e'
  .rename_i l l'
   split at e'
   .rename_i hl
    cases e'
    obtain⟨a,vs,rfl,sa,ra⟩:=ax.tup_of
    obtain⟨b,vs',rfl,sb,rb⟩:=ay.tup_of
    by_cases hv:vs=[]
    .subst hv
     cases ra
     cases rx
     cases ry
     obtain⟨its,r1,p1,_⟩:=I.tuple sa
     obtain⟨its2,r2,p2,_⟩:=I.tuple sb
     cases r1
     exact cat_tup0 p1 p2 ⟨.ref b,H,I,rfl,k.pure R (.tup sb rb)⟩
    .refine op_catT pins s σ H _ _ v u Q I rx ry ⟨a,b,vs,vs',rfl,rfl,sa,sb,hv,Nat.le_trans (by rw[←ra.length,←rb.length]; exact hl) cap_le,fun z=>?_,fun _ p hp=>k.tup R (ra.append rb) hp⟩
     subst z
     cases rb
     rw[List.append_nil] at k
     exact k.pure R (.tup sa ra)
   .cases e'
  .cases e'
 .split at e
  .rename_i l l' e1 e2
   split at e
   .rename_i hl
    cases e
    exact op_addL (P:=fun _ _ _ _=>True) I rx ry R ax ay e1 e2 hl fun p xs hp rs=>k.fls R rs hp
   .cases e
  .cases e
theorem op_addM:OpR X (binaryOp .Add) (rM X.K cl addM):=by
 rintro pins s σ H x y v u Q I rx ry ⟨μ,h,wx,wy,w,h',R,ax,ay,e,k⟩
 unfold addM at e
 split at e
 .rename_i l l' e1 e2
  split at e
  .rename_i hl
   cases e
   exact op_addL (P:=fun _ _ _ _=>True) I rx ry R ax ay e1 e2 hl fun p xs hp rs=>k.lst R rs hp
  .cases e
 .cases e
end
noncomputable def subW(x y:W):M W:=fun h=>match x,y with
 | .int i,.int j=>some (.int (i-j),h)
 | _,_=>none
noncomputable def small(i:Int):Bool:=decide (-(2 ^ 64)<i∧i<2 ^ 64)
noncomputable def mulW(x y:W):M W:=fun h=>match x,y with
 | .int i,.int j=>if (small i||small j)=true then some (.int (i*j),h) else none
 | .tup l,.int j=>if 0≤j∧j≤1000∧l.length≤1000 then some (.tup (List.replicate j.toNat l).flatten,h) else none
 | _,_=>none
noncomputable def modW(x y:W):M W:=fun h=>match x,y with
 | .int i,.int j=>if 0<j then some (.int (i%j),h) else none
 | _,_=>none
noncomputable def divW(x y:W):M W:=fun h=>match x,y with
 | .int i,.int j=>if 0<j∧j<1073741824 then some (.int (i/j),h) else none
 | _,_=>none
noncomputable def powW(x y:W):M W:=fun h=>match x,y with
 | .int i,.int j=>if 0≤j∧j≤100∧i.natAbs<1000 then some (.int (i ^ j.toNat),h) else none
 | _,_=>none
noncomputable def cmpI(p:Int→Int→Bool)(x y:W):M W:=fun h=>match x,y with
 | .int i,.int j=>some (.bl (p i j),h)
 | _,_=>none
noncomputable def negW(x:W):M W:=fun h=>match x with
 | .int i=>some (.int (-i),h)
 | _=>none
noncomputable def isNonW(b:Bool)(x y:W):M W:=fun h=>match x,y with
 | .non,.non=>some (.bl b,h)
 | .tup _,.non=>some (.bl (!b),h)
 | .fls _,.non=>some (.bl (!b),h)
 | .int _,.non=>some (.bl (!b),h)
 | .str _,.non=>some (.bl (!b),h)
 | .bl _,.non=>some (.bl (!b),h)
 | .ref _,.non=>some (.bl (!b),h)
 | _,_=>none
section
variable{X:Cx}{cl:Nat→Addr}
theorem op_subW:OpR X (binaryOp .Sub) (rM X.K cl subW):=by
 rintro pins s σ H x y v u Q I rx ry ⟨μ,h,wx,wy,w,h',R,ax,ay,e,k⟩
 unfold subW at e
 split at e
 .cases e; exact op_sub pins s σ H x y v u Q I rx ry ⟨_,_,ax.int_of,ay.int_of,k.pure R (.int _)⟩
 .cases e
theorem op_modW:OpR X (binaryOp .Mod) (rM X.K cl modW):=by
 rintro pins s σ H x y v u Q I rx ry ⟨μ,h,wx,wy,w,h',R,ax,ay,e,k⟩
 unfold modW at e
 split at e
 .split at e
  .rename_i hj; cases e; exact op_mod pins s σ H x y v u Q I rx ry ⟨_,_,ax.int_of,ay.int_of,hj,k.pure R (.int _)⟩
  .cases e
 .cases e
theorem op_divW:OpR X (binaryOp .FloorDiv) (rM X.K cl divW):=by
 rintro pins s σ H x y v u Q I rx ry ⟨μ,h,wx,wy,w,h',R,ax,ay,e,k⟩
 unfold divW at e
 split at e
 .split at e
  .rename_i hj; cases e; exact op_fdiv pins s σ H x y v u Q I rx ry ⟨_,_,ax.int_of,ay.int_of,hj,k.pure R (.int _)⟩
  .cases e
 .cases e
theorem op_powW:OpR X (binaryOp .Pow) (rM X.K cl powW):=by
 rintro pins s σ H x y v u Q I rx ry ⟨μ,h,wx,wy,w,h',R,ax,ay,e,k⟩
 unfold powW at e
 split at e
 .split at e
  .rename_i hj; cases e; exact op_pow pins s σ H x y v u Q I rx ry ⟨_,_,ax.int_of,ay.int_of,⟨hj.1,by omega,Nat.lt_of_lt_of_le hj.2.2 (by decide)⟩,k.pure R (.int _)⟩
  .cases e
 .cases e
theorem op_cmpI{op:CmpOp}{p:Int→Int→Bool}(ho:OpR X (compareOp op) (rI0 fun i j=>.bl (p i j))):OpR X (compareOp op) (rM X.K cl (cmpI p)):=by
 rintro pins s σ H x y v u Q I rx ry ⟨μ,h,wx,wy,w,h',R,ax,ay,e,k⟩
 unfold cmpI at e
 split at e
 .cases e; exact ho pins s σ H x y v u Q I rx ry ⟨_,_,ax.int_of,ay.int_of,k.pure R (.bl _)⟩
 .cases e
theorem op_ltW:OpR X (compareOp .Lt) (rM X.K cl (cmpI fun i j=>decide (i<j))):=op_cmpI op_lt
theorem op_leW:OpR X (compareOp .LtE) (rM X.K cl (cmpI fun i j=>decide (i≤j))):=op_cmpI op_le
theorem op_gtW:OpR X (compareOp .Gt) (rM X.K cl (cmpI fun i j=>decide (j<i))):=op_cmpI op_gt
theorem op_geW:OpR X (compareOp .GtE) (rM X.K cl (cmpI fun i j=>decide (j≤i))):=op_cmpI op_ge
theorem un_negW:UnR X (unaryOp .USub) (rM1 X.K cl negW):=by
 rintro pins s σ H x v Q I rx ⟨μ,h,wx,w,h',R,ax,e,k⟩
 unfold negW at e
 split at e
 .cases e; exact un_neg pins s σ H x v Q I rx ⟨_,ax.int_of,k.pure R (.int _)⟩
 .cases e
theorem ip_addW:PIp X .Add (rM X.K cl (fun x y=>match x,y with | .int i,.int j=>fun h=>some (.int (i+j),h) | _,_=>fun _=>none)):=by
 rintro pins s σ H x y v u Q I rx ry ⟨μ,h,wx,wy,w,h',R,ax,ay,e,k⟩
 try dsimp only at e
 split at e
 .cases e; exact ip_add pins s σ H x y v u Q I rx ry ⟨_,_,ax.int_of,ay.int_of,k.pure R (.int _)⟩
 .cases e
theorem isNon_read{K:PySem.W.Frag}{μ:List Addr}{H:Hp}{h h':MH}{wx wy w:W}{x y:V}{b:Bool}(ax:RW K μ H wx x)(ay:RW K μ H wy y)(e:isNonW b wx wy h=some (w,h')):h=h'∧y=.non∧w=.bl (if b then decide (x=.non) else !decide (x=.non)):=by
 unfold isNonW at e
 split at e<;>first | (cases e; cases ax; cases ay; refine⟨rfl,rfl,?_⟩; cases b<;>simp) | cases e
theorem op_isW:OpR X (compareOp .Is) (rM X.K cl (isNonW true)):=by
 rintro pins s σ H x y v u Q I rx ry ⟨μ,h,wx,wy,w,h',R,ax,ay,e,k⟩
 obtain⟨rfl,hy,rfl⟩:=isNon_read ax ay e
 exact op_isN pins s σ H x y v u Q I rx ry ⟨hy,k.pure R (.bl _)⟩
theorem op_isNotW:OpR X (compareOp .IsNot) (rM X.K cl (isNonW false)):=by
 rintro pins s σ H x y v u Q I rx ry ⟨μ,h,wx,wy,w,h',R,ax,ay,e,k⟩
 obtain⟨rfl,hy,rfl⟩:=isNon_read ax ay e
 exact op_notN pins s σ H x y v u Q I rx ry ⟨hy,k.pure R (.bl _)⟩
end
noncomputable def lenW(ws:List W):M W:=fun h=>match ws with
 | [.tup l]=>some (.int l.length,h)
 | [.str x]=>if x.length≤cap then some (.int x.length,h) else none
 | [w]=>match getL h w with
  | some l=>some (.int l.length,h)
  | none=>none
 | _=>none
noncomputable def ixW(x y:W):M W:=fun h=>match x,y with
 | .tup l,.int i=>match atI l i with
  | some w=>some (w,h)
  | none=>none
 | .str z,.int i=>if z.length≤cap then (match atI z.cps.toList i with
  | some c=>some (.str ⟨#[c]⟩,h)
  | none=>none) else none
 | x,.int i=>match getL h x with
  | some l=>match atI l i with
   | some w=>some (w,h)
   | none=>none
  | none=>none
 | _,_=>none
noncomputable def cutW(l:List W)(lo hi:Option Int):List W:=(l.drop (HT.sIx l.length 0 lo)).take (HT.sIx l.length l.length hi-HT.sIx l.length 0 lo)
theorem RWs.atI{K:PySem.W.Frag}{μ:List Addr}{H:Hp}{l:List W}{vs:List V}{i:Int}{w:W}(rs:RWs K μ H l vs)(e:L2.atI l i=some w):∃v,L2.atI vs i=some v∧RW K μ H w v:=by
 unfold L2.atI at e ⊢
 rw[←rs.length]
 cases q:ixN l.length i with
 | none=>rw[q] at e; cases e
 | some j=>
  rw[q] at e
  exact rs.get e
theorem RWs.cutW{K:PySem.W.Frag}{μ:List Addr}{H:Hp}{l:List W}{vs:List V}(rs:RWs K μ H l vs)(lo hi:Option Int):RWs K μ H (cutW l lo hi) (cutV vs lo hi):=by
 unfold ML.cutW cutV
 rw[←rs.length]
 exact(rs.drop _).take _
section
variable{X:Cx}{cl:Nat→Addr}{a b:Expr}{ma mb:ME}{pos:Pos}
theorem call_lenW:CallR X (.builtin "len") (rMs X.K cl lenW):=by
 rintro pins s σ H xs us Q I rs ⟨μ,h,ws,w,h',R,ax,e,k⟩
 unfold lenW at e
 split at e
 .rename_i l
  cases e
  cases ax with | cons r t=>cases t with | nil=>
   obtain⟨a,vs,rfl,sa,ra⟩:=r.tup_of
   exact call_len_seq pins s σ H _ us Q I rs ⟨a,vs,rfl,.inr sa,by rw[←ra.length]; exact k.pure R (.int _)⟩
 .rename_i z
  split at e
  .rename_i hl
   cases e
   cases ax with | cons r t=>cases t with | nil=>
    cases r.str_of
    exact call_len_str pins s σ H _ us Q I rs ⟨z,rfl,Nat.le_trans hl cap_le,k.pure R (.int _)⟩
  .cases e
 .split at e
  .rename_i l el
   cases e
   cases ax with | cons r t=>cases t with | nil=>
    obtain⟨a,vs,rfl,sa,ra⟩:=getL_of R r el
    exact call_len_seq pins s σ H _ us Q I rs ⟨a,vs,rfl,.inl sa,by rw[←ra.length]; exact k.pure R (.int _)⟩
  .cases e
 .cases e
theorem ix_W:IxR X (rM X.K cl ixW):=by
 rintro value slice pins s σ H x y v u Q I rx ry ⟨μ,h,wx,wy,w,h',R,ax,ay,e,k⟩ hs
 unfold ixW at e
 split at e
 .rename_i l i
  split at e
  .rename_i w' e'
   cases e
   obtain⟨a,vs,rfl,sa,ra⟩:=ax.tup_of
   obtain⟨v',ev,rv⟩:=ra.atI e'
   exact ix_tup value slice pins s σ H _ y v u Q I rx ry ⟨a,vs,i,v',rfl,ay.int_of,sa,ev,k.pure R rv⟩ hs
  .cases e
 .rename_i z i
  split at e
  .rename_i hl
   split at e
   .rename_i c e'
    cases e
    exact ix_str value slice pins s σ H _ y v u Q I rx ry ⟨z,i,c,ax.str_of,ay.int_of,Nat.le_trans hl cap_le,e',k.pure R (.str _)⟩ hs
   .cases e
  .cases e
 .rename_i i hn1 hn2
  split at e
  .rename_i l el
   split at e
   .rename_i w' e'
    cases e
    obtain⟨a,vs,rfl,sa,ra⟩:=getL_of R ax el
    obtain⟨v',ev,rv⟩:=ra.atI e'
    exact ix_list value slice pins s σ H _ y v u Q I rx ry ⟨a,vs,i,v',rfl,ay.int_of,sa,ev,k.pure R rv⟩ hs
   .cases e
  .cases e
 .cases e
theorem se_ix(ha:SE X cl a ma)(hb:SE X cl b mb)(hs:PlainIx b:=by exact fun _ _=>rfl):SE X cl (.Subscript a b pos) (eOp ixW ma mb):=
 PE.wk (pe_ix ix_W ha hb hs) fun σ H Q q=>eop_read q
end
section
variable{prog:Program}{w:World}{A:Around}{E:Value→Shared→Prop}{s:Shared}
open HT in
theorem getItem_tuple_whole{t sl:Addr}{items:Array Value}{vl vu:Value}{lo hi:Option Int}{Q:Value→Shared→Prop}(ht:IsTup s.heap t items)(hs:s.heap.IsSliceOf sl vl vu .none)(pl:IsPart vl lo)(pu:IsPart vu hi)
  (hw:sIx items.size 0 lo=0∧sIx items.size items.size hi=items.size) (h:Q (.ref t) s):wpAny (model prog w) A (getItem (.ref t) (.ref sl)) Q E s:=by
 obtain⟨os,hos,hcs,hds⟩:=id hs
 have hTs:s.TypeIs (.ref sl) "slice":=⟨os,hos,hcs⟩
 unfold getItem
 try with_reducible refine wpAny_holding ?_
 first | refine wpAny_bind (wpAny_pure ?_) | skip
 refine wpAny_bind (wpAny_sequenceKey ht.typeIs (by decide) ?_)
 refine wpAny_bind (wpAny_callSpecial?_slot (name:=Str.ofString "__getitem__") ht.typeIs PyProof.Rows.slot_tuple_getitem
  (wpAny_call_entry PyProof.Rows.slot_tuple_getitem ht.typeIs entry_tuple_getitem ?_ (args_tuple_getitem _ _)))
 show wpAny _ _ (Builtin.Tuple.tupleItemsOf (.ref t) >>= _) _ _ s
 refine wpAny_bind (tupleItemsOf_ ht ?_)
 refine wpAny_bind (wpAny_typeOf hTs ?_)
 rw[if_pos (by decide)]
 refine wpAny_bind (sliceApplied_gen hs pl pu ?_)
 have hno:((((sIx items.size 0 lo:Nat):Int)==0&&(1:Int)==1&&(sIx items.size items.size hi-sIx items.size 0 lo)==items.size)=true):=by
  rw[hw.1,hw.2]; simp
 show wpAny _ _ (if (((sIx items.size 0 lo:Nat):Int)==0&&(1:Int)==1&&(sIx items.size items.size hi-sIx items.size 0 lo)==items.size)=true then _ else _) _ _ s
 rw[if_pos hno]
 unfold Builtin.Tuple.tupleIsExact
 refine wpAny_bind (wpAny_bind (wpAny_typeOf ht.typeIs (wpAny_pure ?_)))
 rw[if_pos (by decide)]
 first
  | exact wpAny_bind (wpAny_rule (wpAny_pure ⟨_,rfl,wpAny_pure h⟩))
  | exact wpAny_bind (wpAny_rule (wpAny_bind (wpAny_pure (wpAny_pure ⟨_,rfl,wpAny_pure h⟩))))
  | exact wpAny_bind (wpAny_bind (wpAny_rule (wpAny_pure ⟨_,rfl,wpAny_pure h⟩)))
end
noncomputable def slW(x:W)(lo hi:Option Int):M W:=fun h=>match x with
 | .tup l=>some (.tup (cutW l lo hi),h)
 | .str z=>if z.length≤cap then some (.str (Txt.slice z lo hi),h) else none
 | x=>match getL h x with
  | some l=>some (.fls (cutW l lo hi),h)
  | none=>none
noncomputable def mPart(m:Option ME):En→M (Option Int):=fun ρ=>match m with
 | none=>fun h=>some (none,h)
 | some m=>bnd (m ρ) fun w h=>match w with
  | .int i=>some (some i,h)
  | _=>none
noncomputable def eSl(a:ME)(lo hi:Option ME):ME:=fun ρ=>bnd (a ρ) fun x=>bnd (mPart lo ρ) fun l=>bnd (mPart hi ρ) fun u=>slW x l u
section
variable{X:Cx}{cl:Nat→Addr}{a:Expr}{ma:ME}{pos p2:Pos}
inductive tMO(K:PySem.W.Frag)(cl:Nat→Addr)(m:Option ME)(σ:L2.St)(H:Hp)(Q:Option Int→Hp→Prop):Prop
 | mk (μ:List Addr) (h:MH) (ρ:En) (o:Option Int) (h':MH) (p0:HR K cl μ H h) (p1:ER K μ H ρ σ) (p2:mPart m ρ h=some (o,h')) (p3:∀μ' H',Ext μ H μ' H'→HR K cl μ' H' h'→Q o H'):tMO K cl m σ H Q
abbrev SO(X:Cx)(cl:Nat→Addr)(e:Option Expr)(m:Option ME):Prop:=PO X e (tMO X.K cl m)
theorem PO.wk{e:Option Expr}{t t':TO}(h:PO X e t)(w:∀σ H Q,t' σ H Q→t σ H Q):PO X e t':=fun pins s σ H Q I q=>h pins s σ H Q I (w σ H Q q)
theorem so_none:SO X cl none none:=PO.wk po_none fun σ H Q q0=>by
 obtain⟨μ,h,ρ,o,h',R,er,e,k⟩:=q0
 cases e
 exact k μ H .refl R
theorem so_some(ha:SE X cl a ma):SO X cl (some a) (some ma):=PO.wk (po_some ha) fun σ H Q q0=>by
 obtain⟨μ,h,ρ,o,h',R,er,e,k⟩:=q0
 obtain⟨x,h1,e1,e⟩:=of_bnd e
 split at e
 .rename_i i
  cases e
  exact⟨μ,h,ρ,_,_,R,er,e1,fun μ1 H1 v E1 R1 r=>⟨i,r.int_of,k μ1 H1 E1 R1⟩⟩
 .cases e
theorem sl_tupW{pins:List (Addr×Obj)}{s:Shared}{σ:L2.St}{H:Hp}{a:Addr}{v vl vu:Value}{lo hi:Option Int}{sl:Addr}{Q:VK}{xs:List V}(I:Inv X pins σ H s)(rx:RelV (.ref a) v)(hs:s.heap.IsSliceOf sl vl vu .none)(pl:IsPart vl lo)(pu:IsPart vu hi)
  (hx:SqT X.K H a xs) (q1:cutV xs lo hi=xs→Q (.ref a) H) (q2:∀p,H p=none→Q (.ref p) (upd H p (.tup (cutV xs lo hi)))) :
  ∃T id,typeLookup (.type T) "__getitem__" = pure (some (.builtin id))∧s.TypeIs v T∧wpAny (model X.prog X.w) X.A (getItem v (.ref sl)) (EP X pins σ Q) X.xe s:=by
 by_cases hw:HT.sIx xs.length 0 lo=0∧HT.sIx xs.length xs.length hi=xs.length
 .cases rx
  obtain⟨its,r,ht,hz⟩:=I.tuple hx
  have hlen:its.toArray.size=xs.length:=by rw[List.size_toArray]; exact r.length.symm
  refine⟨"tuple",_,PyProof.Rows.slot_tuple_getitem.lookup,ht.typeIs,?_⟩
  refine getItem_tuple_whole ht hs pl pu (by rw[hlen]; exact hw) ⟨.ref a,H,I,rfl,q1 ?_⟩
  unfold cutV
  rw[hw.1,hw.2]
  simp
 .exact sl_tup pins s σ H _ v vl vu lo hi sl Q I rx hs pl pu ⟨a,xs,rfl,hx,hw,q2⟩
theorem se_sl{lo hi:Option Expr}{ml mh:Option ME}(ha:SE X cl a ma)(hl:SO X cl lo ml)(hh:SO X cl hi mh):SE X cl (.Subscript a (.Slice lo hi none p2) pos) (eSl ma ml mh):=by
 have hr:SlR X (fun x lo hi H Q=>∃μ h wx w h',HR X.K cl μ H h∧RW X.K μ H wx x∧slW wx lo hi h=some (w,h')∧KQ X.K cl μ H h' w Q):=by
  rintro pins s σ H x v vl vu lo hi sl Q I rx hs pl pu ⟨μ,h,wx,w,h',R,ax,e,k⟩
  unfold slW at e
  split at e
  .rename_i l
   cases e
   obtain⟨a,vs,rfl,sa,ra⟩:=ax.tup_of
   refine sl_tupW I rx hs pl pu sa (fun z=>k.pure R (.tup sa ?_)) fun p hp=>k.tup R (ra.cutW lo hi) hp
   have q:=ra.cutW lo hi
   rw[z] at q
   exact q
  .rename_i z
   split at e
   .rename_i hl
    cases e
    cases ax.str_of
    obtain⟨tk,rfl⟩:=rx
    refine⟨"str",_,F.slot_str_getitem.lookup,typeIs_str _ _ _,?_⟩
    obtain⟨l,el⟩:∃l:Option (Int×Tok),vl=partValue l∧lo=l.map (·.1):=by
     cases pl with
     | none=>exact⟨none,rfl,rfl⟩
     | int i t=>exact⟨some (i,t),rfl,rfl⟩
    obtain⟨u,eu⟩:∃l:Option (Int×Tok),vu=partValue l∧hi=l.map (·.1):=by
     cases pu with
     | none=>exact⟨none,rfl,rfl⟩
     | int i t=>exact⟨some (i,t),rfl,rfl⟩
    obtain⟨rfl,rfl⟩:=el
    obtain⟨rfl,rfl⟩:=eu
    exact wpAny_getItem_str_slice (l:=l) (u:=u) (st:=none) hs rfl (post_val_or_str ⟨Nat.le_trans (Txt.slice_le z _ _) (Nat.le_trans hl cap_le),fun t' k'=>⟨.str _,H,I.tok k',⟨t',rfl⟩,k.pure R (.str _)⟩⟩)
   .cases e
  .split at e
   .rename_i l el
    cases e
    obtain⟨a,vs,rfl,sa,ra⟩:=getL_of R ax el
    exact sl_list pins s σ H _ v vl vu lo hi sl Q I rx hs pl pu ⟨a,vs,rfl,sa,fun p hp=>k.fls R (ra.cutW lo hi) hp⟩
   .cases e
 refine PE.wk (pe_slice hr ha hl hh) fun σ H Q ⟨μ,h,ρ,w,h',R,er,e,k⟩=>?_
 obtain⟨x,h1,e1,e⟩:=of_bnd e
 obtain⟨l,h2,e2,e⟩:=of_bnd e
 obtain⟨u,h3,e3,e⟩:=of_bnd e
 exact⟨μ,h,ρ,x,h1,R,er,e1,fun μ1 H1 vx E1 R1 rx=>⟨μ1,h1,ρ,l,h2,R1,er.ext R E1,e2,fun μ2 H2 E2 R2=>⟨μ2,h2,ρ,u,h3,R2,(er.ext R E1).ext R1 E2,e3,fun μ3 H3 E3 R3=>
  ⟨μ3,h3,x,w,h',R3,(rx.ext R1 E2).ext R2 E3,e,k.ext (E1.trans (E2.trans E3))⟩⟩⟩⟩
end
theorem noFill_tuple_mul:fillsNumberSlot (.type "tuple") "mul" = pure false:=
 PySem.fillsNumberSlot_seq (id:="tuple.__mul__") (r:=some (.builtin "tuple.__rmul__")) F.slot_tuple_mul.lookup (by decide +kernel) F.slot_tuple_rmul.lookup (by decide +kernel)
theorem repeat_tuple:seqRepeat? (.type "tuple")=pure (some (.builtin "tuple.__mul__")):=by
 unfold seqRepeat?
 rw[PySem.seqSlot_of (T:="tuple") (name:="__mul__") (id:="tuple.__mul__") F.slot_tuple_mul.lookup (by decide +kernel),PySem.seqSlot_of (T:="tuple") (name:="__rmul__") (id:="tuple.__rmul__") F.slot_tuple_rmul.lookup (by decide +kernel)]
 rfl
theorem int___rmul___int_tuple(a:Int)(t:Tok)(l:Addr)(items:Array Value)(n:Nat)(dd:Option Addr)(sl:Array (Option Value)) :
  Meets (Builtin.«int.__rmul__» ⟨[.int a t,.ref l],[]⟩) (fun _ R s=>s.heap.get? l=some { cls:=.type "tuple",dict:=dd,data:=.seq items n,slots:=sl }∧R (.ok (.ret Value.notImplemented)) s):=
 .of_wp fun prog w A R s h=>by obtain⟨hp,g,d,tk,os⟩:=s; obtain⟨hl,h⟩:=h; wp_walk; exact⟨_,rfl,h⟩
theorem tuple_mulA(l:Addr)(items:Array Value)(n:Nat)(dd:Option Addr)(sl:Array (Option Value))(x:Int)(u:Tok)(hf:¬((decide (x < -2 ^ 63)||decide (x≥2 ^ 63))=true))(hc:(items.isEmpty||x==1)=true) :
  Meets (Builtin.«tuple.__mul__» ⟨[.ref l,.int x u],[]⟩) (fun _ R s=>s.heap.get? l=some { cls:=.type "tuple",dict:=dd,data:=.seq items n,slots:=sl }∧R (.ok (.ret (.ref l))) s):=
 .of_wp fun prog w A R s h=>by
  obtain⟨hp,g,d,tk,os⟩:=s; obtain⟨hl,h⟩:=h
  have f1:=AutoSeq1.idx_int
  have ht:IsTup ({ heap:=hp,gens:=g,drawn:=d,toks:=tk,os:=os }:Shared).heap l items:=⟨_,hl,rfl,n,rfl⟩
  wp_walk using wpAny_loadPart' hl
  rw[if_neg hf]
  try dsimp only
  refine wpAny_bind (tupleItemsOf_ ht ?_)
  try dsimp only
  rw[if_pos hc]
  unfold Builtin.Tuple.tupleIsExact
  refine wpAny_bind (wpAny_bind (wpAny_typeOf ht.typeIs (wpAny_pure ?_)))
  rw[if_pos (by decide)]
  exact wpAny_bind (wpAny_rule (wpAny_pure ⟨_,rfl,h⟩))
theorem tuple_mulB (l : Addr) (items : Array Value) (n : Nat) (dd : Option Addr) (sl : Array (Option Value)) (x : Int) (u : Tok) (hf : ¬ ((decide (x < -2 ^ 63) || decide (x ≥ 2 ^ 63)) = true)) (hc : ¬ (items.isEmpty || x == 1) = true) (h0 : ¬ (decide (x ≤ 0) || items.isEmpty) = true)
   (h1 : ¬ (items.size * x > (2 ^ 63 - 1) / 8)) (h2 : ¬ Builtin.Tuple.tupleTooMany (items.size * x) = true) (hz : sizeOk (Data.seq (List.foldl (fun x1 x2 => x1 ++ x2) #[] (List.replicate x.toNat items)))) :
    Meets (Builtin.«tuple.__mul__» ⟨[.ref l, .int x u], []⟩) (fun _ R s => s.heap.get? l = some { cls := .type "tuple", dict := dd, data := .seq items n, slots := sl } ∧
      R (.ok (.ret (.ref s.heap.objs.size))) { s with heap := s.heap.push { cls := Value.type "tuple", data := Data.seq (List.foldl (fun x1 x2 => x1 ++ x2) #[] (List.replicate x.toNat items)) } }) :=
  .of_wp fun prog w A R s h => by
    obtain ⟨hp, g, d, tk, os⟩ := s; obtain ⟨hl, h⟩ := h
    have f1 := AutoSeq1.idx_int
    have ht : IsTup ({ heap := hp, gens := g, drawn := d, toks := tk, os := os } : Shared).heap l items := ⟨_, hl, rfl, n, rfl⟩
    wp_walk using wpAny_loadPart' hl
    rw [if_neg hf]
    try dsimp only
    refine wpAny_bind (tupleItemsOf_ ht ?_)
    try dsimp only
    rw [if_neg hc, if_neg h0, if_neg h1, if_neg h2]
    refine wpAny_bind (m := Builtin.Tuple.tupleExact _) (wpAny_newObj_type (wpAny_pure ⟨_, rfl, h⟩) hz)
theorem tuple_mulC(l:Addr)(items:Array Value)(n:Nat)(dd:Option Addr)(sl:Array (Option Value))(x:Int)(u:Tok)(hf:¬((decide (x < -2 ^ 63)||decide (x≥2 ^ 63))=true))(hc:¬(items.isEmpty||x==1)=true)(h0:(decide (x≤0)||items.isEmpty)=true) :
  Meets (Builtin.«tuple.__mul__» ⟨[.ref l,.int x u],[]⟩) (fun _ R s=>s.heap.get? l=some { cls:=.type "tuple",dict:=dd,data:=.seq items n,slots:=sl } ∧
   R (.ok (.ret (.ref s.heap.objs.size))) { s with heap:=s.heap.push { cls:=Value.type "tuple",data:=Data.seq #[] } }):=
 .of_wp fun prog w A R s h=>by
  obtain⟨hp,g,d,tk,os⟩:=s; obtain⟨hl,h⟩:=h
  have f1:=AutoSeq1.idx_int
  have ht:IsTup ({ heap:=hp,gens:=g,drawn:=d,toks:=tk,os:=os }:Shared).heap l items:=⟨_,hl,rfl,n,rfl⟩
  wp_walk using wpAny_loadPart' hl
  rw[if_neg hf]
  try dsimp only
  refine wpAny_bind (tupleItemsOf_ ht ?_)
  try dsimp only
  rw[if_neg hc,if_pos h0]
  refine wpAny_bind (m:=Builtin.Tuple.tupleExact _) (wpAny_newObj_type (wpAny_pure ⟨_,rfl,h⟩) (by show 0≤sizeLine; decide))
section
variable{X:Cx}{cl:Nat→Addr}
theorem op_repT{pins:List (Addr×Obj)}{s:Shared}{σ:L2.St}{H:Hp}{a:Addr}{k:Int}{v u:Value}{Q:VK}{xs:List V}(I:Inv X pins σ H s)(rx:RelV (.ref a) v)(ry:RelV (.int k) u)(hx:SqT X.K H a xs)(h1:0≤k)(h2:k≤1000)(hz:xs.length≤1000)
  (q1:(List.replicate k.toNat xs).flatten=xs→Q (.ref a) H) (q2:∀p,H p=none→Q (.ref p) (upd H p (.tup (List.replicate k.toNat xs).flatten))):wpAny (model X.prog X.w) X.A (binaryOp .Mult v u) (EP X pins σ Q) X.xe s:=by
 cases rx
 obtain⟨t,rfl⟩:=ry
 obtain⟨its,r,ht,_⟩:=I.tuple hx
 have hlen:=r.length
 obtain⟨⟨cls,dd,data,sl⟩,e,hc,n,hd⟩:=id ht
 simp only at hc hd
 subst hc hd
 have hsl:(sizeLine:Nat)=16777216:=sizeLine_eq
 have hnew:List.foldl (fun x1 x2=>x1++x2) #[] (List.replicate k.toNat its.toArray)=(List.replicate k.toNat its).flatten.toArray:=by
  have:=foldl_rep its k.toNat []
  rw[List.nil_append] at this
  exact this
 have hrl:k.toNat*its.length≤1000*1000:=Nat.mul_le_mul (by omega) (by omega)
 have hf:¬((decide (k < -2 ^ 63)||decide (k≥2 ^ 63))=true):=by
  simp only[Bool.or_eq_true,decide_eq_true_eq]; omega
 have road:∀{R:Value→Shared→Prop},wpAny (model X.prog X.w) X.A (call (.builtin "tuple.__mul__") [.ref a,.int k t]) R X.xe s→wpAny (model X.prog X.w) X.A (binaryOp .Mult (.ref a) (.int k t)) R X.xe s:=fun hcall=>
  wpAny_binaryOp_repeat_ref (T:="tuple") (U:="int") (by decide) ⟨_,e,rfl⟩ (fun s'=>typeIs_int s' k t) noFill_tuple_mul F.fills_int_mul F.slot_int_rmul repeat_tuple F.slot_int_index.lookup
   (call_meets F.slot_int_rmul (typeIs_int s k t) F.entry_int_rmul (F.args_int_rmul_2 _ _) (int___rmul___int_tuple k t a its.toArray n dd sl) ⟨e,rfl,⟨_,e,rfl⟩,hcall⟩)
 refine road ?_
 by_cases c1:(its.toArray.isEmpty||k==1)=true
 .refine call_meets F.slot_tuple_mul ⟨_,e,rfl⟩ F.entry_tuple_mul (F.args_tuple_mul_2 _ _) (tuple_mulA a its.toArray n dd sl k t hf c1) ⟨e,.ref a,H,I,rfl,q1 ?_⟩
  rcases Bool.or_eq_true_iff.mp c1 with c | c
  .have:its=[]:=by simpa using c
   subst this
   cases r
   simp
  .have:k=1:=by simpa using c
   subst this
   simp
 .by_cases c2:(decide (k≤0)||its.toArray.isEmpty)=true
  .refine call_meets F.slot_tuple_mul ⟨_,e,rfl⟩ F.entry_tuple_mul (F.args_tuple_mul_2 _ _) (tuple_mulC a its.toArray n dd sl k t hf c1 c2) ⟨e,?_⟩
   have hk:k=0:=by
    have ne:its.toArray.isEmpty=false:=by
     cases z:its.toArray.isEmpty with
     | false=>rfl
     | true=>exact absurd (by rw[z]; rfl) c1
    rw[ne,Bool.or_false] at c2
    have:=of_decide_eq_true c2
    omega
   subst hk
   exact⟨.ref _,_,I.laid (t':=s.toks) (o:=.tup (List.replicate (0:Int).toNat xs).flatten) (fun b ob q=>Heap.get?_push_of_some _ q) (Nat.le_refl _) ⟨by simp,[],by simpa using Paired.nil,IsTup.new _ _⟩,rfl,q2 _ I.fresh⟩
  .refine call_meets F.slot_tuple_mul ⟨_,e,rfl⟩ F.entry_tuple_mul (F.args_tuple_mul_2 _ _) (tuple_mulB a its.toArray n dd sl k t hf c1 c2 ?_ ?_ ?_) ⟨e,?_⟩
   .rw[List.size_toArray]
    have:(its.length:Int)*k≤1000*1000:=by
     have:(its.length:Int)*k=((k.toNat*its.length:Nat):Int):=by
      rw[Nat.mul_comm]; push_cast; rw[Int.toNat_of_nonneg h1]
     omega
    omega
   .rw[List.size_toArray]
    unfold Builtin.Tuple.tupleTooMany
    have:(its.length:Int)*k≤1000*1000:=by
     have:(its.length:Int)*k=((k.toNat*its.length:Nat):Int):=by
      rw[Nat.mul_comm]; push_cast; rw[Int.toNat_of_nonneg h1]
     omega
    simp only[decide_eq_true_eq]
    omega
   .rw[hnew]
    show((List.replicate k.toNat its).flatten.toArray).size≤sizeLine
    rw[List.size_toArray,len_rep]
    omega
   .rw[hnew]
    exact⟨.ref _,_,I.laid (t':=s.toks) (o:=.tup (List.replicate k.toNat xs).flatten) (fun b ob q=>Heap.get?_push_of_some _ q) (Nat.le_refl _) ⟨by rw[len_rep,hlen]; omega,_,r.rep k.toNat,IsTup.new _ _⟩,rfl,q2 _ I.fresh⟩
theorem op_mulW:OpR X (binaryOp .Mult) (rM X.K cl mulW):=by
 rintro pins s σ H x y v u Q I rx ry ⟨μ,h,wx,wy,w,h',R,ax,ay,e,k⟩
 unfold mulW at e
 split at e
 .rename_i i j
  split at e
  .rename_i hj
   cases e
   refine op_mul pins s σ H x y v u Q I rx ry ⟨_,_,ax.int_of,ay.int_of,?_,k.pure R (.int _)⟩
   unfold small at hj
   rw[Bool.or_eq_true,decide_eq_true_eq,decide_eq_true_eq] at hj
   exact hj
  .cases e
 .rename_i l j
  split at e
  .rename_i hj
   cases e
   obtain⟨a,vs,rfl,sa,ra⟩:=ax.tup_of
   cases ay.int_of
   refine op_repT I rx ry sa hj.1 hj.2.1 (by rw[←ra.length]; exact hj.2.2) (fun z=>k.pure R (.tup sa ?_)) fun p hp=>k.tup R (ra.rep _) hp
   have q:=ra.rep j.toNat
   rw[z] at q
   exact q
  .cases e
 .cases e
end
noncomputable def mapO{α β:Type}(f:α→Option β):List α→Option (List β)
 | []=>some []
 | x::r=>match f x,mapO f r with
  | some y,some ys=>some (y::ys)
  | _,_=>none
noncomputable def dataW:Nat→MH→W→Option PyData
 | 0,_,_=>none
 | _+1,_,.non=>some .none
 | _+1,_,.bl b=>some (.bool b)
 | _+1,_,.int i=>some (.int i)
 | _+1,_,.str x=>if PyData.strOk x then some (.str x) else none
 | n+1,h,.tup l=>(mapO (dataW n h) l).map .tuple
 | n+1,h,.fls l=>(mapO (dataW n h) l).map .list
 | n+1,h,.ref k=>match h[k]? with
  | some (.lst l)=>(mapO (dataW n h) l).map .list
  | _=>none
 | _+1,_,.fdc _=>none
 | _+1,_,.fn _=>none
section
variable{X:Cx}{cl:Nat→Addr}{pins:List (Addr×Obj)}{σ:L2.St}{μ:List Addr}{H:Hp}{s:Shared}{h:MH}
theorem dataW_reads(I:Inv X pins σ H s)(R:HR X.K cl μ H h):∀(n:Nat) {w:W} {x:V} {v:Value} {d:PyData},RW X.K μ H w x→RelV x v→dataW n h w=some d→(∃as,Reads s.heap v d as)∧d.canLay0=true∧d.depth≤n:=by
 intro n
 induction n with
 | zero=>intro w x v d _ _ e; cases e
 | succ n ih=>
  have all:∀{l:List W} {vs:List V} {us:List Value} {ds:List PyData},RWs X.K μ H l vs→Vals vs us→mapO (dataW n h) l=some ds→(∃as,ReadsAll s.heap us ds as)∧PyData.canLayAll0 ds=true∧PyData.depthAll ds≤n:=by
   intro l
   induction l with
   | nil=>intro vs us ds r t e; cases r; cases t; cases e; exact⟨⟨_,.nil⟩,by unfold PyData.canLayAll0; rfl,by unfold PyData.depthAll; omega⟩
   | cons w l ihl=>
    intro vs us ds r t e
    cases r with | cons r rs=>cases t with | cons t ts=>
    unfold mapO at e
    split at e
    .rename_i y ys e1 e2
     cases e
     obtain⟨⟨as,h1⟩,h2,h3⟩:=ih r t e1
     obtain⟨⟨bs,g1⟩,g2,g3⟩:=ihl rs ts e2
     refine⟨⟨_,.cons h1 g1⟩,by unfold PyData.canLayAll0; rw[h2,g2]; rfl,?_⟩
     unfold PyData.depthAll
     omega
    .cases e
  have lists:∀{l:List W} {a:Addr} {vs:List V} {d:PyData},SqL X.K H a vs→RWs X.K μ H l vs→(mapO (dataW n h) l).map PyData.list=some d→(∃as,Reads s.heap (.ref a) d as)∧d.canLay0=true∧d.depth≤n+1:=by
   intro l a vs d sq rs e
   cases e1:mapO (dataW n h) l with
   | none=>rw[e1] at e; cases e
   | some ds=>
    rw[e1] at e
    cases e
    obtain⟨its,rv,⟨o,m,h1,h2,h3,h4⟩,_⟩:=I.list sq
    obtain⟨⟨as,g1⟩,g2,g3⟩:=all rs rv e1
    exact⟨⟨_,.list h1 h2 h4 (by simpa using g1)⟩,by unfold PyData.canLay0; exact g2,by unfold PyData.depth; omega⟩
  intro w x v d r t e
  cases r with
  | non=>cases e; cases t; exact⟨⟨_,.none⟩,by unfold PyData.canLay0; rfl,by unfold PyData.depth; omega⟩
  | bl b=>cases e; cases t; exact⟨⟨_,.bool b⟩,by unfold PyData.canLay0; rfl,by unfold PyData.depth; omega⟩
  | int i=>cases e; obtain⟨tk,rfl⟩:=t; exact⟨⟨_,.int i tk⟩,by unfold PyData.canLay0; rfl,by unfold PyData.depth; omega⟩
  | str z=>
   simp only[dataW] at e
   split at e
   .rename_i ok
    cases e; obtain⟨tk,rfl⟩:=t; exact⟨⟨_,.str z tk⟩,by unfold PyData.canLay0; exact ok,by unfold PyData.depth; omega⟩
   .cases e
  | @tup a vs l sq rs=>
   simp only[dataW] at e
   cases t
   cases e1:mapO (dataW n h) l with
   | none=>rw[e1] at e; cases e
   | some ds=>
    rw[e1] at e
    cases e
    obtain⟨its,rv,⟨o,h1,h2,m,h4⟩,_⟩:=I.tuple sq
    obtain⟨⟨as,g1⟩,g2,g3⟩:=all rs rv e1
    exact⟨⟨_,.tuple h1 h2 h4 (by simpa using g1)⟩,by unfold PyData.canLay0; exact g2,by unfold PyData.depth; omega⟩
  | @fls a vs l sq rs=>cases t; simp only[dataW] at e; exact lists sq.sq rs e
  | fdc=>cases e
  | fn=>cases e
  | @ref k a hk=>
   cases t
   simp only[dataW] at e
   split at e
   .rename_i l ho
    obtain⟨vs,hv,rs⟩:=R.ob k a _ hk ho
    exact lists (SqL.of hv) rs e
   .cases e
end
section
variable{X:Cx}{cl:Nat→Addr}{pins:List (Addr×Obj)}{σ:L2.St}{μ:List Addr}{H:Hp}{s:Shared}{h:MH}
theorem datas_reads(I:Inv X pins σ H s)(R:HR X.K cl μ H h)(n:Nat):∀{l:List W} {vs:List V} {us:List Value} {ds:List PyData},RWs X.K μ H l vs→Vals vs us→mapO (dataW n h) l=some ds→(∃as,ReadsAll s.heap us ds as)∧PyData.canLayAll0 ds=true:=by
 intro l
 induction l with
 | nil=>intro vs us ds r t e; cases r; cases t; cases e; exact⟨⟨_,.nil⟩,by unfold PyData.canLayAll0; rfl⟩
 | cons w l ihl=>
  intro vs us ds r t e
  cases r with | cons r rs=>cases t with | cons t ts=>
  unfold mapO at e
  split at e
  .rename_i y ys e1 e2
   cases e
   obtain⟨⟨as,h1⟩,h2,h3⟩:=dataW_reads I R n r t e1
   obtain⟨⟨bs,g1⟩,g2⟩:=ihl rs ts e2
   exact⟨⟨_,.cons h1 g1⟩,by unfold PyData.canLayAll0; rw[h2,g2]; rfl⟩
  .cases e
end
noncomputable def deep:Nat:=60
noncomputable def eqF(x y:W):Option Bool:=match x,y with
 | .str a,.str b=>some (a==b)
 | .int a,.int b=>some (a==b)
 | .bl a,.bl b=>some (a==b)
 | _,_=>none
noncomputable def eqB(h:MH)(x y:W):Option Bool:=match eqF x y with
 | some b=>some b
 | none=>match dataW deep h x,dataW deep h y with
  | some d,some e=>some (PyData.eqv d e)
  | _,_=>none
noncomputable def eqW(neg:Bool)(x y:W):M W:=fun h=>match eqB h x y with
 | some b=>some (.bl (if neg then !b else b),h)
 | none=>none
noncomputable def seqOf(h:MH):W→Option (List W)
 | .tup l=>some l
 | w=>getL h w
noncomputable def inStr(j i:Str):Bool:=!(Builtin.Str.occurrences j i 0 j.length 1).isEmpty
noncomputable def inB(h:MH)(x y:W):Option Bool:=match x,y with
 | .str i,.str j=>some (inStr j i)
 | x,y=>match seqOf h y with
  | some l=>match dataW deep h x,mapO (dataW deep h) l with
   | some d,some ds=>some (ds.any fun e=>PyData.eqv e d)
   | _,_=>none
  | none=>none
noncomputable def inW(neg:Bool)(x y:W):M W:=fun h=>match inB h x y with
 | some b=>some (.bl (if neg then !b else b),h)
 | none=>none
section
variable{X:Cx}{cl:Nat→Addr}
theorem eqB_ok(hu:X.A.units+64<cLine){pins:List (Addr×Obj)}{s:Shared}{σ:L2.St}{H:Hp}{x y:V}{v u:Value}{Q:VK}{μ:List Addr}{h:MH}{wx wy:W}{b:Bool}(I:Inv X pins σ H s)(rx:RelV x v)(ry:RelV y u)
  (R:HR X.K cl μ H h) (ax:RW X.K μ H wx x) (ay:RW X.K μ H wy y) (e:eqB h wx wy=some b) :
  (Q (.bl b) H→wpAny (model X.prog X.w) X.A (compareOp .Eq v u) (EP X pins σ Q) X.xe s)∧(Q (.bl (!b)) H→wpAny (model X.prog X.w) X.A (compareOp .NotEq v u) (EP X pins σ Q) X.xe s):=by
 unfold eqB at e
 split at e
 .rename_i b' e'
  cases e
  unfold eqF at e'
  split at e'
  .rename_i i j
   cases e'
   cases ax.str_of
   cases ay.str_of
   exact⟨fun q=>op_eq pins s σ H _ _ v u Q I rx ry ⟨rfl,by rw[dec_str]; exact q⟩,fun q=>op_ne pins s σ H _ _ v u Q I rx ry ⟨rfl,by rw[dec_str]; exact q⟩⟩
  .rename_i i j
   cases e'
   cases ax.int_of
   cases ay.int_of
   exact⟨fun q=>op_eq pins s σ H _ _ v u Q I rx ry ⟨rfl,by rw[dec_int]; exact q⟩,fun q=>op_ne pins s σ H _ _ v u Q I rx ry ⟨rfl,by rw[dec_int]; exact q⟩⟩
  .rename_i i j
   cases e'
   cases ax.bl_of
   cases ay.bl_of
   exact⟨fun q=>op_eq pins s σ H _ _ v u Q I rx ry ⟨rfl,by rw[dec_bl]; exact q⟩,fun q=>op_ne pins s σ H _ _ v u Q I rx ry ⟨rfl,by rw[dec_bl]; exact q⟩⟩
  .cases e'
 .split at e
  .rename_i d d' e1 e2
   cases e
   obtain⟨⟨as,r1⟩,c1,d1⟩:=dataW_reads I R deep ax rx e1
   obtain⟨⟨bs,r2⟩,c2,d2⟩:=dataW_reads I R deep ay ry e2
   have hr:X.A.units+min d.depth d'.depth<cLine:=by
    have:min d.depth d'.depth≤d.depth:=Nat.min_le_left _ _
    unfold deep at d1
    omega
   exact⟨fun q=>SeqAt.compareEq_reads r1 r2 c1 c2 hr ⟨.bl _,H,I,rfl,q⟩,fun q=>SeqAt.compareNe_reads r1 r2 c1 c2 hr ⟨.bl _,H,I,rfl,q⟩⟩
  .cases e
theorem op_eqW(hu:X.A.units+64<cLine):OpR X (compareOp .Eq) (rM X.K cl (eqW false)):=by
 rintro pins s σ H x y v u Q I rx ry ⟨μ,h,wx,wy,w,h',R,ax,ay,e,k⟩
 unfold eqW at e
 split at e
 .rename_i b eb
  cases e
  exact(eqB_ok hu I rx ry R ax ay eb).1 (k.pure R (.bl _))
 .cases e
theorem op_neW(hu:X.A.units+64<cLine):OpR X (compareOp .NotEq) (rM X.K cl (eqW true)):=by
 rintro pins s σ H x y v u Q I rx ry ⟨μ,h,wx,wy,w,h',R,ax,ay,e,k⟩
 unfold eqW at e
 split at e
 .rename_i b eb
  cases e
  exact(eqB_ok hu I rx ry R ax ay eb).2 (k.pure R (.bl _))
 .cases e
theorem seqOf_of{K:PySem.W.Frag}{μ:List Addr}{H:Hp}{h:MH}{w:W}{v:V}{l:List W}(R:HR K cl μ H h)(r:RW K μ H w v)(e:seqOf h w=some l):∃a vs,v=.ref a∧(SqL K H a vs∨SqT K H a vs)∧RWs K μ H l vs:=by
 unfold seqOf at e
 split at e
 .cases e
  obtain⟨a,vs,rfl,sa,ra⟩:=r.tup_of
  exact⟨a,vs,rfl,.inr sa,ra⟩
 .obtain⟨a,vs,rfl,sa,ra⟩:=getL_of R r e
  exact⟨a,vs,rfl,.inl sa,ra⟩
theorem inB_ok(hu:X.A.units+64<cLine){pins:List (Addr×Obj)}{s:Shared}{σ:L2.St}{H:Hp}{x y:V}{v u:Value}{Q:VK}{μ:List Addr}{h:MH}{wx wy:W}{b:Bool}(I:Inv X pins σ H s)(rx:RelV x v)(ry:RelV y u)
  (R:HR X.K cl μ H h) (ax:RW X.K μ H wx x) (ay:RW X.K μ H wy y) (e:inB h wx wy=some b) :
  (Q (.bl b) H→wpAny (model X.prog X.w) X.A (compareOp .In v u) (EP X pins σ Q) X.xe s)∧(Q (.bl (!b)) H→wpAny (model X.prog X.w) X.A (compareOp .NotIn v u) (EP X pins σ Q) X.xe s):=by
 unfold inB at e
 split at e
 .rename_i i j
  cases e
  exact⟨fun q=>op_in_str pins s σ H x y v u Q I rx ry ⟨i,j,ax.str_of,ay.str_of,q⟩,fun q=>op_notin_str pins s σ H x y v u Q I rx ry ⟨i,j,ax.str_of,ay.str_of,q⟩⟩
 .split at e
  .rename_i l el
   split at e
   .rename_i d ds e1 e2
    cases e
    obtain⟨a,vs,rfl,sa,ra⟩:=seqOf_of R ay el
    cases ry
    obtain⟨⟨as,r1⟩,c1,d1⟩:=dataW_reads I R deep ax rx e1
    have big:dataW (deep+1) h (.tup l)=some (.tuple ds):=by simp only[dataW]; rw[e2]; rfl
    have big2:dataW (deep+1) h (.fls l)=some (.list ds):=by simp only[dataW]; rw[e2]; rfl
    have hr:X.A.units+1+min (PyData.depthAll ds) d.depth<cLine:=by
     have:min (PyData.depthAll ds) d.depth≤d.depth:=Nat.min_le_right _ _
     unfold deep at d1
     omega
    rcases sa with sa | sa
    .obtain⟨its,rv,⟨o,m,h1,h2,h3,h4⟩,_⟩:=I.list sa
     obtain⟨⟨as2,g1⟩,c2⟩:=datas_reads I R deep ra rv e2
     have r2:Reads s.heap (.ref a) (.list ds) _:=.list h1 h2 h4 (by simpa using g1)
     exact⟨fun q=>SeqAt.in_list_reads r2 r1 c2 c1 hr ⟨.bl _,H,I,rfl,q⟩,fun q=>SeqAt.notIn_list_reads r2 r1 c2 c1 hr ⟨.bl _,H,I,rfl,q⟩⟩
    .obtain⟨⟨bs,r2⟩,c2,_⟩:=dataW_reads I R (deep+1) (.tup sa ra) rfl big
     have c2':PyData.canLayAll0 ds=true:=by unfold PyData.canLay0 at c2; exact c2
     exact⟨fun q=>SeqAt.in_tuple_reads r2 r1 c2' c1 hr ⟨.bl _,H,I,rfl,q⟩,fun q=>SeqAt.notIn_tuple_reads r2 r1 c2' c1 hr ⟨.bl _,H,I,rfl,q⟩⟩
   .cases e
  .cases e
theorem op_inW(hu:X.A.units+64<cLine):OpR X (compareOp .In) (rM X.K cl (inW false)):=by
 rintro pins s σ H x y v u Q I rx ry ⟨μ,h,wx,wy,w,h',R,ax,ay,e,k⟩
 unfold inW at e
 split at e
 .rename_i b eb
  cases e
  exact(inB_ok hu I rx ry R ax ay eb).1 (k.pure R (.bl _))
 .cases e
theorem op_notInW(hu:X.A.units+64<cLine):OpR X (compareOp .NotIn) (rM X.K cl (inW true)):=by
 rintro pins s σ H x y v u Q I rx ry ⟨μ,h,wx,wy,w,h',R,ax,ay,e,k⟩
 unfold inW at e
 split at e
 .rename_i b eb
  cases e
  exact(inB_ok hu I rx ry R ax ay eb).2 (k.pure R (.bl _))
 .cases e
end
inductive Ty where
 | int | str | bool | tuple | list | dict
 deriving DecidableEq
noncomputable def Ty.name:Ty→String
 | .int=>"int" | .str=>"str" | .bool=>"bool" | .tuple=>"tuple" | .list=>"list" | .dict=>"dict"
noncomputable def tyW(h:MH):W→Option Ty
 | .bl _=>some .bool
 | .int _=>some .int
 | .str _=>some .str
 | .tup _=>some .tuple
 | .fls _=>some .list
 | .ref n=>match h[n]? with
  | some (.lst _)=>some .list
  | some (.dic _)=>some .dict
  | _=>none
 | .fdc _=>some .dict
 | .fn _=>none
 | .non=>none
noncomputable def isTy(T:Ty)(x:W)(h:MH):Option Bool:=match x with
 | .non=>some false
 | x=>match tyW h x with
  | some t=>some (decide (t=T)||(decide (t=.bool)&&decide (T=.int)))
  | none=>none
noncomputable def isW(T:Ty)(x:W):M W:=fun h=>match isTy T x h with
 | some b=>some (.bl b,h)
 | none=>none
theorem kit_pairs(K:PySem.W.Frag):∀(t T:Ty),PySem.W.kitOne K (.type t.name) (.type T.name)=some (decide (t=T)||(decide (t=.bool)&&decide (T=.int))):=by
 intro t T
 cases t<;>cases T<;>kernel_rfl
theorem kit_none(K:PySem.W.Frag):∀(T:Ty),PySem.W.kitOne K (.type "NoneType") (.type T.name)=some false:=by
 intro T
 cases T<;>kernel_rfl
section
variable{X:Cx}{cl:Nat→Addr}{a:Expr}{ma:ME}{pos p p2:Pos}
theorem call_isiW(T:Ty):CallR X (.builtin "isinstance") (fun xs H Q=>∃x,xs=[x,.ty T.name]∧rM1 X.K cl (isW T) x H Q):=by
 rintro pins s σ H xs us Q I rs ⟨x,rfl,μ,h,wx,w,h',R,ax,e,k⟩
 obtain⟨u,u2,rfl,ru,ru2⟩:=vals2 rs
 obtain rfl:u2=.type T.name:=ru2
 unfold isW at e
 split at e
 .rename_i b eb
  cases e
  have q:Q (.bl b) H:=k.pure R (.bl _)
  have fin:∀tk,EP X pins σ Q (.bool b) { s with toks:=tk }:=fun tk=>⟨.bl b,H,I.tok tk,rfl,q⟩
  have go:∀{t:Ty},tyW h wx=some t→PySem.W.kitOne X.K (.type t.name) (.type T.name)=some b:=fun {t} e1=>by
   rw[kit_pairs]
   unfold isTy at eb
   split at eb
   .cases e1
   .rw[e1] at eb; exact eb
  cases ax with
  | non=>
   cases eb
   cases ru
   exact PySem.W.kia_one PySem.W.kitx_none I.kIn True.intro (kit_none X.K T) (fun z=>nomatch z) fin
  | bl y=>cases ru; exact PySem.W.kia_one PySem.W.kitx_bool I.kIn True.intro (go (t:=.bool) rfl) (fun z=>nomatch z) fin
  | int i=>obtain⟨t,rfl⟩:=ru; exact PySem.W.kia_one PySem.W.kitx_int I.kIn True.intro (go (t:=.int) rfl) (fun z=>nomatch z) fin
  | str y=>obtain⟨t,rfl⟩:=ru; exact PySem.W.kia_one PySem.W.kitx_str I.kIn True.intro (go (t:=.str) rfl) (fun z=>nomatch z) fin
  | @tup a vs l sa ra=>
   cases ru
   obtain⟨its,_,⟨o,h1,h2,_⟩,_⟩:=I.tuple sa
   exact PySem.W.kia_one PySem.W.kitx_tuple I.kIn ⟨o,h1,h2⟩ (go (t:=.tuple) rfl) (fun z=>nomatch z) fin
  | @fls a vs l sa ra=>
   cases ru
   obtain⟨its,_,⟨o,n,h1,h2,_⟩,_⟩:=I.list sa.sq
   exact PySem.W.kia_one PySem.W.kitx_list I.kIn ⟨o,h1,h2⟩ (go (t:=.list) rfl) (fun z=>nomatch z) fin
  | @fdc a l l' ws vs sa kk e1 e2 ra=>
   cases ru
   have g:=go (t:=.dict) rfl
   obtain⟨_,_,vs',_,dd⟩:=dk_rd I.hok sa.1
   obtain⟨o,es,ep,h1,h2,_⟩:=dd
   exact PySem.W.kia_one PySem.W.kitx_dict I.kIn ⟨o,h1,h2.1⟩ g (fun z=>nomatch z) fin
  | @fn a=>
   simp only[isTy,tyW] at eb
   cases eb
  | @ref n a hn=>
   cases ru
   cases et:tyW h (.ref n) with
   | none=>simp only[isTy,et] at eb; cases eb
   | some t=>
    have g:=go et
    simp only[tyW] at et
    split at et
    .rename_i l ho
     cases et
     obtain⟨vs,hv,_⟩:=R.ob n a _ hn ho
     obtain⟨its,_,⟨o,n,h1,h2,_⟩,_⟩:=I.list (SqL.of hv)
     exact PySem.W.kia_one PySem.W.kitx_list I.kIn ⟨o,h1,h2⟩ g (fun z=>nomatch z) fin
    .rename_i l ho
     cases et
     obtain⟨l',hv,_⟩:=R.ob n a _ hn ho
     exact isinst_ok (x:=.ref a) I rfl (.dK hv) g fin
    .cases et
 .cases e
theorem se_isi(T:Ty){y:Str}(ha:SE X cl a ma)(hi:X.mg "isinstance" = none)(ht:X.mg y=none)(hv:bootBuiltins y=some (.type T.name))(hg:Gl X "isinstance":=by rfl)(hg2:Gl X y:=by rfl)
  (hn:y≠"__name__":=by decide) (hdb:(y==("__debug__":Str))=false:=by decide)
  (hs1:starEach [a,.Name y p2] X.env=(false,eval a X.env)::starEach [.Name y p2] X.env:=by rfl) (hs2:starEach [.Name y p2] X.env=(false,eval (.Name y p2) X.env)::starEach [] X.env:=by rfl)
  (hpl:(backTo pos (starEach [.Name y p2] X.env)).any (·.1)=false:=by rfl):SE X cl (.Call (.Name "isinstance" p) [a,.Name y p2] [] pos) (eUn (isW T) ma):=
 PE.wk (pe_callB (call_isiW (cl:=cl) T) hg hi PyProof.Rows.boot_isinstance (pa_cons ha (pa_cons (pe_bltn hg2 ht hv (show RelV (.ty T.name) (.type T.name) from rfl) hn hdb) pa_nil hs2) hs1) (by decide) (by decide) hs1 hpl) fun σ H Q q0=>by
  obtain⟨μ,h,ρ,w,h',R,er,e,k⟩:=q0
  obtain⟨x,h1,e1,e⟩:=of_bnd e
  exact⟨μ,h,ρ,x,h1,R,er,e1,fun μ1 H1 vx E1 R1 rx=>⟨vx,rfl,μ1,h1,x,w,h',R1,rx,e,k.ext E1⟩⟩
noncomputable def intW(ws:List W):M W:=fun h=>match ws with
 | [.int i]=>some (.int i,h)
 | [.bl b]=>some (.int (if b then 1 else 0),h)
 | _=>none
noncomputable def strW(ws:List W):M W:=fun h=>match ws with
 | [.int i]=>if i.natAbs.log2<1920 then some (.str (toString i),h) else none
 | _=>none
noncomputable def tupleW(ws:List W):M W:=fun h=>match ws with
 | [.tup l]=>some (.tup l,h)
 | [w]=>match getL h w with
  | some l=>some (.tup l,h)
  | none=>none
 | _=>none
noncomputable def listW(ws:List W):M W:=fun h=>match ws with
 | [w]=>match seqOf h w with
  | some l=>some (.fls l,h)
  | none=>none
 | _=>none
noncomputable def listM(ws:List W):M W:=fun h=>match ws with
 | [w]=>match seqOf h w with
  | some l=>some (.ref h.length,h++[.lst l])
  | none=>none
 | _=>none
theorem call_intW:CallR X (.type "int") (rMs X.K cl intW):=by
 rintro pins s σ H xs us Q I rs ⟨μ,h,ws,w,h',R,ax,e,k⟩
 unfold intW at e
 split at e
 .cases e
  cases ax with | cons r t=>cases t with | nil=>
   cases r.int_of
   exact call_int1 pins s σ H _ us Q I rs (.inl ⟨_,rfl,k.pure R (.int _)⟩)
 .cases e
  cases ax with | cons r t=>cases t with | nil=>
   cases r.bl_of
   exact call_int1 pins s σ H _ us Q I rs (.inr ⟨_,rfl,k.pure R (.int _)⟩)
 .cases e
theorem call_strW:CallR X (.type "str") (rMs X.K cl strW):=by
 rintro pins s σ H xs us Q I rs ⟨μ,h,ws,w,h',R,ax,e,k⟩
 unfold strW at e
 split at e
 .split at e
  .rename_i hl
   cases e
   cases ax with | cons r t=>cases t with | nil=>
    cases r.int_of
    exact call_str_int pins s σ H _ us Q I rs ⟨_,rfl,hl,k.pure R (.str _)⟩
  .cases e
 .cases e
theorem call_tupleW:CallR X (.type "tuple") (rMs X.K cl tupleW):=by
 rintro pins s σ H xs us Q I rs ⟨μ,h,ws,w,h',R,ax,e,k⟩
 unfold tupleW at e
 split at e
 .rename_i l
  cases e
  cases ax with | cons r t=>cases t with | nil=>
   obtain⟨a,vs,rfl,sa,ra⟩:=r.tup_of
   exact call_tuple_of pins s σ H _ us Q I rs ⟨a,vs,rfl,.inr ⟨sa,k.pure R (.tup sa ra)⟩⟩
 .split at e
  .rename_i l el
   cases e
   cases ax with | cons r t=>cases t with | nil=>
    obtain⟨a,vs,rfl,sa,ra⟩:=getL_of R r el
    exact call_tuple_of pins s σ H _ us Q I rs ⟨a,vs,rfl,.inl ⟨sa,fun p hp=>k.tup R ra hp⟩⟩
  .cases e
 .cases e
theorem call_listW:CallR X (.type "list") (rMs X.K cl listW):=by
 rintro pins s σ H xs us Q I rs ⟨μ,h,ws,w,h',R,ax,e,k⟩
 unfold listW at e
 split at e
 .split at e
  .rename_i l el
   cases e
   cases ax with | cons r t=>cases t with | nil=>
    obtain⟨a,vs,rfl,sa,ra⟩:=seqOf_of R r el
    exact call_list_of pins s σ H _ us Q I rs ⟨a,vs,rfl,sa,fun p hp=>k.fls R ra hp⟩
  .cases e
 .cases e
theorem call_listM:CallR X (.type "list") (rMs X.K cl listM):=by
 rintro pins s σ H xs us Q I rs ⟨μ,h,ws,w,h',R,ax,e,k⟩
 unfold listM at e
 split at e
 .split at e
  .rename_i l el
   cases e
   cases ax with | cons r t=>cases t with | nil=>
    obtain⟨a,vs,rfl,sa,ra⟩:=seqOf_of R r el
    exact call_list_of pins s σ H _ us Q I rs ⟨a,vs,rfl,sa,fun p hp=>k.lst R ra hp⟩
  .cases e
 .cases e
end
noncomputable def appendM(x:W)(ws:List W):M W:=fun h=>match x,ws with
 | .ref n,[y]=>match h[n]? with
  | some (.lst l)=>if l.length<cap then some (.non,h.set n (.lst (l++[y]))) else none
  | _=>none
 | _,_=>none
noncomputable def extendM(x:W)(ws:List W):M W:=fun h=>match x,ws with
 | .ref n,[y]=>match h[n]?,seqOf h y with
  | some (.lst l),some l'=>if l.length+l'.length≤cap then some (.non,h.set n (.lst (l++l'))) else none
  | _,_=>none
 | _,_=>none
noncomputable def popM(x:W)(ws:List W):M W:=fun h=>match x,ws with
 | .ref n,[]=>match h[n]? with
  | some (.lst l)=>match l[l.length-1]? with
   | some y=>some (y,h.set n (.lst l.dropLast))
   | none=>none
  | _=>none
 | _,_=>none
noncomputable def eMethL(f:W→List W→M W)(o:ME)(ms:List ME):ME:=fun ρ=>bnd (o ρ) fun x h=>if (getL h x).isSome=true then bnd (mArgs ms ρ) (fun ws=>f x ws) h else none
section
variable{X:Cx}{cl:Nat→Addr}{o e:Expr}{es:List Expr}{mo:ME}{ms:List ME}{apos cpos:Pos}{f:W→List W→M W}
inductive rMm(K:PySem.W.Frag)(cl:Nat→Addr)(f:W→List W→M W)(x:V)(xs:List V)(H:Hp)(Q:VK):Prop
 | mk (μ:List Addr) (h:MH) (wx:W) (ws:List W) (w:W) (h':MH) (p0:HR K cl μ H h) (p1:RW K μ H wx x) (p2:RWs K μ H ws xs) (p3:f wx ws h=some (w,h')) (p4:KQ K cl μ H h' w Q):rMm K cl f x xs H Q
theorem meth_read{σ:L2.St}{H:Hp}{Q:VK}(q:tM X.K cl (eMethL f mo ms) σ H Q):tBM X.K "list" (rMm X.K cl f) (tM X.K cl mo) (tMA X.K cl ms) σ H Q:=by
 obtain⟨μ,h,ρ,w,h',R,er,e,k⟩:=q
 obtain⟨x,h1,e1,e⟩:=of_bnd e
 split at e
 .rename_i hl
  obtain⟨ws,h2,e2,e⟩:=of_bnd e
  refine⟨μ,h,ρ,x,h1,R,er,e1,fun μ1 H1 vx E1 R1 rx=>?_⟩
  obtain⟨l,hl⟩:=Option.isSome_iff_exists.mp hl
  obtain⟨a,vs,rfl,sa,ra⟩:=getL_of R1 rx hl
  exact⟨.inl ⟨rfl,vs,sa⟩,μ1,h1,ρ,ws,h2,R1,er.ext R E1,e2,fun μ2 H2 xs E2 R2 rs=>⟨μ2,h2,x,ws,w,h',R2,rx.ext R1 E2,rs,e,k.ext (E1.trans E2)⟩⟩
 .cases e
theorem meth_read0{σ:L2.St}{H:Hp}{Q:VK}(q:tM X.K cl (eMethL f mo []) σ H Q):tBM0 X.K "list" (rMm X.K cl f) (tM X.K cl mo) σ H Q:=by
 obtain⟨μ,h,ρ,w,h',R,er,e,k⟩:=q
 obtain⟨x,h1,e1,e⟩:=of_bnd e
 split at e
 .rename_i hl
  obtain⟨ws,h2,e2,e⟩:=of_bnd e
  cases e2
  refine⟨μ,h,ρ,x,h1,R,er,e1,fun μ1 H1 vx E1 R1 rx=>?_⟩
  obtain⟨l,hl⟩:=Option.isSome_iff_exists.mp hl
  obtain⟨a,vs,rfl,sa,ra⟩:=getL_of R1 rx hl
  exact⟨.inl ⟨rfl,vs,sa⟩,μ1,h1,x,[],w,h',R1,rx,.nil,e,k.ext E1⟩
 .cases e
theorem KQ.put{K:PySem.W.Frag}{μ:List Addr}{H:Hp}{h:MH}{n:Nat}{a:Addr}{l:List W}{vs:List V}{w:W}{v:V}{Q:VK}(k:KQ K cl μ H (h.set n (.lst l)) w Q)(R:HR K cl μ H h)(hn:μ[n]?=some a)(rs:RWs K μ H l vs)(r:RW K μ H w v):Q v (upd H a (.lst vs)):=
 k μ _ v (.put hn) (R.put hn ⟨vs,upd_same,rs.ext R (.put hn)⟩) (r.ext R (.put hn))
theorem mt_appendM:MtM X "list.append" (rMm X.K cl appendM):=by
 rintro pins s σ H x xs v us Q I rx rs ⟨μ,h,wx,ws,w,h',R,ax,as,e,k⟩
 unfold appendM at e
 split at e
 .rename_i n y
  split at e
  .rename_i l ho
   split at e
   .rename_i hl
    cases e
    cases ax with | @ref _ a hn=>
    cases as with | cons r t=>cases t with | nil=>
    obtain⟨vs,hv,rl⟩:=R.ob n a _ hn ho
    exact mt_append pins s σ H _ _ v us Q I rx rs ⟨a,vs,_,rfl,rfl,hv,Nat.lt_of_lt_of_le (by rw[←rl.length]; exact hl) cap_le,k.put R hn (rl.append (.cons r .nil)) .non⟩
   .cases e
  .cases e
 .cases e
theorem mt_popM:MtM X "list.pop" (rMm X.K cl popM):=by
 rintro pins s σ H x xs v us Q I rx rs ⟨μ,h,wx,ws,w,h',R,ax,as,e,k⟩
 unfold popM at e
 split at e
 .rename_i n
  split at e
  .rename_i l ho
   split at e
   .rename_i y hy
    cases e
    cases ax with | @ref _ a hn=>
    cases as
    obtain⟨vs,hv,rl⟩:=R.ob n a _ hn ho
    obtain⟨v',ev,rv⟩:=rl.get hy
    exact mt_pop pins s σ H _ _ v us Q I rx rs ⟨a,vs,v',rfl,rfl,hv,by rw[←rl.length]; exact ev,k.put R hn rl.dropLast rv⟩
   .cases e
  .cases e
 .cases e
theorem list_extendW(T:String)(hT:T="list" ∨ T="tuple")(l:Addr)(items:Array Value)(n:Nat)(b:Addr)(items2:Array Value)(n2:Nat)(dd2:Option Addr)(sl2:Array (Option Value))(hc0:¬(!items.isEmpty&&Builtin.List.listTooLong (items.size+items2.size))=true)(hc1:items.size≤sizeLine)(hs2:items.size+items2.size≤sizeLine+1) :
  Meets (Builtin.«list.extend» ⟨[.ref l,.ref b],[]⟩) (fun _ R s=>s.heap.get? l=some { cls:=.type "list",dict:=none,data:=.seq items n,slots:=#[] }∧s.heap.get? b=some { cls:=.type T,dict:=dd2,data:=.seq items2 n2,slots:=sl2 }∧R (.ok (.ret Value.none)) { s with heap:=s.heap.update l (Obj.mapSeq fun x=>x++items2),toks:=s.toks }):=by
 rcases hT with rfl | rfl
 .exact .of_wp fun prog w A R s h=>by
   obtain⟨hp,g,d,tk,os⟩:=s; obtain⟨hl,hb,h⟩:=h; have f1:=AutoSeq1.idx_int; have f2:=AutoSeq1.sub_tuple_tuple; have f3:=AutoSeq1.sub_list_list; have f4:=AutoSeq1.sub_tuple_list; have f5:=AutoSeq1.sub_list_tuple
   have hz':(items++items2).size≤sizeLine+1:=by rw[Array.size_append]; exact hs2
   wp_walk using (wpAny_updateSeq hl rfl (hz:=hc1) (_hz':=hz')),wpAny_loadPart' hl,wpAny_loadPart' hb; exact⟨_,rfl,h⟩
 .exact .of_wp fun prog w A R s h=>by
   obtain⟨hp,g,d,tk,os⟩:=s; obtain⟨hl,hb,h⟩:=h; have f1:=AutoSeq1.idx_int; have f2:=AutoSeq1.sub_tuple_tuple; have f3:=AutoSeq1.sub_list_list; have f4:=AutoSeq1.sub_tuple_list; have f5:=AutoSeq1.sub_list_tuple
   have hz':(items++items2).size≤sizeLine+1:=by rw[Array.size_append]; exact hs2
   wp_walk using (wpAny_updateSeq hl rfl (hz:=hc1) (_hz':=hz')),wpAny_loadPart' hl,wpAny_loadPart' hb; exact⟨_,rfl,h⟩
theorem extend_seq{pins:List (Addr×Obj)}{s:Shared}{σ:L2.St}{H:Hp}{l b:Addr}{v u:Value}{Q:VK}{xs zs:List V}(I:Inv X pins σ H s)(rx:RelV (.ref l) v)(ru:RelV (.ref b) u)(hH:H l=some (.lst xs))(hB:SqL X.K H b zs∨SqT X.K H b zs)(hz:xs.length+zs.length≤sizeLine)
  (q:Q .non (upd H l (.lst (xs++zs)))):wpAny (model X.prog X.w) X.A (call (.builtin "list.extend") [v,u]) (EP X pins σ Q) X.xe s:=by
 cases rx
 cases ru
 obtain⟨z,its,n,r,hl,e⟩:=I.lstM hH
 have go:∀{T:String} {its2:List Value} {n2:Nat} {dd2:Option Addr} {sl2:Array (Option Value)},(T="list" ∨ T="tuple")→Vals zs its2→s.heap.get? b=some { cls:=.type T,dict:=dd2,data:=.seq its2.toArray n2,slots:=sl2 }→
   wpAny (model X.prog X.w) X.A (call (.builtin "list.extend") [.ref l,.ref b]) (EP X pins σ Q) X.xe s:=by
  intro T its2 n2 dd2 sl2 hT r2 e2
  have hl2:=r2.length
  have hsz:its.toArray.size+its2.toArray.size≤sizeLine:=by rw[List.size_toArray,List.size_toArray]; omega
  have hlong:¬(!its.toArray.isEmpty&&Builtin.List.listTooLong (its.toArray.size+its2.toArray.size))=true:=by
   rw[notLongL hsz,Bool.and_false]
   exact Bool.false_ne_true
  refine call_meets F.slot_list_extend ⟨_,e,rfl⟩ F.entry_list_extend (F.args_list_extend_2 _ _) (list_extendW T hT l its.toArray n b its2.toArray n2 dd2 sl2 hlong (by rw[List.size_toArray]; omega) (by omega)) ⟨e,e2,?_⟩
  refine⟨.non,_,I.lset (its':=its++its2) hH e (by simp) (r.append r2) ?_,rfl,q⟩
  rw[List.length_append]
  omega
 rcases hB with hB | hB
 .obtain⟨its2,r2,⟨⟨c2,d2,dt2,sl2⟩,n2,h1,h2,h3,h4⟩,_⟩:=I.list hB
  simp only at h2 h4
  subst h2 h4
  exact go (.inl rfl) r2 h1
 .obtain⟨its2,r2,⟨⟨c2,d2,dt2,sl2⟩,h1,h2,n2,h4⟩,_⟩:=I.tuple hB
  simp only at h2 h4
  subst h2 h4
  exact go (.inr rfl) r2 h1
theorem mt_extendM:MtM X "list.extend" (rMm X.K cl extendM):=by
 rintro pins s σ H x xs v us Q I rx rs ⟨μ,h,wx,ws,w,h',R,ax,as,e,k⟩
 unfold extendM at e
 split at e
 .rename_i n y
  split at e
  .rename_i l l' ho el
   split at e
   .rename_i hl
    cases e
    cases ax with | @ref _ a hn=>
    cases as with | cons r t=>cases t with | nil=>
    obtain⟨vs,hv,rl⟩:=R.ob n a _ hn ho
    obtain⟨b,zs,rfl,sb,rb⟩:=seqOf_of R r el
    obtain⟨u,rfl,ru⟩:=rs.one
    exact extend_seq I rx ru hv sb (Nat.le_trans (by rw[←rl.length,←rb.length]; exact hl) cap_le) (k.put R hn (rl.append rb) .non)
   .cases e
  .cases e
 .cases e
theorem se_append(ho:SE X cl o mo)(ha:SA X cl (e::es) ms)(hbase:attributeBase o "append" X.env (eval o X.env)=eval o X.env:=by rfl)
  (hfew:((backTo cpos (starEach (e::es) X.env)).all (fun x=>!x.1)&&(backToKw cpos (keywordEach [] X.env)).all (fun x=>x.1.isSome)
   && decide ((e::es).length+([]:List Keyword).length+(if ([]:List Keyword).isEmpty then 0 else 1)<30))=true:=by rfl)
  (hline:(apos.endLine==cpos.line)=true:=by rfl) (hs:starEach (e::es) X.env=(false,eval e X.env)::starEach es X.env:=by rfl) (hplain:(backTo cpos (starEach es X.env)).any (·.1)=false:=by rfl) :
  SE X cl (.Call (.Attribute o "append" apos) (e::es) [] cpos) (eMethL appendM mo ms):=
 PE.wk (pe_bm PySem.F.plainAttrs_list PySem.F.slot_list_append PySem.F.type_list_append mt_appendM ho ha hbase hfew hline hs hplain) fun σ H Q q=>meth_read q
theorem se_extend(ho:SE X cl o mo)(ha:SA X cl (e::es) ms)(hbase:attributeBase o "extend" X.env (eval o X.env)=eval o X.env:=by rfl)
  (hfew:((backTo cpos (starEach (e::es) X.env)).all (fun x=>!x.1)&&(backToKw cpos (keywordEach [] X.env)).all (fun x=>x.1.isSome)
   && decide ((e::es).length+([]:List Keyword).length+(if ([]:List Keyword).isEmpty then 0 else 1)<30))=true:=by rfl)
  (hline:(apos.endLine==cpos.line)=true:=by rfl) (hs:starEach (e::es) X.env=(false,eval e X.env)::starEach es X.env:=by rfl) (hplain:(backTo cpos (starEach es X.env)).any (·.1)=false:=by rfl) :
  SE X cl (.Call (.Attribute o "extend" apos) (e::es) [] cpos) (eMethL extendM mo ms):=
 PE.wk (pe_bm PySem.F.plainAttrs_list PySem.F.slot_list_extend PySem.F.type_list_extend mt_extendM ho ha hbase hfew hline hs hplain) fun σ H Q q=>meth_read q
theorem se_pop(ho:SE X cl o mo)(hbase:attributeBase o "pop" X.env (eval o X.env)=eval o X.env:=by rfl)(hline:(apos.endLine==cpos.line)=true:=by rfl) :
  SE X cl (.Call (.Attribute o "pop" apos) [] [] cpos) (eMethL popM mo []):=
 PE.wk (pe_bm0 PySem.F.plainAttrs_list PySem.F.slot_list_pop PySem.F.type_list_pop mt_popM ho hbase hline) fun σ H Q q=>meth_read0 q
end
noncomputable def srcOf(x:W):M Src:=fun h=>match x with
 | .tup l=>some (.items l,h)
 | .fls l=>some (.items l,h)
 | .ref n=>match h[n]? with
  | some (.lst _)=>some (.live n,h)
  | _=>none
 | _=>none
noncomputable def iSeq(m:ME):MI:=fun ρ=>bnd (m ρ) srcOf
noncomputable def upto(n:Nat):List W:=(_root_.List.range n).map fun(i:Nat)=>W.int (i:Int)
noncomputable def rngW(ws:List W):M Src:=fun h=>match ws with
 | [.int j]=>if -(2 ^ 62)≤j∧j<2 ^ 62 then some (.items (upto j.toNat),h) else none
 | _=>none
noncomputable def iRng(ms:List ME):MI:=fun ρ=>bnd (mArgs ms ρ) rngW
section
variable{X:Cx}{cl:Nat→Addr}{tg e:Expr}{m:ME}{ms:List ME}{p pos:Pos}
theorem pi_seq{tl:TE}(hl:PE X e tl):PI X tg e (fun σ H R=>tl σ H fun x H1=>∃a,x=.ref a∧(((∃xs,SqL X.K H1 a xs)∧R (Itl X.K a) H1)∨((∃xs,SqT X.K H1 a xs)∧R (Itt X.K a) H1))):=by
 intro pins s σ H R I h
 refine thn (hl pins s σ H _ I h) fun v s1 ⟨x,H1,I1,r1,q1⟩=>?_
 obtain⟨a,e,q1⟩:=q1
 subst e
 cases r1
 rcases q1 with ⟨⟨xs,hq⟩,q⟩ | ⟨⟨xs,hq⟩,q⟩
 .obtain⟨its,rv,p,hz⟩:=I1.list hq
  refine wpAny_pyIter_list p.isList ?_
  refine⟨s1.heap.objs.size,[s1.heap.objs.size],_,_,H1,rfl,I1.kept (t':=s1.toks) fun b o e=>Heap.get?_push_of_some _ e,turn_list a _,⟨_,Heap.get?_push_size _ rfl,rfl,rfl⟩,fun b hb=>?_,q⟩
  have e:b=s1.heap.objs.size:=by simpa using hb
  subst e
  exact I1.fpOk (Nat.le_refl _) (I1.hok.fresh (Nat.le_refl _))
 .obtain⟨its,rv,p,hz⟩:=I1.tuple hq
  refine wpAny_pyIter_tuple (show s1.heap.IsTuple a its.toArray from p) ?_
  refine⟨s1.heap.objs.size,[s1.heap.objs.size],_,_,H1,rfl,I1.kept (t':=s1.toks) fun b o e=>Heap.get?_push_of_some _ e,turn_tuple a _,⟨_,Heap.get?_push_size _ rfl,rfl,rfl⟩,fun b hb=>?_,q⟩
  have e:b=s1.heap.objs.size:=by simpa using hb
  subst e
  exact I1.fpOk (Nat.le_refl _) (I1.hok.fresh (Nat.le_refl _))
theorem jr_tup{K:PySem.W.Frag}{μ:List Addr}{H:Hp}{h:MH}{a:Addr}{vs:List V}{l:List W}(R:HR K cl μ H h)(sa:SqT K H a vs)(ra:RWs K μ H l vs):JR K cl (Itt K a) (.items l) μ H:=by
 intro μ2 H2 h2 E2 R2 i
 have sa2:=SqT.ext R E2 sa
 have ra2:=ra.ext R E2
 refine⟨fun w ew=>?_,fun es=>?_⟩
 .have ew':l[i]?=some w:=Option.some.inj ew
  obtain⟨v,ev,rv⟩:=ra2.get ew'
  refine⟨⟨vs,v,sa2,ev⟩,fun x H3 y=>?_⟩
  obtain⟨rfl,y⟩:=y
  have:=y vs sa2
  rw[ev] at this
  cases this
  exact⟨.refl,R2,rv⟩
 .have es':l[i]?=none:=Option.some.inj es
  exact⟨vs,sa2,by rw[←ra.length]; exact List.getElem?_eq_none_iff.mp es'⟩
theorem jr_fls{K:PySem.W.Frag}{μ:List Addr}{H:Hp}{h:MH}{a:Addr}{vs:List V}{l:List W}(R:HR K cl μ H h)(sa:SqF K μ H a vs)(ra:RWs K μ H l vs):JR K cl (Itl K a) (.items l) μ H:=by
 intro μ2 H2 h2 E2 R2 i
 have sa2:=(SqF.ext E2 sa).sq
 have ra2:=ra.ext R E2
 refine⟨fun w ew=>?_,fun es=>?_⟩
 .have ew':l[i]?=some w:=Option.some.inj ew
  obtain⟨v,ev,rv⟩:=ra2.get ew'
  refine⟨⟨vs,v,sa2,ev⟩,fun x H3 y=>?_⟩
  obtain⟨rfl,y⟩:=y
  have:=y vs sa2
  rw[ev] at this
  cases this
  exact⟨.refl,R2,rv⟩
 .have es':l[i]?=none:=Option.some.inj es
  exact⟨vs,sa2,by rw[←ra.length]; exact List.getElem?_eq_none_iff.mp es'⟩
theorem jr_live{K:PySem.W.Frag}{μ:List Addr}{H:Hp}{a:Addr}{n:Nat}(hn:μ[n]?=some a):JR K cl (Itl K a) (.live n) μ H:=by
 intro μ2 H2 h2 E2 R2 i
 have hn2:=E2.get hn
 refine⟨fun w ew=>?_,fun es=>?_⟩
 .unfold srcAt at ew
  dsimp only at ew
  split at ew
  .rename_i l ho
   have ew':l[i]?=some w:=Option.some.inj ew
   obtain⟨vs,hv,ra⟩:=R2.ob n a _ hn2 ho
   obtain⟨v,ev,rv⟩:=ra.get ew'
   refine⟨⟨vs,v,SqL.of hv,ev⟩,fun x H3 y=>?_⟩
   obtain⟨rfl,y⟩:=y
   have:=y vs (SqL.of hv)
   rw[ev] at this
   cases this
   exact⟨.refl,R2,rv⟩
  .cases ew
 .unfold srcAt at es
  dsimp only at es
  split at es
  .rename_i l ho
   have es':l[i]?=none:=Option.some.inj es
   obtain⟨vs,hv,ra⟩:=R2.ob n a _ hn2 ho
   exact⟨vs,SqL.of hv,by rw[←ra.length]; exact List.getElem?_eq_none_iff.mp es'⟩
  .cases es
theorem si_seq(he:SE X cl e m):SI X cl tg e (iSeq m):=PI.wk (pi_seq he) fun σ H Q q0=>by
 obtain⟨μ,h,ρ,src,h',R,er,e,k⟩:=q0
 obtain⟨x,h1,e1,e⟩:=of_bnd e
 refine⟨μ,h,ρ,x,h1,R,er,e1,fun μ1 H1 v E1 R1 r=>?_⟩
 unfold srcOf at e
 split at e
 .cases e
  obtain⟨a,vs,rfl,sa,ra⟩:=r.tup_of
  exact⟨a,rfl,.inr ⟨⟨vs,sa⟩,k μ1 H1 _ E1 R1 (jr_tup R1 sa ra)⟩⟩
 .cases e
  cases r with | @fls a vs l sa ra=>
  exact⟨a,rfl,.inl ⟨⟨vs,sa.sq⟩,k μ1 H1 _ E1 R1 (jr_fls R1 sa ra)⟩⟩
 .rename_i n
  split at e
  .rename_i l ho
   cases e
   cases r with | @ref _ a hn=>
   obtain⟨vs,hv,ra⟩:=R1.ob n a _ hn ho
   exact⟨a,rfl,.inl ⟨⟨vs,SqL.of hv⟩,k μ1 H1 _ E1 R1 (jr_live hn)⟩⟩
  .cases e
 .cases e
theorem jr_rng{K:PySem.W.Frag}{μ:List Addr}{H:Hp}{n:Nat}:JR K cl (Itr 0 n) (.items (upto n)) μ H:=by
 intro μ2 H2 h2 E2 R2 i
 refine⟨fun w ew=>?_,fun es=>?_⟩
 .have ew':(upto n)[i]?=some w:=Option.some.inj ew
  unfold upto at ew'
  rw[List.getElem?_map] at ew'
  by_cases hi:i<n
  .rw[List.getElem?_range hi] at ew'
   cases ew'
   refine⟨hi,fun x H3 y=>?_⟩
   obtain⟨rfl,rfl⟩:=y
   exact⟨.refl,R2,by rw[Int.zero_add]; exact .int _⟩
  .rw[List.getElem?_eq_none (by simpa using hi)] at ew'
   cases ew'
 .have es':(upto n)[i]?=none:=Option.some.inj es
  have:=List.getElem?_eq_none_iff.mp es'
  unfold upto at this
  rw[List.length_map,List.length_range] at this
  exact this
theorem si_rng(hm:X.mg "range" = none)(ha:SA X cl [e] ms)(hg:Gl X "range":=by rfl)(hs:starEach [e] X.env=[(false,eval e X.env)]:=by rfl):SI X cl tg (.Call (.Name "range" p) [e] [] pos) (iRng ms):=
 PI.wk (pi_range1 hg hm ha hs) fun σ H Q q0=>by
  obtain⟨μ,h,ρ,src,h',R,er,e,k⟩:=q0
  obtain⟨ws,h1,e1,e⟩:=of_bnd e
  refine⟨μ,h,ρ,ws,h1,R,er,e1,fun μ1 H1 vs E1 R1 rs=>?_⟩
  unfold rngW at e
  split at e
  .rename_i j
   split at e
   .rename_i hj
    cases e
    cases rs with | cons r t=>cases t with | nil=>
    cases r.int_of
    exact⟨j,rfl,hj.1,hj.2,k μ1 H1 _ E1 R1 jr_rng⟩
   .cases e
  .cases e
end
noncomputable def relS(sc scope:Scope):Scope:={ scope with names:=scope.names.map fun(n,k)=>if (k==.free&&sc.kind==.function&&sc.names.lookup n==some .cell) then (n,.cell) else (n,k) }
noncomputable def cof(sc:Scope)(x:Str):Bool:=sc.names.lookup x==some .cell||sc.names.lookup x==some .free
noncomputable def compOkB(sc:Scope)(N:List Str)(scope:Scope)(N':List Str)(nl:Nat)(ks:List Nat):Bool:=
 scope.kind==.function&&scope.names.all (fun y=>y.2 != .cell)&&scope.names.all (fun y=>y.2 != .local||scope.names.lookup y.1==some .local)
 && N'.length==nl+ks.length&&scope.names.all (fun y=>y.2 != .free||cof sc y.1)
 && (List.range ks.length).all fun j=>match ks[j]?,N'[nl+j]? with
  | some k,some x=>N[k]?==some x&&cof sc x&&cof (relS sc scope) x
  | _,_=>false
structure CompOk(sc:Scope)(N:List Str)(scope:Scope)(N':List Str)(nl:Nat)(ks:List Nat):Prop where
 kind:scope.kind=.function
 ncell:∀y∈scope.names,y.2≠.cell
 names:∀y∈scope.names,y.2=.local→scope.names.lookup y.1=some .local
 len:N'.length=nl+ks.length
 fall:∀y∈scope.names,y.2=.free→cof sc y.1=true
 fr:∀j k,ks[j]?=some k→∃x,N[k]?=some x∧N'[nl+j]?=some x∧cof sc x=true∧cof (relS sc scope) x=true
theorem compOk_of{sc:Scope}{N:List Str}{scope:Scope}{N':List Str}{nl:Nat}{ks:List Nat}(h:compOkB sc N scope N' nl ks=true):CompOk sc N scope N' nl ks:=by
 unfold compOkB at h
 simp only[Bool.and_eq_true] at h
 obtain⟨⟨⟨⟨⟨h1,h2⟩,h3⟩,h4⟩,h5⟩,h6⟩:=h
 refine⟨by simpa using h1,fun y hy=>?_,fun y hy e=>?_,by simpa using h4,fun y hy e=>?_,fun j k e=>?_⟩
 .have:=List.all_eq_true.mp h2 y hy; simpa using this
 .have:=List.all_eq_true.mp h3 y hy; simpa[e] using this
 .have:=List.all_eq_true.mp h5 y hy; simpa[e] using this
 .have hj:j<ks.length:=(List.getElem?_eq_some_iff.mp e).1
  have:=List.all_eq_true.mp h6 j (List.mem_range.mpr hj)
  rw[e] at this
  cases e2:N'[nl+j]? with
  | none=>rw[e2] at this; simp at this
  | some x=>
   rw[e2] at this
   simp only[Bool.and_eq_true] at this
   exact⟨x,by simpa using this.1.1,rfl,this.1.2,this.2⟩
theorem cof_or{sc:Scope}{x:Str}(h:cof sc x=true):sc.names.lookup x=some .cell∨sc.names.lookup x=some .free:=by
 unfold cof at h
 rcases Bool.or_eq_true_iff.mp h with h | h
 .exact .inl (by simpa using h)
 .exact .inr (by simpa using h)
noncomputable def cxC(X:Cx)(scope:Scope)(cs:List (Str×Addr))(C:Addr)(N:List Str)(s₀:Shared)(H₀:Hp)(ex:List Addr):Cx:=
 { X with N:=N,s₀:=s₀,H₀:=H₀,env:=compEnvC scope cs C X.env,outer:=X.stack,ex:=ex,fn:=fun _=>false,pn:=[],xe:=fun _ _=>False }
theorem closure_of{env:Env}(names:List (Str×NameKind))(h:∀y∈names,y.2=.free→∃c,env.cells.lookup y.1=some c):∀cs0:List (Str×Addr),(∀x c,cs0.lookup x=some c→env.cells.lookup x=some c)→
  ∃cs,(forIn names cs0 fun(x:Str×NameKind) (r:List (Str×Addr))=>if (x.2==NameKind.free)=true then do
    let a ←cellOf env x.1
    pure (ForInStep.yield ((x.1,a)::r)) else pure (ForInStep.yield r):Sem (List (Str×Addr)))=pure cs∧(∀x c,cs.lookup x=some c→env.cells.lookup x=some c)∧(∀y∈names,y.2=.free→∃c,cs.lookup y.1=some c)∧∀x c,cs0.lookup x=some c→∃c',cs.lookup x=some c':=by
 induction names with
 | nil=>intro cs0 h0; exact⟨cs0,by simp,h0,fun y hy=>by simp at hy,fun x c e=>⟨c,e⟩⟩
 | cons y r ih=>
  intro cs0 h0
  have hr:∀z∈r,z.2=.free→∃c,env.cells.lookup z.1=some c:=fun z hz=>h z (List.mem_cons_of_mem _ hz)
  by_cases hy:(y.2==NameKind.free)=true
  .obtain⟨c,hc⟩:=h y List.mem_cons_self (by simpa using hy)
   have h1:∀x c',((y.1,c)::cs0).lookup x=some c'→env.cells.lookup x=some c':=fun x c' e=>by
    rw[List.lookup_cons] at e
    split at e
    .rename_i q
     have:x=y.1:=by simpa using q
     subst this
     rw[←e]; exact hc
    .exact h0 x c' e
   obtain⟨cs,e1,e2,e3,e4⟩:=ih hr ((y.1,c)::cs0) h1
   have hself:∃c',cs.lookup y.1=some c':=e4 y.1 c (by rw[List.lookup_cons]; simp)
   refine⟨cs,?_,e2,fun z hz e=>?_,fun x c' e=>?_⟩
   .rw[List.forIn_cons,if_pos hy]
    have:cellOf env y.1=pure c:=by unfold cellOf; rw[hc]
    rw[this]
    simp only[pure_bind]
    exact e1
   .rcases List.mem_cons.mp hz with rfl | hz
    .exact hself
    .exact e3 z hz e
   .by_cases q:x=y.1
    .subst q; exact hself
    .refine e4 x c' ?_
     rw[List.lookup_cons]
     have:(x==y.1)=false:=by simpa using q
     rw[this]; exact e
  .obtain⟨cs,e1,e2,e3,e4⟩:=ih hr cs0 h0
   refine⟨cs,?_,e2,fun z hz e=>?_,e4⟩
   .rw[List.forIn_cons,if_neg hy]
    simp only[pure_bind]
    exact e1
   .rcases List.mem_cons.mp hz with rfl | hz
    .exact absurd (by simpa using e) hy
    .exact e3 z hz e
theorem closureFor_of{env:Env}{scope:Scope}(h:∀y∈scope.names,y.2=.free→∃c,env.cells.lookup y.1=some c) :
  ∃cs,closureFor scope env=pure cs∧(∀x c,cs.lookup x=some c→env.cells.lookup x=some c)∧(∀y∈scope.names,y.2=.free→∃c,cs.lookup y.1=some c):=by
 obtain⟨cs,e1,e2,e3,_⟩:=closure_of scope.names h [] (fun x c e=>by simp at e)
 refine⟨cs,?_,e2,e3⟩
 have q:closureFor scope env=((forIn scope.names ([]:List (Str×Addr)) fun(x:Str×NameKind) (r:List (Str×Addr))=>if (x.2==NameKind.free)=true then do
    let a ←cellOf env x.1
    pure (ForInStep.yield ((x.1,a)::r)) else pure (ForInStep.yield r):Sem (List (Str×Addr))) >>= fun cs=>pure cs):=rfl
 rw[q,e1]
 rfl
section
variable{X:Cx}{pins:List (Addr×Obj)}{σ:L2.St}{H:Hp}{s:Shared}
theorem relS_mem{sc scope:Scope}(nc:∀y∈scope.names,y.2≠.cell){x:Str}(h:cof (relS sc scope) x=true):∃y∈scope.names,y.1=x∧y.2=.free:=by
 have go:∀l:List (Str×NameKind),(∀y∈l,y.2≠.cell)→∀k:NameKind,(k=.cell∨k=.free)→(l.map fun(n,k)=>if (k==NameKind.free&&sc.kind==ScopeKind.function&&sc.names.lookup n==some NameKind.cell) then (n,NameKind.cell) else (n,k)).lookup x=some k→∃y∈l,y.1=x∧y.2=.free:=by
  intro l
  induction l with
  | nil=>intro _ k _ e; simp at e
  | cons y r ih=>
   obtain⟨n,k0⟩:=y
   intro nc k hk e
   rw[List.map_cons,List.lookup_cons] at e
   have fstq:(if (k0==NameKind.free&&sc.kind==ScopeKind.function&&sc.names.lookup n==some NameKind.cell)=true then (n,NameKind.cell) else (n,k0)).1=n:=by split<;>rfl
   by_cases q:x=n
   .refine⟨(n,k0),List.mem_cons_self,q.symm,?_⟩
    have:(x==n)=true:=by simpa using q
    simp only[fstq,this] at e
    split at e
    .rename_i c
     simp only[Bool.and_eq_true] at c
     simpa using c.1.1
    .have e':k0=k:=by simpa using e
     rcases hk with rfl | rfl
     .exact absurd e' (nc (n,k0) List.mem_cons_self)
     .exact e'
   .have:(x==n)=false:=by simpa using q
    simp only[fstq,this] at e
    obtain⟨y,hy,e1,e2⟩:=ih (fun y hy=>nc y (List.mem_cons_of_mem _ hy)) k hk e
    exact⟨y,List.mem_cons_of_mem _ hy,e1,e2⟩
 rcases cof_or h with h | h
 .exact go scope.names nc _ (.inl rfl) h
 .exact go scope.names nc _ (.inr rfl) h
theorem cxC_ok{sc scope:Scope}{N N':List Str}{nl:Nat}{ks:List Nat}{cs:List (Str×Addr)}{C:Addr}{ex:List Addr}(I:Inv X pins σ H s)(hsc:X.env.scope=sc)(ok:CompOk sc N scope N' nl ks)
  (hcs:∀x c,cs.lookup x=some c→X.env.cells.lookup x=some c) (hall:∀y∈scope.names,y.2=.free→∃c,cs.lookup y.1=some c) (hC:s.heap.objs.size≤C) (hex:∀b∈ex,FpOk X pins H b) (hob:∀b∈ex,b<s.heap.objs.size):(cxC X scope cs C N' s H ex).Ok:=by
 subst hsc
 refine⟨I.ok.mod,ok.kind,I.ok.glob,I.ok.blt,hC,fun x y c h1 h2=>I.ok.inj x y c (hcs x c h1) (hcs y c h2),fun x hx=>?_,fun x c h=>?_,I.ok.hd,I.ok.frames,.inl rfl,fun b hb=>?_,I.bs,Nat.le_trans I.ok.bsz I.sz,fun b o e hb=>?_,fun b hb z=>?_,I.stack,I.stkFree⟩
 .have hc:cof (relS X.env.scope scope) x=true:=by
   unfold cof
   rcases hx with hx | hx
   .rw[show(relS X.env.scope scope).names.lookup x=some .cell from hx]; rfl
   .rw[show(relS X.env.scope scope).names.lookup x=some .free from hx]; rfl
  obtain⟨y,hy,rfl,e⟩:=relS_mem ok.ncell hc
  exact hall y hy e
 .cases h
 .obtain⟨h0,h1,h2,h3,h4,h5⟩:=hex b hb
  exact⟨fun z=>absurd (Nat.lt_of_lt_of_le (hob b hb) (z▸hC)) (Nat.lt_irrefl _),fun x c e=>h4 x c (hcs x c e)⟩
 .obtain⟨h0,h1,h2,h3,h4,h5⟩:=hex b hb
  rcases h3 with h3 | h3
  .exact I.ok.noex b o e h3
  .exact absurd (Nat.lt_of_lt_of_le (Heap.lt_size e) (Nat.le_trans I.ok.bsz h3)) (Nat.lt_irrefl _)
 .obtain⟨h0,h1,h2,h3,h4,h5⟩:=hex b hb
  rcases List.mem_cons.mp (I.stkSub b z) with e | e
  .exact h1 e
  .exact h2 e
end
section
variable{prog:Program}{w:World}{A:Around}{R:Result→Shared→Prop}{s:Shared}
noncomputable def testsOf(ifs:List Expr)(env:Env):Sem Bool:=forIn ifs true fun c r=>if r=true then do let ok ←isTrue c env (eval c env); pure (ForInStep.yield ok) else pure (ForInStep.yield r)
theorem compLoop_gen{elt target iter:Expr}{ifs:List Expr}{scope:Scope}{pos:Pos}{it acc:Value}{env:Env}(I:Nat→Shared→Prop)
  (turn:∀n s,I n s→wpAny (model prog w) A (pyNext it) (fun r s₁=>match r with
   | none=>R (.ok .next) s₁
   | some v=>wpAny (model prog w) A (letOwnedTupleGo target it v) (fun _ s₁'=>wpAny (model prog w) A (assign target env v) (fun _ s₂=>
     wpAny (model prog w) A (testsOf ifs env) (fun ok s₃=>
      if ok=true then wpAny (model prog w) A (eval elt env) (fun x s₄=>
       wpAny (model prog w) A (call (.builtin "list.append") [acc,x]) (fun _ s₅=>∃m,m<n∧I m s₅) (fun _ _=>False) s₄) (fun _ _=>False) s₃
      else ∃m,m<n∧I m s₃) (fun _ _=>False) s₂) (fun _ _=>False) s₁') (fun _ _=>False) s₁) (fun _ _=>False) s)
  (n:Nat) (h:I n s) :
  codeAny (model prog w) A (.compLoop (.ListComp elt [⟨target,iter,ifs,0⟩] scope pos) 0 it acc env) R s:=by
 refine codeAny_loop rfl I (fun n s hI=>?_) n h
 show wpAny _ A ((compTurn (.ListComp elt [⟨target,iter,ifs,0⟩] scope pos) 0 it acc env).onRaise (fun x=>do noteFrame x env; theTreesLotGoes x)) _ _ s
 refine wpAny_noted ?_
 rw[compTurn_list]
 refine wpAny_bind (wpAny_standAt (wpAny_bind (wpAny_mono (turn n s hI) (fun r s₁ h₁=>?_) fun _ _ h'=>h'.elim)))
 cases r with
 | none=>exact wpAny_pure h₁
 | some v=>
  refine wpAny_bind (wpAny_mono h₁ (fun _ s₁' h₁'=>?_) fun _ _ h'=>h'.elim)
  refine wpAny_bind (wpAny_mono h₁' (fun _ s₂ h₂=>wpAny_bind (wpAny_mono h₂ (fun ok s₃ h₃=>?_) fun _ _ h'=>h'.elim)) fun _ _ h'=>h'.elim)
  cases ok with
  | false=>exact wpAny_pure ⟨rfl,h₃⟩
  | true=>
   exact wpAny_bind (wpAny_bind (wpAny_mono h₃ (fun x s₄ h₄=>wpAny_bind (wpAny_mono h₄ (fun _ s₅ h₅=>wpAny_pure (wpAny_pure ⟨rfl,h₅⟩)) fun _ _ h'=>h'.elim)) fun _ _ h'=>h'.elim))
end
noncomputable def STs(X:Cx)(cl:Nat→Addr)(ifs:List Expr)(t:MT):Prop:=∀(pins:List (Addr×Obj)) (s:Shared) (σ:L2.St) (H:Hp) (Q:Bool→Hp→Prop),Inv X pins σ H s→tMT X.K cl t σ H Q→wpAny (model X.prog X.w) X.A (testsOf ifs X.env) (TP X pins σ Q) X.xe s
noncomputable def tTrue:MT:=fun _ h=>some (true,h)
section
variable{X:Cx}{cl:Nat→Addr}{c:Expr}{t:MT}
theorem sts_nil:STs X cl [] tTrue:=fun pins s σ H Q I q0=>by
 obtain⟨μ,h,ρ,b,h',R,er,e,k⟩:=q0
 cases e
 exact wpAny_tests_nil ⟨H,I,k μ H .refl R⟩
theorem sts_one(h:ST X cl c t):STs X cl [c] t:=fun pins s σ H Q I q=>wpAny_tests_one (h pins s σ H Q I q)
end
noncomputable def blank(nl:Nat)(ρ:En):En:=List.replicate nl none++ρ.drop nl
noncomputable def compN(src:Src)(nl:Nat)(g:MG)(t:MT)(m:ME)(n0:Nat):Nat→Nat→En→MH→Option MH
 | 0,_,_,_=>none
 | k+1,i,ρ,h=>match srcAt src i h with
  | none=>none
  | some none=>some h
  | some (some w)=>match g w ρ h with
   | none=>none
   | some (ρ1,h1)=>match t ρ1 h1 with
    | none=>none
    | some (false,h2)=>compN src nl g t m n0 k (i+1) (blank nl ρ1) h2
    | some (true,h2)=>match m ρ1 h2 with
     | none=>none
     | some (y,h3)=>match h3[n0]? with
      | some (.lst acc)=>if acc.length<cap then compN src nl g t m n0 k (i+1) (blank nl ρ1) (h3.set n0 (.lst (acc++[y]))) else none
      | _=>none
noncomputable def compL(nl:Nat)(g:MG)(t:MT)(m:ME)(n0:Nat):List W→En→MH→Option MH
 | [],_,h=>some h
 | w::r,ρ,h=>match g w ρ h with
   | none=>none
   | some (ρ1,h1)=>match t ρ1 h1 with
    | none=>none
    | some (false,h2)=>compL nl g t m n0 r (blank nl ρ1) h2
    | some (true,h2)=>match m ρ1 h2 with
     | none=>none
     | some (y,h3)=>match h3[n0]? with
      | some (.lst acc)=>if acc.length<cap then compL nl g t m n0 r (blank nl ρ1) (h3.set n0 (.lst (acc++[y]))) else none
      | _=>none
theorem compN_items{nl:Nat}{g:MG}{t:MT}{m:ME}{n0:Nat}(l:List W):∀(k i:Nat) (ρ:En) (h:MH),l.length+1≤i+k→i≤l.length→compN (.items l) nl g t m n0 k i ρ h=compL nl g t m n0 (l.drop i) ρ h
 | 0,i,ρ,h,hk,hi=>by omega
 | k+1,i,ρ,h,hk,hi=>by
  by_cases hl:i<l.length
  .rw[List.drop_eq_getElem_cons hl]
   unfold compN compL
   simp only[srcAt,List.getElem?_eq_getElem hl]
   cases e1:g l[i] ρ h with
   | none=>rfl
   | some p=>
    obtain⟨ρ1,h1⟩:=p
    simp only
    cases e2:t ρ1 h1 with
    | none=>rfl
    | some q=>
     obtain⟨b,h2⟩:=q
     cases b with
     | false=>exact compN_items l k (i+1) _ h2 (by omega) hl
     | true=>
      simp only
      cases e3:m ρ1 h2 with
      | none=>rfl
      | some q3=>
       obtain⟨y,h3⟩:=q3
       simp only
       split
       .split
        .exact compN_items l k (i+1) _ _ (by omega) hl
        .rfl
       .rfl
  .have hi':i=l.length:=by omega
   subst hi'
   rw[List.drop_length]
   unfold compN compL
   simp[srcAt]
noncomputable def compR(mi:MI)(nl:Nat)(ks:List Nat)(g:MG)(t:MT)(m:ME):En→MH→Option (Nat×MH×MH):=fun ρ h=>match mi ρ h with
 | none=>none
 | some (.items l,h1)=>match compL nl g t m h1.length l (List.replicate nl none++ks.map fun k=>(ρ[k]?).join) (h1++[.lst []]) with
  | some h2=>some (h1.length,h1,h2)
  | none=>none
 | some (.live n,h1)=>match compN (.live n) nl g t m h1.length (srcLen (.live n) h1+1) 0 (List.replicate nl none++ks.map fun k=>(ρ[k]?).join) (h1++[.lst []]) with
  | some h2=>some (h1.length,h1,h2)
  | none=>none
noncomputable def eCompM(mi:MI)(nl:Nat)(ks:List Nat)(g:MG)(t:MT)(m:ME):ME:=fun ρ h=>match compR mi nl ks g t m ρ h with
 | some (n,_,h2)=>some (.ref n,h2)
 | none=>none
open Classical in
noncomputable def eComp(mi:MI)(nl:Nat)(ks:List Nat)(g:MG)(t:MT)(m:ME):ME:=fun ρ h=>match compR mi nl ks g t m ρ h with
 | some (n,h1,h2)=>match h2[n]? with
  | some (.lst l)=>if h1<+:h2∧lows h1.length l=true then some (.fls l,h1) else none
  | _=>none
 | none=>none
theorem ER.blank{K:PySem.W.Frag}{μ:List Addr}{H:Hp}{ρ:En}{σ:L2.St}{nl:Nat}(er:ER K μ H ρ σ)(hl:nl≤ρ.length):ER K μ H (ML.blank nl ρ) σ:=by
 unfold ML.blank
 refine⟨by simp; rw[←er.len]; omega,fun i w e=>?_⟩
 by_cases hi:i<nl
 .rw[List.getElem?_append_left (by simpa using hi),List.getElem?_replicate] at e
  split at e<;>cases e
 .rw[List.getElem?_append_right (by simpa using hi),List.length_replicate,List.getElem?_drop] at e
  exact er.at_ i w (by rw[←e]; congr 1; omega)
section
variable{X:Cx}{cl:Nat→Addr}{pins:List (Addr×Obj)}{σ:L2.St}
noncomputable def σC(nl:Nat)(ks:List Nat)(σ:L2.St):L2.St:=List.replicate nl none++ks.map fun k=>(σ[k]?).join
noncomputable def ρC(nl:Nat)(ks:List Nat)(ρ:En):En:=List.replicate nl none++ks.map fun k=>(ρ[k]?).join
theorem erC{K:PySem.W.Frag}{μ:List Addr}{H:Hp}{ρ:En}{nl:Nat}{ks:List Nat}(er:ER K μ H ρ σ):ER K μ H (ρC nl ks ρ) (σC nl ks σ):=by
 unfold ρC σC
 refine⟨by simp,fun i w e=>?_⟩
 by_cases hi:i<nl
 .rw[List.getElem?_append_left (by simpa using hi),List.getElem?_replicate] at e
  split at e<;>cases e
 .rw[List.getElem?_append_right (by simpa using hi),List.length_replicate,List.getElem?_map] at e
  rw[List.getElem?_append_right (by simpa using hi),List.length_replicate,List.getElem?_map]
  cases e1:ks[i-nl]? with
  | none=>rw[e1] at e; cases e
  | some k=>
   rw[e1] at e
   have e2:(ρ[k]?).join=some w:=Option.some.inj e
   have e3:ρ[k]?=some (some w):=by
    cases q:ρ[k]? with
    | none=>rw[q] at e2; cases e2
    | some o=>rw[q] at e2; cases o with
     | none=>cases e2
     | some z=>cases e2; rfl
   obtain⟨v,ev,r⟩:=er.at_ k w e3
   exact⟨v,by simp[ev],r⟩
theorem inv_block{sc scope:Scope}{N N':List Str}{nl:Nat}{ks:List Nat}{cs:List (Str×Addr)}{ex:List Addr}{H:Hp}{s:Shared}{h₁:Heap}{tk:Nat}(I:Inv X pins σ H s)(hsc:X.env.scope=sc)(hN:X.N=N)(ok:CompOk sc N scope N' nl ks)
  (hcs:∀x c,cs.lookup x=some c→X.env.cells.lookup x=some c) (hall:∀y∈scope.names,y.2=.free→∃c,cs.lookup y.1=some c) (hex:∀b∈ex,FpOk X pins H b) (hob:∀b∈ex,b<s.heap.objs.size)
  {m0:Str→Option Value} (hns:h₁.Ns (s.heap.objs.size+1) m0) (old:∀b o,s.heap.get? b=some o→h₁.get? b=some o) (hD:h₁.get? s.heap.objs.size=some { cls:=.type "list",data:=.seq ([]:List Value).toArray }) :
  Inv (cxC X scope cs (s.heap.objs.size+1) N' s H ex) [] (σC nl ks σ) (upd H s.heap.objs.size (.lst [])) { s with heap:=h₁,toks:=tk }:=by
 have hfr:H s.heap.objs.size=none:=I.hok.fresh (Nat.le_refl _)
 have ltD:∀{b:Addr} {o:Obj},s.heap.get? b=some o→b≠s.heap.objs.size:=fun e=>Nat.ne_of_lt (Heap.lt_size e)
 refine⟨cxC_ok I hsc ok hcs hall (Nat.le_succ _) hex hob,rfl,I.bare,Un.laid old (Nat.le_refl _) hfr,⟨m0,hns,fun i x v e1 e2 e3=>?_⟩,fun x c e=>?_,?_,fun x c e=>?_,fun p hp=>absurd (show p∈([]:List (Addr×Obj)) from hp) (by simp),I.hok.laid old (Nat.le_refl _) ⟨by simp,[],_,.nil,hD⟩,?_⟩
 .have e1':N'[i]?=some x:=e1
  unfold σC at e2
  by_cases hi:i<nl
  .rw[List.getElem?_append_left (by simpa using hi),List.getElem?_replicate] at e2
   split at e2<;>cases e2
  .rw[List.getElem?_append_right (by simpa using hi),List.length_replicate,List.getElem?_map] at e2
   cases q1:ks[i-nl]? with
   | none=>rw[q1] at e2; cases e2
   | some k=>
    rw[q1] at e2
    have q2:(σ[k]?).join=some v:=Option.some.inj e2
    have q3:σ[k]?=some (some v):=by
     cases q:σ[k]? with
     | none=>rw[q] at q2; cases q2
     | some o=>rw[q] at q2; cases o with
      | none=>cases q2
      | some z=>cases q2; rfl
    obtain⟨x',hx1,hx2,hx3,hx4⟩:=ok.fr (i-nl) k q1
    have:x'=x:=by
     rw[show nl+(i-nl)=i by omega,e1'] at hx2
     exact(Option.some.inj hx2).symm
    subst this
    subst hsc
    obtain⟨m,hn,hl⟩:=I.loc
    have vis:Vis X.env.scope x':=by rcases cof_or hx3 with z | z; exact .inr (.inl z); exact .inr (.inr z)
    obtain⟨u,ru,lk⟩:=hl k x' v (by rw[hN]; exact hx1) q3 vis
    refine⟨u,ru,?_⟩
    rcases lk with ⟨z,_⟩ | ⟨_,c,hc,ic⟩
    .rcases cof_or hx3 with y | y<;>(rw[show X.env.kindOf x'=X.env.scope.names.lookup x' from rfl,y] at z; cases z)
    .refine .inr ⟨cof_or hx4,?_⟩
     obtain⟨y,hy,rfl,hyf⟩:=relS_mem ok.ncell hx4
     obtain⟨c',hc'⟩:=hall y hy hyf
     have:=hcs _ _ hc'
     rw[hc] at this
     cases this
     obtain⟨o,ho,hd⟩:=ic
     exact⟨c,hc',o,old _ _ ho,hd⟩
 .obtain⟨v,o,ho,hd⟩:=I.cell x c (hcs x c e)
  exact⟨v,o,old _ _ ho,hd⟩
 .show(upd H s.heap.objs.size (.lst [])) (s.heap.objs.size+1)=none
  rw[upd_ne (Nat.succ_ne_self _)]
  exact I.hok.fresh (Nat.le_succ _)
 .obtain⟨v,o,ho,hd⟩:=I.cell x c (hcs x c e)
  rw[upd_ne (ltD ho)]
  exact I.freeC x c (hcs x c e)
 .show(σC nl ks σ).length=N'.length
  unfold σC
  rw[ok.len]
  simp
theorem comp_core{elt tg iter:Expr}{ifs:List Expr}{scope sc:Scope}{pos:Pos}{N N':List Str}{nl:Nat}{ks:List Nat}{cs:List (Str×Addr)}{J:It}{it:Addr}{fp:List Addr}{tn:Nat→Heap→Prop}{g:MG}{t:MT}{m:ME}{src:Src}{k0:Nat}
  {H2:Hp} {s2:Shared} {μ:List Addr} {h h':MH} {ρ:En} {RR:Value→Addr→Result→Shared→Prop} {E:Value→Shared→Prop}
  (hc:X.calm=true) (hsc:X.env.scope=sc) (hN:X.N=N) (ok:CompOk sc N scope N' nl ks)
  (hg:∀cs C s₀ H₀ ex,SG (cxC X scope cs C N' s₀ H₀ ex) cl tg g) (ht:∀cs C s₀ H₀ ex,STs (cxC X scope cs C N' s₀ H₀ ex) cl ifs t) (he:∀cs C s₀ H₀ ex,SE (cxC X scope cs C N' s₀ H₀ ex) cl elt m)
  (I2:Inv X pins σ H2 s2) (T:Turn X.prog X.w X.K tg J fp it tn) (st2:tn 0 s2.heap) (f2:∀b∈fp,FpOk X pins H2 b)
  (hcs:∀x c,cs.lookup x=some c→X.env.cells.lookup x=some c) (hall:∀y∈scope.names,y.2=.free→∃c,cs.lookup y.1=some c)
  (R2:HR X.K cl μ H2 h) (er:ER X.K μ H2 ρ σ) (j:JR X.K cl J src μ H2) (e:compN src nl g t m h.length k0 0 (ρC nl ks ρ) (h++[.lst []])=some h')
  (hRR:∀D C s' H' μ' m',D≠C→s'.heap.Ns C m'→Inv X pins σ H' s'→H' C=none→s2.heap.objs.size≤C→Ext μ H2 μ' H'→HR X.K cl μ' H' h'→μ'[h.length]?=some D→RR (.ref D) C (.ok .next) s') :
  wpAny (model X.prog X.w) X.A (newList []) (fun acc s₃=>wpAny (model X.prog X.w) X.A (newFunctionEnv scope X.env.globals cs [] X.env.qual none .none (some X.env)) (fun cenv s₄=>
   codeAny (model X.prog X.w) X.A (.compStart (.ListComp elt [⟨tg,iter,ifs,0⟩] scope pos) 0 (.ref it) acc { cenv with scope:=relabel scope X.env }) (RR acc cenv.locals) s₄) E s₃) E s2:=by
 refine wpAny_newObj_type (wpAny_newFunctionEnv ok.ncell (by intro y hy; simp at hy) (fun h₁ hns₁ hsb₁=>?_) ok.kind)
 dsimp only at hns₁ hsb₁ ⊢
 generalize hP:s2.heap.push { cls:=.type "list",dict:=none,data:=.seq ([]:List Value).toArray }=P at hns₁ hsb₁ ⊢
 have hC:P.objs.size=s2.heap.objs.size+1:=by rw[←hP,Heap.size_push]
 rw[hC] at hns₁ hsb₁ ⊢
 have old:∀b o,s2.heap.get? b=some o→h₁.get? b=some o:=fun b o e=>hsb₁.extBut b o (Nat.ne_of_lt (Nat.lt_succ_of_lt (Heap.lt_size e))) (Heap.get?_push_of_some _ (hP▸Heap.get?_push_of_some _ e))
 have hD:h₁.get? s2.heap.objs.size=some { cls:=.type "list",data:=.seq ([]:List Value).toArray }:=hsb₁.extBut _ _ (Nat.ne_of_lt (Nat.lt_succ_self _)) (Heap.get?_push_of_some _ (hP▸Heap.get?_push_size _ rfl))
 have hob:∀b∈fp,b<s2.heap.objs.size:=fun b hb=>by
  obtain⟨o,ho,_⟩:=T.obj 0 _ st2 b hb
  exact Heap.lt_size ho
 have fr2:H2 s2.heap.objs.size=none:=I2.hok.fresh (Nat.le_refl _)
 have I3:=inv_block (X:=X) (tk:=s2.toks+([]:List (Str×Value)).length) I2 hsc hN ok hcs hall f2 hob hns₁ old hD
 have st3:tn 0 h₁:=T.keep 0 _ _ st2 fun b _ o e=>old b o e
 have fr3:∀b∈fp,(upd H2 s2.heap.objs.size (.lst [])) b=none:=fun b hb=>by
  rw[upd_ne (Nat.ne_of_lt (hob b hb))]
  exact(f2 b hb).1
 have fpk:∀{H:Hp},(∀b∈fp,H b=none)→∀b∈fp,FpOk (cxC X scope cs (s2.heap.objs.size+1) N' s2 H2 fp) [] H b:=fun hn b hb=>by
  obtain⟨g0,g1,g2,g3,g4,g5⟩:=f2 b hb
  refine⟨hn b hb,Nat.ne_of_lt (Nat.lt_succ_of_lt (hob b hb)),fun z=>?_,.inl hb,fun x c e=>g4 x c (hcs x c e),fun p hp=>absurd (show p∈([]:List (Addr×Obj)) from hp) (by simp)⟩
  rcases List.mem_cons.mp (I2.stkSub b z) with q | q
  .exact g1 q
  .exact g2 q
 have loop:∀s:Shared,s={ s2 with heap:=h₁,toks:=s2.toks+([]:List (Str×Value)).length }→
   codeAny (model X.prog X.w) X.A (.compLoop (.ListComp elt [⟨tg,iter,ifs,0⟩] scope pos) 0 (.ref it) (.ref s2.heap.objs.size) (compEnvC scope cs (s2.heap.objs.size+1) X.env)) (RR (.ref s2.heap.objs.size) (s2.heap.objs.size+1)) s:=by
  rintro s rfl
  refine compLoop_gen (fun n s=>∃i σ' H ρ' μ' hh,Inv (cxC X scope cs (s2.heap.objs.size+1) N' s2 H2 fp) [] σ' H s∧tn i s.heap∧(∀b∈fp,H b=none)∧HR X.K cl μ' H hh∧ER X.K μ' H ρ' σ'∧Ext μ H2 μ' H∧nl≤ρ'.length∧μ'[h.length]?=some s2.heap.objs.size ∧
   compN src nl g t m h.length n i ρ' hh=some h') ?_ k0 ?_
  .rintro n s ⟨i,σ',H,ρ',μ',hh,I,st,fr,R,er',E',hl,hm,e⟩
   cases n with
   | zero=>cases e
   | succ n=>
    unfold compN at e
    obtain⟨jg,js⟩:=j μ' H hh E' R i
    cases es:srcAt src i hh with
    | none=>rw[es] at e; cases e
    | some o=>
     rw[es] at e
     cases o with
     | none=>
      cases e
      refine thn (T.done (cxC X scope cs (s2.heap.objs.size+1) N' s2 H2 fp) rfl rfl rfl hc i [] s σ' H _ I (fpk fr) st (js es)) fun r s1 ⟨hr,I1⟩=>?_
      subst hr
      obtain⟨m1,hn1,_⟩:=I1.loc
      refine hRR _ _ s1 H μ' m1 (Nat.ne_of_lt (Nat.lt_succ_self _)) hn1 ?_ I1.free (Nat.le_succ _) E' R hm
      exact I2.call' I1.os I1.base I1.hok I1.bare fun b hb=>⟨(f2 b hb).2.2.2.1,(f2 b hb).2.1,(f2 b hb).2.2.2.2.1,(f2 b hb).2.2.2.2.2⟩
     | some w=>
      obtain⟨go,yl⟩:=jg w es
      simp only at e
      cases e1:g w ρ' hh with
      | none=>rw[e1] at e; cases e
      | some p=>
       obtain⟨ρ1,h1⟩:=p
       rw[e1] at e
       simp only at e
       refine thn (T.item (cxC X scope cs (s2.heap.objs.size+1) N' s2 H2 fp) rfl rfl rfl hc i [] s σ' H _ I (fpk fr) st go) fun r s1 ⟨u,hr,q1⟩=>?_
       subst hr
       refine thn q1 fun _ s5 ⟨x,H5,I5,r5,y5,st5,fr5⟩=>?_
       obtain⟨E5,R5,rx⟩:=yl x H5 y5
       have I5':=I5.pinned (fpk fr5) (T.obj _ _ st5)
       refine thn (hg cs _ s2 H2 fp _ s5 σ' H5 x u (fun σ6 H6=>∃μ6,Ext μ' H5 μ6 H6∧HR X.K cl μ6 H6 h1∧ER X.K μ6 H6 ρ1 σ6) I5' r5 ⟨μ',hh,ρ',w,ρ1,h1,R5,er'.ext R E5,rx,e1,fun μ6 H6 σ6 E6 R6 er6=>⟨μ6,E6,R6,er6⟩⟩) fun _ s6 ⟨σ6,H6,I6,μ6,E6,R6,er6⟩=>?_
       have hl6:nl≤ρ1.length:=by
        rw[er6.len,I6.len]
        show nl≤N'.length
        rw[ok.len]; omega
       have E06:Ext μ H2 μ6 H6:=E'.trans (E5.trans E6)
       have fin:∀{s9:Shared} {H9:Hp} {μ9:List Addr} {h9:MH},Inv (cxC X scope cs (s2.heap.objs.size+1) N' s2 H2 fp) ([]++pinsAt fp s5.heap) σ6 H9 s9→Ext μ6 H6 μ9 H9→HR X.K cl μ9 H9 h9→compN src nl g t m h.length n (i+1) (ML.blank nl ρ1) h9=some h'→
         ∃k,k<n+1∧∃i σ' H ρ' μ' hh,Inv (cxC X scope cs (s2.heap.objs.size+1) N' s2 H2 fp) [] σ' H s9∧tn i s9.heap∧(∀b∈fp,H b=none)∧HR X.K cl μ' H hh∧ER X.K μ' H ρ' σ'∧Ext μ H2 μ' H∧nl≤ρ'.length∧μ'[h.length]?=some s2.heap.objs.size∧compN src nl g t m h.length k i ρ' hh=some h':=by
        intro s9 H9 μ9 h9 I9 E9 R9 e9
        refine⟨n,Nat.lt_succ_self n,i+1,σ6,H9,ML.blank nl ρ1,μ9,h9,I9.unpinned,T.keep _ _ _ st5 fun b hb o e=>(I9.pin (b,o) (List.mem_append_right _ (List.mem_append_right _ (mem_pinsAt hb e)))).1,fun b hb=>?_,R9,(er6.ext R6 E9).blank hl6,E06.trans E9,?_,E9.get (E6.get (E5.get hm)),e9⟩
        .obtain⟨o,e,d⟩:=T.obj _ _ st5 b hb
         exact(I9.pin (b,o) (List.mem_append_right _ (List.mem_append_right _ (mem_pinsAt hb e)))).2.1
        .unfold ML.blank; simp
       cases e2:t ρ1 h1 with
       | none=>rw[e2] at e; cases e
       | some p2=>
        obtain⟨bb,h2⟩:=p2
        rw[e2] at e
        refine thn (ht cs _ s2 H2 fp _ s6 σ6 H6 (fun b' H7=>b'=bb∧∃μ7,Ext μ6 H6 μ7 H7∧HR X.K cl μ7 H7 h2) I6 ⟨μ6,h1,ρ1,bb,h2,R6,er6,e2,fun μ7 H7 E7 R7=>⟨rfl,μ7,E7,R7⟩⟩) fun b' s7 ⟨H7,I7,hb',μ7,E7,R7⟩=>?_
        subst hb'
        cases b' with
        | false=>
         rw[if_neg Bool.false_ne_true]
         exact fin I7 E7 R7 e
        | true=>
         rw[if_pos rfl]
         simp only at e
         cases e3:m ρ1 h2 with
         | none=>rw[e3] at e; cases e
         | some p3=>
          obtain⟨y,h3⟩:=p3
          rw[e3] at e
          simp only at e
          refine thn (he cs _ s2 H2 fp _ s7 σ6 H7 (fun v H8=>∃μ8,Ext μ7 H7 μ8 H8∧HR X.K cl μ8 H8 h3∧RW X.K μ8 H8 y v) I7 ⟨μ7,h2,ρ1,y,h3,R7,er6.ext R6 E7,e3,fun μ8 H8 v E8 R8 r8=>⟨μ8,E8,R8,r8⟩⟩) fun xv s8 ⟨v,H8,I8,rv,μ8,E8,R8,r8⟩=>?_
          split at e
          .rename_i acc ho
           split at e
           .rename_i hlt
            have hm8:μ8[h.length]?=some s2.heap.objs.size:=E8.get (E7.get (E6.get (E5.get hm)))
            obtain⟨vs,hv,ra⟩:=R8.ob _ _ _ hm8 ho
            refine thn (mt_append (X:=cxC X scope cs (s2.heap.objs.size+1) N' s2 H2 fp) _ s8 σ6 H8 (.ref s2.heap.objs.size) [v] (.ref s2.heap.objs.size) [xv] (fun _ H9=>H9=upd H8 s2.heap.objs.size (.lst (vs++[v]))) I8 rfl (.cons rv .nil) ⟨_,vs,v,rfl,rfl,hv,Nat.lt_of_lt_of_le (by rw[←ra.length]; exact hlt) cap_le,rfl⟩) fun _ s9 ⟨_,H9,I9,_,hH9⟩=>?_
            subst hH9
            exact fin I9 (E7.trans (E8.trans (.put hm8))) (R8.put (o:=.lst (acc++[y])) hm8 ⟨vs++[v],upd_same,(ra.append (.cons r8 .nil)).ext R8 (.put hm8)⟩) e
           .cases e
          .cases e
  .have R3:HR X.K cl (μ++[s2.heap.objs.size]) (upd H2 s2.heap.objs.size (.lst [])) (h++[.lst []]):=R2.new fr2 ⟨[],upd_same,.nil⟩
   exact⟨0,σC nl ks σ,_,ρC nl ks ρ,_,_,I3,st3,fr3,R3,(erC er).ext R2 (.new fr2),.new fr2,by unfold ρC; simp,by rw[←R2.len]; simp,e⟩
 exact codeAny_compStart_list (loop _ rfl) (T.self _ 0 _ _ _ st3 (loop _ rfl))
theorem comp_any{elt tg iter:Expr}{ifs:List Expr}{scope sc:Scope}{pos:Pos}{N N':List Str}{nl:Nat}{ks:List Nat}{mi:MI}{g:MG}{t:MT}{m:ME}{H:Hp}{s:Shared}{μ:List Addr}{h h1 h2:MH}{n0:Nat}{ρ:En}{use:Option (Value→Sem Unit)}{Q:Value→Shared→Prop}{p2:Pos}
  (hc:X.calm=true) (hsc:X.env.scope=sc) (hN:X.N=N) (ok:CompOk sc N scope N' nl ks) (hi:SI X cl tg iter mi)
  (hg:∀cs C s₀ H₀ ex,SG (cxC X scope cs C N' s₀ H₀ ex) cl tg g) (ht:∀cs C s₀ H₀ ex,STs (cxC X scope cs C N' s₀ H₀ ex) cl ifs t) (he:∀cs C s₀ H₀ ex,SE (cxC X scope cs C N' s₀ H₀ ex) cl elt m)
  (I:Inv X pins σ H s) (R:HR X.K cl μ H h) (er:ER X.K μ H ρ σ) (e:compR mi nl ks g t m ρ h=some (n0,h1,h2)) (hs:∀x,foldedSetIterable iter X.env x=pure x)
  (k:∀D C s' H' μ' m' s2 H1 μ1,D≠C→s'.heap.Ns C m'→Inv X pins σ H' s'→H' C=none→X.env.locals≠C→(∀x c,X.env.cells.lookup x=some c→c≠C)→(X.s₀.heap.objs.size≤C)→(∀p∈X.pn++pins,p.1≠C)→Inv X pins σ H1 s2→Ext μ H μ1 H1→HR X.K cl μ1 H1 h1→Ext μ1 H1 μ' H'→HR X.K cl μ' H' h2→h1.length=n0→μ'[n0]?=some D→
   compPost (model X.prog X.w) X.A X.xe use Q (.ref D) C (.ok .next) s') :
  wpAny (model X.prog X.w) X.A (comprehension (.ListComp elt [⟨tg,iter,ifs,0⟩] scope pos) scope X.env p2 (newList []) false (eval iter X.env) use) Q X.xe s:=by
 subst hsc
 have hcell:∀y∈scope.names,y.2=.free→∃c,X.env.cells.lookup y.1=some c:=fun y hy e=>I.ok.has y.1 (cof_or (ok.fall y hy e))
 obtain⟨cs,hclos,hcs,hall⟩:=closureFor_of hcell
 have key:∀{src:Src} {k0:Nat},mi ρ h=some (src,h1)→compN src nl g t m h1.length k0 0 (ρC nl ks ρ) (h1++[.lst []])=some h2→n0=h1.length→
   wpAny (model X.prog X.w) X.A (comprehension (.ListComp elt [⟨tg,iter,ifs,0⟩] scope pos) scope X.env p2 (newList []) false (eval iter X.env) use) Q X.xe s:=by
  intro src k0 e1 e2 hn0
  subst hn0
  refine wpAny_comprehension_free (use:=use) rfl hs hclos ok.kind ok.names ?_
  refine thn (hi pins s σ H (fun J H1=>∃μ1,Ext μ H μ1 H1∧HR X.K cl μ1 H1 h1∧JR X.K cl J src μ1 H1) I ⟨μ,h,ρ,src,h1,R,er,e1,fun μ1 H1 J E1 R1 j=>⟨μ1,E1,R1,j⟩⟩) fun v s1 q1=>thn q1 fun itv s2 q2=>?_
  obtain⟨it,fp,tn,J,H2,rfl,I2,T,st2,f2,μ2,E2,R2,j⟩:=q2
  refine comp_core (RR:=fun acc C=>compPost (model X.prog X.w) X.A X.xe use Q acc C) hc rfl hN ok hg ht he I2 T st2 f2 hcs hall R2 (er.ext R E2) j e2 ?_
  intro D C s' H' μ' m' hDC hns I' hfC hC E' R' hm
  refine k D C s' H' μ' m' s2 H2 μ2 hDC hns I' hfC (Nat.ne_of_lt (Nat.lt_of_lt_of_le I2.lt hC)) (fun x c e z=>?_) (Nat.le_trans I2.sz hC) (fun p hp z=>?_) I2 E2 R2 E' R' rfl hm
  .obtain⟨v,o,ho,_⟩:=I2.cell x c e
   exact absurd (Nat.lt_of_lt_of_le (Heap.lt_size ho) (z▸hC)) (Nat.lt_irrefl _)
  .exact absurd (Nat.lt_of_lt_of_le (Heap.lt_size (I2.pin p hp).1) (z▸hC)) (Nat.lt_irrefl _)
 unfold compR at e
 split at e
 .cases e
 .rename_i l h1' e1
  split at e
  .rename_i h2' e2
   cases e
   have q:=compN_items (nl:=nl) (g:=g) (t:=t) (m:=m) (n0:=h1.length) l (l.length+1) 0 (ρC nl ks ρ) (h1++[.lst []]) (by omega) (by omega)
   rw[List.drop_zero] at q
   exact key e1 (q.trans e2) rfl
  .cases e
 .rename_i n h1' e1
  split at e
  .rename_i h2' e2
   cases e
   exact key e1 e2 rfl
  .cases e
theorem se_compM(sc:Scope)(N N':List Str)(nl:Nat)(ks:List Nat){elt tg iter:Expr}{ifs:List Expr}{scope:Scope}{pos:Pos}{mi:MI}{g:MG}{t:MT}{m:ME}(hc:X.calm=true)(ok:compOkB sc N scope N' nl ks=true)(hi:SI X cl tg iter mi)
  (hg:∀cs C s₀ H₀ ex,SG (cxC X scope cs C N' s₀ H₀ ex) cl tg g) (ht:∀cs C s₀ H₀ ex,STs (cxC X scope cs C N' s₀ H₀ ex) cl ifs t) (he:∀cs C s₀ H₀ ex,SE (cxC X scope cs C N' s₀ H₀ ex) cl elt m)
  (hsc:X.env.scope=sc:=by rfl) (hN:X.N=N:=by rfl) (hs:∀x,foldedSetIterable iter X.env x=pure x:=by intro _; rfl):SE X cl (.ListComp elt [⟨tg,iter,ifs,0⟩] scope pos) (eCompM mi nl ks g t m):=by
 rintro pins s σ H Q I ⟨μ,h,ρ,w,h',R,er,e,k⟩
 unfold eCompM at e
 split at e
 .rename_i n0 h1 h2 e1
  cases e
  rw[eval_ListComp]
  refine comp_any (use:=none) hc hsc hN (compOk_of ok) hi hg ht he I R er e1 hs fun D C s' H' μ' m' s2 H1 μ1 hDC hns I' hfC hL hcl hs0 hpn I2 E1 R1 E' R' hn hm=>?_
  exact⟨m',hns,fun h'' hsb=>⟨.ref D,H',I'.turned (t':=s'.toks) (fun b o hb e=>(hsb.2 b hb).trans e) hfC (Ne.symm hL) (.inr hs0) hcl hpn,rfl,k μ' H' _ (E1.trans E') R' (.ref hm)⟩⟩
 .cases e
theorem comp_value{K:PySem.W.Frag}{μ μ1 μ':List Addr}{H H1 H':Hp}{h1 h2:MH}{n0:Nat}{l:List W}{D:Addr}{Q:VK}(k:KQ K cl μ H h1 (.fls l) Q)(E1:Ext μ H μ1 H1)(R1:HR K cl μ1 H1 h1)(E':Ext μ1 H1 μ' H')(R':HR K cl μ' H' h2)(hn:h1.length=n0)(hm:μ'[n0]?=some D)
  (ho:h2[n0]?=some (.lst l)) (pre:h1<+:h2) (lo:lows h1.length l=true):Q (.ref D) H':=by
 obtain⟨vs,hv,rv⟩:=R'.ob _ _ _ hm ho
 have cut:Ext μ1 H1 μ1 H':=⟨List.prefix_refl _,fun b o e n=>⟨(E'.fr b o e n).1,n⟩⟩
 refine k μ1 H' _ (E1.trans cut) (R1.cut E' R' pre) (.fls (.inl ⟨.inl hv,fun z=>?_⟩) (RWs.cut E'.pre (by rw[R1.len]; exact lo) rv))
 obtain⟨q,hq⟩:=List.mem_iff_getElem?.mp z
 have h3:=E'.get hq
 have hlt:q<μ1.length:=(List.getElem?_eq_some_iff.mp hq).1
 obtain⟨z1,z2⟩:=List.getElem?_eq_some_iff.mp h3
 obtain⟨z3,z4⟩:=List.getElem?_eq_some_iff.mp hm
 have:q=n0:=(List.getElem_inj R'.nd).mp (z2.trans z4.symm)
 subst this
 rw[R1.len] at hlt
 omega
theorem se_comp(sc:Scope)(N N':List Str)(nl:Nat)(ks:List Nat){elt tg iter:Expr}{ifs:List Expr}{scope:Scope}{pos:Pos}{mi:MI}{g:MG}{t:MT}{m:ME}(hc:X.calm=true)(ok:compOkB sc N scope N' nl ks=true)(hi:SI X cl tg iter mi)
  (hg:∀cs C s₀ H₀ ex,SG (cxC X scope cs C N' s₀ H₀ ex) cl tg g) (ht:∀cs C s₀ H₀ ex,STs (cxC X scope cs C N' s₀ H₀ ex) cl ifs t) (he:∀cs C s₀ H₀ ex,SE (cxC X scope cs C N' s₀ H₀ ex) cl elt m)
  (hsc:X.env.scope=sc:=by rfl) (hN:X.N=N:=by rfl) (hs:∀x,foldedSetIterable iter X.env x=pure x:=by intro _; rfl):SE X cl (.ListComp elt [⟨tg,iter,ifs,0⟩] scope pos) (eComp mi nl ks g t m):=by
 rintro pins s σ H Q I ⟨μ,h,ρ,w,h',R,er,e,k⟩
 unfold eComp at e
 split at e
 .rename_i n0 h1 h2 e1
  split at e
  .rename_i l ho
   split at e
   .rename_i c
    cases e
    rw[eval_ListComp]
    refine comp_any (use:=none) hc hsc hN (compOk_of ok) hi hg ht he I R er e1 hs fun D C s' H' μ' m' s2 H1 μ1 hDC hns I' hfC hL hcl hs0 hpn I2 E1 R1 E' R' hn hm=>?_
    exact⟨m',hns,fun h'' hsb=>⟨.ref D,H',I'.turned (t':=s'.toks) (fun b o hb e=>(hsb.2 b hb).trans e) hfC (Ne.symm hL) (.inr hs0) hcl hpn,rfl,comp_value k E1 R1 E' R' hn hm ho c.1 c.2⟩⟩
   .cases e
  .cases e
 .cases e
theorem comp_store{elt tg iter:Expr}{ifs:List Expr}{scope sc:Scope}{pos spos:Pos}{N N':List Str}{nl:Nat}{ks:List Nat}{mi:MI}{g:MG}{t:MT}{m:ME}{H:Hp}{s:Shared}{μ:List Addr}{h h1 h2:MH}{n0:Nat}{ρ:En}{i:Nat}{x:Str}{px:Pos}{D:Ends}
  (hNd:X.N.Nodup) (hix:X.N[i]?=some x) (hx:X.env.kindOf x=some .local) (hsw:swapsWith (.ListComp elt [⟨tg,iter,ifs,0⟩] scope pos) (some (.Name x px)) spos.line X.env=pure true)
  (hc:X.calm=true) (hsc:X.env.scope=sc) (hN:X.N=N) (ok:CompOk sc N scope N' nl ks) (hi:SI X cl tg iter mi)
  (hg:∀cs C s₀ H₀ ex,SG (cxC X scope cs C N' s₀ H₀ ex) cl tg g) (ht:∀cs C s₀ H₀ ex,STs (cxC X scope cs C N' s₀ H₀ ex) cl ifs t) (he:∀cs C s₀ H₀ ex,SE (cxC X scope cs C N' s₀ H₀ ex) cl elt m)
  (I:Inv X pins σ H s) (R:HR X.K cl μ H h) (er:ER X.K μ H ρ σ) (e:compR mi nl ks g t m ρ h=some (n0,h1,h2)) (hs:∀x,foldedSetIterable iter X.env x=pure x)
  (k:∀A H' μ' H1 μ1,Ext μ H μ1 H1→HR X.K cl μ1 H1 h1→Ext μ1 H1 μ' H'→HR X.K cl μ' H' h2→h1.length=n0→μ'[n0]?=some A→D.nx (σ.set i (some (.ref A))) H') :
  wpAny (model X.prog X.w) X.A (exec (.Assign [.Name x px] (.ListComp elt [⟨tg,iter,ifs,0⟩] scope pos) spos) X.env) (SP X pins D) X.xe s:=by
 rw[exec_Assign_Name_used _ _ _ _ hsw]
 refine wpAny_bind (wpAny_standAt (wpAny_bind ?_))
 show wpAny _ X.A (do let _ ←comprehension (.ListComp elt [⟨tg,iter,ifs,0⟩] scope pos) scope X.env _ (newList []) false (eval iter X.env) (some (assign (.Name x px) X.env))) _ _ s
 refine wpAny_bind (wpAny_mono (comp_any (use:=some (assign (.Name x px) X.env)) (Q:=fun _ s'=>SP X pins D .next s') hc hsc hN ok hi hg ht he I R er e hs ?_) (fun _ s' hq=>wpAny_pure (wpAny_pure hq)) fun _ _ e=>e)
 intro A C s' H' μ' m' s2 H1 μ1 hDC hns I' hfC hL hcl hs0 hpn I2 E1 R1 E' R' hn hm
 show wpAny _ X.A (assign (.Name x px) X.env (.ref A)) _ _ _
 refine wpAny_assign_Name (store_ok2 (v:=.ref A) I' hNd hix (.inl hx) rfl (fun s'' I'' hsb=>?_) (.inr hx))
 obtain⟨a,sb,ha⟩:=hsb
 have hCa:C≠a:=by
  rcases ha with rfl | ha
  .exact Ne.symm hL
  .exact fun z=>hcl x a ha z.symm
 refine⟨m',hns.sameBut sb hCa,fun h3 sb3=>⟨_,H',I''.turned (t':=s''.toks) (fun b o hb e=>(sb3.2 b hb).trans e) hfC (Ne.symm hL) (.inr hs0) hcl hpn,k A H' μ' H1 μ1 E1 R1 E' R' hn hm⟩⟩
theorem ss_compM(i:Nat)(sc:Scope)(N N':List Str)(nl:Nat)(ks:List Nat){elt tg iter:Expr}{ifs:List Expr}{scope:Scope}{pos spos px:Pos}{x:Str}{mi:MI}{g:MG}{t:MT}{m:ME}(hNd:X.N.Nodup)(hc:X.calm=true)(ok:compOkB sc N scope N' nl ks=true)(hi:SI X cl tg iter mi)
  (hg:∀cs C s₀ H₀ ex,SG (cxC X scope cs C N' s₀ H₀ ex) cl tg g) (ht:∀cs C s₀ H₀ ex,STs (cxC X scope cs C N' s₀ H₀ ex) cl ifs t) (he:∀cs C s₀ H₀ ex,SE (cxC X scope cs C N' s₀ H₀ ex) cl elt m)
  (hsc:X.env.scope=sc:=by rfl) (hN:X.N=N:=by rfl) (hs:∀x,foldedSetIterable iter X.env x=pure x:=by intro _; rfl) (hix:X.N[i]?=some x:=by rfl) (hx:X.env.kindOf x=some .local:=by rfl)
  (hsw:swapsWith (.ListComp elt [⟨tg,iter,ifs,0⟩] scope pos) (some (.Name x px)) spos.line X.env=pure true:=by rfl):SS X cl (.Assign [.Name x px] (.ListComp elt [⟨tg,iter,ifs,0⟩] scope pos) spos) (sAsg (eCompM mi nl ks g t m) (gNm i)):=by
 rintro pins s σ H D I ⟨μ,h,ρ,fl,h',R,er,e,k⟩
 unfold sAsg at e
 split at e
 .rename_i w h2 e1
  split at e
  .rename_i ρ2 h3 e2
   cases e
   unfold eCompM at e1
   split at e1
   .rename_i n0 h1 h2' e0
    cases e1
    unfold gNm at e2
    split at e2
    .rename_i hi'
     cases e2
     exact comp_store hNd hix hx hsw hc hsc hN (compOk_of ok) hi hg ht he I R er e0 hs fun A H' μ' H1 μ1 E1 R1 E' R' hn hm=>k μ' H' (E1.trans E') R' _ ((er.ext R (E1.trans E')).set hi' (.ref hm))
    .cases e2
   .cases e1
  .cases e
 .cases e
theorem ss_comp(i:Nat)(sc:Scope)(N N':List Str)(nl:Nat)(ks:List Nat){elt tg iter:Expr}{ifs:List Expr}{scope:Scope}{pos spos px:Pos}{x:Str}{mi:MI}{g:MG}{t:MT}{m:ME}(hNd:X.N.Nodup)(hc:X.calm=true)(ok:compOkB sc N scope N' nl ks=true)(hi:SI X cl tg iter mi)
  (hg:∀cs C s₀ H₀ ex,SG (cxC X scope cs C N' s₀ H₀ ex) cl tg g) (ht:∀cs C s₀ H₀ ex,STs (cxC X scope cs C N' s₀ H₀ ex) cl ifs t) (he:∀cs C s₀ H₀ ex,SE (cxC X scope cs C N' s₀ H₀ ex) cl elt m)
  (hsc:X.env.scope=sc:=by rfl) (hN:X.N=N:=by rfl) (hs:∀x,foldedSetIterable iter X.env x=pure x:=by intro _; rfl) (hix:X.N[i]?=some x:=by rfl) (hx:X.env.kindOf x=some .local:=by rfl)
  (hsw:swapsWith (.ListComp elt [⟨tg,iter,ifs,0⟩] scope pos) (some (.Name x px)) spos.line X.env=pure true:=by rfl):SS X cl (.Assign [.Name x px] (.ListComp elt [⟨tg,iter,ifs,0⟩] scope pos) spos) (sAsg (eComp mi nl ks g t m) (gNm i)):=by
 rintro pins s σ H D I ⟨μ,h,ρ,fl,h',R,er,e,k⟩
 unfold sAsg at e
 split at e
 .rename_i w h2 e1
  split at e
  .rename_i ρ2 h3 e2
   cases e
   unfold eComp at e1
   split at e1
   .rename_i n0 h1 h2' e0
    split at e1
    .rename_i l ho
     split at e1
     .rename_i c
      cases e1
      unfold gNm at e2
      split at e2
      .rename_i hi'
       cases e2
       refine comp_store hNd hix hx hsw hc hsc hN (compOk_of ok) hi hg ht he I R er e0 hs fun A H' μ' H1 μ1 E1 R1 E' R' hn hm=>?_
       exact comp_value (Q:=fun v H'=>D.nx (σ.set i (some v)) H') (fun μ3 H3 v E3 R3 r3=>k μ3 H3 E3 R3 _ ((er.ext R E3).set hi' r3)) E1 R1 E' R' hn hm ho c.1 c.2
      .cases e2
     .cases e1
    .cases e1
   .cases e1
  .cases e
 .cases e
end
theorem inv_turned{X:Cx}{pins:List (Addr×Obj)}{σ:L2.St}{H:Hp}{s:Shared}{h':Heap}{t':Nat}{fp:List Addr}(I:Inv X pins σ H s)(k:∀b o,b∉fp→s.heap.get? b=some o→h'.get? b=some o)(hf:∀b∈fp,FpOk X pins H b) :
  Inv X pins σ H { s with heap:=h',toks:=t' }:=by
 have away:∀b u,H b=some u→b∉fp:=fun b u e z=>by rw[(hf b z).1] at e; cases e
 refine I.step (g':=s.gens) (d':=s.drawn) (ch:=fp) (fun b hb=>⟨(hf b hb).2.2.2.1,(hf b hb).2.1,(hf b hb).2.2.2.2.1,(hf b hb).2.2.2.2.2⟩) (fun b o _ _ hc e _=>k b o hc e) (fun b o _ _ hc e _=>⟨o.slots,k b o hc e⟩) (fun _ _ _ _ n=>n)
  (fun b o hc e=>⟨o,k b o hc e⟩) (fun _ _ e=>e) (fun _ _ _ e=>e) (fun b ps e=>⟨#[],by rw[e]; simp⟩) (fun m hm=>?_) (fun b u e=>?_) I.bare
 .obtain⟨o,es,ep,ho,r⟩:=hm
  exact⟨o,es,ep,k _ o (fun z=>(hf _ z).2.1 rfl) ho,r⟩
 .refine(I.hok b u e).stay (fun c v hc q=>k c v ?_ q) (fun _ q=>q) fun _ _ q=>q
  rcases hc with z | z
  .rw[z]; exact away b u e
  .exact away c _ z
structure Stp(it a:Addr)(P:Nat→Heap→Prop)(C:Heap→List Value→Prop):Prop where
 keep:∀{i:Nat} {h h':Heap},P i h→(∀o,h.get? it=some o→h'.get? it=some o)→P i h'
 keepC:∀{h h':Heap} {l:List Value},C h l→(∀o,h.get? a=some o→h'.get? a=some o)→C h' l
 obj:∀{i:Nat} {h:Heap},P i h→∃o,h.get? it=some o∧∀v,o.data≠.cell v
 item:∀{prog:Program} {w:World} {A:Around} {E:Value→Shared→Prop} {s:Shared} {i:Nat} {l:List Value} {x:Value} {Q:Value→Shared→Prop},P i s.heap→C s.heap l→l[i]?=some x→
  (∀h',P (i+1) h'→Heap.SameBut it s.heap h'→Q x { s with heap:=h' })→wpAny (model prog w) A (Builtin.SmallTypes.nextOf (.ref it)) Q E s
 last:∀{prog:Program} {w:World} {A:Around} {E:Value→Shared→Prop} {s:Shared} {i:Nat} {l:List Value} {Q:Value→Shared→Prop},A.handled=none→P i s.heap→C s.heap l→l[i]?=none→
  (∀h' e,Heap.ExtBut it s.heap h'→(∃o,h'.get? e=some o∧o.cls=.type "StopIteration")→E (.ref e) { s with heap:=h' })→wpAny (model prog w) A (Builtin.SmallTypes.nextOf (.ref it)) Q E s
theorem stp_list(it a:Addr):Stp it a (fun i h=>h.IsListIter it a i) (fun h l=>h.IsList a l.toArray) where
 keep:=fun p k=>p.at fun o e=>k o e
 keepC:=fun p k=>p.at fun o e=>k o e
 obj:=fun⟨o,e,_,d⟩=>⟨o,e,fun v z=>by rw[d] at z; cases z⟩
 item:=fun p c e q=>wpAny_nextOf_list_item p c (by simpa using e) q
 last:=fun hh p c e q=>wpAny_nextOf_list_end hh p c (by simpa using e) q
section
variable{prog:Program}{w:World}{A:Around}{E:Value→Shared→Prop}{s:Shared}
theorem nextOf_tuple_item{it t:Addr}{i:Nat}{items:Array Value}{x:Value}{Q:Value→Shared→Prop}(hit:s.heap.IsTupleIter it t i)(ht:s.heap.IsTuple t items)(hx:items[i]?=some x)
  (hQ:∀h',h'.IsTupleIter it t (i+1)→Heap.SameBut it s.heap h'→Q x { s with heap:=h' }):wpAny (model prog w) A (Builtin.SmallTypes.nextOf (.ref it)) Q E s:=by
 obtain⟨oi,gi,ci,di⟩:=id hit; obtain⟨ot,gt,_,nt,dt⟩:=ht; unfold Builtin.SmallTypes.nextOf
 refine wpAny_bind (wpAny_callSpecial?_slot (name:=Str.ofString "__next__") hit.typeIs F.slot_tuple_iterator_next (wpAny_call_entry F.slot_tuple_iterator_next hit.typeIs F.entry_tuple_iterator_next ?_ (F.args_tuple_iterator_next_1 _)))
 show wpAny _ _ (field (.ref it) 0 >>= _) _ _ s; refine wpAny_bind (wpAny_field gi di (x:=.ref t) rfl ?_)
 show wpAny _ _ (if (Value.ref t==Value.none)=true then _ else _) _ _ s; rw[if_neg (show ¬((Value.ref t==Value.none)=true) from Bool.false_ne_true)]
 show wpAny _ _ (field (.ref it) 1 >>= _) _ _ s; refine wpAny_bind (wpAny_field gi di (x:=.int i 0) rfl ?_)
 show wpAny _ _ (seqItems? (.ref t) >>= _) _ _ s; refine wpAny_bind (wpAny_seqItems gt dt ?_)
 simp only[Int.toNat_natCast,hx]; refine wpAny_bind (wpAny_setField gi di (by simp) (wpAny_pure ⟨x,rfl,wpAny_pure (hQ _ ?_ (Heap.SameBut.update ..))⟩))
 exact⟨_,Heap.get?_update_self _ gi (Obj.isFreed_of_fields (Obj.data_mapFields di _)),(Obj.cls_mapFields ..).trans ci,by rw[Obj.data_mapFields di]; simp[rawInt]⟩
theorem nextOf_tuple_end{it t:Addr}{i:Nat}{items:Array Value}{Q:Value→Shared→Prop}(hh:A.handled=none)(hit:s.heap.IsTupleIter it t i)(ht:s.heap.IsTuple t items)(hx:items[i]?=none)
  (hE:∀h' e,Heap.ExtBut it s.heap h'→(∃o,h'.get? e=some o∧o.cls=.type "StopIteration")→E (.ref e) { s with heap:=h' }):wpAny (model prog w) A (Builtin.SmallTypes.nextOf (.ref it)) Q E s:=by
 obtain⟨oi,gi,ci,di⟩:=id hit; obtain⟨ot,gt,_,nt,dt⟩:=ht; unfold Builtin.SmallTypes.nextOf
 refine wpAny_bind (wpAny_callSpecial?_slot (name:=Str.ofString "__next__") hit.typeIs F.slot_tuple_iterator_next (wpAny_call_entry F.slot_tuple_iterator_next hit.typeIs F.entry_tuple_iterator_next ?_ (F.args_tuple_iterator_next_1 _)))
 show wpAny _ _ (field (.ref it) 0 >>= _) _ _ s; refine wpAny_bind (wpAny_field gi di (x:=.ref t) rfl ?_)
 show wpAny _ _ (if (Value.ref t==Value.none)=true then _ else _) _ _ s; rw[if_neg (show ¬((Value.ref t==Value.none)=true) from Bool.false_ne_true)]
 show wpAny _ _ (field (.ref it) 1 >>= _) _ _ s; refine wpAny_bind (wpAny_field gi di (x:=.int i 0) rfl ?_)
 show wpAny _ _ (seqItems? (.ref t) >>= _) _ _ s; refine wpAny_bind (wpAny_seqItems gt dt ?_)
 simp only[Int.toNat_natCast,hx]; refine wpAny_bind (wpAny_rule (wpAny_bind (wpAny_setField gi di (by simp) ?_))); show wpAny _ _ (newExc (.type "StopIteration") [] >>= _) _ _ _
 refine wpAny_bind ?_; simp only[newExc,newTuple]; refine wpAny_bind (wpAny_newObj_type ?_ (by size_fits))
 refine wpAny_bind (m:=firstArgMember _ _) (wpAny_of_eq (a:=Value.none) (by first | rfl | (simp only[firstArgMember]; rfl)) ?_); refine wpAny_newObj_type ?_ (by size_fits)
 simp only[raiseNew]; refine wpAny_bind (wpAny_handled ?_); first | rw[show A.in1.handled=none from hh] | rw[hh]
 refine wpAny_bind (wpAny_pure (wpAny_throw ?_)); exact hE _ _ (((Heap.SameBut.update ..).extBut.push _).push _) ⟨_,Heap.get?_push_size _ rfl,rfl⟩
end
theorem stp_tuple(it a:Addr):Stp it a (fun i h=>h.IsTupleIter it a i) (fun h l=>h.IsTuple a l.toArray) where
 keep:=fun p k=>p.at fun o e=>k o e
 keepC:=fun p k=>p.at fun o e=>k o e
 obj:=fun⟨o,e,_,d⟩=>⟨o,e,fun v z=>by rw[d] at z; cases z⟩
 item:=fun p c e q=>nextOf_tuple_item p c (by simpa using e) q
 last:=fun hh p c e q=>nextOf_tuple_end hh p c (by simpa using e) q
structure ZApart(z TI TO i1 i2 a1 a2:Addr):Prop where
 nd:[z,TI,TO,i1,i2].Nodup
 f1:a1∉[z,TI,TO,i1,i2]
 f2:a2∉[z,TI,TO,i1,i2]
noncomputable def ZSt(z TI TO i1 i2:Addr)(P1 P2:Nat→Heap→Prop)(f0:Value)(k1 k2:Nat)(h:Heap):Prop:=IsZip h z TI TO f0∧IsPair h TI (.ref i1) (.ref i2)∧(∃a b,IsPair h TO a b)∧P1 k1 h∧P2 k2 h
section
variable{prog:Program}{w:World}{A:Around}{E:Value→Shared→Prop}{s:Shared}{z TI TO i1 i2 a1 a2:Addr}{P1 P2:Nat→Heap→Prop}{C1 C2:Heap→List Value→Prop}
theorem zip_next(S1:Stp i1 a1 P1 C1)(S2:Stp i2 a2 P2 C2)(D:ZApart z TI TO i1 i2 a1 a2){k:Nat}{l1 l2:List Value}{x y:Value}{Q:Option Value→Shared→Prop}(st:ZSt z TI TO i1 i2 P1 P2 .none k k s.heap)(c1:C1 s.heap l1)(c2:C2 s.heap l2)(hx:l1[k]?=some x)(hy:l2[k]?=some y)
  (hQ:∀h',ZSt z TI TO i1 i2 P1 P2 (rawInt s.heap.objs.size) (k+1) (k+1) h'→h'.get? s.heap.objs.size=some { cls:=.type "tuple",data:=.seq #[x,y] }→(∀c o,c∉[z,TI,TO,i1,i2]→s.heap.get? c=some o→h'.get? c=some o)→Q (some (.ref s.heap.objs.size)) { s with heap:=h' }) :
  wpAny (model prog w) A (pyNext (.ref z)) Q E s:=by
 obtain⟨hz,hTI,⟨a,b,hTO⟩,p1,p2⟩:=st
 have n:=D.nd
 simp only[List.nodup_cons,List.mem_cons,List.not_mem_nil,or_false,not_or] at n
 obtain⟨⟨n1,n2,n3,n4⟩,⟨n5,n6,n7⟩,⟨n8,n9⟩,n10,_⟩:=n
 have g1:=D.f1; have g2:=D.f2
 simp only[List.mem_cons,List.not_mem_nil,or_false,not_or] at g1 g2
 obtain⟨g11,g12,g13,g14,g15⟩:=g1
 obtain⟨g21,g22,g23,g24,g25⟩:=g2
 have hT:s.TypeIs (.ref z) "zip":=⟨_,hz,rfl⟩
 unfold pyNext
 refine wpAny_bind (wpAny_attempt (wpAny_callSpecial?_slot (name:=Str.ofString "__next__") hT F.slot_zip_next (wpAny_call_entry F.slot_zip_next hT F.entry_zip_next ?_ (F.args_zip_next_1 _))))
 show wpAny _ _ (field (.ref z) 2 >>= _) _ _ _; refine wpAny_bind (wpAny_field hz rfl (x:=.bool false) rfl ?_)
 show wpAny _ _ (field (.ref z) 3 >>= _) _ _ _; refine wpAny_bind (wpAny_field hz rfl (x:=.ref TI) rfl ?_)
 refine wpAny_bind (wpAny_seqItems hTI rfl ?_); show wpAny _ _ (Builtin.SmallTypes.ownedTupleIsFree (.ref z) >>= _) _ _ _
 refine wpAny_bind ?_; unfold Builtin.SmallTypes.ownedTupleIsFree
 refine wpAny_bind (wpAny_field hz rfl (x:=.none) rfl (wpAny_pure ?_)); simp only[if_true]
 refine wpAny_bind (wpAny_rule ?_); refine wpAny_bind (wpAny_field hz rfl (x:=.ref TO) rfl ?_)
 refine wpAny_bind (wpAny_setField_rec hz (by simp) fun h1 q1 e1=>?_); replace q1:IsZip h1 z TI TO .ellipsis:=q1
 refine wpAny_bind ?_; simp only[List.zipIdx_cons,List.zipIdx_nil,List.forIn_cons,List.forIn_nil]
 refine wpAny_bind (wpAny_bind (wpAny_onRaise ?_)); show wpAny _ _ (Builtin.SmallTypes.nextOf (.ref i1) >>= _) _ _ _
 refine wpAny_bind (S1.item (S1.keep p1 fun o e=>e1.extBut _ _ (Ne.symm n3) e) (S1.keepC c1 fun o e=>e1.extBut _ _ g11 e) hx fun h2 r1 e2=>wpAny_pure ?_)
 have t2:IsPair h2 TO a b:=e2.extBut _ _ n8 (e1.extBut _ _ (Ne.symm n2) hTO)
 refine wpAny_bind (wpAny_seqItems t2 rfl ?_); refine wpAny_bind (wpAny_updateSeq_pair t2 fun h3 t3 e3=>?_)
 replace t3:IsPair h3 TO x b:=t3
 refine wpAny_bind (wpAny_letGo (wpAny_pure ?_)); refine wpAny_bind (wpAny_bind (wpAny_onRaise ?_)); show wpAny _ _ (Builtin.SmallTypes.nextOf (.ref i2) >>= _) _ _ _
 refine wpAny_bind (S2.item (S2.keep p2 fun o e=>e3.extBut _ _ (Ne.symm n9) (e2.extBut _ _ (Ne.symm n10) (e1.extBut _ _ (Ne.symm n4) e))) (S2.keepC c2 fun o e=>e3.extBut _ _ g23 (e2.extBut _ _ g24 (e1.extBut _ _ g21 e))) hy fun h4 r2 e4=>wpAny_pure ?_)
 have t4:IsPair h4 TO x b:=e4.extBut _ _ n9 t3
 refine wpAny_bind (wpAny_seqItems t4 rfl ?_); refine wpAny_bind (wpAny_updateSeq_pair t4 fun h5 t5 e5=>?_)
 replace t5:IsPair h5 TO x y:=t5
 refine wpAny_bind (wpAny_letGo (wpAny_pure (wpAny_pure ?_))); refine wpAny_bind (wpAny_seqItems t5 rfl ?_); refine wpAny_bind (wpAny_newTuple ?_)
 have sz:h5.objs.size=s.heap.objs.size:=by rw[e5.1,e4.1,e3.1,e2.1,e1.1]
 have all:∀c o,c∉[z,TI,TO,i1,i2]→s.heap.get? c=some o→h5.get? c=some o:=fun c o hc e=>by
  simp only[List.mem_cons,List.not_mem_nil,or_false,not_or] at hc
  exact e5.extBut _ _ hc.2.2.1 (e4.extBut _ _ hc.2.2.2.2 (e3.extBut _ _ hc.2.2.1 (e2.extBut _ _ hc.2.2.2.1 (e1.extBut _ _ hc.1 e))))
 have z5:IsZip h5 z TI TO .ellipsis:=e5.extBut _ _ n2 (e4.extBut _ _ n4 (e3.extBut _ _ n2 (e2.extBut _ _ n3 q1)))
 have ti5:IsPair h5 TI (.ref i1) (.ref i2):=e5.extBut _ _ n5 (e4.extBut _ _ n7 (e3.extBut _ _ n5 (e2.extBut _ _ n6 (e1.extBut _ _ (Ne.symm n1) hTI))))
 have u1:P1 (k+1) h5:=S1.keep r1 fun o e=>e5.extBut _ _ (Ne.symm n8) (e4.extBut _ _ n10 (e3.extBut _ _ (Ne.symm n8) e))
 have u2:P2 (k+1) h5:=S2.keep r2 fun o e=>e5.extBut _ _ (Ne.symm n9) e
 have zlt:z<h5.objs.size:=Heap.lt_size z5
 show wpAny _ _ (Builtin.SmallTypes.ownedTupleHandOut (.ref z) (.ref h5.objs.size) >>= _) _ _ _
 refine wpAny_bind ?_; unfold Builtin.SmallTypes.ownedTupleHandOut
 have z6:IsZip (h5.push { cls:=.type "tuple",data:=.seq #[x,y] }) z TI TO .ellipsis:=Heap.get?_push_of_some _ z5
 refine wpAny_bind (wpAny_setField_rec z6 (by simp) fun h7 z7 e7=>?_); replace z7:IsZip h7 z TI TO (rawInt h5.objs.size):=z7
 refine wpAny_setField_rec z7 (by simp) fun h8 z8 e8=>?_
 replace z8:IsZip h8 z TI TO (rawInt h5.objs.size):=z8
 have up:∀c o,c≠z→h5.get? c=some o→h8.get? c=some o:=fun c o c1 e=>e8.extBut _ _ c1 (e7.extBut _ _ c1 (Heap.get?_push_of_some _ e))
 have t8:h8.get? h5.objs.size=some { cls:=.type "tuple",data:=.seq #[x,y] }:=e8.extBut _ _ (Nat.ne_of_gt zlt) (e7.extBut _ _ (Nat.ne_of_gt zlt) (Heap.get?_push_size _ rfl))
 rw[sz] at z8 t8
 refine wpAny_pure ⟨_,rfl,wpAny_pure ?_⟩
 show Q (some (.ref h5.objs.size)) _
 rw[sz]
 exact hQ h8 ⟨z8,up _ _ (Ne.symm n1) ti5,⟨x,y,up _ _ (Ne.symm n2) t5⟩,S1.keep u1 fun o e=>up _ o (Ne.symm n3) e,S2.keep u2 fun o e=>up _ o (Ne.symm n4) e⟩ t8 fun c o hc e=>up c o (fun q=>hc (by simp[q])) (all c o hc e)
theorem zip_last(S1:Stp i1 a1 P1 C1)(S2:Stp i2 a2 P2 C2)(D:ZApart z TI TO i1 i2 a1 a2){k:Nat}{l1 l2:List Value}{Q:Option Value→Shared→Prop}(hh:A.handled=none)(st:ZSt z TI TO i1 i2 P1 P2 .none k k s.heap)(c1:C1 s.heap l1)(c2:C2 s.heap l2)(he:l1[k]?=none∨l2[k]?=none)
  (hQ:∀h',(∀c o,c∉[z,TI,TO,i1,i2]→s.heap.get? c=some o→h'.get? c=some o)→Q none { s with heap:=h' }):wpAny (model prog w) A (pyNext (.ref z)) Q E s:=by
 obtain⟨hz,hTI,⟨a,b,hTO⟩,p1,p2⟩:=st
 have n:=D.nd
 simp only[List.nodup_cons,List.mem_cons,List.not_mem_nil,or_false,not_or] at n
 obtain⟨⟨n1,n2,n3,n4⟩,⟨n5,n6,n7⟩,⟨n8,n9⟩,n10,_⟩:=n
 have g1:=D.f1; have g2:=D.f2
 simp only[List.mem_cons,List.not_mem_nil,or_false,not_or] at g1 g2
 obtain⟨g11,g12,g13,g14,g15⟩:=g1
 obtain⟨g21,g22,g23,g24,g25⟩:=g2
 have hT:s.TypeIs (.ref z) "zip":=⟨_,hz,rfl⟩
 have stop:∀{h':Heap} {e:Addr},(∃o,h'.get? e=some o∧o.cls=.type "StopIteration")→(∀c o,c∉[z,TI,TO,i1,i2]→s.heap.get? c=some o→h'.get? c=some o)→
   wpAny (model prog w) A (isInstance (.ref e) (.type "StopIteration") >>= fun x=>if x=true then pure none else throw (.ref e)) Q E { s with heap:=h' }:=fun {h' e} ⟨o,ho,hc⟩ kk=>
  wpAny_bind (wpAny_isInstance (T:="StopIteration") (b:=true) ⟨o,ho,hc⟩ isSubtype_stop (wpAny_pure (hQ _ kk)))
 unfold pyNext
 refine wpAny_bind (wpAny_attempt (wpAny_callSpecial?_slot (name:=Str.ofString "__next__") hT F.slot_zip_next (wpAny_call_entry F.slot_zip_next hT F.entry_zip_next ?_ (F.args_zip_next_1 _))))
 show wpAny _ _ (field (.ref z) 2 >>= _) _ _ _; refine wpAny_bind (wpAny_field hz rfl (x:=.bool false) rfl ?_)
 show wpAny _ _ (field (.ref z) 3 >>= _) _ _ _; refine wpAny_bind (wpAny_field hz rfl (x:=.ref TI) rfl ?_)
 refine wpAny_bind (wpAny_seqItems hTI rfl ?_); show wpAny _ _ (Builtin.SmallTypes.ownedTupleIsFree (.ref z) >>= _) _ _ _
 refine wpAny_bind ?_; unfold Builtin.SmallTypes.ownedTupleIsFree
 refine wpAny_bind (wpAny_field hz rfl (x:=.none) rfl (wpAny_pure ?_)); simp only[if_true]
 refine wpAny_bind (wpAny_rule ?_); refine wpAny_bind (wpAny_field hz rfl (x:=.ref TO) rfl ?_)
 refine wpAny_bind (wpAny_setField_rec hz (by simp) fun h1 q1 e1=>?_); replace q1:IsZip h1 z TI TO .ellipsis:=q1
 refine wpAny_bind ?_; simp only[List.zipIdx_cons,List.zipIdx_nil,List.forIn_cons,List.forIn_nil]
 refine wpAny_bind (wpAny_bind (wpAny_onRaise ?_)); show wpAny _ _ (Builtin.SmallTypes.nextOf (.ref i1) >>= _) _ _ _
 have p1':=S1.keep (h':=h1) p1 fun o e=>e1.extBut _ _ (Ne.symm n3) e
 have c1':=S1.keepC (h':=h1) c1 fun o e=>e1.extBut _ _ g11 e
 cases hx:l1[k]? with
 | none=>
  refine wpAny_bind (S1.last hh p1' c1' hx fun h2 e e2 ⟨oe,ge,ce⟩=>?_)
  have z2:IsZip h2 z TI TO .ellipsis:=e2 _ _ n3 q1
  have ne:e≠z:=fun q=>by subst q; rw[z2] at ge; cases ge; simp at ce
  refine wpAny_setField_rec z2 (by simp) fun h3 _ e3=>?_
  refine stop ⟨oe,e3.extBut _ _ ne ge,ce⟩ fun c o hc g=>?_
  simp only[List.mem_cons,List.not_mem_nil,or_false,not_or] at hc
  exact e3.extBut _ _ hc.1 (e2 _ _ hc.2.2.2.1 (e1.extBut _ _ hc.1 g))
 | some x=>
  have hy:l2[k]?=none:=by rcases he with h | h; rw[hx] at h; cases h; exact h
  refine wpAny_bind (S1.item p1' c1' hx fun h2 r1 e2=>wpAny_pure ?_)
  have t2:IsPair h2 TO a b:=e2.extBut _ _ n8 (e1.extBut _ _ (Ne.symm n2) hTO)
  refine wpAny_bind (wpAny_seqItems t2 rfl ?_); refine wpAny_bind (wpAny_updateSeq_pair t2 fun h3 t3 e3=>?_)
  refine wpAny_bind (wpAny_letGo (wpAny_pure ?_)); refine wpAny_bind (wpAny_bind (wpAny_onRaise ?_)); show wpAny _ _ (Builtin.SmallTypes.nextOf (.ref i2) >>= _) _ _ _
  refine wpAny_bind (S2.last hh (S2.keep p2 fun o e=>e3.extBut _ _ (Ne.symm n9) (e2.extBut _ _ (Ne.symm n10) (e1.extBut _ _ (Ne.symm n4) e))) (S2.keepC c2 fun o e=>e3.extBut _ _ g23 (e2.extBut _ _ g24 (e1.extBut _ _ g21 e))) hy fun h4 e e4 ⟨oe,ge,ce⟩=>?_)
  have z4:IsZip h4 z TI TO .ellipsis:=e4 _ _ n4 (e3.extBut _ _ n2 (e2.extBut _ _ n3 q1))
  have ne:e≠z:=fun q=>by subst q; rw[z4] at ge; cases ge; simp at ce
  refine wpAny_setField_rec z4 (by simp) fun h5 _ e5=>?_
  refine stop ⟨oe,e5.extBut _ _ ne ge,ce⟩ fun c o hc g=>?_
  simp only[List.mem_cons,List.not_mem_nil,or_false,not_or] at hc
  exact e5.extBut _ _ hc.1 (e4 _ _ hc.2.2.2.2 (e3.extBut _ _ hc.2.2.1 (e2.extBut _ _ hc.2.2.2.1 (e1.extBut _ _ hc.1 g))))
end
noncomputable def Itb(v:Value)(o:Obj)(C:Heap→Prop):Prop:=∀(prog:Program) (w:World) (A:Around) (E:Value→Shared→Prop) (s:Shared) (Q:Value→Shared→Prop),C s.heap→Q (.ref s.heap.objs.size) { s with heap:=s.heap.push o }→wpAny (model prog w) A (pyIter v) Q E s
theorem itb_list(a:Addr)(l:List Value):Itb (.ref a) { cls:=.type "list_iterator",data:=.fields #[.ref a,.int 0 0] } (fun h=>h.IsList a l.toArray):=fun _ _ _ _ _ _ c q=>wpAny_pyIter_list c q
theorem itb_tuple(a:Addr)(l:List Value):Itb (.ref a) { cls:=.type "tuple_iterator",data:=.fields #[.ref a,.int 0 0] } (fun h=>h.IsTuple a l.toArray):=fun _ _ _ _ _ _ c q=>wpAny_pyIter_tuple c q
section
variable{v1 v2:Value}{o1 o2:Obj}{C1 C2:Heap→Prop}
abbrev zp1(h:Heap)(o1:Obj):Heap:=h.push o1
abbrev zp2(h:Heap)(o1 o2:Obj):Heap:=(zp1 h o1).push o2
abbrev zp3(h:Heap)(o1 o2:Obj):Heap:=(zp2 h o1 o2).push { cls:=.type "tuple",data:=.seq #[.ref h.objs.size,.ref (zp1 h o1).objs.size] }
abbrev zp4(h:Heap)(o1 o2:Obj):Heap:=(zp3 h o1 o2).push { cls:=.type "tuple",data:=.seq #[.none,.none] }
abbrev zp5(h:Heap)(o1 o2:Obj):Heap:=(zp4 h o1 o2).push { cls:=.type "zip",data:=.fields #[.none,.bool false,.bool false,.ref (zp2 h o1 o2).objs.size,.ref (zp3 h o1 o2).objs.size] }
theorem zip_new(r1:Itb v1 o1 C1)(r2:Itb v2 o2 C2) :
  Meets (Builtin.«zip.__new__» ⟨[.type "zip",v1,v2],[]⟩) (fun _ R s=>C1 s.heap∧C2 (s.heap.push o1)∧R (.ok (.ret (.ref (zp4 s.heap o1 o2).objs.size))) { s with heap:=zp5 s.heap o1 o2 }):=
 .of_wp fun prog w A R s h=>by
  obtain⟨hp,g,d,tk,os⟩:=s; obtain⟨k1,k2,h⟩:=h
  have hsub:=sub_zip
  have q1:∀{A:Around} {E:Value→Shared→Prop} {Q:Value→Shared→Prop},Q (.ref hp.objs.size) ⟨hp.push o1,g,d,tk,os⟩→wpAny (model prog w) A (pyIter v1) Q E ⟨hp,g,d,tk,os⟩:=fun q=>r1 prog w _ _ _ _ k1 q
  have q2:∀{A:Around} {E:Value→Shared→Prop} {Q:Value→Shared→Prop},Q (.ref (hp.push o1).objs.size) ⟨(hp.push o1).push o2,g,d,tk,os⟩→wpAny (model prog w) A (pyIter v2) Q E ⟨hp.push o1,g,d,tk,os⟩:=fun q=>r2 prog w _ _ _ _ k2 q
  wp_walk using q1,q2
  exact⟨_,rfl,h⟩
end
section
variable{prog:Program}{w:World}{A:Around}{E:Value→Shared→Prop}{s:Shared}{v1 v2:Value}{o1 o2:Obj}{C1 C2:Heap→Prop}
theorem zip_call(r1:Itb v1 o1 C1)(r2:Itb v2 o2 C2){Q:Value→Shared→Prop}(k1:C1 s.heap)(k2:C2 (s.heap.push o1))(hf1:o1.isFreed=false)(hf2:o2.isFreed=false)
  (h:∀h',IsZip h' (s.heap.objs.size+4) (s.heap.objs.size+2) (s.heap.objs.size+3) .none→IsPair h' (s.heap.objs.size+2) (.ref s.heap.objs.size) (.ref (s.heap.objs.size+1))→
   IsPair h' (s.heap.objs.size+3) .none .none→h'.get? s.heap.objs.size=some o1→h'.get? (s.heap.objs.size+1)=some o2→(∀c o,s.heap.get? c=some o→h'.get? c=some o)→Q (.ref (s.heap.objs.size+4)) { s with heap:=h' }) :
  wpAny (model prog w) A (call (.type "zip") [v1,v2]) Q E s:=by
 refine callType_new F.called_zip (by decide) (F.typeCall_zip_2 _ _) (F.newCall_zip_2 _ _) (fun obj=>F.args_object_init_3 obj _ _) F.entry_zip_new (zip_new r1 r2) ⟨k1,k2,?_⟩
 have y1:(zp1 s.heap o1).objs.size=s.heap.objs.size+1:=Heap.size_push ..
 have y2:(zp2 s.heap o1 o2).objs.size=s.heap.objs.size+2:=by rw[Heap.size_push,y1]
 have y3:(zp3 s.heap o1 o2).objs.size=s.heap.objs.size+3:=by rw[Heap.size_push,y2]
 have y4:(zp4 s.heap o1 o2).objs.size=s.heap.objs.size+4:=by rw[Heap.size_push,y3]
 have b5:(zp5 s.heap o1 o2).get? (zp4 s.heap o1 o2).objs.size=some _:=Heap.get?_push_size _ rfl
 have b4:(zp5 s.heap o1 o2).get? (zp3 s.heap o1 o2).objs.size=some _:=Heap.get?_push_of_some _ (Heap.get?_push_size _ rfl)
 have b3:(zp5 s.heap o1 o2).get? (zp2 s.heap o1 o2).objs.size=some _:=Heap.get?_push_of_some _ (Heap.get?_push_of_some _ (Heap.get?_push_size _ rfl))
 have b2:(zp5 s.heap o1 o2).get? (zp1 s.heap o1).objs.size=some _:=Heap.get?_push_of_some _ (Heap.get?_push_of_some _ (Heap.get?_push_of_some _ (Heap.get?_push_size _ hf2)))
 have b1:(zp5 s.heap o1 o2).get? s.heap.objs.size=some _:=Heap.get?_push_of_some _ (Heap.get?_push_of_some _ (Heap.get?_push_of_some _ (Heap.get?_push_of_some _ (Heap.get?_push_size _ hf1))))
 show _∧_
 rw[y2,y3,y4] at b5; rw[y1,y2] at b3; rw[y3] at b4; rw[y1] at b2; rw[y4]
 exact⟨⟨_,b5,rfl⟩,h _ b5 b3 b4 b1 b2 fun c o x=>Heap.get?_push_of_some _ (Heap.get?_push_of_some _ (Heap.get?_push_of_some _ (Heap.get?_push_of_some _ (Heap.get?_push_of_some _ x))))⟩
end
theorem inv_turned_new{X:Cx}{pins:List (Addr×Obj)}{σ:L2.St}{H:Hp}{s:Shared}{h':Heap}{t':Nat}{fp:List Addr}{p:Addr}{o:HO}(I:Inv X pins σ H s)(k:∀b o,b∉fp→s.heap.get? b=some o→h'.get? b=some o)(hf:∀b∈fp,FpOk X pins H b)
  (hp:s.heap.objs.size≤p) (new:ObjOk X.prog X.w (upd H p o) h' p o):Inv X pins σ (upd H p o) { s with heap:=h',toks:=t' }:=by
 have hn:H p=none:=I.hok.fresh hp
 have away:∀b u,H b=some u→b∉fp:=fun b u e z=>by rw[(hf b z).1] at e; cases e
 have lt:∀b u,s.heap.get? b=some u→b≠p:=fun b u e=>Nat.ne_of_lt (Nat.lt_of_lt_of_le (Heap.lt_size e) hp)
 refine I.step (g':=s.gens) (d':=s.drawn) (ch:=fp) (fun b hb=>⟨(hf b hb).2.2.2.1,(hf b hb).2.1,(hf b hb).2.2.2.2.1,(hf b hb).2.2.2.2.2⟩) (fun b o _ _ hc e _=>k b o hc e) (fun b o _ _ hc e _=>⟨o.slots,k b o hc e⟩) (fun b u _ e n=>by rw[upd_ne (lt b u e)]; exact n)
  (fun b o hc e=>⟨o,k b o hc e⟩) (fun b xs e=>by rw[upd_ne (ne_of_none e hn)]; exact e) (fun b u v e=>by rw[upd_ne (ne_of_none e hn)]; exact e) (fun b ps e=>⟨#[],by rw[upd_ne (ne_of_none e hn),e]; simp⟩) (fun m hm=>?_) (fun b u e=>?_) I.bare
 .obtain⟨o,es,ep,ho,r⟩:=hm
  exact⟨o,es,ep,k _ o (fun z=>(hf _ z).2.1 rfl) ho,r⟩
 .by_cases hb:b=p
  .subst hb; rw[upd_same] at e; cases e; exact new
  .rw[upd_ne hb] at e
   refine(I.hok b u e).stay (fun c v hc q=>k c v ?_ q) (fun c q=>by rw[upd_ne (ne_of_none q hn)]; exact q) fun c xs q=>by rw[upd_ne (ne_of_none q hn)]; exact q
   rcases hc with z | z
   .rw[z]; exact away b u e
   .exact away c _ z
noncomputable def SqX(K:PySem.W.Frag)(tp:Bool)(H:Hp)(a:Addr)(xs:List V):Prop:=if tp=true then SqT K H a xs else SqL K H a xs
noncomputable def Ctn(tp:Bool)(a:Addr)(h:Heap)(l:List Value):Prop:=if tp=true then h.IsTuple a l.toArray else h.IsList a l.toArray
noncomputable def Pit(tp:Bool)(it a:Addr)(i:Nat)(h:Heap):Prop:=if tp=true then h.IsTupleIter it a i else h.IsListIter it a i
noncomputable def itO(tp:Bool)(a:Addr):Obj:=if tp=true then { cls:=.type "tuple_iterator",data:=.fields #[.ref a,.int 0 0] } else { cls:=.type "list_iterator",data:=.fields #[.ref a,.int 0 0] }
theorem stp_x(tp:Bool)(it a:Addr):Stp it a (Pit tp it a) (Ctn tp a):=by
 cases tp
 .exact stp_list it a
 .exact stp_tuple it a
theorem itb_x(tp:Bool)(a:Addr)(l:List Value):Itb (.ref a) (itO tp a) (fun h=>Ctn tp a h l):=by
 cases tp
 .exact itb_list a l
 .exact itb_tuple a l
theorem itO_free(tp:Bool)(a:Addr):(itO tp a).isFreed=false:=by cases tp<;>rfl
theorem pit_new{tp:Bool}{it a:Addr}{h:Heap}(e:h.get? it=some (itO tp a)):Pit tp it a 0 h:=by
 cases tp
 .exact⟨_,e,rfl,rfl⟩
 .exact⟨_,e,rfl,rfl⟩
section
variable{X:Cx}{pins:List (Addr×Obj)}{σ:L2.St}{H:Hp}{s:Shared}
theorem inv_ctn{tp:Bool}{a:Addr}{xs:List V}(I:Inv X pins σ H s)(h:SqX X.K tp H a xs):∃l,Vals xs l∧Ctn tp a s.heap l:=by
 cases tp
 .obtain⟨its,r,p,_⟩:=I.list (show SqL X.K H a xs from h)
  exact⟨its,r,p.isList⟩
 .obtain⟨its,r,p,_⟩:=I.tuple (show SqT X.K H a xs from h)
  exact⟨its,r,p⟩
theorem sqx_inj{tp:Bool}{a:Addr}{xs ys:List V}(I:Inv X pins σ H s)(h:SqX X.K tp H a xs)(h':SqX X.K tp H a ys):xs=ys:=by
 cases tp
 .exact I.list_inj (show SqL X.K H a xs from h) h'
 .exact I.tuple_inj (show SqT X.K H a xs from h) h'
theorem sqx_away{tp:Bool}{a b:Addr}{xs:List V}(I:Inv X pins σ H s)(h:SqX X.K tp H a xs)(f:FpOk X pins H b):a≠b:=by
 have k:∀o,X.K.lookup a=some o→a≠b:=fun o e z=>by
  subst z
  have eb:X.base.get? a=some o:=I.mod.kin _ _ e
  rcases f.2.2.2.1 with q | q
  .exact I.ok.noex _ _ eb q
  .exact absurd (Nat.lt_of_lt_of_le (Heap.lt_size eb) (Nat.le_trans I.ok.bsz q)) (Nat.lt_irrefl _)
 have r:∀u,Rd H a u→a≠b:=fun u q=>by
  rcases q with q | ⟨o,q⟩<;>exact ne_of_none q f.1
 cases tp
 .rcases(show SqL X.K H a xs from h) with q | ⟨o,_,_,e,_⟩
  .exact r _ q
  .exact k o e
 .rcases(show SqT X.K H a xs from h) with q | ⟨o,_,_,e,_⟩
  .exact r _ q
  .exact k o e
end
noncomputable def Itz (K : PySem.W.Frag) (t1 t2 : Bool) (a1 a2 : Addr) : It :=
  ⟨fun i H => ∃ xs ys x y, SqX K t1 H a1 xs ∧ SqX K t2 H a2 ys ∧ xs[i]? = some x ∧ ys[i]? = some y,
   fun i H v H' => ∃ p x y, H p = none ∧ v = .ref p ∧ H' = upd H p (.tup [x, y]) ∧ (∀ xs, SqX K t1 H a1 xs → xs[i]? = some x) ∧ ∀ ys, SqX K t2 H a2 ys → ys[i]? = some y,
   fun i H => ∃ xs ys, SqX K t1 H a1 xs ∧ SqX K t2 H a2 ys ∧ (xs.length ≤ i ∨ ys.length ≤ i)⟩
theorem turn_zip{P:Program}{w:World}{K:PySem.W.Frag}{elts:List Expr}{n:Nat}{tpos:Pos}(t1 t2:Bool)(z TI TO i1 i2 a1 a2:Addr)(nd:[z,TI,TO,i1,i2].Nodup) :
  Turn P w K (.Tuple elts n tpos) (Itz K t1 t2 a1 a2) [z,TI,TO,i1,i2] z (fun i h=>ZSt z TI TO i1 i2 (Pit t1 i1 a1) (Pit t2 i2 a2) .none i i h) where
 mem:=by simp
 obj:=fun i h st b hb=>by
  obtain⟨hz,hTI,⟨a,b',hTO⟩,p1,p2⟩:=st
  simp only[List.mem_cons,List.not_mem_nil,or_false] at hb
  rcases hb with rfl | rfl | rfl | rfl | rfl
  .exact⟨_,hz,fun v q=>by cases q⟩
  .exact⟨_,hTI,fun v q=>by cases q⟩
  .exact⟨_,hTO,fun v q=>by cases q⟩
  .exact(stp_x t1 _ a1).obj p1
  .exact(stp_x t2 _ a2).obj p2
 keep:=fun i h h' st k=>by
  obtain⟨hz,hTI,⟨a,b',hTO⟩,p1,p2⟩:=st
  exact⟨k z (by simp) _ hz,k TI (by simp) _ hTI,⟨a,b',k TO (by simp) _ hTO⟩,(stp_x t1 i1 a1).keep p1 fun o e=>k i1 (by simp) o e,(stp_x t2 i2 a2).keep p2 fun o e=>k i2 (by simp) o e⟩
 item:=by
  intro X hP hw hK hc i pins s σ H E I hf st hg
  subst hP hw hK
  obtain⟨xs,ys,x,y,d1,d2,hx,hy⟩:=hg
  obtain⟨l1,r1,c1⟩:=inv_ctn I d1
  obtain⟨l2,r2,c2⟩:=inv_ctn I d2
  obtain⟨u1,e1,ru1⟩:=r1.get hx
  obtain⟨u2,e2,ru2⟩:=r2.get hy
  have D:ZApart z TI TO i1 i2 a1 a2:=⟨nd,fun q=>sqx_away I d1 (hf _ q) rfl,fun q=>sqx_away I d2 (hf _ q) rfl⟩
  refine zip_next (stp_x t1 i1 a1) (stp_x t2 i2 a2) D st c1 c2 e1 e2 fun h' st' ht kp=>⟨_,rfl,?_⟩
  obtain⟨hz,hTI,⟨a,b',hTO⟩,p1,p2⟩:=st'
  have n:=nd
  simp only[List.nodup_cons,List.mem_cons,List.not_mem_nil,or_false,not_or] at n
  obtain⟨⟨n1,n2,n3,n4⟩,_⟩:=n
  refine wpAny_letOwnedTupleGo_zip hz fun h2 hz2 sb=>?_
  have zlt:z<s.heap.objs.size:=by obtain⟨q,_⟩:=st; exact Heap.lt_size q
  have ht2:h2.get? s.heap.objs.size=some { cls:=.type "tuple",data:=.seq #[u1,u2] }:=sb.extBut _ _ (Nat.ne_of_gt zlt) ht
  have I2:Inv X pins σ (upd H s.heap.objs.size (.tup [x,y])) { s with heap:=h2 }:=inv_turned_new (t':=s.toks) (fp:=[z,TI,TO,i1,i2]) I (fun b o hb e=>sb.extBut _ _ (fun q=>hb (by simp[q])) (kp b o hb e)) hf (Nat.le_refl _)
   ⟨by show 2≤sizeLine; decide,[u1,u2],.cons ru1 (.cons ru2 .nil),_,ht2,rfl,_,rfl⟩
  refine⟨.ref s.heap.objs.size,_,I2,rfl,⟨_,x,y,I.hok.fresh (Nat.le_refl _),rfl,rfl,fun xs' q=>by rw[sqx_inj I q d1]; exact hx,fun ys' q=>by rw[sqx_inj I q d2]; exact hy⟩,?_,fun b hb=>?_⟩
  .exact⟨hz2,sb.extBut _ _ (Ne.symm n1) hTI,⟨a,b',sb.extBut _ _ (Ne.symm n2) hTO⟩,(stp_x t1 i1 a1).keep p1 fun o e=>sb.extBut _ _ (Ne.symm n3) e,(stp_x t2 i2 a2).keep p2 fun o e=>sb.extBut _ _ (Ne.symm n4) e⟩
  .obtain⟨o,ho,_⟩:∃o,s.heap.get? b=some o∧True:=by
    obtain⟨hz0,hTI0,⟨a0,b0,hTO0⟩,p10,p20⟩:=st
    simp only[List.mem_cons,List.not_mem_nil,or_false] at hb
    rcases hb with rfl | rfl | rfl | rfl | rfl
    .exact⟨_,hz0,trivial⟩
    .exact⟨_,hTI0,trivial⟩
    .exact⟨_,hTO0,trivial⟩
    .obtain⟨o,q,_⟩:=(stp_x t1 _ a1).obj p10; exact⟨o,q,trivial⟩
    .obtain⟨o,q,_⟩:=(stp_x t2 _ a2).obj p20; exact⟨o,q,trivial⟩
   rw[upd_ne (Nat.ne_of_lt (Heap.lt_size ho))]
   exact(hf b hb).1
 done:=by
  intro X hP hw hK hc i pins s σ H E I hf st hg
  subst hP hw hK
  obtain⟨xs,ys,d1,d2,he⟩:=hg
  obtain⟨l1,r1,c1⟩:=inv_ctn I d1
  obtain⟨l2,r2,c2⟩:=inv_ctn I d2
  have D:ZApart z TI TO i1 i2 a1 a2:=⟨nd,fun q=>sqx_away I d1 (hf _ q) rfl,fun q=>sqx_away I d2 (hf _ q) rfl⟩
  refine zip_last (stp_x t1 i1 a1) (stp_x t2 i2 a2) D (I.ok.hd hc) st c1 c2 ?_ fun h' kp=>⟨rfl,inv_turned (t':=s.toks) I kp hf⟩
  rcases he with he | he
  .exact .inl (List.getElem?_eq_none (by rw[←r1.length]; exact he))
  .exact .inr (List.getElem?_eq_none (by rw[←r2.length]; exact he))
 self:=fun _ _ _ _ _ st h=>wpAny_pyIter_zip st.1 h
noncomputable def sndOf(h:MH)(w:W):Option (List W):=match w with
 | .tup l=>some l
 | .fls l=>some l
 | _=>none
noncomputable def zipW(ws:List W):M Src:=fun h=>match ws with
 | [x,y]=>match sndOf h x,sndOf h y with
  | some l,some l'=>some (.items ((l.zip l').map fun p=>.tup [p.1,p.2]),h)
  | _,_=>none
 | _=>none
noncomputable def iZip(ms:List ME):MI:=fun ρ=>bnd (mArgs ms ρ) zipW
section
variable{X:Cx}{cl:Nat→Addr}{elts:List Expr}{n:Nat}{tpos p pos:Pos}{e1 e2:Expr}{ms:List ME}
theorem sndOf_of{K:PySem.W.Frag}{μ:List Addr}{H:Hp}{h:MH}{w:W}{v:V}{l:List W}(r:RW K μ H w v)(e:sndOf h w=some l):∃tp a vs,v=.ref a∧RWs K μ H l vs∧SqX K tp H a vs∧(∀μ2 H2 h2,HR K cl μ H h→Ext μ H μ2 H2→HR K cl μ2 H2 h2→SqX K tp H2 a vs):=by
 unfold sndOf at e
 split at e
 .cases e
  obtain⟨a,vs,rfl,sa,ra⟩:=r.tup_of
  exact⟨true,a,vs,rfl,ra,sa,fun μ2 H2 h2 R E R2=>SqT.ext R E sa⟩
 .cases e
  cases r with | @fls a vs l sa ra=>
  exact⟨false,a,vs,rfl,ra,sa.sq,fun μ2 H2 h2 R E R2=>(SqF.ext E sa).sq⟩
 .cases e
theorem si_zip(hm:X.mg "zip" = none)(ha:SA X cl [e1,e2] ms)(hg:Gl X "zip":=by rfl)(hst:starEach [e1,e2] X.env=(false,eval e1 X.env)::starEach [e2] X.env:=by rfl)(hpl:(backTo pos (starEach [e2] X.env)).any (·.1)=false:=by rfl) :
  SI X cl (.Tuple elts n tpos) (.Call (.Name "zip" p) [e1,e2] [] pos) (iZip ms):=by
 rintro pins s σ H R I ⟨μ,h,ρ,src,h',R0,er,e,k⟩
 obtain⟨ws,h1,e1',e⟩:=of_bnd e
 have hv:bootBuiltins "zip" = some (.type "zip"):=by decide +kernel
 refine wpAny_Call_Name_kw (ld_blt I hg hm hv ?_ (by decide) (by decide))
 refine PyProof.Rows.callWith_type1 (thn (ha pos pins s σ H (fun vs H1=>∃μ1,Ext μ H μ1 H1∧HR X.K cl μ1 H1 h1∧RWs X.K μ1 H1 ws vs) I ⟨μ,h,ρ,ws,h1,R0,er,e1',fun μ1 H1 vs E1 R1 rs=>⟨μ1,E1,R1,rs⟩⟩) fun us s1 ⟨vs,H1,I1,r1,μ1,E1,R1,rs⟩=>?_) hst hpl
 unfold zipW at e
 split at e
 .rename_i x y
  split at e
  .rename_i l l' q1 q2
   cases e
   cases rs with | cons rx t=>cases t with | cons ry t=>cases t with | nil=>
   obtain⟨t1,a1,xs,rfl,ra1,d1,f1⟩:=sndOf_of (cl:=cl) rx q1
   obtain⟨t2,a2,ys,rfl,ra2,d2,f2⟩:=sndOf_of (cl:=cl) ry q2
   obtain⟨u1,u2,rfl,ru1,ru2⟩:=vals2 r1
   cases ru1
   cases ru2
   obtain⟨l1,v1,c1⟩:=inv_ctn I1 d1
   obtain⟨l2,v2,c2⟩:=inv_ctn I1 d2
   refine zip_call (itb_x t1 a1 l1) (itb_x t2 a2 l2) c1 ((stp_x t2 0 a2).keepC c2 fun o e=>Heap.get?_push_of_some _ e) (itO_free t1 a1) (itO_free t2 a2) fun h2 b5 b3 b4 b1 b2 kp=>?_
   refine wpAny_pyIter_zip b5 ?_
   have nd:[s1.heap.objs.size+4,s1.heap.objs.size+2,s1.heap.objs.size+3,s1.heap.objs.size,s1.heap.objs.size+1].Nodup:=by
    simp only[List.nodup_cons,List.mem_cons,List.not_mem_nil,or_false,not_or,List.nodup_nil,and_true,not_false_eq_true]
    omega
   refine⟨_,_,_,_,H1,rfl,I1.kept (t':=s1.toks) kp,turn_zip t1 t2 _ _ _ _ _ a1 a2 nd,⟨b5,b3,⟨_,_,b4⟩,pit_new b1,pit_new b2⟩,fun b hb=>?_,k μ1 H1 _ E1 R1 ?_⟩
   .have hge:s1.heap.objs.size≤b:=by
     simp only[List.mem_cons,List.not_mem_nil,or_false] at hb
     rcases hb with rfl | rfl | rfl | rfl | rfl<;>omega
    exact I1.fpOk hge (I1.hok.fresh hge)
   .intro μ2 H2 h3 E2 R2 i
    have d1':=f1 μ2 H2 h3 R1 E2 R2
    have d2':=f2 μ2 H2 h3 R1 E2 R2
    have ra1':=ra1.ext R1 E2
    have ra2':=ra2.ext R1 E2
    refine⟨fun w ew=>?_,fun es=>?_⟩
    .have ew':((l.zip l').map fun p=>W.tup [p.1,p.2])[i]?=some w:=Option.some.inj ew
     rw[List.getElem?_map] at ew'
     cases ez:(l.zip l')[i]? with
     | none=>rw[ez] at ew'; cases ew'
     | some pr=>
      rw[ez] at ew'
      cases ew'
      obtain⟨ea,eb⟩:=List.getElem?_zip_eq_some.mp ez
      obtain⟨vx,evx,rvx⟩:=ra1'.get ea
      obtain⟨vy,evy,rvy⟩:=ra2'.get eb
      refine⟨⟨xs,ys,vx,vy,d1',d2',evx,evy⟩,fun v H3 yl=>?_⟩
      obtain⟨pp,x',y',hp,rfl,rfl,w1,w2⟩:=yl
      have z1:=w1 xs d1'
      have z2:=w2 ys d2'
      rw[evx] at z1; rw[evy] at z2
      cases z1; cases z2
      exact⟨.side hp,R2.side hp,.tup (SqT.of upd_same) (.cons (rvx.ext R2 (.side hp)) (.cons (rvy.ext R2 (.side hp)) .nil))⟩
    .have es':((l.zip l').map fun p=>W.tup [p.1,p.2])[i]?=none:=Option.some.inj es
     have hl:=List.getElem?_eq_none_iff.mp es'
     rw[List.length_map,List.length_zip] at hl
     refine⟨xs,ys,d1',d2',?_⟩
     rw[←ra1.length,←ra2.length]
     omega
  .cases e
 .cases e
end
noncomputable def blsOf:List W→Option (List Bool)
 | []=>some []
 | .bl b::r=>match blsOf r with
  | some l=>some (b::l)
  | none=>none
 | _=>none
noncomputable def intsOf:List W→Option (List Int)
 | []=>some []
 | .int b::r=>match intsOf r with
  | some l=>some (b::l)
  | none=>none
 | _=>none
noncomputable def foldB(f:List Bool→Bool)(ws:List W):M W:=fun h=>match ws with
 | [w]=>match seqOf h w with
  | some l=>match blsOf l with
   | some bs=>some (.bl (f bs),h)
   | none=>none
  | none=>none
 | _=>none
noncomputable def allW:List W→M W:=foldB fun l=>l.all id
noncomputable def anyW:List W→M W:=foldB fun l=>l.any id
noncomputable def sumL:List Int→Int
 | []=>0
 | i::r=>i+sumL r
noncomputable def sumW(ws:List W):M W:=fun h=>match ws with
 | [w]=>match seqOf h w with
  | some l=>match intsOf l with
   | some bs=>some (.int (sumL bs),h)
   | none=>none
  | none=>none
 | _=>none
section
variable{K:PySem.W.Frag}{μ:List Addr}{H:Hp}
theorem bls_vals:∀{l:List W} {vs:List V} {us:List Value} {bs:List Bool},blsOf l=some bs→RWs K μ H l vs→Vals vs us→us=bs.map Value.bool
 | [],_,_,_,e,.nil,.nil=>by cases e; rfl
 | .bl b::r,_,_,_,e,.cons rb rr,.cons tb tr=>by
  unfold blsOf at e
  split at e
  .rename_i l e'
   cases e
   cases rb
   cases tb
   rw[bls_vals e' rr tr]
   rfl
  .cases e
 | .non::r,_,_,_,e,_,_=>by cases e
 | .int _::r,_,_,_,e,_,_=>by cases e
 | .str _::r,_,_,_,e,_,_=>by cases e
 | .tup _::r,_,_,_,e,_,_=>by cases e
 | .fls _::r,_,_,_,e,_,_=>by cases e
 | .ref _::r,_,_,_,e,_,_=>by cases e
 | .fdc _::r,_,_,_,e,_,_=>by cases e
 | .fn _::r,_,_,_,e,_,_=>by cases e
theorem ints_vals:∀{l:List W} {vs:List V} {us:List Value} {bs:List Int},intsOf l=some bs→RWs K μ H l vs→Vals vs us→us.length=bs.length∧∀i u,us[i]?=some u→∃t,u=Value.int (bs.getD i 0) t
 | [],_,_,_,e,.nil,.nil=>by cases e; exact⟨rfl,fun i u e=>by simp at e⟩
 | .int b::r,_,_,_,e,.cons rb rr,.cons tb tr=>by
  unfold intsOf at e
  split at e
  .rename_i l e'
   cases e
   cases rb
   obtain⟨t,rfl⟩:=tb
   obtain⟨h1,h2⟩:=ints_vals e' rr tr
   refine⟨by simp[h1],fun i u e=>?_⟩
   cases i with
   | zero=>simp at e; subst e; exact⟨t,rfl⟩
   | succ i=>simpa using h2 i u (by simpa using e)
  .cases e
 | .non::r,_,_,_,e,_,_=>by cases e
 | .bl _::r,_,_,_,e,_,_=>by cases e
 | .str _::r,_,_,_,e,_,_=>by cases e
 | .tup _::r,_,_,_,e,_,_=>by cases e
 | .fls _::r,_,_,_,e,_,_=>by cases e
 | .ref _::r,_,_,_,e,_,_=>by cases e
 | .fdc _::r,_,_,_,e,_,_=>by cases e
 | .fn _::r,_,_,_,e,_,_=>by cases e
end
theorem sumL_append(a b:List Int):sumL (a++b)=sumL a+sumL b:=by
 induction a with
 | nil=>simp[sumL]
 | cons x r ih=>simp only[List.cons_append,sumL,ih]; omega
theorem preSum_eq(bs:List Int):∀n,n≤bs.length→preSum (fun i=>bs.getD i 0) n=sumL (bs.take n)
 | 0,_=>by simp[preSum,sumL]
 | n+1,h=>by
  have ih:=preSum_eq bs n (by omega)
  have:preSum (fun i=>bs.getD i 0) (n+1)=preSum (fun i=>bs.getD i 0) n+bs.getD n 0:=rfl
  rw[this,ih,List.take_succ,sumL_append]
  simp[List.getElem?_eq_getElem (show n<bs.length by omega),sumL]
section
variable{X:Cx}{cl:Nat→Addr}
theorem walk_seq{pins:List (Addr×Obj)}{s:Shared}{σ:L2.St}{H:Hp}{a:Addr}{vs:List V}{A:Around}{E:Value→Shared→Prop}{R:Value→Shared→Prop}(I:Inv X pins σ H s)(sq:SqL X.K H a vs∨SqT X.K H a vs)(hh:A.handled=none)
  (k:∀(us:List Value) (it:Addr) (fp wr:List Addr) (St:Nat→Heap→Prop) (h1:Heap),Vals vs us→Walks X.prog X.w A it fp wr us.length (fun i v=>us[i]?=some v) St→St 0 h1→(∀b∈fp,b<h1.objs.size)→
   (∀b∈wr,s.heap.objs.size≤b)→(∀b o,s.heap.get? b=some o→h1.get? b=some o)→R (.ref it) { s with heap:=h1 }) :
  wpAny (model X.prog X.w) A (pyIter (.ref a)) R E s:=by
 rcases sq with sq | sq
 .obtain⟨its,rv,p,hz⟩:=I.list sq
  refine wpAny_pyIter_list p.isList ?_
  have hlt:a<s.heap.objs.size:=by obtain⟨o,ho,_⟩:=p.isList; exact Heap.lt_size ho
  have W0:=Walks.list (prog:=X.prog) (w:=X.w) hh s.heap.objs.size a (Nat.ne_of_lt hlt) its.toArray
  have W1:Walks X.prog X.w A s.heap.objs.size [s.heap.objs.size,a] [s.heap.objs.size] its.length (fun i v=>its[i]?=some v) (fun i h=>h.IsListIter s.heap.objs.size a i∧h.IsList a its.toArray):=by simpa using W0
  refine k its _ _ _ _ _ rv W1 ⟨⟨_,Heap.get?_push_size _ rfl,rfl,rfl⟩,p.isList.at fun o e=>Heap.get?_push_of_some _ e⟩ (fun b hb=>?_) (fun b hb=>?_) fun b o e=>Heap.get?_push_of_some _ e
  .simp only[List.mem_cons,List.not_mem_nil,or_false] at hb
   simp only[Heap.size_push]
   rcases hb with rfl | rfl
   .exact Nat.lt_succ_self _
   .exact Nat.lt_succ_of_lt hlt
  .simp only[List.mem_cons,List.not_mem_nil,or_false] at hb
   rw[hb]
   exact Nat.le_refl _
 .obtain⟨its,rv,p,hz⟩:=I.tuple sq
  refine wpAny_pyIter_tuple (show s.heap.IsTuple a its.toArray from p) ?_
  have hlt:a<s.heap.objs.size:=by obtain⟨o,ho,_⟩:=id p; exact Heap.lt_size ho
  have p':s.heap.IsTuple a its.toArray:=p
  have W0:=Walks.tuple (prog:=X.prog) (w:=X.w) hh s.heap.objs.size a (Nat.ne_of_lt hlt) its.toArray
  have W1:Walks X.prog X.w A s.heap.objs.size [s.heap.objs.size,a] [s.heap.objs.size] its.length (fun i v=>its[i]?=some v) (fun i h=>h.IsTupleIter s.heap.objs.size a i∧h.IsTuple a its.toArray):=by simpa using W0
  refine k its _ _ _ _ _ rv W1 ⟨⟨_,Heap.get?_push_size _ rfl,rfl,rfl⟩,p'.at fun o e=>Heap.get?_push_of_some _ e⟩ (fun b hb=>?_) (fun b hb=>?_) fun b o e=>Heap.get?_push_of_some _ e
  .simp only[List.mem_cons,List.not_mem_nil,or_false] at hb
   simp only[Heap.size_push]
   rcases hb with rfl | rfl
   .exact Nat.lt_succ_self _
   .exact Nat.lt_succ_of_lt hlt
  .simp only[List.mem_cons,List.not_mem_nil,or_false] at hb
   rw[hb]
   exact Nat.le_refl _
theorem inv_walked{pins:List (Addr×Obj)}{s:Shared}{σ:L2.St}{H:Hp}{h1 h2:Heap}{tk:Nat}{wr:List Addr}(I:Inv X pins σ H s)(k1:∀b o,s.heap.get? b=some o→h1.get? b=some o)(hw:∀b∈wr,s.heap.objs.size≤b)(k2:∀b o,b∉wr→h1.get? b=some o→h2.get? b=some o) :
  Inv X pins σ H { s with heap:=h2,toks:=tk }:=
 I.kept (t':=tk) fun b o e=>k2 b o (fun z=>absurd (Heap.lt_size e) (Nat.not_lt.mpr (hw b z))) (k1 b o e)
theorem call_foldB{f:List Bool→Bool}{id:String}(hcall:∀{A:Around} {E:Value→Shared→Prop} {s:Shared} {x:Value} {Q:Value→Shared→Prop},A.handled=none→wpAny (model X.prog X.w) A.in1 (pyIter x) (fun it s₂=>∃I fp wr n P St tr,it=.ref I∧Walks X.prog X.w A.in1 I fp wr n P St∧St 0 s₂.heap∧TruthOf X.prog X.w A.in1 P tr ∧
   ∀h' tk,(∀b o,b∉wr→s₂.heap.get? b=some o→h'.get? b=some o)→Q (.bool (f ((List.range n).map tr))) { s₂ with heap:=h',toks:=tk }) E s→wpAny (model X.prog X.w) A (call (.builtin id) [x]) Q E s) (hc:X.calm=true):CallR X (.builtin id) (rMs X.K cl (foldB f)):=by
 rintro pins s σ H xs us Q I rs ⟨μ,h,ws,w,h',R,ax,e,k⟩
 unfold foldB at e
 split at e
 .split at e
  .rename_i l el
   split at e
   .rename_i bs eb
    cases e
    cases ax with | cons r t=>cases t with | nil=>
    obtain⟨a,vs,rfl,sa,ra⟩:=seqOf_of R r el
    obtain⟨u,rfl,ru⟩:=rs.one
    cases ru
    have hh:=I.ok.hd hc
    refine hcall hh (walk_seq (A:=X.A.in1) I sa hh fun us it fp wr St h1 rv W hst hfp hwr k1=>?_)
    have hu:=bls_vals eb ra rv
    subst hu
    refine⟨it,fp,wr,_,_,St,fun i=>bs.getD i false,rfl,W,hst,?_,fun h2 tk k2=>?_⟩
    .intro i v s Q E hP hQ
     rw[List.getElem?_map] at hP
     cases eb:bs[i]? with
     | none=>rw[eb] at hP; cases hP
     | some b=>
      rw[eb] at hP
      cases hP
      have:bs.getD i false=b:=by simp[List.getD,eb]
      have hQ':Q (bs.getD i false) s:=hQ
      rw[this] at hQ'
      exact wpAny_truthy_bool hQ'
    .have e2:(List.range (bs.map Value.bool).length).map (fun i=>bs.getD i false)=bs:=by
      apply List.ext_getElem
      .simp
      .intro i h1 h2; simp at h1; simp[h1]
     rw[e2]
     exact⟨.bl _,H,(show Inv X pins σ H { s with heap:=h2,toks:=tk } from inv_walked I k1 hwr k2),rfl,k.pure R (.bl _)⟩
   .cases e
  .cases e
 .cases e
theorem call_allW(hc:X.calm=true):CallR X (.builtin "all") (rMs X.K cl allW):=by
 refine call_foldB (fun {A E s x Q} hh h=>call_all_walk (wpAny_mono h (fun it s₂ h₂=>?_) fun _ _ e=>e)) hc
 obtain⟨I,fp,wr,n,P,St,tr,rfl,W,hst,htr,hQ⟩:=h₂
 refine⟨I,fp,wr,n,P,St,tr,rfl,W,hst,htr,fun h' tk hk=>?_⟩
 have:=hQ h' tk hk
 rw[List.all_map] at this
 exact this
theorem call_anyW(hc:X.calm=true):CallR X (.builtin "any") (rMs X.K cl anyW):=by
 refine call_foldB (fun {A E s x Q} hh h=>call_any_walk (wpAny_mono h (fun it s₂ h₂=>?_) fun _ _ e=>e)) hc
 obtain⟨I,fp,wr,n,P,St,tr,rfl,W,hst,htr,hQ⟩:=h₂
 refine⟨I,fp,wr,n,P,St,tr,rfl,W,hst,htr,fun h' tk hk=>?_⟩
 have:=hQ h' tk hk
 rw[List.any_map] at this
 exact this
theorem call_sumW(hc:X.calm=true):CallR X (.builtin "sum") (rMs X.K cl sumW):=by
 rintro pins s σ H xs us Q I rs ⟨μ,h,ws,w,h',R,ax,e,k⟩
 unfold sumW at e
 split at e
 .split at e
  .rename_i l el
   split at e
   .rename_i bs eb
    cases e
    cases ax with | cons r t=>cases t with | nil=>
    obtain⟨a,vs,rfl,sa,ra⟩:=seqOf_of R r el
    obtain⟨u,rfl,ru⟩:=rs.one
    cases ru
    have hh:=I.ok.hd hc
    refine call_sum_walkG (walk_seq (A:=X.A.in1) I sa hh fun us it fp wr St h1 rv W hst hfp hwr k1=>?_)
    obtain⟨hl,hv⟩:=ints_vals eb ra rv
    refine⟨it,fp,wr,_,_,St,fun i=>bs.getD i 0,rfl,W,hst,hfp,hv,fun h2 tk t' k2=>?_⟩
    rw[hl,preSum_eq bs _ (Nat.le_refl _),List.take_length]
    exact⟨.int _,H,(show Inv X pins σ H { s with heap:=h2,toks:=tk } from inv_walked I k1 hwr k2),⟨t',rfl⟩,k.pure R (.int _)⟩
   .cases e
  .cases e
 .cases e
theorem boot_all:bootBuiltins "all" = some (.builtin "all"):=by decide +kernel
theorem boot_any:bootBuiltins "any" = some (.builtin "any"):=by decide +kernel
theorem boot_sum:bootBuiltins "sum" = some (.builtin "sum"):=by decide +kernel
theorem tyb_int:bootBuiltins "int" = some (.type Ty.int.name):=by decide +kernel
theorem tyb_str:bootBuiltins "str" = some (.type Ty.str.name):=by decide +kernel
theorem tyb_bool:bootBuiltins "bool" = some (.type Ty.bool.name):=by decide +kernel
theorem tyb_tuple:bootBuiltins "tuple" = some (.type Ty.tuple.name):=by decide +kernel
theorem tyb_list:bootBuiltins "list" = some (.type Ty.list.name):=by decide +kernel
theorem tyb_dict:bootBuiltins "dict" = some (.type Ty.dict.name):=by decide +kernel
end
noncomputable abbrev ltW:W→W→M W:=cmpI fun i j=>decide (i<j)
noncomputable abbrev leW:W→W→M W:=cmpI fun i j=>decide (i≤j)
noncomputable abbrev gtW:W→W→M W:=cmpI fun i j=>decide (j<i)
noncomputable abbrev geW:W→W→M W:=cmpI fun i j=>decide (j≤i)
noncomputable abbrev augI:W→W→M W:=fun x y=>match x,y with | .int i,.int j=>fun h=>some (.int (i+j),h) | _,_=>fun _=>none
noncomputable def Itc(x:Str):It:=
 ⟨fun i _=>i<x.cps.size,fun i H v H'=>H'=H∧∃c,x.cps[i]?=some c∧v=.str ⟨#[c]⟩,fun i _=>x.cps.size≤i⟩
section
variable{P:Program}{w:World}{K:PySem.W.Frag}{tg:Expr}
theorem turn_sign{T:String}(hn:["enumerate","zip","dict_itemiterator","dict_reverseitemiterator","odict_iterator","itertools.zip_longest","itertools.pairwise"].contains T=false)(it:Addr)(x:Str)(t:Tok)
  (W:∀A:Around,A.handled=none→Walks P w A it [it] [it] x.cps.size (SignAt x) (fun i h=>h.IsStrIter it T x t i))
  (sf:∀(A:Around) (i:Nat) (s:Shared) (Q:Value→Shared→Prop) (E:Value→Shared→Prop),s.heap.IsStrIter it T x t i→Q (.ref it) s→wpAny (model P w) A (pyIter (.ref it)) Q E s) :
  Turn P w K tg (Itc x) [it] it (fun i h=>i≤x.cps.size∧h.IsStrIter it T x t i) where
 mem:=by simp
 obj:=fun i h st b hb=>by
  have e:b=it:=by simpa using hb
  subst e
  obtain⟨_,o,e,c,d⟩:=st
  exact⟨o,e,fun v z=>by rw[d] at z; cases z⟩
 keep:=fun i h h' st k=>by
  obtain⟨hi,o,e,c,d⟩:=st
  exact⟨hi,o,k it (by simp) o e,c,d⟩
 item:=by
  intro X hP hw hK hc i pins s σ H E I hf st hg
  subst hP hw hK
  obtain⟨f0,f1,f2,f3,f4,f5⟩:=hf it (by simp)
  refine(W X.A (I.ok.hd hc)).item i s _ _ hg st.2 fun v h' tk hv st' kk=>?_
  obtain⟨c,u,hcx,rfl⟩:=hv
  have I1:Inv X pins σ H { s with heap:=h',toks:=tk }:=I.turned (t':=tk) (fun b o hb e=>kk b o (by simpa using hb) e) f0 f1 f3 f4 f5
  obtain⟨o,e,cc,d⟩:=id st'
  exact⟨_,rfl,go_of (s:={ s with heap:=h',toks:=tk }) e cc d hn ⟨.str ⟨#[c]⟩,H,I1,⟨u,rfl⟩,⟨rfl,c,hcx,rfl⟩,⟨hg,st'⟩,fun b hb=>(hf b hb).1⟩⟩
 done:=by
  intro X hP hw hK hc i pins s σ H E I hf st hg
  subst hP hw hK
  obtain⟨f0,f1,f2,f3,f4,f5⟩:=hf it (by simp)
  have hi:i=x.cps.size:=Nat.le_antisymm st.1 hg
  have st2:=st.2
  rw[hi] at st2
  exact(W X.A (I.ok.hd hc)).done s _ _ st2 fun h' tk kk=>⟨rfl,I.turned (t':=tk) (fun b o hb e=>kk b o (by simpa using hb) e) f0 f1 f3 f4 f5⟩
 self:=fun A i s Q E st h=>sf A i s Q E st.2 h
end
noncomputable def signs(x:Str):List W:=x.cps.toList.map fun c=>.str ⟨#[c]⟩
noncomputable def iStr(m:ME):MI:=fun ρ=>bnd (m ρ) fun w h=>match w with
 | .str x=>some (.items (signs x),h)
 | _=>none
section
variable{X:Cx}{cl:Nat→Addr}{tg e:Expr}{m:ME}
theorem jr_sign{K:PySem.W.Frag}{μ:List Addr}{H:Hp}{x:Str}:JR K cl (Itc x) (.items (signs x)) μ H:=by
 intro μ2 H2 h2 E2 R2 i
 refine⟨fun w ew=>?_,fun es=>?_⟩
 .have ew':(signs x)[i]?=some w:=Option.some.inj ew
  unfold signs at ew'
  rw[List.getElem?_map] at ew'
  cases ec:x.cps.toList[i]? with
  | none=>rw[ec] at ew'; cases ew'
  | some c=>
   rw[ec] at ew'
   cases ew'
   have ec':x.cps[i]?=some c:=by rw[←Array.getElem?_toList]; exact ec
   refine⟨(Array.getElem?_eq_some_iff.mp ec').1,fun v H3 y=>?_⟩
   obtain⟨rfl,c',hc',rfl⟩:=y
   rw[ec'] at hc'
   cases hc'
   exact⟨.refl,R2,.str _⟩
 .have es':(signs x)[i]?=none:=Option.some.inj es
  have:=List.getElem?_eq_none_iff.mp es'
  unfold signs at this
  rw[List.length_map,Array.length_toList] at this
  exact this
theorem si_str(he:SE X cl e m):SI X cl tg e (iStr m):=by
 rintro pins s σ H R I ⟨μ,h,ρ,src,h',R0,er,e,k⟩
 obtain⟨x,h1,e1,e⟩:=of_bnd e
 refine thn (he pins s σ H (fun v H1=>∃μ1,Ext μ H μ1 H1∧HR X.K cl μ1 H1 h1∧RW X.K μ1 H1 x v) I ⟨μ,h,ρ,x,h1,R0,er,e1,fun μ1 H1 v E1 R1 r=>⟨μ1,E1,R1,r⟩⟩) fun u s1 ⟨v,H1,I1,r1,μ1,E1,R1,rv⟩=>?_
 cases x with
 | str z=>
  cases e
  cases rv.str_of
  obtain⟨tk,rfl⟩:=r1
  have fin:∀{o:Obj} {T:String},["enumerate","zip","dict_itemiterator","dict_reverseitemiterator","odict_iterator","itertools.zip_longest","itertools.pairwise"].contains T=false→(∀A:Around,A.handled=none→Walks X.prog X.w A s1.heap.objs.size [s1.heap.objs.size] [s1.heap.objs.size] z.cps.size (SignAt z) (fun i h=>h.IsStrIter s1.heap.objs.size T z tk i))→
    (∀(A:Around) (i:Nat) (s:Shared) (Q:Value→Shared→Prop) (E:Value→Shared→Prop),s.heap.IsStrIter s1.heap.objs.size T z tk i→Q (.ref s1.heap.objs.size) s→wpAny (model X.prog X.w) A (pyIter (.ref s1.heap.objs.size)) Q E s)→
    (s1.heap.push o).IsStrIter s1.heap.objs.size T z tk 0→PIE X pins σ tg R (.ref s1.heap.objs.size) { s1 with heap:=s1.heap.push o }:=fun {o T} hn W sf st=>
   ⟨_,[s1.heap.objs.size],_,_,H1,rfl,I1.kept (t':=s1.toks) fun b o e=>Heap.get?_push_of_some _ e,turn_sign hn _ z tk W sf,⟨Nat.zero_le _,st⟩,fun b hb=>by
    have e:b=s1.heap.objs.size:=by simpa using hb
    subst e
    exact I1.fpOk (Nat.le_refl _) (I1.hok.fresh (Nat.le_refl _)),k μ1 H1 _ E1 R1 jr_sign⟩
  cases ha:z.cps.all (· < 128)
  .exact wpAny_pyIter_wide ha (fin (T:="str_iterator") (by decide) (fun A' hA=>Walks.strWide hA _ z tk) (fun A i s Q E st q=>wpAny_pyIter_striter_wide st q) ⟨_,Heap.get?_push_size _ rfl,rfl,rfl⟩)
  .exact wpAny_pyIter_ascii ha (fin (T:="str_ascii_iterator") (by decide) (fun A' hA=>Walks.strAscii hA _ z tk) (fun A i s Q E st q=>wpAny_pyIter_striter_ascii st q) ⟨_,Heap.get?_push_size _ rfl,rfl,rfl⟩)
 | _=>cases e
end
structure Glob(K:PySem.W.Frag)(mg:Str→Option Value)(x:Str)(w:W):Prop where
 ex:∃(v:V) (u:Value),mg x=some u∧RelV v u∧∀μ H,RW K μ H w v
theorem Glob.se{X:Cx}{cl:Nat→Addr}{x:Str}{w:W}{pos:Pos}(G:Glob X.K X.mg x w)(hg:Gl X x:=by rfl)(hd:(x==("__debug__":Str))=false:=by decide):SE X cl (.Name x pos) (eC w):=by
 obtain⟨v,u,hm,r,rw⟩:=G.ex
 exact se_glob hm r rw hg hd
mutual
inductive KW(K:PySem.W.Frag):W→Value→Prop
 | int {i:Int} {t:Tok}:KW K (.int i) (.int i t)
 | str {i:Str} {t:Tok}:KW K (.str i) (.str i t)
 | fn {a:Addr}:KW K (.fn a) (.ref a)
 | tup {a:Addr} {l:List W} {o:Obj} {its:Array Value} {n:Nat}:K.lookup a=some o→o.cls=.type "tuple"→o.data=.seq its n→its.size≤sizeLine→KWs K l its.toList→KW K (.tup l) (.ref a)
inductive KWs(K:PySem.W.Frag):List W→List Value→Prop
 | nil:KWs K [] []
 | cons {w:W} {v:Value} {l:List W} {vs:List Value}:KW K w v→KWs K l vs→KWs K (w::l) (v::vs)
end
mutual
theorem KW.rw{K:PySem.W.Frag}:∀{w:W} {u:Value},KW K w u→∃v,RelV v u∧∀μ H,RW K μ H w v
 | _,_,.int (i:=i) (t:=t)=>⟨.int i,⟨t,rfl⟩,fun _ _=>.int _⟩
 | _,_,.str (i:=i) (t:=t)=>⟨.str i,⟨t,rfl⟩,fun _ _=>.str _⟩
 | _,_,.fn (a:=a)=>⟨.ref a,rfl,fun _ _=>.fn⟩
 | _,_,.tup (a:=a) e c d z r=>by
  obtain⟨vs,rv,rr⟩:=KWs.rw r
  exact⟨.ref a,rfl,fun μ H=>.tup (.inr ⟨_,_,_,e,c,d,z,rv⟩) (rr μ H)⟩
theorem KWs.rw{K:PySem.W.Frag}:∀{l:List W} {us:List Value},KWs K l us→∃vs,Vals vs us∧∀μ H,RWs K μ H l vs
 | _,_,.nil=>⟨[],.nil,fun _ _=>.nil⟩
 | _,_,.cons r t=>by
  obtain⟨v,r1,r2⟩:=KW.rw r
  obtain⟨vs,t1,t2⟩:=KWs.rw t
  exact⟨v::vs,.cons r1 t1,fun μ H=>.cons (r2 μ H) (t2 μ H)⟩
end
theorem KW.glob{K:PySem.W.Frag}{mg:Str→Option Value}{x:Str}{w:W}{u:Value}(hm:mg x=some u)(k:KW K w u):Glob K mg x w:=by
 obtain⟨v,r1,r2⟩:=k.rw
 exact⟨v,u,hm,r1,r2⟩
inductive TabRel(K:PySem.W.Frag):List (Str×W)→List DictEntry→Prop
 | nil:TabRel K [] []
 | cons {k:Str} {t:Tok} {w:W} {hs:Int} {v:Value} {l:List (Str×W)} {es:List DictEntry} {e:DictEntry}:e.key=.str k t→KW K w e.val→TabRel K l es→TabRel K ((k,w)::l) (e::es)
structure TabOk(K:PySem.W.Frag)(P:Params)(mg:Str→Option Value)(x:Str)(l:List (Str×W)):Prop where
 ex:∃(a:Addr) (es:Array DictEntry) (n:Nat),mg x=some (.ref a)∧K.lookup a=some ⟨.type "dict",none,.dict es n,#[]⟩∧PySem.W.KeysLit P es.toList∧(a==sysModules)=false∧TabRel K l es.toList
theorem TabRel.find{K:PySem.W.Frag}{k:Str}:∀{l:List (Str×W)} {es:List DictEntry},TabRel K l es→match l.lookup k with
  | some w=>∃v,(es.find? fun e=>Value.isStrOf k e.key).map (·.val)=some v∧KW K w v
  | none=>(es.find? fun e=>Value.isStrOf k e.key).map (·.val)=none
 | _,_,.nil=>rfl
 | _,_,.cons (k:=k') (l:=l) (es:=es) (e:=e) hk r t=>by
  have ih:=TabRel.find (k:=k) t
  rw[List.lookup_cons]
  by_cases q:k=k'
  .subst q
   have e1:(k==k)=true:=by simp
   have e2:Value.isStrOf k e.key=true:=by rw[hk]; simp[Value.isStrOf]
   simp only[e1,List.find?_cons,e2]
   exact⟨_,rfl,r⟩
  .have e1:(k==k')=false:=by simpa using q
   have e2:Value.isStrOf k e.key=false:=by rw[hk]; simp[Value.isStrOf]; exact fun z=>q z.symm
   simp only[e1,List.find?_cons,e2]
   exact ih
noncomputable def tabIn(neg:Bool)(l:List (Str×W))(w:W):M W:=fun h=>match w with
 | .str k=>some (.bl (if neg then !(l.lookup k).isSome else (l.lookup k).isSome),h)
 | _=>none
noncomputable def tabGet(l:List (Str×W))(w:W):M W:=fun h=>match w with
 | .str k=>match l.lookup k with
  | some v=>some (v,h)
  | none=>none
 | _=>none
section
variable{X:Cx}{cl:Nat→Addr}{a:Expr}{ma:ME}{x:Str}{l:List (Str×W)}{p pos:Pos}
theorem TabOk.at{pins:List (Addr×Obj)}{s:Shared}{σ:L2.St}{H:Hp}{d:Addr}{es:Array DictEntry}{n:Nat}(I:Inv X pins σ H s)(hl:X.K.lookup d=some ⟨.type "dict",none,.dict es n,#[]⟩)(hk:PySem.W.KeysLit X.w.params es.toList) :
  s.heap.MapOf (strKind X.prog X.w) d (fun k=>findBy Value.isStrOf es k):=PySem.W.mapOf_K I.kIn hl hk
theorem se_tab{op:CmpOp}(neg:Bool)(ho:∀{A:Around} {E:Value→Shared→Prop} {s:Shared} {d:Addr} {f:Str→Option Value} {k:Str} {t:Tok} {Q:Value→Shared→Prop},(d==sysModules)=false→s.heap.MapOf (strKind X.prog X.w) d f→Q (.bool (if neg then !(f k).isSome else (f k).isSome)) { s with toks:=s.toks+1 }→wpAny (model X.prog X.w) A (compareOp op (.str k t) (.ref d)) Q E s)
  (T:TabOk X.K X.w.params X.mg x l) (ha:SE X cl a ma) (hm:behindInMarks op (.Name x p)=false) (hg:Gl X x) (hd:(x==("__debug__":Str))=false):SE X cl (.Compare a [op] [.Name x p] pos) (eUn (tabIn neg l) ma):=by
 obtain⟨d,es,n,e1,e2,e3,e4,e5⟩:=T.ex
 have hop:OpR X (compareOp op) (fun x y H Q=>∃k,x=.str k∧y=.ref d∧Q (.bl (if neg then !(l.lookup k).isSome else (l.lookup k).isSome)) H):=by
  rintro pins s σ H x y v u Q I rx ry ⟨k,rfl,rfl,q⟩
  obtain⟨t,rfl⟩:=rx
  cases ry
  refine ho e4 (TabOk.at I e2 e3) ?_
  have fk:(findBy Value.isStrOf es k).isSome=(l.lookup k).isSome:=by
   have:=e5.find (k:=k)
   unfold findBy
   rw[←Array.find?_toList]
   cases ek:l.lookup k with
   | none=>rw[ek] at this; rw[this]; rfl
   | some w=>rw[ek] at this; obtain⟨v,e,_⟩:=this; rw[e]; rfl
  rw[fk]
  exact⟨.bl _,H,I.tok _,rfl,q⟩
 refine PE.wk (pe_cmpR hop ha (pe_glob hg e1 (show RelV (.ref d) (.ref d) from rfl) hd) hm) fun σ H Q ⟨μ,h,ρ,w,h',R,er,e,k⟩=>?_
 obtain⟨y,h1,f1,e⟩:=of_bnd e
 refine⟨μ,h,ρ,y,h1,R,er,f1,fun μ1 H1 vx E1 R1 rx=>?_⟩
 unfold tabIn at e
 split at e
 .cases e
  exact⟨_,rx.str_of,rfl,k μ1 H1 _ E1 R1 (.bl _)⟩
 .cases e
theorem se_tabIn(hu:X.A.units+64<cLine)(T:TabOk X.K X.w.params X.mg x l)(ha:SE X cl a ma)(hm:behindInMarks .In (.Name x p)=false:=by first | exact nomark _ | rfl)(hg:Gl X x:=by rfl)(hd:(x==("__debug__":Str))=false:=by decide):SE X cl (.Compare a [.In] [.Name x p] pos) (eUn (tabIn false l) ma):=
 se_tab false (fun {A E s d f k t Q} h1 h2 h3=>wpAny_in_of (strKind_is X.prog X.w k t) h1 h2 h3) T ha hm hg hd
theorem se_tabInN(hu:X.A.units+64<cLine)(T:TabOk X.K X.w.params X.mg x l)(ha:SE X cl a ma)(hm:behindInMarks .NotIn (.Name x p)=false:=by first | exact nomark _ | rfl)(hg:Gl X x:=by rfl)(hd:(x==("__debug__":Str))=false:=by decide):SE X cl (.Compare a [.NotIn] [.Name x p] pos) (eUn (tabIn true l) ma):=
 se_tab true (fun {A E s d f k t Q} h1 h2 h3=>wpAny_notIn_of (strKind_is X.prog X.w k t) h1 h2 h3) T ha hm hg hd
theorem se_tabGet(hu:X.A.units+64<cLine)(T:TabOk X.K X.w.params X.mg x l)(ha:SE X cl a ma)(hs:PlainIx a:=by exact fun _ _=>rfl)(hg:Gl X x:=by rfl)(hd:(x==("__debug__":Str))=false:=by decide):SE X cl (.Subscript (.Name x p) a pos) (eUn (tabGet l) ma):=by
 obtain⟨d,es,n,e1,e2,e3,e4,e5⟩:=T.ex
 have hix:IxR X (fun x y H Q=>∃k w,x=.ref d∧y=.str k∧l.lookup k=some w∧∀v,(∀μ H,RW X.K μ H w v)→Q v H):=by
  rintro value slice pins s σ H x y v u Q I rx ry ⟨k,w,rfl,rfl,el,q⟩ hs
  cases rx
  obtain⟨t,rfl⟩:=ry
  have hm:=TabOk.at I e2 e3
  have:=e5.find (k:=k)
  rw[el] at this
  obtain⟨v0,ev,kw⟩:=this
  obtain⟨v1,r1,r2⟩:=kw.rw
  refine tail_any hm.typeIs slot_dict_getitem.lookup (wpAny_getItem_of (v:=v0) (strKind_is X.prog X.w k t) hm ?_ ⟨v1,H,I.tok _,r1,q v1 r2⟩) hs
  unfold findBy
  rw[←Array.find?_toList]
  exact ev
 refine PE.wk (pe_ix hix (pe_glob hg e1 (show RelV (.ref d) (.ref d) from rfl) hd) ha hs) fun σ H Q ⟨μ,h,ρ,w,h',R,er,e,k⟩=>?_
 obtain⟨y,h1,f1,e⟩:=of_bnd e
 refine⟨μ,h,ρ,y,h1,R,er,f1,fun μ1 H1 vx E1 R1 rx=>?_⟩
 unfold tabGet at e
 split at e
 .split at e
  .rename_i k' w' el
   cases e
   exact⟨_,_,rfl,rx.str_of,el,fun v hv=>k μ1 H1 _ E1 R1 (hv μ1 H1)⟩
  .cases e
 .cases e
end
noncomputable def keyOf:W→Option Key
 | .int i=>some (.inl i)
 | .str x=>some (.inr x)
 | _=>none
noncomputable def valW(l:List (Key×W))(k:Key):Option W:=(l.find? fun kv=>decide (kv.1=k)).map (·.2)
noncomputable def putW(l:List (Key×W))(k:Key)(v:W):List (Key×W):=
 if (l.any fun kv=>decide (kv.1=k))=true then l.map (fun kv=>if kv.1=k then (kv.1,v) else kv) else l++[(k,v)]
noncomputable def mergeW(l more:List (Key×W)):List (Key×W):=more.foldl (fun acc kv=>putW acc kv.1 kv.2) l
noncomputable def getDi(h:MH):W→Option (List (Key×W))
 | .fdc l=>some l
 | .ref n=>match h[n]? with
  | some (.dic l)=>some l
  | _=>none
 | _=>none
inductive PR(K:PySem.W.Frag)(μ:List Addr)(H:Hp):List (Key×W)→List (Key×V)→Prop
 | nil:PR K μ H [] []
 | cons {k:Key} {w:W} {v:V} {l:List (Key×W)} {l':List (Key×V)}:RW K μ H w v→PR K μ H l l'→PR K μ H ((k,w)::l) ((k,v)::l')
section
variable{K:PySem.W.Frag}{cl:Nat→Addr}{μ μ':List Addr}{H H':Hp}{h:MH}
theorem RKs.pr:∀{l:List (Key×W)} {l':List (Key×V)},RKs K μ H l l'→PR K μ H l l'
 | [],[],_=>.nil
 | [],_::_,⟨k,_⟩=>by simp at k
 | _::_,[],⟨k,_⟩=>by simp at k
 | (k1,w)::l,(k2,v)::l',⟨k,r⟩=>by
  simp only[List.map_cons,List.cons.injEq] at k
  obtain⟨rfl,k⟩:=k
  simp only[List.map_cons] at r
  cases r with | cons r t=>exact .cons r (RKs.pr ⟨k,t⟩)
theorem PR.rk:∀{l:List (Key×W)} {l':List (Key×V)},PR K μ H l l'→RKs K μ H l l'
 | _,_,.nil=>⟨rfl,.nil⟩
 | _,_,.cons r t=>⟨by simp[t.rk.1],.cons r t.rk.2⟩
theorem PR.len:∀{l:List (Key×W)} {l':List (Key×V)},PR K μ H l l'→l.length=l'.length
 | _,_,.nil=>rfl
 | _,_,.cons _ t=>congrArg (· + 1) t.len
theorem PR.val{k:Key}:∀{l:List (Key×W)} {l':List (Key×V)},PR K μ H l l'→match valW l k with
  | some w=>∃v,valV l' k=some v∧RW K μ H w v
  | none=>valV l' k=none
 | _,_,.nil=>rfl
 | _,_,.cons (k:=k') (l:=l) (l':=l') (w:=w) (v:=v) r t=>by
  have ih:=PR.val (k:=k) t
  by_cases q:k'=k
  .have e1:valW ((k',w)::l) k=some w:=by simp[valW,List.find?_cons,q]
   rw[e1]
   exact⟨v,by simp[valV,List.find?_cons,q],r⟩
  .have e1:valW ((k',w)::l) k=valW l k:=by simp[valW,List.find?_cons,q]
   have e2:valV ((k',v)::l') k=valV l' k:=by simp[valV,List.find?_cons,q]
   rw[e1,e2]
   exact ih
theorem PR.any{k:Key}:∀{l:List (Key×W)} {l':List (Key×V)},PR K μ H l l'→(l.any fun kv=>decide (kv.1=k))=(l'.any fun kv=>decide (kv.1=k))
 | _,_,.nil=>rfl
 | _,_,.cons _ t=>by simp only[List.any_cons]; rw[t.any]
theorem PR.map{k:Key}{w:W}{v:V}(r:RW K μ H w v):∀{l:List (Key×W)} {l':List (Key×V)},PR K μ H l l'→PR K μ H (l.map fun kv=>if kv.1=k then (kv.1,w) else kv) (l'.map fun kv=>if kv.1=k then (kv.1,v) else kv)
 | _,_,.nil=>.nil
 | _,_,.cons (k:=k') q t=>by
  simp only[List.map_cons]
  by_cases z:k'=k
  .simp only[z,if_true]; exact .cons r (t.map r)
  .simp only[z,if_false]; exact .cons q (t.map r)
theorem PR.app:∀{l m:List (Key×W)} {l' m':List (Key×V)},PR K μ H l l'→PR K μ H m m'→PR K μ H (l++m) (l'++m')
 | _,_,_,_,.nil,s=>s
 | _,_,_,_,.cons r t,s=>.cons r (t.app s)
theorem PR.put{k:Key}{w:W}{v:V}{l:List (Key×W)}{l':List (Key×V)}(p:PR K μ H l l')(r:RW K μ H w v):PR K μ H (putW l k w) (putK l' k v):=by
 unfold putW putK
 rw[←p.any (k:=k)]
 split
 .exact p.map r
 .exact p.app (.cons r .nil)
theorem PR.merge{more:List (Key×W)}{more':List (Key×V)}{l:List (Key×W)}{l':List (Key×V)}(q:PR K μ H more more')(p:PR K μ H l l'):PR K μ H (mergeW l more) (mergeK l' more'):=by
 induction q generalizing l l' with
 | nil=>exact p
 | cons r t ih=>exact ih (p.put r)
theorem PR.ext(R:HR K cl μ H h)(E:Ext μ H μ' H'):∀{l:List (Key×W)} {l':List (Key×V)},PR K μ H l l'→PR K μ' H' l l'
 | _,_,.nil=>.nil
 | _,_,.cons r t=>.cons (r.ext R E) (t.ext R E)
theorem getDi_of{w:W}{v:V}{l:List (Key×W)}(R:HR K cl μ H h)(r:RW K μ H w v)(e:getDi h w=some l):∃a l',v=.ref a∧Rd H a (.dK l')∧PR K μ H l l':=by
 cases r with
 | @fdc a l0 l' ws vs s kk e1 e2 rs=>cases e; subst e1; subst e2; exact⟨a,l',rfl,s.1,RKs.pr ⟨kk,rs⟩⟩
 | @ref n a hn=>
  simp only[getDi] at e
  split at e
  .rename_i l' ho
   cases e
   obtain⟨l2,hv,rs⟩:=R.ob n a _ hn ho
   exact⟨a,l2,rfl,.inl hv,RKs.pr rs⟩
  .cases e
 | _=>cases e
theorem key_of_rw{w:W}{v:V}{k:Key}(r:RW K μ H w v)(e:keyOf w=some k):v=kV k:=by
 cases r<;>cases e<;>rfl
theorem KQ.fdc{l:List (Key×W)}{l':List (Key×V)}{Q:VK}{p:Addr}(k:KQ K cl μ H h (.fdc l) Q)(R:HR K cl μ H h)(pr:PR K μ H l l')(hp:H p=none):Q (.ref p) (upd H p (.dK l')):=
 k μ _ _ (.side hp) (R.side hp) (.fdc ⟨.inl upd_same,R.fresh hp⟩ (pr.rk.1) rfl rfl ((pr.ext R (.side hp)).rk.2))
end
noncomputable def eDget2(md mk mv:ME):ME:=fun ρ=>bnd (md ρ) fun x h=>if (getDi h x).isSome=true then bnd (mk ρ) (fun y=>bnd (mv ρ) fun z h=>match getDi h x,keyOf y with
  | some l,some k=>some ((valW l k).getD z,h)
  | _,_=>none) h else none
section
variable{X:Cx}{cl:Nat→Addr}{o a b:Expr}{mo ma mb:ME}{apos cpos pos:Pos}
theorem se_dget2(hu:X.A.units+64<cLine)(ho:SE X cl o mo)(ha:SE X cl a ma)(hb:SE X cl b mb)(m:M2 X o "get" apos a b cpos:=by exact⟨rfl,rfl,rfl,rfl⟩):SE X cl (.Call (.Attribute o "get" apos) [a,b] [] cpos) (eDget2 mo ma mb):=
 PE.wk (pe_dget2 (by omega) ho ha hb m) fun σ H Q q0=>by
  obtain⟨μ,h,ρ,w,h',R,er,e,k⟩:=q0
  obtain⟨x,h1,e1,e⟩:=of_bnd e
  split at e
  .rename_i hd
   obtain⟨y,h2,e2,e⟩:=of_bnd e
   obtain⟨z,h3,e3,e⟩:=of_bnd e
   refine⟨μ,h,ρ,x,h1,R,er,e1,fun μ1 H1 vx E1 R1 rx=>?_⟩
   obtain⟨l0,hd⟩:=Option.isSome_iff_exists.mp hd
   obtain⟨d,l',rfl,rd,_⟩:=getDi_of R1 rx hd
   refine⟨d,rfl,.inl ⟨l',rd⟩,μ1,h1,ρ,y,h2,R1,er.ext R E1,e2,fun μ2 H2 vy E2 R2 ry=>⟨μ2,h2,ρ,z,h3,R2,(er.ext R E1).ext R1 E2,e3,fun μ3 H3 vz E3 R3 rz=>?_⟩⟩
   split at e
   .rename_i l k' el ek
    cases e
    obtain⟨d2,l2,ed,rd2,pr⟩:=getDi_of R3 ((rx.ext R1 E2).ext R2 E3) el
    cases ed
    have hk:=key_of_rw ry ek
    subst hk
    refine⟨valV l2 k',.inl ⟨l2,k',rd2,rfl,rfl⟩,?_⟩
    have E:=E1.trans (E2.trans E3)
    have:=pr.val (k:=k')
    cases ev:valW l k' with
    | none=>rw[ev] at this k; rw[this]; exact k μ3 H3 _ E R3 rz
    | some w0=>rw[ev] at this k; obtain⟨v0,e0,r0⟩:=this; rw[e0]; exact k μ3 H3 _ E R3 r0
   .cases e
  .cases e
theorem se_dnew:SE X cl (.Dict [] [] pos) (eC (.fdc [])):=
 PE.wk pe_dnewK fun σ H Q q0=>by
  obtain⟨μ,h,ρ,w,h',R,er,e,k⟩:=q0
  cases e
  exact fun p hp=>k.fdc R .nil hp
noncomputable def eDnew:ME:=fun _ h=>some (.ref h.length,h++[.dic []])
theorem se_dnewM:SE X cl (.Dict [] [] pos) eDnew:=
 PE.wk pe_dnewK fun σ H Q q0=>by
  obtain⟨μ,h,ρ,w,h',R,er,e,k⟩:=q0
  cases e
  exact fun p hp=>k (μ++[p]) _ _ (.new hp) (R.new hp ⟨[],upd_same,rfl,.nil⟩) (.ref (by rw[←R.len]; simp))
end
theorem draws_of{prog:Program}{w:World}{A:Around}{it a:Addr}{P:Nat→Heap→Prop}{C:Heap→List Value→Prop}(S:Stp it a P C)(hh:A.handled=none)(hne:a≠it)(l:List Value) :
  Draws prog w A it [it,a] l.length (fun i v=>l[i]?=some v) (fun i h=>P i h∧C h l) where
 live:=fun _ _ st=>let ⟨o,ho,_⟩:=S.obj st.1; ⟨o,ho⟩
 frame:=fun _ _ _ st hk=>⟨S.keep st.1 fun o e=>hk it (by simp) o e,S.keepC st.2 fun o e=>hk a (by simp) o e⟩
 item:=fun i s Q E hi st hQ=>S.item st.1 st.2 (x:=l[i]) (by simp[hi]) fun h' hit' hs'=>hQ _ h' s.toks (by simp[hi]) ⟨hit',S.keepC st.2 fun o e=>hs'.extBut _ _ hne e⟩ hs'
 done:=fun s Q E st hE=>S.last hh st.1 st.2 (by simp) hE
section
variable{prog:Program}{w:World}{A:Around}{E:Value→Shared→Prop}{s:Shared}
theorem enum_last{e it a:Addr}{P:Nat→Heap→Prop}{C:Heap→List Value→Prop}(S:Stp it a P C){i:Nat}{l:List Value}{j:Int}{old:Value}{Q:Option Value→Shared→Prop}(hh:A.handled=none)
  (he:IsEnum s.heap e it j old) (p:P i s.heap) (c:C s.heap l) (hx:l[i]?=none) (hQ:∀h',Heap.ExtBut it s.heap h'→Q none { s with heap:=h' }):wpAny (model prog w) A (pyNext (.ref e)) Q E s:=by
 have hT:s.TypeIs (.ref e) "enumerate":=⟨_,he,rfl⟩
 unfold pyNext
 refine wpAny_bind (wpAny_attempt (wpAny_callSpecial?_slot (name:=Str.ofString "__next__") hT F.slot_enumerate_next (wpAny_call_entry F.slot_enumerate_next hT F.entry_enumerate_next ?_ (F.args_enumerate_next_1 _))))
 show wpAny _ _ (field (.ref e) 2 >>= _) _ _ _; refine wpAny_bind (wpAny_field he rfl (x:=.ref it) rfl ?_)
 refine wpAny_bind (S.last hh p c hx fun h' x he' hx'=>?_)
 obtain⟨o,ho,hc⟩:=hx'; refine wpAny_bind (wpAny_isInstance (T:="StopIteration") (b:=true) ⟨o,ho,hc⟩ isSubtype_stop ?_); exact wpAny_pure (hQ _ he')
end
theorem enum_new{v:Value}{o:Obj}{C:Heap→Prop}(r:Itb v o C) :
  Meets (Builtin.«enumerate.__new__» ⟨[.type "enumerate",v],[]⟩) (fun _ R s=>C s.heap∧R (.ok (.ret (.ref (s.heap.push o).objs.size))) { s with heap:=(s.heap.push o).push { cls:=.type "enumerate",data:=.fields #[.none,.bool false,.ref s.heap.objs.size,rawInt 0,.none,.none] } }):=
 .of_wp fun prog w A R s h=>by
  obtain⟨hp,g,d,tk,os⟩:=s; obtain⟨k1,h⟩:=h
  have hsub:=sub_enumerate
  have q1:∀{A:Around} {E:Value→Shared→Prop} {Q:Value→Shared→Prop},Q (.ref hp.objs.size) ⟨hp.push o,g,d,tk,os⟩→wpAny (model prog w) A (pyIter v) Q E ⟨hp,g,d,tk,os⟩:=fun q=>r prog w _ _ _ _ k1 q
  wp_walk
  refine wpAny_stack_any fun st=>wpAny_pure ?_
  split
  .rename_i c _ _ _ _ _
   cases (c==Value.type "enumerate")<;>(wp_walk using q1; exact⟨_,rfl,h⟩)
  .wp_walk using q1
   exact⟨_,rfl,h⟩
section
variable{prog:Program}{w:World}{A:Around}{E:Value→Shared→Prop}{s:Shared}
theorem enum_call{v:Value}{o:Obj}{C:Heap→Prop}(r:Itb v o C){Q:Value→Shared→Prop}(k1:C s.heap)(hf:o.isFreed=false)
  (h:∀h',IsEnum h' (s.heap.objs.size+1) s.heap.objs.size 0 .none→h'.get? s.heap.objs.size=some o→(∀c o,s.heap.get? c=some o→h'.get? c=some o)→Q (.ref (s.heap.objs.size+1)) { s with heap:=h' }) :
  wpAny (model prog w) A (call (.type "enumerate") [v]) Q E s:=by
 refine callType_new F.called_enumerate (by decide) (F.typeCall_enumerate_1 _) (F.newCall_enumerate_1 _) (fun obj=>F.args_object_init_2 obj _) F.entry_enumerate_new (enum_new r) ⟨k1,?_⟩
 have hz:(s.heap.push o).objs.size=s.heap.objs.size+1:=Heap.size_push ..
 have b2:((s.heap.push o).push { cls:=.type "enumerate",data:=.fields #[.none,.bool false,.ref s.heap.objs.size,rawInt 0,.none,.none] }).get? (s.heap.push o).objs.size=some _:=Heap.get?_push_size _ rfl
 have b1:((s.heap.push o).push { cls:=.type "enumerate",data:=.fields #[.none,.bool false,.ref s.heap.objs.size,rawInt 0,.none,.none] }).get? s.heap.objs.size=some _:=Heap.get?_push_of_some _ (Heap.get?_push_size _ hf)
 show _∧_
 rw[hz] at b2 ⊢
 exact⟨⟨_,b2,rfl⟩,h _ b2 b1 fun c o x=>Heap.get?_push_of_some _ (Heap.get?_push_of_some _ x)⟩
end
noncomputable def Ite (K : PySem.W.Frag) (tp : Bool) (a : Addr) : It :=
  ⟨fun i H => ∃ xs x, SqX K tp H a xs ∧ xs[i]? = some x,
   fun i H v H' => ∃ p x, H p = none ∧ v = .ref p ∧ H' = upd H p (.tup [.int i, x]) ∧ (∀ xs, SqX K tp H a xs → xs[i]? = some x),
   fun i H => ∃ xs, SqX K tp H a xs ∧ xs.length ≤ i⟩
theorem turn_enum{P:Program}{w:World}{K:PySem.W.Frag}{elts:List Expr}{n:Nat}{tpos:Pos}(tp:Bool)(e it a:Addr)(hne:e≠it) :
  Turn P w K (.Tuple elts n tpos) (Ite K tp a) [e,it] e (fun i h=>(∃old,IsEnum h e it i old)∧Pit tp it a i h) where
 mem:=by simp
 obj:=fun i h st b hb=>by
  obtain⟨⟨old,he⟩,p⟩:=st
  simp only[List.mem_cons,List.not_mem_nil,or_false] at hb
  rcases hb with rfl | rfl
  .exact⟨_,he,fun v q=>by cases q⟩
  .exact(stp_x tp _ a).obj p
 keep:=fun i h h' st k=>by
  obtain⟨⟨old,he⟩,p⟩:=st
  exact⟨⟨old,k e (by simp) _ he⟩,(stp_x tp it a).keep p fun o q=>k it (by simp) o q⟩
 item:=by
  intro X hP hw hK hc i pins s σ H E I hf st hg
  subst hP hw hK
  obtain⟨xs,x,d,hx⟩:=hg
  obtain⟨⟨old,he⟩,p⟩:=st
  obtain⟨l,r,c⟩:=inv_ctn I d
  obtain⟨u,eu,ru⟩:=r.get hx
  have ae:a≠e:=sqx_away I d (hf e (by simp))
  have ai:a≠it:=sqx_away I d (hf it (by simp))
  refine wpAny_pyNext_enum_itemD (draws_of (A:=X.A.in1) (stp_x tp it a) (I.ok.hd hc) ai l) he ⟨p,c⟩ (List.getElem?_eq_some_iff.mp eu).1 hne (by simp[hne,Ne.symm ae]) fun x' h' tk hP ho hst' hT hsz hk=>⟨_,rfl,?_⟩
  rw[eu] at hP
  cases hP
  refine wpAny_letOwnedTupleGo_enum ho fun h2 he2 hs2=>?_
  have elt:e<s.heap.objs.size:=Heap.lt_size he
  have hT2:h2.get? s.heap.objs.size=some { cls:=.type "tuple",data:=.seq #[.int i tk,u] }:=hs2.extBut _ _ (Nat.ne_of_gt elt) hT
  have I2:Inv X pins σ (upd H s.heap.objs.size (.tup [.int i,x])) { s with heap:=h2,toks:=tk+1 }:=inv_turned_new (t':=tk+1) (fp:=[e,it]) I (fun b o hb q=>hs2.extBut _ _ (fun z=>hb (by simp[z])) (hk b o (fun z=>hb (by simp[z])) (fun z=>hb (by simp[z])) q)) hf (Nat.le_refl _)
   ⟨by show 2≤sizeLine; decide,[.int i tk,u],.cons ⟨tk,rfl⟩ (.cons ru .nil),_,hT2,rfl,_,rfl⟩
  refine⟨.ref s.heap.objs.size,_,I2,rfl,⟨_,x,I.hok.fresh (Nat.le_refl _),rfl,rfl,fun xs' q=>by rw[sqx_inj I q d]; exact hx⟩,⟨⟨_,he2⟩,(stp_x tp it a).keep hst'.1 fun o q=>hs2.extBut _ _ (Ne.symm hne) q⟩,fun b hb=>?_⟩
  obtain⟨o,q⟩:∃o,s.heap.get? b=some o:=by
   simp only[List.mem_cons,List.not_mem_nil,or_false] at hb
   rcases hb with rfl | rfl
   .exact⟨_,he⟩
   .obtain⟨o,q,_⟩:=(stp_x tp _ a).obj p; exact⟨o,q⟩
  rw[upd_ne (Nat.ne_of_lt (Heap.lt_size q))]
  exact(hf b hb).1
 done:=by
  intro X hP hw hK hc i pins s σ H E I hf st hg
  subst hP hw hK
  obtain⟨xs,d,hx⟩:=hg
  obtain⟨⟨old,he⟩,p⟩:=st
  obtain⟨l,r,c⟩:=inv_ctn I d
  exact enum_last (stp_x tp it a) (I.ok.hd hc) he p c (List.getElem?_eq_none (by rw[←r.length]; exact hx)) fun h' hx'=>⟨rfl,inv_turned (t':=s.toks) (fp:=[e,it]) I (fun b o hb q=>hx' b o (fun z=>hb (by simp[z])) q) hf⟩
 self:=fun _ _ _ _ _ st h=>by obtain⟨⟨old,he⟩,_⟩:=st; exact wpAny_pyIter_enum he h
noncomputable def numbered(l:List W):List W:=l.zipIdx.map fun p=>.tup [.int (p.2:Nat),p.1]
noncomputable def enumW(ws:List W):M Src:=fun h=>match ws with
 | [x]=>match sndOf h x with
  | some l=>some (.items (numbered l),h)
  | none=>none
 | _=>none
noncomputable def iEnum(ms:List ME):MI:=fun ρ=>bnd (mArgs ms ρ) enumW
theorem numbered_get(l:List W)(i:Nat):(numbered l)[i]?=(l[i]?).map fun w=>.tup [.int (i:Nat),w]:=by
 unfold numbered
 rw[List.getElem?_map,List.getElem?_zipIdx]
 cases l[i]?<;>simp
section
variable{X:Cx}{cl:Nat→Addr}{elts:List Expr}{n:Nat}{tpos p pos:Pos}{e1:Expr}{ms:List ME}
theorem si_enum(hm:X.mg "enumerate" = none)(ha:SA X cl [e1] ms)(hg:Gl X "enumerate":=by rfl)(hst:starEach [e1] X.env=(false,eval e1 X.env)::starEach [] X.env:=by rfl)(hpl:(backTo pos (starEach [] X.env)).any (·.1)=false:=by rfl) :
  SI X cl (.Tuple elts n tpos) (.Call (.Name "enumerate" p) [e1] [] pos) (iEnum ms):=by
 rintro pins s σ H R I ⟨μ,h,ρ,src,h',R0,er,e,k⟩
 obtain⟨ws,h1,e1',e⟩:=of_bnd e
 have hv:bootBuiltins "enumerate" = some (.type "enumerate"):=by decide +kernel
 refine wpAny_Call_Name_kw (ld_blt I hg hm hv ?_ (by decide) (by decide))
 refine PyProof.Rows.callWith_type1 (thn (ha pos pins s σ H (fun vs H1=>∃μ1,Ext μ H μ1 H1∧HR X.K cl μ1 H1 h1∧RWs X.K μ1 H1 ws vs) I ⟨μ,h,ρ,ws,h1,R0,er,e1',fun μ1 H1 vs E1 R1 rs=>⟨μ1,E1,R1,rs⟩⟩) fun us s1 ⟨vs,H1,I1,r1,μ1,E1,R1,rs⟩=>?_) hst hpl
 unfold enumW at e
 split at e
 .rename_i x
  split at e
  .rename_i l q1
   cases e
   cases rs with | cons rx t=>cases t with | nil=>
   obtain⟨t1,a1,xs,rfl,ra1,d1,f1⟩:=sndOf_of (cl:=cl) rx q1
   obtain⟨u1,rfl,ru1⟩:=r1.one
   cases ru1
   obtain⟨l1,v1,c1⟩:=inv_ctn I1 d1
   refine enum_call (itb_x t1 a1 l1) c1 (itO_free t1 a1) fun h2 b2 b1 kp=>?_
   refine wpAny_pyIter_enum b2 ?_
   refine⟨_,_,_,_,H1,rfl,I1.kept (t':=s1.toks) kp,turn_enum t1 _ _ a1 (Nat.succ_ne_self _),⟨⟨_,b2⟩,pit_new b1⟩,fun b hb=>?_,k μ1 H1 _ E1 R1 ?_⟩
   .have hge:s1.heap.objs.size≤b:=by
     simp only[List.mem_cons,List.not_mem_nil,or_false] at hb
     rcases hb with rfl | rfl<;>omega
    exact I1.fpOk hge (I1.hok.fresh hge)
   .intro μ2 H2 h3 E2 R2 i
    have d1':=f1 μ2 H2 h3 R1 E2 R2
    have ra1':=ra1.ext R1 E2
    refine⟨fun w ew=>?_,fun es=>?_⟩
    .have ew':(numbered l)[i]?=some w:=Option.some.inj ew
     rw[numbered_get] at ew'
     cases ez:l[i]? with
     | none=>rw[ez] at ew'; cases ew'
     | some w0=>
      rw[ez] at ew'
      cases ew'
      obtain⟨vx,evx,rvx⟩:=ra1'.get ez
      refine⟨⟨xs,vx,d1',evx⟩,fun v H3 yl=>?_⟩
      obtain⟨pp,x',hp,rfl,rfl,w1⟩:=yl
      have z1:=w1 xs d1'
      rw[evx] at z1
      cases z1
      exact⟨.side hp,R2.side hp,.tup (SqT.of upd_same) (.cons (.int _) (.cons (rvx.ext R2 (.side hp)) .nil))⟩
    .have es':(numbered l)[i]?=none:=Option.some.inj es
     rw[numbered_get] at es'
     refine⟨xs,d1',?_⟩
     rw[←ra1.length]
     cases ez:l[i]? with
     | none=>exact List.getElem?_eq_none_iff.mp ez
     | some w0=>rw[ez] at es'; cases es'
  .cases e
 .cases e
end
noncomputable def met(val:Nat→Str)(i:Nat):List Str:=((List.range i).map val).foldl (fun l v=>if l.any (· == v) then l else l++[v]) []
theorem met_succ(val:Nat→Str)(i:Nat):met val (i+1)=if (met val i).any (· == val i) then met val i else met val i++[val i]:=by
 unfold met; rw[List.range_succ,List.map_append,List.foldl_append]; rfl
theorem met_le(val:Nat→Str):∀i,(met val i).length≤i
 | 0=>Nat.le_refl _
 | i+1=>by
  rw[met_succ]
  have ih:=met_le val i
  split
  .omega
  .rw[List.length_append,List.length_singleton]; omega
theorem met_any(l:List Str)(v k:Str):(if l.any (· == v) then l else l++[v]).any (· == k)=(l.any (· == k)||decide (k=v)):=by
 by_cases h:l.any (· == v)=true
 .rw[if_pos h]
  by_cases e:k=v
  .subst e; rw[h]; simp
  .simp[e]
 .rw[if_neg h,List.any_append]
  by_cases e:k=v
  .subst e; simp
  .have hb:(v==k)=false:=by simpa[beq_iff_eq] using (fun h':v=k=>e h'.symm)
   simp[hb,e]
section
variable{prog:Program}{w:World}{A:Around}{R:Result→Shared→Prop}{I:Addr}{fp wr:List Addr}{G:Array GenState→Array GenState→Prop}{n:Nat}{P:Nat→Value→Prop}{St:Nat→Shared→Prop}
theorem set_loop(W:WalksS prog w A.in1 I fp wr G n P St)(S:Addr)(hSf:S∉fp)(val:Nat→Str)(hval:∀i v,P i v→∃t,v=.str (val i) t)(hb:n+1<scanBound) :
  ∀(k i:Nat) (s:Shared),n-i=k→i≤n→St i s→s.heap.SetOf (strKind prog w) S (fun k'=>(met val i).any (· == k')) (met val i).length→
   (∀s',Moved (S::wr) G s s'→s'.heap.SetOf (strKind prog w) S (fun k'=>(met val n).any (· == k')) (met val n).length→R (.ok (.ret .none)) s')→
   codeAny (model prog w) A (.builtin "set.update.loop" ⟨[.ref S,.ref I],[]⟩) R s:=by
 have hSw:S∉wr:=fun h=>hSf (W.sub _ h)
 have up:∀b∈wr,b∈S::wr:=fun b hb=>List.mem_cons_of_mem _ hb
 have stay:∀{m:Nat} {T:Str→Bool} {s s':Shared},s.heap.SetOf (strKind prog w) S T m→Moved wr G s s'→s'.heap.SetOf (strKind prog w) S T m:=fun hS hm=>by obtain⟨o,es,ep,t,ho,rest⟩:=hS; exact⟨o,es,ep,t,hm.heap S _ hSw ho,rest⟩
 intro k
 induction k with
 | zero=>
  intro i s hk hi hst hS hR
  obtain rfl:i=n:=by omega
  refine codeAny_builtin PyProof.Rows.F.entry_set_update_loop ?_
  rw[Around.under_plainId PyProof.Rows.F.plain_set_update_loop _]
  show wpAny _ A.in1 (pyNext (.ref I) >>= _) _ _ s; refine wpAny_bind (W.done s _ _ hst fun s' hm=>?_)
  show wpAny _ A.in1 (ret Value.none) _ _ s'; exact wpAny_pure (hR s' (hm.mono up) (stay hS hm))
 | succ k ih=>
  intro i s hk hi hst hS hR
  have hlt:i<n:=by omega
  refine codeAny_builtin PyProof.Rows.F.entry_set_update_loop ?_
  rw[Around.under_plainId PyProof.Rows.F.plain_set_update_loop _]
  show wpAny _ A.in1 (pyNext (.ref I) >>= _) _ _ s; refine wpAny_bind (W.item i s _ _ hlt hst fun v s' hP hst' hm=>?_)
  obtain⟨t,rfl⟩:=hval i v hP
  have hS':=stay hS hm
  show wpAny _ A.in1 (holding [Value.str (val i) t] (setAdd S (.str (val i) t)) >>= _) _ _ s'; refine wpAny_bind (wpAny_holding ?_)
  unfold setAdd
  refine wpAny_holding (wpAny_bind ((strKind prog w).pyHash (k:=val i) (strKind_is _ _ _ _) ?_))
  refine wpAny_setAddHashed_of (knd:=strKind prog w) (s:={ s' with toks:=s'.toks+1 }) (strKind_is _ _ _ _) rfl hS' (by have:=met_le val i; omega) fun h' hsb hS2=>?_
  have hSi:h'.SetOf (strKind prog w) S (fun k'=>(met val (i+1)).any (· == k')) (met val (i+1)).length:=SetOf_congr hS2 (fun k'=>by rw[met_succ,met_any]) (by rw[met_succ]; split<;>simp)
  refine wpAny_pure ⟨plainId_quiet PyProof.Rows.F.plain_set_update_loop _,ih (i+1) _ (by omega) hlt (W.frame _ s' _ _ hst' (Nat.le_succ _) fun b hb o e=>?_) hSi fun s'' hm'' hS''=>?_⟩
  .rw[hsb.2 b (fun h:b=S=>hSf (by rw[←h]; exact hb))]; exact e
  .refine hR s'' (Moved.trans W.gtrans ((hm.mono up).then_heap (Nat.le_succ _) fun b o hb e=>?_) hm'') hS''
   rw[hsb.2 b (fun h:b=S=>hb (by rw[h]; exact List.mem_cons_self))]; exact e
end
theorem sub_tuple_set:isSubtype (.type "tuple") (.type "set")=pure false:=by rw[isSubtype_type]; kernel_rfl
theorem sub_tuple_frozenset:isSubtype (.type "tuple") (.type "frozenset")=pure false:=by rw[isSubtype_type]; kernel_rfl
section
variable{prog:Program}{w:World}{A:Around}{E:Value→Shared→Prop}{s:Shared}
set_option maxHeartbeats 3200000 in
theorem call_set{l:Addr}{T:String}{us:List Value}{vals:List Str}{Q:Value→Shared→Prop}(hT:T="list" ∨ T="tuple")(hl:∃o n,s.heap.get? l=some o∧o.cls=.type T∧o.data=.seq us.toArray n)
  (hh:A.handled=none) (hv:∀(i:Nat) (v:Value),us[i]?=some v→∃t,v=Value.str (vals.getD i default) t) (hb:us.length+1<scanBound)
  (h:∀(h':Heap) (tk:Nat),h'.SetOf (strKind prog w) s.heap.objs.size (fun k'=>(met (fun i=>vals.getD i default) us.length).any (· == k')) (met (fun i=>vals.getD i default) us.length).length→
   (∀b o,b<s.heap.objs.size→s.heap.get? b=some o→h'.get? b=some o)→Q (.ref s.heap.objs.size) { s with heap:=h',toks:=tk }):wpAny (model prog w) A (call (.type "set") [.ref l]) Q E s:=by
 obtain⟨c,tl,hmro⟩:=F.called_set.mro
 have f1:=F.called_set.made; have f2:=F.called_set.sub
 refine wpAny_call (codeAny_of_tree ?_)
 show wpAny _ _ (callAny (.type "set") _) _ _ _
 refine wpAny_pure ⟨Code.quiet_builtin _ (by decide +kernel),codeAny_builtin F.entry_type_call ?_⟩
 rw[Around.under_plain (weight_type_call_type "set" [.ref l] []) rfl]
 have f3:=F.called_set.notType; have f4:=F.called_set.canCreate; have f5:=F.typeCall_set_1 (.ref l)
 repeat (any_goals (first | assumption | wp_step))
 refine codeAny_mono (code_set_new_1 (.ref l) (E:=E) (Q₁:=fun obj s₁=>∃led:Bool,obj=.ref s.heap.objs.size∧s₁={ s with heap:=s.heap.push { cls:=.type "set",dict:=none,data:=.set #[] 0 (.fresh 0 0 led) } }) fun led=>⟨led,rfl,rfl⟩) fun r s₁ hr=>?_
 cases r with
 | error e=>exact hr
 | ok fl=>
  cases fl with
  | ret obj=>
   obtain⟨led,rfl,rfl⟩:=hr
   generalize hh1:s.heap.push { cls:=.type "set",dict:=none,data:=.set #[] 0 (.fresh 0 0 led) }=h1
   have old:∀b o,s.heap.get? b=some o→h1.get? b=some o:=fun b o e=>by rw[←hh1]; exact Heap.get?_push_of_some _ e
   have sz:h1.objs.size=s.heap.objs.size+1:=by rw[←hh1,Heap.size_push]
   have hS:h1.get? s.heap.objs.size=some { cls:=.type "set",dict:=none,data:=.set #[] 0 (.fresh 0 0 led) }:=by rw[←hh1]; exact Heap.get?_push_size _ rfl
   have hTy:Shared.TypeIs { s with heap:=h1 } (.ref s.heap.objs.size) "set":=⟨_,hS,rfl⟩
   have g1:=F.called_set.init.lookup; have g2:=F.called_set.init.bind (.ref s.heap.objs.size)
   repeat (any_goals (first | assumption | wp_step))
   refine codeAny_mono (codeAny_call_builtin (R:=wants (fun r s₂=>r=.none∧∃h' tk,s₂={ s with heap:=h',toks:=tk }∧h'.SetOf (strKind prog w) s.heap.objs.size (fun k'=>(met (fun i=>vals.getD i default) us.length).any (· == k')) (met (fun i=>vals.getD i default) us.length).length ∧
     (∀b o,b<s.heap.objs.size→s.heap.get? b=some o→h'.get? b=some o)) E) F.called_set.init.plain F.entry_set_init (check_set_init_1 hTy ?_)) fun r₂ s₂ hr₂=>?_
   .obtain⟨⟨oc,od,odt,osl⟩,nl,hol,hcl,hdl⟩:=hl
    simp only at hcl hdl
    subst hcl hdl
    have hol':=old _ _ hol
    have hlS:l<s.heap.objs.size:=Heap.lt_size hol
    have hh3:A.in1.in1.in1.handled=none:=by simp[hh]
    have hneI:l≠h1.objs.size:=Nat.ne_of_lt (by rw[sz]; exact Nat.lt_succ_of_lt hlS)
    have hSf:s.heap.objs.size∉[h1.objs.size,l]:=by
     simp only[List.mem_cons,List.not_mem_nil,or_false,not_or]
     exact⟨Nat.ne_of_lt (by rw[sz]; exact Nat.lt_succ_self _),Nat.ne_of_gt hlS⟩
    have hS0:∀o,(h1.push o).SetOf (strKind prog w) s.heap.objs.size (fun k'=>(met (fun i=>vals.getD i default) 0).any (· == k')) (met (fun i=>vals.getD i default) 0).length:=fun o=>
     SetOf_congr ((setObjOf_fresh (knd:=strKind prog w) led).setOf (Heap.get?_push_of_some _ hS) (by unfold scanBound; omega)) (fun _=>rfl) rfl
    have fin:∀{o:Obj} (s':Shared) {Q':Flow→Shared→Prop},Moved [s.heap.objs.size,h1.objs.size] (fun a b=>b=a) { s with heap:=h1.push o } s'→s'.heap.SetOf (strKind prog w) s.heap.objs.size (fun k'=>(met (fun i=>vals.getD i default) us.length).any (· == k')) (met (fun i=>vals.getD i default) us.length).length→
      (∃h' tk,s'={ s with heap:=h',toks:=tk }∧h'.SetOf (strKind prog w) s.heap.objs.size (fun k'=>(met (fun i=>vals.getD i default) us.length).any (· == k')) (met (fun i=>vals.getD i default) us.length).length∧(∀b o,b<s.heap.objs.size→s.heap.get? b=some o→h'.get? b=some o)):=by
     intro o s' _ hm hS'
     obtain⟨h',g',d',tk',os'⟩:=s'
     obtain rfl:g'=s.gens:=hm.gens
     obtain rfl:d'=s.drawn:=hm.drawn
     obtain rfl:os'=s.os:=hm.os
     exact⟨h',tk',rfl,hS',fun b o hb e=>hm.heap b o (by simp only[List.mem_cons,List.not_mem_nil,or_false,not_or]; exact⟨Nat.ne_of_lt hb,Nat.ne_of_lt (by rw[sz]; exact Nat.lt_succ_of_lt hb)⟩) (Heap.get?_push_of_some _ (old _ _ e))⟩
    rcases hT with rfl | rfl
    .have a1:=F.sub_list_set; have a2:=F.sub_list_frozenset
     have a3:(Value.type "list" == Value.type "dict")=false:=by decide
     have hl1:h1.IsList l us.toArray:=⟨_,hol',rfl,nl,rfl⟩
     unfold Builtin.«set.__init__» noKeywords Builtin.Frozenset.updateFrom
     generalize hPI:pyIter=PI
     wp_walk
     subst hPI
     refine wpAny_pyIter_list hl1 (wpAny_bind (wpAny_runValue ?_))
     refine set_loop ((Walks.list hh3 _ l hneI us.toArray).toS) s.heap.objs.size hSf (fun i=>vals.getD i default) (fun i v e=>hv i v (by simpa using e)) (by simpa using hb) (us.toArray.size-0) 0 _ (by omega) (Nat.zero_le _) ⟨⟨_,Heap.get?_push_size _ rfl,rfl,rfl⟩,hl1.push _⟩ (hS0 _) fun s' hm hS'=>?_
     show wpAny _ _ _ _ _ _
     refine wpAny_pure ?_
     show wpAny _ _ (ret Value.none) _ _ _
     exact wpAny_pure ⟨rfl,fin (Q':=fun _ _=>True) s' hm (by simpa using hS')⟩
    .have a1:=sub_tuple_set; have a2:=sub_tuple_frozenset
     have a3:(Value.type "tuple" == Value.type "dict")=false:=by decide
     have hl1:h1.IsTuple l us.toArray:=⟨_,hol',rfl,nl,rfl⟩
     unfold Builtin.«set.__init__» noKeywords Builtin.Frozenset.updateFrom
     generalize hPI:pyIter=PI
     wp_walk
     subst hPI
     refine wpAny_pyIter_tuple hl1 (wpAny_bind (wpAny_runValue ?_))
     refine set_loop ((Walks.tuple hh3 _ l hneI us.toArray).toS) s.heap.objs.size hSf (fun i=>vals.getD i default) (fun i v e=>hv i v (by simpa using e)) (by simpa using hb) (us.toArray.size-0) 0 _ (by omega) (Nat.zero_le _) ⟨⟨_,Heap.get?_push_size _ rfl,rfl,rfl⟩,hl1.at fun o e=>Heap.get?_push_of_some _ e⟩ (hS0 _) fun s' hm hS'=>?_
     show wpAny _ _ _ _ _ _
     refine wpAny_pure ?_
     show wpAny _ _ (ret Value.none) _ _ _
     exact wpAny_pure ⟨rfl,fin (Q':=fun _ _=>True) s' hm (by simpa using hS')⟩
   .cases r₂ with
    | error e=>exact hr₂
    | ok fl₂=>
     cases fl₂ with
     | ret r=>
      obtain⟨rfl,h',tk,rfl,hS',hk'⟩:=hr₂
      repeat (any_goals (first | assumption | wp_step))
      exact h _ _ hS' hk'
     | _=>exact hr₂.elim
  | _=>exact hr.elim
end
end ML
namespace ML
open PySem PySem.Spec PyProof.Rows L2
noncomputable def strsOf:List W→Option (List Str)
 | []=>some []
 | .str b::r=>match strsOf r with
  | some l=>some (b::l)
  | none=>none
 | _=>none
noncomputable def unlike(l:List Str):List Str:=l.foldl (fun l v=>if l.any (· == v) then l else l++[v]) []
noncomputable def lenSet(w:W):M W:=fun h=>match seqOf h w with
 | some l=>match strsOf l with
  | some bs=>if bs.length≤1000 then some (.int (unlike bs).length,h) else none
  | none=>none
 | none=>none
section
variable{K:PySem.W.Frag}{μ:List Addr}{H:Hp}
theorem strs_vals:∀{l:List W} {vs:List V} {us:List Value} {bs:List Str},strsOf l=some bs→RWs K μ H l vs→Vals vs us→us.length=bs.length∧∀(i:Nat) (u:Value),us[i]?=some u→∃t,u=Value.str (bs.getD i default) t
 | [],_,_,_,e,.nil,.nil=>by cases e; exact⟨rfl,fun i u e=>by simp at e⟩
 | .str b::r,_,_,_,e,.cons rb rr,.cons tb tr=>by
  unfold strsOf at e
  split at e
  .rename_i l e'
   cases e
   cases rb
   obtain⟨t,rfl⟩:=tb
   obtain⟨h1,h2⟩:=strs_vals e' rr tr
   refine⟨by simp[h1],fun i u e=>?_⟩
   cases i with
   | zero=>simp at e; subst e; exact⟨t,rfl⟩
   | succ i=>simpa using h2 i u (by simpa using e)
  .cases e
 | .non::r,_,_,_,e,_,_=>by cases e
 | .bl _::r,_,_,_,e,_,_=>by cases e
 | .int _::r,_,_,_,e,_,_=>by cases e
 | .tup _::r,_,_,_,e,_,_=>by cases e
 | .fls _::r,_,_,_,e,_,_=>by cases e
 | .ref _::r,_,_,_,e,_,_=>by cases e
 | .fdc _::r,_,_,_,e,_,_=>by cases e
 | .fn _::r,_,_,_,e,_,_=>by cases e
end
theorem met_all(bs:List Str):met (fun i=>bs.getD i default) bs.length=unlike bs:=by
 unfold met unlike
 congr 1
 apply List.ext_getElem
 .simp
 .intro i h1 h2; simp at h1; simp[h1]
section
variable{X:Cx}{cl:Nat→Addr}{a:Expr}{ma:ME}{p p2 p3 pos:Pos}
theorem se_lenSet(hc:X.calm=true)(hl:X.mg "len" = none)(hs:X.mg "set" = none)(ha:SE X cl a ma)(hg:Gl X "len":=by rfl)(hg2:Gl X "set":=by rfl)
  (he1:starEach [a] X.env=(false,eval a X.env)::starEach [] X.env:=by rfl) (hpl1:(backTo p3 (starEach [] X.env)).any (·.1)=false:=by rfl)
  (he2:starEach [.Call (.Name "set" p2) [a] [] p3] X.env=(false,eval (.Call (.Name "set" p2) [a] [] p3) X.env)::starEach [] X.env:=by rfl) (hpl2:(backTo pos (starEach [] X.env)).any (·.1)=false:=by rfl) :
  SE X cl (.Call (.Name "len" p) [.Call (.Name "set" p2) [a] [] p3] [] pos) (eUn lenSet ma):=by
 rintro pins s σ H Q I ⟨μ,h,ρ,w,h',R,er,e,k⟩
 obtain⟨x,h1,e1,e⟩:=of_bnd e
 have hv:bootBuiltins "set" = some (.type "set"):=by decide +kernel
 refine wpAny_Call_Name_kw (ld_blt I hg hl PySem.boot_len ?_ (by decide) (by decide))
 refine PyProof.Rows.callWith_builtin1 ?_ he2 hpl2
 rw[he2]
 show wpAny _ _ (spliced ((false,eval (.Call (.Name "set" p2) [a] [] p3) X.env)::backTo pos (starEach [] X.env))) _ _ s
 have h0:∀{q:Pos},backTo q (starEach [] X.env)=[]:=fun {q}=>rfl
 rw[h0]
 refine Calls.spliced_cons ?_
 refine wpAny_Call_Name_kw (ld_blt I hg2 hs hv ?_ (by decide) (by decide))
 refine PyProof.Rows.callWith_type1 ?_ he1 hpl1
 rw[he1]
 show wpAny _ _ (spliced ((false,eval a X.env)::backTo p3 (starEach [] X.env))) _ _ s
 rw[h0]
 refine Calls.spliced_cons (thn (ha pins s σ H (fun v H1=>∃μ1,Ext μ H μ1 H1∧HR X.K cl μ1 H1 h1∧RW X.K μ1 H1 x v) I ⟨μ,h,ρ,x,h1,R,er,e1,fun μ1 H1 v E1 R1 r=>⟨μ1,E1,R1,r⟩⟩) fun u s1 ⟨v,H1,I1,r1,μ1,E1,R1,rv⟩=>Calls.spliced_nil ?_)
 unfold lenSet at e
 split at e
 .rename_i l el
  split at e
  .rename_i bs eb
   split at e
   .rename_i hlen
    cases e
    obtain⟨d,vs,rfl,sq,ra⟩:=seqOf_of R1 rv el
    cases r1
    have fin:∀{us:List Value} {T:String},(T="list" ∨ T="tuple")→Vals vs us→(∃o n,s1.heap.get? d=some o∧o.cls=.type T∧o.data=.seq us.toArray n)→wpAny (model X.prog X.w) X.A (call (.type "set") [.ref d]) (fun v s₂=>wpAny (model X.prog X.w) X.A (call (.builtin "len") [v]) (EP X pins σ Q) X.xe s₂) X.xe s1:=by
     intro us T hT rv ho
     obtain⟨hlu,hvu⟩:=strs_vals eb ra rv
     refine call_set hT ho (I1.ok.hd hc) hvu (by unfold scanBound; omega) fun h2 tk hS kp=>?_
     rw[hlu,met_all] at hS
     have I2:Inv X pins σ H1 { s1 with heap:=h2,toks:=tk }:=I1.kept (t':=tk) fun b o e=>kp b o (Heap.lt_size e) e
     obtain⟨o,es,ep,t,go,hex,hd,hel,hmem,hlt,hf,hn⟩:=hS
     refine call_len_set (s:={ s1 with heap:=h2,toks:=tk }) go hex hd hf (by unfold scanBound at hlt; omega) ⟨.int _,H1,I2.tok _,⟨_,rfl⟩,?_⟩
     rw[hn]
     exact k μ1 H1 _ E1 R1 (.int _)
    rcases sq with sq | sq
    .obtain⟨its,rv,⟨o,n,g1,g2,g3,g4⟩,_⟩:=I1.list sq
     exact wpAny_mono (fin (.inl rfl) rv ⟨o,n,g1,g2,g4⟩) (fun v s₂ q=>Calls.spliced_nil q) fun _ _ e=>e
    .obtain⟨its,rv,⟨o,g1,g2,n,g4⟩,_⟩:=I1.tuple sq
     exact wpAny_mono (fin (.inr rfl) rv ⟨o,n,g1,g2,g4⟩) (fun v s₂ q=>Calls.spliced_nil q) fun _ _ e=>e
   .cases e
  .cases e
 .cases e
end
noncomputable def mPairs:List (ME×ME)→En→M (List (W×W))
 | [],_=>fun h=>some ([],h)
 | (a,b)::r,ρ=>bnd (a ρ) fun x=>bnd (b ρ) fun y=>bnd (mPairs r ρ) fun ps h=>some ((x,y)::ps,h)
noncomputable def keysOf:List (W×W)→Option (List (Key×W))
 | []=>some []
 | (x,y)::r=>match keyOf x,keysOf r with
  | some k,some l=>some ((k,y)::l)
  | _,_=>none
open Classical in
noncomputable def eDisp(ms:List (ME×ME)):ME:=fun ρ h=>match mPairs ms ρ (h++[.dic []]) with
 | some (ps,h2)=>match keysOf ps with
  | some l=>if h2=h++[.dic []]∧l.length≤15∧lows h.length (l.map (·.2))=true then some (.fdc (mergeW [] l),h) else none
  | none=>none
 | none=>none
section
variable{K:PySem.W.Frag}{cl:Nat→Addr}{μ μ':List Addr}{H H':Hp}{h:MH}
inductive PW2(K:PySem.W.Frag)(μ:List Addr)(H:Hp):List (W×W)→List (V×V)→Prop
 | nil:PW2 K μ H [] []
 | cons {x y:W} {u v:V} {l:List (W×W)} {l':List (V×V)}:RW K μ H x u→RW K μ H y v→PW2 K μ H l l'→PW2 K μ H ((x,y)::l) ((u,v)::l')
theorem PW2.keys:∀{l:List (W×W)} {l':List (V×V)} {ks:List (Key×W)},PW2 K μ H l l'→keysOf l=some ks→∃ks':List (Key×V),l'=ks'.map (fun kv=>(kV kv.1,kv.2))∧PR K μ H ks ks'
 | _,_,_,.nil,e=>by cases e; exact⟨[],rfl,.nil⟩
 | _,_,_,.cons rx ry t,e=>by
  unfold keysOf at e
  split at e
  .rename_i k l e1 e2
   cases e
   obtain⟨ks',h1,h2⟩:=t.keys e2
   have:=key_of_rw rx e1
   subst this
   exact⟨(k,_)::ks',by simp[h1],.cons ry h2⟩
  .cases e
theorem PR.cut(pre:μ<+:μ'){l:List (Key×W)}{l':List (Key×V)}(p:lows μ.length (l.map (·.2))=true)(q:PR K μ' H l l'):PR K μ H l l':=by
 induction q with
 | nil=>exact .nil
 | @cons k w v l l' r t ih=>
  have p':ML.low μ.length w=true∧lows μ.length (l.map (·.2))=true:=by
   simp only[List.map_cons] at p; unfold lows at p; simpa using p
  exact .cons (RW.cut pre p'.1 r) (ih p'.2)
theorem pairs_read:∀{ms:List (ME×ME)} {μ:List Addr} {H:Hp} {h:MH} {σ:L2.St} {Q:List (V×V)→Hp→Prop} {ρ:En} {ps:List (W×W)} {h':MH},HR K cl μ H h→ER K μ H ρ σ→mPairs ms ρ h=some (ps,h')→
  (∀μ' H' ps',Ext μ H μ' H'→HR K cl μ' H' h'→PW2 K μ' H' ps ps'→Q ps' H')→tPairs (ms.map fun p=>(tM K cl p.1,tM K cl p.2)) σ H Q
 | [],μ,H,h,σ,Q,ρ,ps,h',R,er,e,k=>by cases e; exact k μ H [] .refl R .nil
 | (a,b)::r,μ,H,h,σ,Q,ρ,ps,h',R,er,e,k=>by
  obtain⟨x,h1,e1,e⟩:=of_bnd e
  obtain⟨y,h2,e2,e⟩:=of_bnd e
  obtain⟨qs,h3,e3,e⟩:=of_bnd e
  cases e
  exact⟨μ,h,ρ,x,h1,R,er,e1,fun μ1 H1 vx E1 R1 rx=>⟨μ1,h1,ρ,y,h2,R1,er.ext R E1,e2,fun μ2 H2 vy E2 R2 ry=>
   pairs_read R2 ((er.ext R E1).ext R1 E2) e3 fun μ3 H3 ps' E3 R3 pw=>k μ3 H3 _ (E1.trans (E2.trans E3)) R3 (.cons ((rx.ext R1 E2).ext R2 E3) (ry.ext R2 E3) pw)⟩⟩
end
section
variable{X:Cx}{cl:Nat→Addr}{pos:Pos}{keys:List (Option Expr)}{values:List Expr}{ms:List (ME×ME)}{k v:Expr}{mk mv:ME}
noncomputable def SPs(X:Cx)(cl:Nat→Addr)(pos:Pos)(keys:List (Option Expr))(values:List Expr)(ms:List (ME×ME)):Prop:=PPs X pos keys values (ms.map fun p=>(tM X.K cl p.1,tM X.K cl p.2))
theorem sp_nil:SPs X cl pos [] [] []:=pps_nil
theorem sp_cons(hk:SE X cl k mk)(hv:SE X cl v mv)(hr:SPs X cl pos keys values ms):SPs X cl pos (some k::keys) (v::values) ((mk,mv)::ms):=pps_cons hk hv hr
theorem se_disp(hp:SPs X cl pos keys values ms)(hall:keys.all (·.isSome)=true:=by rfl)(hl:keys.length=values.length:=by rfl)(h0:keys≠[]:=by exact fun z=>nomatch z)(h15:keys.length≤15:=by decide):SE X cl (.Dict keys values pos) (eDisp ms):=
 PE.wk (pe_disp hp hall hl h0 h15) fun σ H Q q0=>by
  obtain⟨μ,h,ρ,w,h',R,er,e,kq⟩:=q0
  unfold eDisp at e
  split at e
  .rename_i ps h2 e1
   split at e
   .rename_i l el
    split at e
    .rename_i c
     obtain⟨rfl,c2,c3⟩:=c
     cases e
     intro p hp
     have R1:HR X.K cl (μ++[p]) (upd H p (.dK [])) (h++[.dic []]):=R.new hp ⟨[],upd_same,rfl,.nil⟩
     refine pairs_read R1 (er.ext R (.new hp)) e1 fun μ2 H2 ps' E2 R2 pw=>?_
     have hμ:μ2[h.length]?=some p:=E2.get (by rw[←R.len]; simp)
     obtain⟨l0,ho,r0⟩:=R2.ob h.length p (.dic []) hμ (by simp)
     have hl0:l0=[]:=by
      have:=r0.1
      cases l0 with
      | nil=>rfl
      | cons=>simp at this
     subst hl0
     obtain⟨ks',rfl,pr⟩:=pw.keys el
     refine⟨ho,ks',rfl,by rw[←pr.len]; exact c2,?_⟩
     have E3:Ext μ2 H2 μ2 (upd H2 p (.dK (mergeK [] ks'))):=.put hμ
     have pm:PR X.K μ2 (upd H2 p (.dK (mergeK [] ks'))) (mergeW [] l) (mergeK [] ks'):=(pr.ext R2 E3).merge .nil
     have R3:=R2.put (o:=.dic (mergeW [] l)) hμ ⟨mergeK [] ks',upd_same,pm.rk⟩
     have E:Ext μ H μ2 (upd H2 p (.dK (mergeK [] ks'))):=(Ext.new hp).trans (E2.trans E3)
     have pre:h<+:(h++[MO.dic []]).set h.length (.dic (mergeW [] l)):=by
      rw[List.set_append_right _ _ (Nat.le_refl _)]
      exact List.prefix_append _ _
     have R4:=R.cut E R3 pre
     have pc:=((PR.cut E.pre (by rw[R.len]; exact c3) (pr.ext R2 E3)).merge (.nil:PR X.K μ _ [] []))
     exact kq μ _ _ ⟨List.prefix_refl _,fun b o e n=>⟨(E.fr b o e n).1,n⟩⟩ R4 (.fdc ⟨.inl upd_same,R.fresh hp⟩ pc.rk.1 rfl rfl pc.rk.2)
    .cases e
   .cases e
  .cases e
end
theorem pick_rev(l:List Value):(List.range l.length).filterMap (fun(k:Nat)=>l.toArray[(((l.length:Int)-1)+(k:Int)*(-1)).toNat]?)=l.reverse:=by
 apply List.ext_getElem?
 intro i
 have e:(List.range l.length).filterMap (fun(k:Nat)=>l.toArray[(((l.length:Int)-1)+(k:Int)*(-1)).toNat]?)=(List.range l.length).map (fun k=>l.getD (l.length-1-k) default):=by
  have fm:∀{f:Nat→Option Value} {g:Nat→Value} (l:List Nat),(∀x∈l,f x=some (g x))→l.filterMap f=l.map g:=by
   intro f g l
   induction l with
   | nil=>intro _; rfl
   | cons x r ih=>
    intro hx
    rw[List.filterMap_cons,hx x List.mem_cons_self,List.map_cons,ih fun y hy=>hx y (List.mem_cons_of_mem _ hy)]
  refine fm _ fun k hk=>?_
  rw[List.mem_range] at hk
  have e1:(((l.length:Int)-1)+(k:Int)*(-1)).toNat=l.length-1-k:=by omega
  rw[e1]
  simp[List.getD,List.getElem?_eq_getElem (show l.length-1-k<l.length by omega)]
 rw[e,List.getElem?_map]
 by_cases hi:i<l.length
 .rw[List.getElem?_range hi,List.getElem?_reverse hi]
  simp[List.getD,List.getElem?_eq_getElem (show l.length-1-i<l.length by omega)]
 .rw[List.getElem?_eq_none (by simpa using hi),List.getElem?_eq_none (by simpa using hi)]
  rfl
section
variable{prog:Program}{w:World}{A:Around}{E:Value→Shared→Prop}{s:Shared}
open HT in
theorem applied_rev{sl:Addr}{n:Nat}{t:Tok}{Q:Int×Int×Nat→Shared→Prop}(hs:s.heap.IsSliceOf sl .none .none (.int (-1) t))(h:Q ((n:Int)-1,-1,n) s):wpAny (model prog w) A (Builtin.Slice.sliceApplied (.ref sl) (pure (n:Int))) Q E s:=by
 obtain⟨os,hos,hcs,hds⟩:=id hs
 unfold Builtin.Slice.sliceApplied Builtin.Slice.sliceFields
 refine wpAny_bind (wpAny_bind (wpAny_field hos hds (x:=.none) rfl (wpAny_bind (wpAny_field hos hds (x:=.none) rfl (wpAny_bind (wpAny_field hos hds (x:=.int (-1) t) rfl (wpAny_pure ?_)))))))
 refine wpAny_bind (slicePart_int ?_)
 show wpAny _ _ (if ((-1:Int)==0)=true then _ else _) _ _ s
 rw[if_neg (by decide)]
 refine wpAny_bind (slicePart_none (wpAny_bind (slicePart_none (wpAny_bind (wpAny_pure ?_)))))
 show wpAny _ _ (match Builtin.Slice.sliceAdjust none none (-1) (n:Int) with | (lo,hi)=>pure (lo,(-1:Int),Builtin.Slice.slicePlaces lo hi (-1))) _ _ s
 have e1:Builtin.Slice.sliceAdjust none none (-1) (n:Int)=((n:Int)-1,-1):=by
  unfold Builtin.Slice.sliceAdjust
  simp
 rw[e1]
 have e2:Builtin.Slice.slicePlaces ((n:Int)-1) (-1) (-1)=n:=by
  unfold Builtin.Slice.slicePlaces
  by_cases h0:n=0
  .subst h0; decide
  .rw[if_neg (by decide),if_pos (by omega)]
   show(((n:Int)-1 - -1-1)/(- -1)+1).toNat=n
   rw[show(- -1:Int)=1 by decide,Int.ediv_one]
   omega
 refine wpAny_pure ?_
 rw[e2]
 exact h
theorem getItem_tuple_rev{t sl:Addr}{items:List Value}{tk:Tok}{Q:Value→Shared→Prop}(ht:IsTup s.heap t items.toArray)(hs:s.heap.IsSliceOf sl .none .none (.int (-1) tk))(hz:items.length≤sizeLine)
  (h:Q (.ref s.heap.objs.size) { s with heap:=s.heap.push { cls:=.type "tuple",data:=.seq items.reverse.toArray } }):wpAny (model prog w) A (getItem (.ref t) (.ref sl)) Q E s:=by
 obtain⟨os,hos,hcs,hds⟩:=id hs
 have hTs:s.TypeIs (.ref sl) "slice":=⟨os,hos,hcs⟩
 unfold getItem
 try with_reducible refine wpAny_holding ?_
 first | refine wpAny_bind (wpAny_pure ?_) | skip
 refine wpAny_bind (wpAny_sequenceKey ht.typeIs (by decide) ?_)
 refine wpAny_bind (wpAny_callSpecial?_slot (name:=Str.ofString "__getitem__") ht.typeIs PyProof.Rows.slot_tuple_getitem
  (wpAny_call_entry PyProof.Rows.slot_tuple_getitem ht.typeIs entry_tuple_getitem ?_ (args_tuple_getitem _ _)))
 show wpAny _ _ (Builtin.Tuple.tupleItemsOf (.ref t) >>= _) _ _ s
 refine wpAny_bind (tupleItemsOf_ ht ?_)
 refine wpAny_bind (wpAny_typeOf hTs ?_)
 rw[if_pos (by decide)]
 refine wpAny_bind (applied_rev hs ?_)
 have hno:¬((((items.toArray.size:Int)-1)==0&&(-1:Int)==1&&items.toArray.size==items.toArray.size)=true):=by simp
 show wpAny _ _ (if ((((items.toArray.size:Int)-1)==0&&(-1:Int)==1&&items.toArray.size==items.toArray.size)=true) then _ else _) _ _ s
 rw[if_neg hno]
 have hp:((List.range items.toArray.size).filterMap fun(k:Nat)=>items.toArray[(((items.toArray.size:Int)-1)+(k:Int)*(-1)).toNat]?)=items.reverse:=by
  rw[List.size_toArray]; exact pick_rev items
 rw[hp]
 have htake:sizeOk (Data.seq items.reverse.toArray):=by
  show items.reverse.toArray.size≤sizeLine
  simpa using hz
 first
  | exact wpAny_bind (m:=Builtin.Tuple.tupleExact _) (wpAny_newObj_type (wpAny_pure ⟨_,rfl,wpAny_pure h⟩) htake)
  | exact wpAny_bind (m:=Builtin.Tuple.tupleExact _) (wpAny_newObj_type (wpAny_bind (wpAny_pure (wpAny_pure ⟨_,rfl,wpAny_pure h⟩))) htake)
  | exact wpAny_bind (wpAny_bind (m:=Builtin.Tuple.tupleExact _) (wpAny_newObj_type (wpAny_pure (wpAny_pure ⟨_,rfl,wpAny_pure h⟩)) htake))
  | exact wpAny_bind (wpAny_bind (m:=Builtin.Tuple.tupleExact _) (wpAny_newObj_type (wpAny_pure ⟨_,rfl,wpAny_pure h⟩) htake))
end
noncomputable def revW(w:W):M W:=fun h=>match w with
 | .tup l=>some (.tup l.reverse,h)
 | _=>none
section
variable{X:Cx}{cl:Nat→Addr}{a:Expr}{ma:ME}{pos p2 p3 p4:Pos}{j:Nat}
theorem se_rev(ha:SE X cl a ma):SE X cl (.Subscript a (.Slice none none (some (.UnaryOp .USub (.Constant (.int 1) j p4) p3)) p2) pos) (eUn revW ma):=by
 rintro pins s σ H Q I ⟨μ,h,ρ,w,h',R,er,e,k⟩
 obtain⟨x,h1,e1,e⟩:=of_bnd e
 refine Subscript_ (thn (ha pins s σ H (fun v H1=>∃μ1,Ext μ H μ1 H1∧HR X.K cl μ1 H1 h1∧RW X.K μ1 H1 x v) I ⟨μ,h,ρ,x,h1,R,er,e1,fun μ1 H1 v E1 R1 r=>⟨μ1,E1,R1,r⟩⟩) fun u s1 ⟨v,H1,I1,r1,μ1,E1,R1,rv⟩=>?_)
 have step:PO X (some (.UnaryOp .USub (.Constant (.int 1) j p4) p3)) (fun _ H Q=>Q (some (-1)) H):=by
  refine PO.wk (po_some (pe_un (X:=X) un_neg pe_int)) fun σ H Q q=>?_
  exact⟨1,rfl,-1,rfl,q⟩
 refine wpAny_Slice ?_
 rw[evalPart_none]
 refine wpAny_pure ?_
 refine wpAny_pure ?_
 refine thn (step pins s1 σ H1 (fun o H2=>o=some (-1)∧H2=H1) I1 ⟨rfl,rfl⟩) fun vs s2 ⟨o,H2,I2,ps,eo,eH⟩=>?_
 subst eo eH
 have hsl:=Heap.IsSliceOf.new s2.heap .none .none vs
 cases ps with | int i t=>
 have I3:Inv X pins σ H2 { s2 with heap:=s2.heap.push { cls:=.type "slice",data:=.fields #[.none,.none,.int (-1) t] } }:=I2.kept (t':=s2.toks) fun b ob q=>Heap.get?_push_of_some _ q
 unfold revW at e
 split at e
 .rename_i l
  cases e
  obtain⟨d,vs,rfl,sq,ra⟩:=rv.tup_of
  cases r1
  obtain⟨its,rr,ht,hz⟩:=I3.tuple sq
  refine tail_any (ops:=[.ref d,.ref s2.heap.objs.size]) ht.typeIs PyProof.Rows.slot_tuple_getitem.lookup (getItem_tuple_rev ht hsl (by rw[←rr.length]; exact hz) ?_) (by with_unfolding_all rfl)
  refine⟨.ref _,_,I3.laid (t':=s2.toks) (o:=.tup vs.reverse) (fun b ob q=>Heap.get?_push_of_some _ q) (Nat.le_refl _) ⟨by rw[List.length_reverse]; exact hz,_,rr.reverse,IsTup.new _ _⟩,rfl,(k.ext E1).tup R1 ra.reverse I3.fresh⟩
 .cases e
end
noncomputable def pairsOf:List W→Option (List (W×W))
 | []=>some []
 | .tup [x,y]::r=>match pairsOf r with
  | some l=>some ((x,y)::l)
  | none=>none
 | _=>none
noncomputable def dictW(ws:List W):M W:=fun h=>match ws with
 | [w]=>match getDi h w with
  | some l=>some (.fdc l,h)
  | none=>match getL h w with
   | some l=>match pairsOf l with
    | some ps=>match keysOf ps with
     | some ks=>if ks.length≤1000 then some (.fdc (mergeW [] ks),h) else none
     | none=>none
    | none=>none
   | none=>none
 | _=>none
theorem lk_keys{T:String}(h:T="list" ∨ T="tuple" ∨ T="zip"):typeLookup (.type T) "keys" = pure none:=by
 rcases h with rfl | rfl | rfl<;>(rw[typeLookup_type,builtinLookup_eq_fast]; kernel_rfl)
theorem lk_hook{T:String}(h:T="list" ∨ T="tuple" ∨ T="zip"):typeLookup (.type T) "__getattr__" = pure none:=by
 rcases h with rfl | rfl | rfl<;>(rw[typeLookup_type,builtinLookup_eq_fast]; kernel_rfl)
theorem sub_attr:isSubtype (.type "AttributeError") (.type "AttributeError")=pure true:=by rw[isSubtype_type]; kernel_rfl
section
variable{prog:Program}{w:World}{A:Around}{E:Value→Shared→Prop}{s:Shared}
theorem note_ok{e:Addr}{v0 v1 v2 v3 v4 v5 o name:Value}{Q:Unit→Shared→Prop}(he:s.heap.get? e=some { cls:=.type "AttributeError",data:=.fields #[v0,v1,v2,v3,v4,v5,rawInt 0,rawInt 0] })
  (hq:∀h' ob,Heap.ExtBut e s.heap h'→h'.get? e=some ob→ob.cls=.type "AttributeError"→Q () { s with heap:=h' }):wpAny (model prog w) A (noteAttr (.ref e) o name) Q E s:=by
 have hT:s.TypeIs (.ref e) "AttributeError":=⟨_,he,rfl⟩
 unfold noteAttr
 refine wpAny_bind ?_
 unfold lacksNameAndObj
 refine wpAny_bind (wpAny_isInstance hT sub_attr ?_)
 simp only[Bool.not_true,Bool.false_eq_true,if_false]
 refine wpAny_bind (wpAny_load he ?_)
 refine wpAny_pure ?_
 simp only[if_true]
 refine wpAny_bind (wpAny_rule (wpAny_bind (wpAny_typeOf hT ?_)))
 show wpAny _ _ (layMembers e 6 #[name,o]) _ _ s
 unfold layMembers
 refine wpAny_bind (wpAny_load he ?_)
 refine wpAny_update he (hq _ _ (Heap.SameBut.update ..).extBut (Heap.get?_update_self _ he ?_) ?_)
 .rfl
 .rfl
theorem raise_attr{α:Type}{o:Value}{x msg:Str}{Q:α→Shared→Prop}(hh:A.handled=none)(hm:msg.length≤sizeLine)
  (hq:∀h' tk' e,(∀b ob,s.heap.get? b=some ob→h'.get? b=some ob)→(∃ob,h'.get? e=some ob∧ob.cls=.type "AttributeError")→E (.ref e) { s with heap:=h',toks:=tk' }):wpAny (model prog w) A (raiseAttrError o x msg:Sem α) Q E s:=by
 unfold raiseAttrError
 refine wpAny_bind (wpAny_mkStr (wpAny_bind ?_) hm)
 unfold newExc newTuple
 refine wpAny_bind (wpAny_newObj_type ?_)
 refine wpAny_bind (m:=firstArgMember _ _) (wpAny_of_eq (a:=Value.none) (by first | rfl | kernel_rfl) ?_)
 refine wpAny_newObj_type ?_
 refine wpAny_bind (wpAny_mkText (wpAny_bind ?_))
 refine note_ok (Heap.get?_push_size _ rfl) fun h' ob hx ho hc=>?_
 unfold raiseNew
 refine wpAny_bind (wpAny_handled ?_)
 rw[hh]
 first
  | refine wpAny_throw ?_
  | refine wpAny_bind (wpAny_pure (wpAny_throw ?_))
 refine hq _ _ _ (fun b ob' hb=>hx b ob' ?_ (Heap.get?_push_of_some _ (Heap.get?_push_of_some _ hb))) ⟨ob,ho,hc⟩
 refine Nat.ne_of_lt (Nat.lt_of_lt_of_le (Heap.lt_size hb) ?_)
 simp
end
section
variable{prog:Program}{w:World}{A:Around}{E:Value→Shared→Prop}{h:Heap}{g:Array GenState}{d:Drawn}{t:Nat}{os:OsState}{a:Addr}{items:Array Value}{n:Nat}{sl:Array (Option Value)}{dd:Option Addr}
noncomputable def errK(h:Heap)(g:Array GenState)(d:Drawn)(os:OsState)(E:Value→Shared→Prop):Prop:=∀h' tk' e,(∀b ob,h.get? b=some ob→h'.get? b=some ob)→(∃ob,h'.get? e=some ob∧ob.cls=.type "AttributeError")→E (.ref e) ⟨h',g,d,tk',os⟩
set_option maxHeartbeats 1000000 in
theorem keys_list{tk:Tok}{Q:Fin→Shared→Prop}(hh:A.handled=none)(hx:h.get? a=some { cls:=.type "list",dict:=none,data:=.seq items n,slots:=sl })(hq:errK h g d os E) :
  wpAny (model prog w) A (Builtin.«object.__getattribute__» ⟨[.ref a,.str "keys" tk],[]⟩) Q E ⟨h,g,d,t,os⟩:=by
 have hT:(⟨h,g,d,t,os⟩:Shared).TypeIs (.ref a) "list":=⟨_,hx,rfl⟩
 have f4:=lk_keys (T:="list") (.inl rfl)
 repeat (any_goals (first | assumption | wp_step))
 refine raise_attr hh (by decide +kernel) fun h' tk' e k1 k2=>hq h' tk' e k1 k2
theorem keys_by_list{tk:Tok}{Q:Value→Shared→Prop}(hh:A.handled=none)(hx:h.get? a=some { cls:=.type "list",dict:=none,data:=.seq items n,slots:=sl })(hq:errK h g d os E):wpAny (model prog w) A (getAttrBy (.ref a) (.str "keys" tk) false) Q E ⟨h,g,d,t,os⟩:=by
 have hT:(⟨h,g,d,t,os⟩:Shared).TypeIs (.ref a) "list":=⟨_,hx,rfl⟩
 have f2:=F.slot_list_getattribute.lookup
 have f3:=F.slot_list_getattribute.bind (.ref a)
 unfold getAttrBy
 refine wpAny_holding (wpAny_bind (wpAny_typeOf hT (wpAny_bind (wpAny_of_eq f2 ?_))))
 show wpAny _ _ (getAttrByItsOwn (.ref a) (.str "keys" tk) (.type "list") (.builtin "list.__getattribute__") false false) _ _ _
 unfold getAttrByItsOwn
 refine wpAny_bind (wpAny_pure ?_)
 refine wpAny_bind (wpAny_attempt ?_)
 refine wpAny_holding ?_
 show wpAny _ _ (boundAndCalled (.builtin "list.__getattribute__") (.ref a) (.str "keys" tk)) _ _ _
 unfold boundAndCalled
 refine wpAny_bind (wpAny_of_eq f3 ?_)
 refine wpAny_call_entry F.slot_list_getattribute hT F.entry_list_ga ?_ (F.args_list_getattribute_2 _ _)
 refine keys_list hh hx fun h' tk' e k1 k2=>?_
 obtain⟨ob,ho,hc⟩:=k2
 have hTe:(⟨h',g,d,tk',os⟩:Shared).TypeIs (.ref e) "AttributeError":=⟨_,ho,hc⟩
 show wpAny _ _ (getattributeRaised (.ref a) (.str "keys" tk) (.type "list") (.ref e) none false false) _ _ _
 unfold getattributeRaised
 refine wpAny_bind (wpAny_isInstance hTe sub_attr ?_)
 simp only[if_true]
 refine wpAny_bind (wpAny_of_eq (show hookBehind (.type "list") none=pure none from lk_hook (.inl rfl)) ?_)
 show wpAny _ _ (attributeErrorLeaves (.ref a) (.str "keys" tk) (.ref e) false false) _ _ _
 unfold attributeErrorLeaves
 simp only[Bool.not_false,if_true]
 exact wpAny_throw (hq h' tk' e k1 ⟨ob,ho,hc⟩)
theorem no_keys_list{Q:Option Value→Shared→Prop}(hh:A.handled=none)(hx:h.get? a=some { cls:=.type "list",dict:=none,data:=.seq items n,slots:=sl })(hq:∀h' tk',(∀b ob,h.get? b=some ob→h'.get? b=some ob)→Q none ⟨h',g,d,tk',os⟩):wpAny (model prog w) A (getAttr? (.ref a) "keys") Q E ⟨h,g,d,t,os⟩:=by
 unfold getAttr? getAttrBy?
 refine wpAny_bind (wpAny_mkText ?_)
 refine wpAny_bind (wpAny_attempt (keys_by_list hh hx fun h' tk' e k1 k2=>?_))
 obtain⟨ob,ho,hc⟩:=k2
 refine wpAny_bind (wpAny_isInstance (T:="AttributeError") (b:=true) ⟨ob,ho,hc⟩ sub_attr ?_)
 exact wpAny_pure (hq h' tk' k1)
end
theorem entry_dul:entryFor table "dict.update.loop" = some Builtin.«dict.update.loop»:=entryFor_of_tree (by kernel_rfl)
theorem plain_dul:plainId "dict.update.loop" = true:=by decide +kernel
section
variable{prog:Program}{w:World}{A:Around}{R:Result→Shared→Prop}{I D:Addr}{fp wr:List Addr}{n:Nat}{P:Nat→Value→Prop}{St:Nat→Heap→Prop}{h0:Heap}{us:List Value}{kvs:List (Key×Value)}
noncomputable def PairsAt(knd:KeyKind prog w Key)(h:Heap)(us:List Value)(kvs:List (Key×Value)):Prop:=us.length=kvs.length∧∀(i:Nat) (u:Value) (kv:Key×Value),us[i]?=some u→kvs[i]?=some kv→∃T k,u=.ref T∧IsTup h T #[k,kv.2]∧knd.is kv.1 k=true
theorem upd_loop(knd:KeyKind prog w Key)(W:Walks prog w A.in1 I fp wr us.length (fun i v=>us[i]?=some v) St)(hDf:D∉fp)(hD0:h0.get? D=none)(hw0:∀b∈wr,h0.get? b=none)(hp:PairsAt knd h0 us kvs)(hz:kvs.length≤1000) :
  ∀(k i:Nat) (tk:Tok) (s:Shared),us.length-i=k→i≤us.length→St i s.heap→s.heap.DictOf knd D (merged [] (kvs.take i))→(∀b o,h0.get? b=some o→s.heap.get? b=some o)→
   (∀h' tk',h'.DictOf knd D (merged [] kvs)→(∀b o,h0.get? b=some o→h'.get? b=some o)→R (.ok (.ret .none)) { s with heap:=h',toks:=tk' })→
   codeAny (model prog w) A (.builtin "dict.update.loop" ⟨[.ref D,.ref I,.int i tk,.none],[]⟩) R s:=by
 have hDw:D∉wr:=fun h=>hDf (W.sub _ h)
 intro k
 induction k with
 | zero=>
  intro i tk s hk hi hst hd h0k hR
  obtain rfl:i=us.length:=by omega
  refine codeAny_builtin entry_dul ?_
  rw[Around.under_plainId plain_dul _]
  show wpAny _ A.in1 (pyNext (.ref I) >>= _) _ _ s; refine wpAny_bind (W.done s _ _ hst fun h' tk' kk=>?_)
  show wpAny _ A.in1 (Builtin.Dict.addKeywords D [] >>= _) _ _ _
  refine wpAny_bind (wpAny_pure (wpAny_pure (hR h' tk' ?_ fun b o e=>kk b o (fun z=>by rw[hw0 b z] at e; cases e) (h0k b o e))))
  rw[hp.1,List.take_length] at hd
  obtain⟨o,es,ep,ho,rest⟩:=hd
  exact⟨o,es,ep,kk D o hDw ho,rest⟩
 | succ k ih=>
  intro i tk s hk hi hst hd h0k hR
  have hlt:i<us.length:=by omega
  refine codeAny_builtin entry_dul ?_
  rw[Around.under_plainId plain_dul _]
  show wpAny _ A.in1 (pyNext (.ref I) >>= _) _ _ s; refine wpAny_bind (W.item i s _ _ hlt hst fun v h' tk' hv hst' kk=>?_)
  have hkl:i<kvs.length:=by rw[←hp.1]; exact hlt
  obtain⟨T,key,rfl,hT,hk1⟩:=hp.2 i v kvs[i] hv (List.getElem?_eq_getElem hkl)
  have keep:∀b o,h0.get? b=some o→h'.get? b=some o:=fun b o e=>kk b o (fun z=>by rw[hw0 b z] at e; cases e) (h0k b o e)
  have hT':IsTup h' T #[key,kvs[i].2]:=by obtain⟨o,ho,r⟩:=hT; exact⟨o,keep T o ho,r⟩
  have hd':h'.DictOf knd D (merged [] (kvs.take i)):=by obtain⟨o,es,ep,ho,rest⟩:=hd; exact⟨o,es,ep,kk D o hDw ho,rest⟩
  show wpAny _ A.in1 (holding [Value.ref T] _ >>= _) _ _ _
  refine wpAny_bind (wpAny_holding (wpAny_bind (wpAny_tryCatch ?_)))
  unfold Builtin.Dict.pairItems
  refine wpAny_bind (wpAny_typeOf hT'.typeIs ?_)
  rw[if_pos (by decide)]
  obtain⟨oT,hoT,hcT,nT,hdT⟩:=hT'
  refine wpAny_bind (wpAny_seqItems hoT hdT (wpAny_pure ?_))
  show wpAny _ _ (holding [key,kvs[i].2] (dictSet D key kvs[i].2)) _ _ _
  refine wpAny_holding ?_
  unfold dictSet
  try with_reducible refine wpAny_holding ?_
  refine wpAny_bind (knd.pyHash hk1 ?_)
  refine wpAny_dictSetHashed_pairs (s:={ s with heap:=h',toks:=tk'+1 }) hk1 hd' (fun h2 hd2 sb=>?_) (by have:=merged_length_le ([]:List (Key×Value)) (kvs.take i); rw[List.length_take] at this; simp at this; exact Nat.le_trans (Nat.le_trans this (by omega)) (show 1000≤sizeLine by decide))
  refine wpAny_pure ⟨plainId_quiet plain_dul _,ih (i+1) _ _ (by omega) hlt (W.frame _ _ _ hst' fun b hb o e=>?_) ?_ (fun b o e=>?_) fun h3 tk3 hd3 k3=>?_⟩
  .rw[sb.2 b (fun z:b=D=>hDf (by rw[←z]; exact hb))]; exact e
  .rw[merged_take_succ [] kvs i kvs[i] (List.getElem?_eq_getElem hkl)]; exact hd2
  .rw[sb.2 b (fun z:b=D=>by rw[z,hD0] at e; cases e)]; exact keep b o e
  .exact hR h3 tk3 hd3 k3
end
section
variable{prog:Program}{w:World}{A:Around}{E:Value→Shared→Prop}{s:Shared}{us:List Value}{kvs:List (Key×Value)}{l:Addr}{n:Nat}{sl:Array (Option Value)}
theorem call_dict_list(knd:KeyKind prog w Key)(hh:A.handled=none)(hl:s.heap.get? l=some { cls:=.type "list",dict:=none,data:=.seq us.toArray n,slots:=sl })(hp:PairsAt knd s.heap us kvs)(hz:kvs.length≤1000){Q:Value→Shared→Prop}
  (h:∀h' tk',h'.DictOf knd s.heap.objs.size (merged [] kvs)→(∀b o,s.heap.get? b=some o→h'.get? b=some o)→Q (.ref s.heap.objs.size) { s with heap:=h',toks:=tk' }):wpAny (model prog w) A (call (.type "dict") [.ref l]) Q E s:=by
 refine callType_codes (Q₁:=fun obj s₁=>obj=.ref s.heap.objs.size∧s₁={ s with heap:=s.heap.push { cls:=.type "dict",data:=.dict #[] } }) F.kt_called_dict (F.kt_typeCall_dict_1 _) F.entry_dict_init (kt_code_dict_new _ ⟨rfl,rfl⟩) ?_
 rintro obj s₁ ⟨rfl,rfl⟩
 have hnew:(s.heap.push { cls:=.type "dict",data:=.dict #[] }).DictOf knd s.heap.objs.size []:=Heap.DictOf.new s.heap
 refine⟨hnew.typeIs,F.args_dict_init_2 _ _,?_⟩
 unfold Builtin.«dict.__init__»
 refine wpAny_bind ?_
 unfold Builtin.Dict.selfAndRest
 refine wpAny_bind (wpAny_notOrdered_dict hnew.typeIs ?_)
 show wpAny _ _ (pure (s.heap.objs.size,[Value.ref l])) _ _ _
 refine wpAny_pure ?_
 show wpAny _ _ (Builtin.Dict.updateFrom "dict.__init__" s.heap.objs.size (.ref l) [] .none) _ _ _
 unfold Builtin.Dict.updateFrom
 have hl1:(s.heap.push { cls:=.type "dict",data:=.dict #[] }).get? l=some _:=Heap.get?_push_of_some _ hl
 refine wpAny_bind (wpAny_typeOf (T:="list") ⟨_,hl1,rfl⟩ ?_)
 rw[if_pos (by decide)]
 have hh2:A.in1.in1.handled=none:=by simpa using hh
 refine wpAny_bind (no_keys_list hh2 hl1 fun h1 tk1 k1=>?_)
 simp only[Option.isNone_none,if_true]
 have hl2:=k1 _ _ hl1
 have hL:h1.IsList l us.toArray:=⟨_,hl2,rfl,n,rfl⟩
 refine wpAny_bind (wpAny_rule ?_)
 refine wpAny_bind (wpAny_pyIter_list hL ?_)
 have k0:∀b o,s.heap.get? b=some o→h1.get? b=some o:=fun b o e=>k1 b o (Heap.get?_push_of_some _ e)
 have hDlt:s.heap.objs.size<h1.objs.size:=by obtain⟨o,es,ep,ho,_⟩:=hnew; exact Heap.lt_size (k1 _ _ ho)
 have hllt:l<s.heap.objs.size:=Heap.lt_size hl
 have hd1:h1.DictOf knd s.heap.objs.size []:=by obtain⟨o,es,ep,ho,rest⟩:=hnew; exact⟨o,es,ep,k1 _ _ ho,rest⟩
 have hne:l≠h1.objs.size:=Nat.ne_of_lt (Nat.lt_trans hllt hDlt)
 have W0:=Walks.list (prog:=prog) (w:=w) (A:=A.in1.in1) (by simpa using hh) h1.objs.size l hne us.toArray
 have W1:Walks prog w A.in1.in1 h1.objs.size [h1.objs.size,l] [h1.objs.size] us.length (fun i v=>us[i]?=some v) (fun i h=>h.IsListIter h1.objs.size l i∧h.IsList l us.toArray):=by simpa using W0
 refine wpAny_pure ⟨plainId_quiet plain_dul _,upd_loop (h0:=s.heap) knd W1 ?_ ?_ ?_ hp hz us.length 0 _ _ rfl (Nat.zero_le _) ⟨⟨_,Heap.get?_push_size _ rfl,rfl,rfl⟩,hL.at fun o e=>Heap.get?_push_of_some _ e⟩ ?_ (fun b o e=>Heap.get?_push_of_some _ (k0 b o e)) fun h' tk' hd' k'=>?_⟩
 .simp only[List.mem_cons,List.not_mem_nil,or_false,not_or]
  exact⟨Nat.ne_of_lt hDlt,Nat.ne_of_gt hllt⟩
 .exact Heap.get?_none_of_le (Nat.le_refl _)
 .intro b hb
  simp only[List.mem_cons,List.not_mem_nil,or_false] at hb
  rw[hb]
  exact Heap.get?_none_of_le (Nat.le_of_lt hDlt)
 .obtain⟨o,es,ep,ho,rest⟩:=hd1
  exact⟨o,es,ep,Heap.get?_push_of_some _ ho,rest⟩
 .exact⟨rfl,h h' tk' hd' k'⟩
end
end ML
namespace ML
open PySem PySem.Spec PyProof.Rows L2
section
variable{X:Cx}{cl:Nat→Addr}
theorem pairs_rw{K:PySem.W.Frag}{μ:List Addr}{H:Hp}:∀{l:List W} {vs:List V} {ps:List (W×W)} {ks:List (Key×W)},RWs K μ H l vs→pairsOf l=some ps→keysOf ps=some ks→
  ∃ks':List (Key×V),PR K μ H ks ks'∧vs.length=ks'.length∧∀(i:Nat) (v:V) (kv:Key×V),vs[i]?=some v→ks'[i]?=some kv→∃T,v=.ref T∧SqT K H T [kV kv.1,kv.2]
 | [],_,_,_,.nil,e1,e2=>by
  cases e1; cases e2
  exact⟨[],.nil,rfl,fun i v kv e=>by simp at e⟩
 | w::l,_,ps,ks,.cons (v:=v) r t,e1,e2=>by
  have hw:∃x y,w=.tup [x,y]:=by
   unfold pairsOf at e1
   split at e1
   .rename_i hd; cases hd
   .rename_i x y r' hd; cases hd; exact⟨x,y,rfl⟩
   .cases e1
  obtain⟨x,y,rfl⟩:=hw
  unfold pairsOf at e1
  split at e1
  .rename_i l' e3
   cases e1
   unfold keysOf at e2
   split at e2
   .rename_i k lk e4 e5
    cases e2
    obtain⟨ks',p,hl,hi⟩:=pairs_rw t e3 e5
    obtain⟨T,vs2,rfl,sq,rr⟩:=r.tup_of
    cases rr with | cons r1 rr=>cases rr with | @cons _ v2 _ _ r2 rr=>cases rr with | nil=>
    have:=key_of_rw r1 e4
    subst this
    refine⟨(k,v2)::ks',.cons r2 p,by simp[hl],fun i v kv ev ek=>?_⟩
    cases i with
    | zero=>simp at ev ek; subst ev; subst ek; exact⟨T,rfl,sq⟩
    | succ i=>exact hi i v kv (by simpa using ev) (by simpa using ek)
   .cases e2
  .cases e1
theorem pairs_at{pins:List (Addr×Obj)}{s:Shared}{σ:L2.St}{H:Hp}(I:Inv X pins σ H s):∀{vs:List V} {its:List Value} {ks':List (Key×V)},Vals vs its→vs.length=ks'.length→
  (∀(i:Nat) (v:V) (kv:Key×V),vs[i]?=some v→ks'[i]?=some kv→∃T,v=.ref T∧SqT X.K H T [kV kv.1,kv.2])→∃kvs,KV ks' kvs∧PairsAt (mixKind X.prog X.w) s.heap its kvs
 | _,_,[],.nil,_,_=>⟨[],.nil,rfl,fun i u kv e=>by simp at e⟩
 | _,_,_::_,.nil,hl,_=>by simp at hl
 | _,_,[],.cons _ _,hl,_=>by simp at hl
 | _,_,(k,v2)::ks',.cons (a:=v) (b:=u) r t,hl,hi=>by
  obtain⟨kvs,q1,q2,q3⟩:=pairs_at I t (by simpa using hl) fun i v kv e1 e2=>hi (i+1) v kv (by simpa using e1) (by simpa using e2)
  obtain⟨T,rfl,sq⟩:=hi 0 v (k,v2) (by simp) (by simp)
  obtain⟨it2,rv,ht,_⟩:=I.tuple sq
  obtain⟨u1,u2,rfl,ru1,ru2⟩:=vals2 rv
  cases r
  refine⟨(k,u2)::kvs,.cons ⟨rfl,ru2⟩ q1,by simp[q2],fun i u kv e1 e2=>?_⟩
  cases i with
  | zero=>simp at e1 e2; subst e1; subst e2; exact⟨T,u1,rfl,ht,kV_is ru1⟩
  | succ i=>exact q3 i u kv (by simpa using e1) (by simpa using e2)
theorem call_dictW(hc:X.calm=true):CallR X (.type "dict") (rMs X.K cl dictW):=by
 rintro pins s σ H xs us Q I rs ⟨μ,h,ws,w,h',R,ax,e,k⟩
 unfold dictW at e
 split at e
 .cases ax with | cons r t=>cases t with | nil=>
  obtain⟨u,rfl,ru⟩:=rs.one
  split at e
  .rename_i l el
   cases e
   obtain⟨a,l',rfl,rd,pr⟩:=getDi_of R r el
   cases ru
   exact d_copyOf I rd fun p s' hp I'=>⟨.ref p,_,I',rfl,k.fdc R pr hp⟩
  .split at e
   .rename_i l el
    split at e
    .rename_i ps ep
     split at e
     .rename_i ks ek
      split at e
      .rename_i hlen
       cases e
       obtain⟨a,vs,rfl,sa,ra⟩:=getL_of R r el
       cases ru
       obtain⟨ks',pr,hl,hi⟩:=pairs_rw ra ep ek
       obtain⟨its,rv,⟨⟨oc,od,odt,osl⟩,n,g1,g2,g3,g4⟩,_⟩:=I.list sa
       simp only at g2 g3 g4
       subst g2 g3 g4
       obtain⟨kvs,q1,q2⟩:=pairs_at I rv hl hi
       have hkl:ks'.length=kvs.length:=q1.length
       refine call_dict_list (mixKind X.prog X.w) (I.ok.hd hc) g1 q2 (by rw[←hkl,←pr.len]; exact hlen) fun h2 tk dd kp=>?_
       have rel:KV (mergeK [] ks') (merged [] kvs):=q1.merge .nil
       have hz:(mergeK [] ks').length≤sizeLine:=by
        have h1:=length_mergeK ks' []
        rw[List.length_nil] at h1
        rw[sizeLine_eq]
        have:=pr.len
        omega
       exact⟨.ref _,_,I.laid (a:=s.heap.objs.size) (o:=.dK (mergeK [] ks')) (t':=tk) kp (Nat.le_refl _) (dk_new hz (beq_eq_false_iff_ne.mpr (Ne.symm (Nat.ne_of_lt I.big))) rel dd),rfl,k.fdc R (pr.merge .nil) (I.hok.fresh (Nat.le_refl _))⟩
      .cases e
     .cases e
    .cases e
   .cases e
 .cases e
end
theorem fn_ok2{P:Program}{w:World}{K:PySem.W.Frag}{mg:Str→Option Value}{base:Heap}{cl:Nat→Addr}{x qual:Str}{st:Stmt}{sc:Scope}{bd:List Stmt}{f:Addr}{fd:FuncData}{N ps:List Str}{k np ns:Nat}{b:MS}(F:Fun K x qual st f fd)(hsc:defScope st=sc)(hbd:defBody st=bd)(S:FnScope N ps sc)(hnp:ps.length=np)(hns:N.length-np=ns)
  (hb:∀(cdv:Value) (A:Around) (outer:List Env) (s:Shared) (H:Hp) (E:XK),Room k (A.deeper (envOfC qual sc s.heap.objs.size f cdv))→
   SB (cxOf CX0 P w K mg base N qual sc f cdv A outer s H E).nox cl bd b):FnOk P w K mg base CX0 (k+1) f fd ps (spM K cl (gc (fnM np ns b))):=by
 subst hsc hbd
 exact fn_ok F S hnp hns hb
noncomputable def visB(sc:Scope)(x:Str):Bool:=match sc.names.lookup x with
 | some .local=>true
 | some .cell=>true
 | some .free=>true
 | _=>false
noncomputable def locB(sc:Scope)(x:Str):Bool:=match sc.names.lookup x with
 | some .local=>true
 | some .cell=>true
 | _=>false
noncomputable def varB(sc:Scope)(N:List Str)(i:Nat)(x:Str):Bool:=N[i]?==some x&&visB sc x && !(x==("__debug__":Str)) && !(x==("__classdict__":Str))
noncomputable def setB(sc:Scope)(N:List Str)(i:Nat)(x:Str):Bool:=N[i]?==some x&&locB sc x
noncomputable def setC(sc:Scope)(N:List Str)(i:Nat)(x:Str):Bool:=N[i]?==some x&&sc.names.lookup x==some .local
noncomputable def glB(sc:Scope)(x:Str):Bool:=sc.names.lookup x==some .globalImplicit && !(x==("__debug__":Str)) && !(x==("__name__":Str))
section
variable{X:Cx}{cl:Nat→Addr}{x:Str}{pos pos' p:Pos}{sc:Scope}{N:List Str}{i:Nat}{e:Expr}{m:ME}
theorem visB_of(h:visB sc x=true):Vis sc x:=by
 unfold visB at h
 split at h
 .rename_i q; exact .inl q
 .rename_i q; exact .inr (.inl q)
 .rename_i q; exact .inr (.inr q)
 .cases h
theorem locB_of(h:locB sc x=true):Loc sc x:=by
 unfold locB at h
 split at h
 .rename_i q; exact .inl q
 .rename_i q; exact .inr q
 .cases h
theorem v_(h:varB sc N i x=true)(hs:X.env.scope=sc:=by rfl)(hN:X.N=N:=by rfl):SE X cl (.Name x pos) (eVar i):=by
 unfold varB at h
 simp only[Bool.and_eq_true,beq_iff_eq,Bool.not_eq_true'] at h
 exact se_var i (by rw[hN]; exact h.1.1.1) (by rw[hs]; exact visB_of h.1.1.2) h.1.2 h.2
theorem g_(h:setB sc N i x=true)(hNd:N.Nodup)(hs:X.env.scope=sc:=by rfl)(hN:X.N=N:=by rfl)(hf:X.fn x=true:=by rfl):SG X cl (.Name x pos) (gNm i):=by
 unfold setB at h
 simp only[Bool.and_eq_true,beq_iff_eq] at h
 exact sg_name i (by rw[hN]; exact hNd) (by rw[hN]; exact h.1) (by rw[hs]; exact locB_of h.2) (.inl hf)
theorem gc_(h:setC sc N i x=true)(hNd:N.Nodup)(hs:X.env.scope=sc:=by rfl)(hN:X.N=N:=by rfl):SG X cl (.Name x pos) (gNm i):=by
 unfold setC at h
 simp only[Bool.and_eq_true,beq_iff_eq] at h
 exact sg_name i (by rw[hN]; exact hNd) (by rw[hN]; exact h.1) (by rw[hs]; exact .inl h.2) (.inr (by rw[hs]; exact h.2))
theorem s_(h:setB sc N i x=true)(hNd:N.Nodup)(he:SE X cl e m)(hs:X.env.scope=sc:=by rfl)(hN:X.N=N:=by rfl)(hf:X.fn x=true:=by rfl)(hsw:swapsWith e (some (.Name x pos')) pos.line X.env=pure false:=by rfl):SS X cl (.Assign [.Name x pos'] e pos) (sAsg m (gNm i)):=by
 unfold setB at h
 simp only[Bool.and_eq_true,beq_iff_eq] at h
 exact ss_set i (by rw[hN]; exact hNd) he (by rw[hN]; exact h.1) (by rw[hs]; exact locB_of h.2) hsw (.inl hf)
theorem au_{op:Operator}{f:W→W→M W}(h:setB sc N i x=true)(hNd:N.Nodup)(ho:PIp X op (rM X.K cl f))(he:SE X cl e m)(hs:X.env.scope=sc:=by rfl)(hN:X.N=N:=by rfl)(hf:X.fn x=true:=by rfl):SS X cl (.AugAssign (.Name x pos') op e pos) (sAug i f m):=by
 unfold setB at h
 simp only[Bool.and_eq_true,beq_iff_eq] at h
 exact ss_aug i (by rw[hN]; exact hNd) ho he (by rw[hN]; exact h.1) (by rw[hs]; exact locB_of h.2) (.inl hf)
theorem gl_of(h:glB sc x=true)(hs:X.env.scope=sc):Gl X x∧(x==("__debug__":Str))=false∧x≠"__name__":=by
 unfold glB at h
 simp only[Bool.and_eq_true,beq_iff_eq,Bool.not_eq_true'] at h
 refine⟨?_,h.1.2,fun z=>?_⟩
 .show X.env.scope.names.lookup x=_
  rw[hs]; exact h.1.1
 .have:=h.2; rw[z] at this; simp at this
variable{k:Nat}{f:Addr}{fd:FuncData}{ps:List Str}{es:List Expr}{g:List W→M W}{ms:List ME}{id:String}
theorem c_(h:glB sc x=true)(F:FnOk X.prog X.w X.K X.mg X.base CX0 k f fd ps (spM X.K cl g))(hr:Room k X.A)(hm:X.mg x=some (.ref f))(hk:PySem.W.keepIn X.K (.ref f)=true)(hb:Binds X.K fd ps [])
  (ha:SA X cl (e::es) ms) (hs:X.env.scope=sc:=by rfl) (hst:starEach (e::es) X.env=(false,eval e X.env)::starEach es X.env:=by rfl) (hpl:(backTo pos (starEach es X.env)).any (·.1)=false:=by rfl):SE X cl (.Call (.Name x p) (e::es) [] pos) (eArgs g ms):=
 se_call F hr hm hk hb ha (gl_of h hs).1 (gl_of h hs).2.1 hst hpl
theorem c0_(h:glB sc x=true)(F:FnOk X.prog X.w X.K X.mg X.base CX0 k f fd ps (spM X.K cl g))(hr:Room k X.A)(hm:X.mg x=some (.ref f))(hk:PySem.W.keepIn X.K (.ref f)=true)(hb:Binds X.K fd ps [])
  (hs:X.env.scope=sc:=by rfl):SE X cl (.Call (.Name x p) [] [] pos) (eArgs g []):=se_call0 F hr hm hk hb (gl_of h hs).1 (gl_of h hs).2.1
theorem cB_(h:glB sc x=true)(hc:CallR X (.builtin id) (rMs X.K cl g))(hm:X.mg x=none)(hv:bootBuiltins x=some (.builtin id))(ha:SA X cl (e::es) ms)(hs:X.env.scope=sc:=by rfl)(hst:starEach (e::es) X.env=(false,eval e X.env)::starEach es X.env:=by rfl)(hpl:(backTo pos (starEach es X.env)).any (·.1)=false:=by rfl) :
  SE X cl (.Call (.Name x p) (e::es) [] pos) (eArgs g ms):=se_callB hc hm hv ha (gl_of h hs).1 (gl_of h hs).2.2 (gl_of h hs).2.1 hst hpl
theorem cT_(h:glB sc x=true)(hc:CallR X (.type id) (rMs X.K cl g))(hm:X.mg x=none)(hv:bootBuiltins x=some (.type id))(ha:SA X cl (e::es) ms)(hs:X.env.scope=sc:=by rfl)(hst:starEach (e::es) X.env=(false,eval e X.env)::starEach es X.env:=by rfl)(hpl:(backTo pos (starEach es X.env)).any (·.1)=false:=by rfl) :
  SE X cl (.Call (.Name x p) (e::es) [] pos) (eArgs g ms):=se_callTy hc hm hv ha (gl_of h hs).1 (gl_of h hs).2.2 (gl_of h hs).2.1 hst hpl
theorem gb_{w:W}(h:glB sc x=true)(G:Glob X.K X.mg x w)(hs:X.env.scope=sc:=by rfl):SE X cl (.Name x pos) (eC w):=G.se (gl_of h hs).1 (gl_of h hs).2.1
theorem isi_(T:Ty){y:Str}{p2:Pos}{a:Expr}{ma:ME}(h:glB sc "isinstance" = true)(h2:glB sc y=true)(ha:SE X cl a ma)(hi:X.mg "isinstance" = none)(ht:X.mg y=none)(hv:bootBuiltins y=some (.type T.name))(hs:X.env.scope=sc:=by rfl)
  (hs1:starEach [a,.Name y p2] X.env=(false,eval a X.env)::starEach [.Name y p2] X.env:=by rfl) (hs2:starEach [.Name y p2] X.env=(false,eval (.Name y p2) X.env)::starEach [] X.env:=by rfl)
  (hpl:(backTo pos (starEach [.Name y p2] X.env)).any (·.1)=false:=by rfl):SE X cl (.Call (.Name "isinstance" p) [a,.Name y p2] [] pos) (eUn (isW T) ma):=
 se_isi T ha hi ht hv (gl_of h hs).1 (gl_of h2 hs).1 (gl_of h2 hs).2.2 (gl_of h2 hs).2.1 hs1 hs2 hpl
variable{a:Expr}{ma:ME}{l:List (Str×W)}
theorem tI_(h:glB sc x=true)(hu:X.A.units+64<cLine)(T:TabOk X.K X.w.params X.mg x l)(ha:SE X cl a ma)(hs:X.env.scope=sc:=by rfl)(hm:behindInMarks .In (.Name x p)=false:=by first | exact nomark _ | rfl):SE X cl (.Compare a [.In] [.Name x p] pos) (eUn (tabIn false l) ma):=se_tabIn hu T ha hm (gl_of h hs).1 (gl_of h hs).2.1
theorem tN_(h:glB sc x=true)(hu:X.A.units+64<cLine)(T:TabOk X.K X.w.params X.mg x l)(ha:SE X cl a ma)(hs:X.env.scope=sc:=by rfl)(hm:behindInMarks .NotIn (.Name x p)=false:=by first | exact nomark _ | rfl):SE X cl (.Compare a [.NotIn] [.Name x p] pos) (eUn (tabIn true l) ma):=se_tabInN hu T ha hm (gl_of h hs).1 (gl_of h hs).2.1
theorem tG_(h:glB sc x=true)(hu:X.A.units+64<cLine)(T:TabOk X.K X.w.params X.mg x l)(ha:SE X cl a ma)(hs:X.env.scope=sc:=by rfl)(hp:PlainIx a:=by exact fun _ _=>rfl):SE X cl (.Subscript (.Name x p) a pos) (eUn (tabGet l) ma):=se_tabGet hu T ha hp (gl_of h hs).1 (gl_of h hs).2.1
theorem rng_{tg:Expr}(h:glB sc "range" = true)(hm:X.mg "range" = none)(ha:SA X cl [e] ms)(hs:X.env.scope=sc:=by rfl)(hst:starEach [e] X.env=[(false,eval e X.env)]:=by rfl):SI X cl tg (.Call (.Name "range" p) [e] [] pos) (iRng ms):=si_rng hm ha (gl_of h hs).1 hst
theorem enu_{elts:List Expr}{n:Nat}{tpos:Pos}(h:glB sc "enumerate" = true)(hm:X.mg "enumerate" = none)(ha:SA X cl [e] ms)(hs:X.env.scope=sc:=by rfl)(hst:starEach [e] X.env=(false,eval e X.env)::starEach [] X.env:=by rfl)(hpl:(backTo pos (starEach [] X.env)).any (·.1)=false:=by rfl) :
  SI X cl (.Tuple elts n tpos) (.Call (.Name "enumerate" p) [e] [] pos) (iEnum ms):=si_enum hm ha (gl_of h hs).1 hst hpl
theorem zip_{elts:List Expr}{n:Nat}{tpos:Pos}{e2:Expr}(h:glB sc "zip" = true)(hm:X.mg "zip" = none)(ha:SA X cl [e,e2] ms)(hs:X.env.scope=sc:=by rfl)(hst:starEach [e,e2] X.env=(false,eval e X.env)::starEach [e2] X.env:=by rfl)(hpl:(backTo pos (starEach [e2] X.env)).any (·.1)=false:=by rfl) :
  SI X cl (.Tuple elts n tpos) (.Call (.Name "zip" p) [e,e2] [] pos) (iZip ms):=si_zip hm ha (gl_of h hs).1 hst hpl
theorem lset_{p2 p3:Pos}(h:glB sc "len" = true)(h2:glB sc "set" = true)(hc:X.calm=true)(hl:X.mg "len" = none)(hse:X.mg "set" = none)(ha:SE X cl a ma)(hs:X.env.scope=sc:=by rfl)
  (he1:starEach [a] X.env=(false,eval a X.env)::starEach [] X.env:=by rfl) (hpl1:(backTo p3 (starEach [] X.env)).any (·.1)=false:=by rfl)
  (he2:starEach [.Call (.Name "set" p2) [a] [] p3] X.env=(false,eval (.Call (.Name "set" p2) [a] [] p3) X.env)::starEach [] X.env:=by rfl) (hpl2:(backTo pos (starEach [] X.env)).any (·.1)=false:=by rfl) :
  SE X cl (.Call (.Name "len" p) [.Call (.Name "set" p2) [a] [] p3] [] pos) (eUn lenSet ma):=se_lenSet hc hl hse ha (gl_of h hs).1 (gl_of h2 hs).1 he1 hpl1 he2 hpl2
end
end ML
namespace ML
open PySem PySem.Spec PyProof.Rows L2
section
variable{X:Cx}{cl:Nat→Addr}{a:Expr}{ma:ME}{x:Str}{l:List (Str×W)}{p pos:Pos}{sc:Scope}
theorem st_tab{op:CmpOp}(neg:Bool)(ho:∀{A:Around} {E:Value→Shared→Prop} {s:Shared} {d:Addr} {f:Str→Option Value} {k:Str} {t:Tok} {Q:Value→Shared→Prop},(d==sysModules)=false→s.heap.MapOf (strKind X.prog X.w) d f→Q (.bool (if neg then !(f k).isSome else (f k).isSome)) { s with toks:=s.toks+1 }→wpAny (model X.prog X.w) A (compareOp op (.str k t) (.ref d)) Q E s)
  (T:TabOk X.K X.w.params X.mg x l) (ha:SE X cl a ma) (hm:behindInMarks op (.Name x p)=false) (hg:Gl X x) (hd:(x==("__debug__":Str))=false):ST X cl (.Compare a [op] [.Name x p] pos) (tVal (eUn (tabIn neg l) ma)):=by
 obtain⟨d,es,n,e1,e2,e3,e4,e5⟩:=T.ex
 have hop:OpR X (compareOp op) (fun x y H Q=>∃k,x=.str k∧y=.ref d∧Q (.bl (if neg then !(l.lookup k).isSome else (l.lookup k).isSome)) H):=by
  rintro pins s σ H x y v u Q I rx ry ⟨k,rfl,rfl,q⟩
  obtain⟨t,rfl⟩:=rx
  cases ry
  refine ho e4 (TabOk.at I e2 e3) ?_
  have fk:(findBy Value.isStrOf es k).isSome=(l.lookup k).isSome:=by
   have:=e5.find (k:=k)
   unfold findBy
   rw[←Array.find?_toList]
   cases ek:l.lookup k with
   | none=>rw[ek] at this; rw[this]; rfl
   | some w=>rw[ek] at this; obtain⟨v,e,_⟩:=this; rw[e]; rfl
  rw[fk]
  exact⟨.bl _,H,I.tok _,rfl,q⟩
 refine PT.wk (pt_cmpR hop ha (pe_glob hg e1 (show RelV (.ref d) (.ref d) from rfl) hd) hm) fun σ H Q q=>?_
 obtain⟨μ,h,ρ,w,h',R,er,e,k⟩:=tval_read q
 obtain⟨y,h1,f1,e⟩:=of_bnd e
 refine⟨μ,h,ρ,y,h1,R,er,f1,fun μ1 H1 vx E1 R1 rx=>?_⟩
 unfold tabIn at e
 split at e
 .cases e
  exact⟨_,rx.str_of,rfl,k μ1 H1 _ E1 R1 (.bl _)⟩
 .cases e
theorem tIt_(h:glB sc x=true)(hu:X.A.units+64<cLine)(T:TabOk X.K X.w.params X.mg x l)(ha:SE X cl a ma)(hs:X.env.scope=sc:=by rfl)(hm:behindInMarks .In (.Name x p)=false:=by first | exact nomark _ | rfl):ST X cl (.Compare a [.In] [.Name x p] pos) (tVal (eUn (tabIn false l) ma)):=
 st_tab false (fun {A E s d f k t Q} h1 h2 h3=>wpAny_in_of (strKind_is X.prog X.w k t) h1 h2 h3) T ha hm (gl_of h hs).1 (gl_of h hs).2.1
theorem tNt_(h:glB sc x=true)(hu:X.A.units+64<cLine)(T:TabOk X.K X.w.params X.mg x l)(ha:SE X cl a ma)(hs:X.env.scope=sc:=by rfl)(hm:behindInMarks .NotIn (.Name x p)=false:=by first | exact nomark _ | rfl):ST X cl (.Compare a [.NotIn] [.Name x p] pos) (tVal (eUn (tabIn true l) ma)):=
 st_tab true (fun {A E s d f k t Q} h1 h2 h3=>wpAny_notIn_of (strKind_is X.prog X.w k t) h1 h2 h3) T ha hm (gl_of h hs).1 (gl_of h hs).2.1
end
noncomputable def nodupB(l:List Str):Bool:=decide l.Nodup
theorem nd_of{l:List Str}(h:nodupB l=true:=by kernel_rfl):l.Nodup:=of_decide_eq_true h
structure FTxt(K:PySem.W.Frag)(mg:Str→Option Value)(x:Str)(st:Stmt)(ps:List Str)(a:Addr)(d:FuncData):Prop where
 F:Fun K x x st a d
 B:Binds K d ps []
 m:mg x=some (.ref a)
theorem ftxt_bindsTo{K:PySem.W.Frag}{x y:Str}{st:Stmt}{f:Addr}{fd:FuncData}(F:Fun K x x st f fd)
  (hb:∀(kV doc pm:Value) (an:Option Addr) (cdv ct:Value) (us:List Value),us.length=[y].length→bindArgs (PySem.W.fnOf x x (defArgs st) (defBody st) (defScope st) .none kV doc pm an cdv ct) ⟨us,[]⟩=pure ([y].zip us)):∀(s:Shared) (v:Value),BindsTo s fd ⟨[v],[]⟩ [(y,v)]:=by
 intro s v
 obtain⟨oc,od,kV,doc,pm,an,cdv,ct,osl,rfl,lk,hcd⟩:=F.ex
 exact .of_eq (hb kV doc pm an cdv ct [v] rfl)
noncomputable def spL(f:List W→M W)(K:PySem.W.Frag):Sp:=spM K (fun _=>0) f
theorem spL_of{f:List W→M W}(hf:∀ns:List Int,ns.length≤63→∃h',f [.fls (ns.map W.int)] []=some (.bl true,h'))(K:PySem.W.Frag)(H:Hp)(a:Addr)(ns:List Int)(hl:ns.length≤63)(hS:SqL K H a (ns.map V.int)):spL f K [.ref a] H (fun v _=>v=.bl true) fun _ _ _=>False:=by
 obtain⟨h',e⟩:=hf ns hl
 refine⟨[],[],[.fls (ns.map W.int)],.bl true,h',⟨rfl,List.nodup_nil,fun n a o e=>by simp at e⟩,.cons (.fls ?_ (RWs.ints ns)) .nil,e,fun μ' H' v E R r=>r.bl_of⟩
 rcases hS with hS | hS
 .exact .inl ⟨hS,by simp⟩
 .exact .inr hS
noncomputable def noStar:Expr→Bool
 | .Starred ..=>false
 | _=>true
noncomputable def noComp:Expr→Bool
 | .ListComp ..=>false
 | .SetComp ..=>false
 | .DictComp ..=>false
 | _=>true
noncomputable def noSet:Expr→Bool
 | .Set ..=>false
 | _=>true
noncomputable def noTup:Expr→Bool
 | .Tuple ..=>false
 | _=>true
noncomputable def noSlice:Expr→Bool
 | .Slice ..=>false
 | _=>true
noncomputable def plainT:Expr→Bool
 | .UnaryOp ..=>false
 | .BoolOp ..=>false
 | .IfExp ..=>false
 | .Compare ..=>false
 | _=>true
noncomputable def noCall:Expr→Bool
 | .Call ..=>false
 | _=>true
section
variable{e tg o:Expr}{es:List Expr}{env:Env}{pos:Pos}
theorem star_cons(h:noStar e=true):starEach (e::es) env=(false,eval e env)::starEach es env:=by
 cases e<;>first | (cases h; done) | kernel_rfl
theorem star_nil:starEach [] env=[]:=by kernel_rfl
theorem back_cons(h:noStar e=true):backTo pos (starEach (e::es) env)=(false,eval e env)::backTo pos (starEach es env):=by
 rw[star_cons h]; rfl
theorem star_plain:∀{es:List Expr},es.all noStar=true→(backTo pos (starEach es env)).any (·.1)=false
 | [],_=>by rw[star_nil]; rfl
 | e::es,h=>by
  rw[List.all_cons,Bool.and_eq_true] at h
  rw[back_cons h.1,List.any_cons,star_plain h.2]
  rfl
theorem star_all:∀{es:List Expr},es.all noStar=true→(backTo pos (starEach es env)).all (fun x=>!x.1)=true
 | [],_=>by rw[star_nil]; rfl
 | e::es,h=>by
  rw[List.all_cons,Bool.and_eq_true] at h
  rw[back_cons h.1,List.all_cons,star_all h.2]
  rfl
theorem few_of(h:es.all noStar=true)(hl:decide (es.length<30)=true):((backTo pos (starEach es env)).all (fun x=>!x.1)&&(backToKw pos (keywordEach [] env)).all (fun x=>x.1.isSome)
   && decide (es.length+([]:List Keyword).length+(if ([]:List Keyword).isEmpty then 0 else 1)<30))=true:=by
 rw[star_all h]
 have:(keywordEach [] env)=[]:=by kernel_rfl
 rw[this]
 simpa[backToKw] using hl
theorem swaps_no{t:Option Expr}{l:Nat}(h:noComp e=true):swapsWith e t l env=pure false:=by
 cases e<;>first | (cases h; done) | rfl
theorem swapped_no{ts:List Expr}{n:Nat}{p:Pos}(h:noTup e=true):swappedStores [.Tuple ts n p] e env=pure none:=by
 cases e<;>first | (cases h; done) | rfl
theorem assign_cons(h:noStar e=true):assignEach (e::es) env=(false,assign e env)::assignEach es env:=by
 cases e<;>first | (cases h; done) | kernel_rfl
theorem assign_nil:assignEach [] env=[]:=by kernel_rfl
theorem assign_len:∀{es:List Expr},es.all noStar=true→(assignEach es env).length=es.length
 | [],_=>by rw[assign_nil]; rfl
 | e::es,h=>by
  rw[List.all_cons,Bool.and_eq_true] at h
  rw[assign_cons h.1,List.length_cons,assign_len h.2]
  rfl
theorem assign_find:∀{es:List Expr},es.all noStar=true→(assignEach es env).findIdx? (·.1)=none
 | [],_=>by rw[assign_nil]; rfl
 | e::es,h=>by
  rw[List.all_cons,Bool.and_eq_true] at h
  rw[assign_cons h.1,List.findIdx?_cons,assign_find h.2]
  rfl
theorem folded_no(h:noSet e=true):∀x,foldedSetIterable e env x=pure x:=by
 intro x
 cases e<;>first | (cases h; done) | rfl
theorem base_no{a:Str}{whole:Sem Value}(h:noCall o=true):attributeBase o a env whole=whole:=by
 cases o<;>first | (cases h; done) | rfl
theorem truth_no(h:plainT e=true):∀whole,isTrue e env whole=(do let v ←whole; standAt e.pos; holding [v] (truthy v)):=by
 intro whole
 cases e<;>first | (cases h; done) | kernel_rfl
theorem ix_no(h:noSlice e=true):PlainIx e:=by
 intro o i
 cases e<;>first | (cases h; done) | rfl
end
structure RC where
 sc:Scope
 N:List Str
 inC:Bool
 fns:List (Str×(List W→M W))
 con:List (Str×W)
 tab:List (Str×List (Str×W))
 bin:List Str
 own:List Str
 txt:List Str
 cmp:List ((Nat×Nat)×List Str)
noncomputable def FnAt(P:Program)(w:World)(K:PySem.W.Frag)(mg:Str→Option Value)(base:Heap)(cl:Nat→Addr)(k:Nat)(x:Str)(g:List W→M W):Prop:=
 ∃f fd ps,FnOk P w K mg base CX0 k f fd ps (spM K cl g)∧mg x=some (.ref f)∧PySem.W.keepIn K (.ref f)=true∧Binds K fd ps []
noncomputable def AllOf{α:Type}(P:Str→α→Prop):List (Str×α)→Prop
 | []=>True
 | (x,g)::r=>P x g∧AllOf P r
theorem AllOf.at{α:Type}{P:Str→α→Prop}{x:Str}{g:α}:∀{l:List (Str×α)},AllOf P l→l.lookup x=some g→P x g
 | [],_,e=>by cases e
 | (y,g')::r,h,e=>by
  rw[List.lookup_cons] at e
  cases q:x==y with
  | true=>rw[q] at e; cases e; rw[eq_of_beq q]; exact h.1
  | false=>rw[q] at e; exact AllOf.at h.2 e
noncomputable def AllNone(mg:Str→Option Value):List Str→Prop
 | []=>True
 | x::r=>mg x=none∧AllNone mg r
theorem AllNone.at{mg:Str→Option Value}{x:Str}:∀{l:List Str},AllNone mg l→x∈l→mg x=none
 | y::r,h,e=>by
  rcases List.mem_cons.mp e with rfl | e
  .exact h.1
  .exact AllNone.at h.2 e
structure BaseOk(P:Program)(w:World)(K:PySem.W.Frag)(mg:Str→Option Value)(base:Heap)(cl:Nat→Addr)(k:Nat)(Γ:RC):Prop where
 fns:AllOf (FnAt P w K mg base cl k) Γ.fns
 con:AllOf (Glob K mg) Γ.con
 tab:AllOf (TabOk K w.params mg) Γ.tab
 bin:AllNone mg Γ.bin
structure Fits(Γ:RC)(cl:Nat→Addr)(k:Nat)(X:Cx):Prop where
 sc:X.env.scope=Γ.sc
 N:X.N=Γ.N
 nd:X.N.Nodup
 fn:Γ.inC=false→∀x,X.fn x=true
 kind:Γ.sc.kind=.function
 calm:X.calm=true
 pass:PassesOwn (model X.prog X.w) X.A X.env X.xe
 room:Room k X.A
 base:BaseOk X.prog X.w X.K X.mg X.base cl k Γ
noncomputable def ixOf(x:Str):List Str→Option Nat
 | []=>none
 | y::r=>if y==x then some 0 else (ixOf x r).map (· + 1)
noncomputable def xName(Γ:RC)(x:Str):Option ME:=match ixOf x Γ.N with
 | some i=>if varB Γ.sc Γ.N i x=true then some (eVar i) else none
 | none=>match Γ.con.lookup x with
  | some w=>if glB Γ.sc x=true then some (eC w) else none
  | none=>none
noncomputable def xConst:Const→Option ME
 | .none=>some (eC .non)
 | .bool b=>some (eC (.bl b))
 | .int i=>some (eC (.int i))
 | .str x=>some (eC (.str x))
 | _=>none
noncomputable def opB(mu:Bool):Operator→Option (W→W→M W)
 | .Add=>match mu with
  | true=>some addM
  | false=>some addW
 | .Sub=>some subW
 | .Mult=>some mulW
 | .Mod=>some modW
 | .FloorDiv=>some divW
 | .Pow=>some powW
 | _=>none
noncomputable def opC:CmpOp→Option (W→W→M W)
 | .Eq=>some (eqW false)
 | .NotEq=>some (eqW true)
 | .In=>some (inW false)
 | .NotIn=>some (inW true)
 | .Lt=>some ltW
 | .LtE=>some leW
 | .Gt=>some gtW
 | .GtE=>some geW
 | .Is=>some (isNonW true)
 | .IsNot=>some (isNonW false)
noncomputable def xTg1(Γ:RC):Expr→Option MG
 | .Name x _=>match ixOf x Γ.N with
  | some i=>match Γ.inC with
   | true=>if setC Γ.sc Γ.N i x=true then some (gNm i) else none
   | false=>if setB Γ.sc Γ.N i x=true then some (gNm i) else none
  | none=>none
 | _=>none
noncomputable def xTg(Γ:RC):Expr→Option MG
 | .Tuple es _ _=>if es.all noStar=true then (mapO (xTg1 Γ) es).map gTp else none
 | e=>xTg1 Γ e
noncomputable def tgN:Expr→Nat
 | .Tuple es _ _=>es.length
 | _=>1
section
variable{Γ:RC}{cl:Nat→Addr}{k:Nat}{X:Cx}{x:Str}{m:ME}{pos:Pos}
theorem xName_ok(F:Fits Γ cl k X)(h:xName Γ x=some m):SE X cl (.Name x pos) m:=by
 unfold xName at h
 split at h
 .split at h
  .rename_i i _ q
   cases h
   exact v_ q F.sc F.N
  .cases h
 .split at h
  .rename_i w e
   split at h
   .rename_i q
    cases h
    exact gb_ q (F.base.con.at e) F.sc
   .cases h
  .cases h
theorem xConst_ok{c:Const}{j:Nat}(h:xConst c=some m):SE X cl (.Constant c j pos) m:=by
 unfold xConst at h
 split at h
 .cases h; exact se_non
 .cases h; exact se_bl
 .cases h; exact se_int
 .cases h; exact se_str
 .cases h
theorem opB_ok{mu:Bool}{op:Operator}{f:W→W→M W}(h:opB mu op=some f):OpR X (binaryOp op) (rM X.K cl f):=by
 unfold opB at h
 split at h
 .split at h
  .cases h; exact op_addM
  .cases h; exact op_addW
 .cases h; exact op_subW
 .cases h; exact op_mulW
 .cases h; exact op_modW
 .cases h; exact op_divW
 .cases h; exact op_powW
 .cases h
theorem opC_ok{op:CmpOp}{f:W→W→M W}(hu:X.A.units+64<cLine)(h:opC op=some f):OpR X (compareOp op) (rM X.K cl f):=by
 cases op<;>cases h
 .exact op_eqW hu
 .exact op_neW hu
 .exact op_ltW
 .exact op_leW
 .exact op_gtW
 .exact op_geW
 .exact op_isW
 .exact op_isNotW
 .exact op_inW hu
 .exact op_notInW hu
theorem xTg1_ok{e:Expr}{g:MG}(F:Fits Γ cl k X)(h:xTg1 Γ e=some g):SG X cl e g:=by
 unfold xTg1 at h
 split at h
 .rename_i x p
  split at h
  .rename_i i _
   split at h
   .split at h
    .rename_i q
     cases h
     exact gc_ q (F.N▸F.nd) F.sc F.N
    .cases h
   .rename_i c
    split at h
    .rename_i q
     cases h
     exact g_ q (F.N▸F.nd) F.sc F.N (F.fn c _)
    .cases h
  .cases h
 .cases h
theorem mapO_cons{α β:Type}{f:α→Option β}{x:α}{r:List α}{ys:List β}(h:mapO f (x::r)=some ys):∃y zs,f x=some y∧mapO f r=some zs∧ys=y::zs:=by
 unfold mapO at h
 split at h
 .rename_i y zs e1 e2
  cases h
  exact⟨y,zs,e1,e2,rfl⟩
 .cases h
theorem xTgs_ok(F:Fits Γ cl k X):∀{es:List Expr} {gs:List MG},es.all noStar=true→mapO (xTg1 Γ) es=some gs→SGs X cl es gs
 | [],gs,_,h=>by cases h; exact sgs_nil
 | e::es,gs,hn,h=>by
  obtain⟨g,gs',h1,h2,rfl⟩:=mapO_cons h
  rw[List.all_cons,Bool.and_eq_true] at hn
  exact sgs_cons (xTg1_ok F h1) (xTgs_ok F hn.2 h2) (by rw[assign_cons hn.1]; rfl)
theorem mapO_len{α β:Type}{f:α→Option β}:∀{l:List α} {ys:List β},mapO f l=some ys→ys.length=l.length
 | [],ys,h=>by cases h; rfl
 | x::r,ys,h=>by
  obtain⟨y,zs,_,h2,rfl⟩:=mapO_cons h
  rw[List.length_cons,List.length_cons,mapO_len h2]
theorem xTg_ok{e:Expr}{g:MG}(F:Fits Γ cl k X)(h:xTg Γ e=some g):SG X cl e g:=by
 unfold xTg at h
 split at h
 .rename_i es n p
  split at h
  .rename_i hn
   rw[Option.map_eq_some_iff] at h
   obtain⟨gs,h1,rfl⟩:=h
   exact sg_tup F.calm (xTgs_ok F hn h1) (by rw[assign_len hn,mapO_len h1]) (assign_find hn)
  .cases h
 .exact xTg1_ok F h
end
noncomputable def xArgs(E:Expr→Option ME)(es:List Expr):Option (List ME):=if es.all noStar=true then mapO E es else none
noncomputable def isBin(Γ:RC)(x:Str):Bool:=Γ.bin.any (· == x)
noncomputable def tyOf(x:Str):Option Ty:=if x=="int" then some .int else if x=="str" then some .str else if x=="bool" then some .bool else if x=="tuple" then some .tuple else if x=="list" then some .list else if x=="dict" then some .dict else none
noncomputable def xBuiltin(mu:Bool)(x:Str):Option (List W→M W):=
 if x=="len" then some lenW else if x=="all" then some allW else if x=="any" then some anyW else if x=="sum" then some sumW
 else if x=="int" then some intW else if x=="str" then some strW else if x=="tuple" then some tupleW else if x=="dict" then some dictW
 else if x=="list" then (match mu with
  | true=>some listM
  | false=>some listW)
 else none
noncomputable def setArg:List Expr→Option Expr
 | [.Call (.Name y _) [a] [] _]=>if y=="set" then some a else none
 | _=>none
noncomputable def isiArg(Γ:RC):List Expr→Option (Expr×Ty)
 | [a,.Name y _]=>if (glB Γ.sc y&&isBin Γ y&&noStar a)=true then (tyOf y).map fun T=>(a,T) else none
 | _=>none
noncomputable def xCallB(Γ:RC)(E:Expr→Option ME)(mu:Bool)(x:Str)(as:List Expr):Option ME:=
 if x=="isinstance" then (isiArg Γ as).bind fun p=>(E p.1).map (eUn (isW p.2))
 else match as with
  | []=>none
  | _::_=>(xBuiltin mu x).bind fun g=>(xArgs E as).map (eArgs g)
noncomputable def xCallN(Γ:RC)(E:Expr→Option ME)(mu:Bool)(x:Str)(as:List Expr):Option ME:=
 if glB Γ.sc x=true then (match Γ.fns.lookup x with
  | some g=>(xArgs E as).map (eArgs g)
  | none=>if isBin Γ x=true then (match setArg as with
    | some a=>if (x=="len" && glB Γ.sc "set" && isBin Γ "set" && noStar a)=true then (E a).map (eUn lenSet) else none
    | none=>xCallB Γ E mu x as) else none) else none
noncomputable def xMeth(E:Expr→Option ME)(o:Expr)(m:Str)(apos:Pos)(as:List Expr)(pos:Pos):Option ME:=
 if (noCall o&&(apos.endLine==pos.line)&&as.all noStar&&decide (as.length<30))=true then (E o).bind fun mo=>match as with
  | []=>if m=="pop" then some (eMethL popM mo []) else none
  | a::r=>if m=="append" then (mapO E (a::r)).map (eMethL appendM mo)
   else if m=="extend" then (mapO E (a::r)).map (eMethL extendM mo)
   else if m=="get" then (match r with
    | [b]=>(E a).bind fun ma=>(E b).map (eDget2 mo ma)
    | _=>none)
   else none
 else none
section
variable{Γ:RC}{cl:Nat→Addr}{k:Nat}{X:Cx}{x:Str}{m:ME}{pos p:Pos}{E:Expr→Option ME}{as:List Expr}{mu:Bool}
theorem xArgs_all:∀{es:List Expr} {ms:List ME},(∀e m,E e=some m→SE X cl e m)→es.all noStar=true→mapO E es=some ms→SA X cl es ms
 | [],ms,_,_,h=>by cases h; exact sa_nil
 | e::es,ms,hE,hn,h=>by
  obtain⟨m,ms',h1,h2,rfl⟩:=mapO_cons h
  rw[List.all_cons,Bool.and_eq_true] at hn
  exact sa_cons (hE _ _ h1) (xArgs_all hE hn.2 h2) (star_cons hn.1)
theorem xArgs_ok{es:List Expr}{ms:List ME}(hE:∀e m,E e=some m→SE X cl e m)(h:xArgs E es=some ms):es.all noStar=true∧SA X cl es ms:=by
 unfold xArgs at h
 split at h
 .rename_i hn
  exact⟨hn,xArgs_all hE hn h⟩
 .cases h
theorem bin_of(F:Fits Γ cl k X)(h:isBin Γ x=true):X.mg x=none:=by
 unfold isBin at h
 obtain⟨y,hy,e⟩:=List.any_eq_true.mp h
 rw[←eq_of_beq e]
 exact F.base.bin.at hy
theorem tyOf_ok{T:Ty}(h:tyOf x=some T):bootBuiltins x=some (.type T.name):=by
 unfold tyOf at h
 split at h
 .rename_i q; rw[eq_of_beq q]; cases h; exact tyb_int
 split at h
 .rename_i q; rw[eq_of_beq q]; cases h; exact tyb_str
 split at h
 .rename_i q; rw[eq_of_beq q]; cases h; exact tyb_bool
 split at h
 .rename_i q; rw[eq_of_beq q]; cases h; exact tyb_tuple
 split at h
 .rename_i q; rw[eq_of_beq q]; cases h; exact tyb_list
 split at h
 .rename_i q; rw[eq_of_beq q]; cases h; exact tyb_dict
 .cases h
theorem xBuiltin_ok{e:Expr}{es:List Expr}{ms:List ME}{g:List W→M W}(F:Fits Γ cl k X)(hg:glB Γ.sc x=true)(hb:isBin Γ x=true)(h:xBuiltin mu x=some g)(hn:(e::es).all noStar=true)(ha:SA X cl (e::es) ms):SE X cl (.Call (.Name x p) (e::es) [] pos) (eArgs g ms):=by
 have hm:=bin_of F hb
 rw[List.all_cons,Bool.and_eq_true] at hn
 have h1:=star_cons (es:=es) (env:=X.env) hn.1
 have h2:=star_plain (pos:=pos) (env:=X.env) hn.2
 unfold xBuiltin at h
 split at h
 .rename_i q; have q:=eq_of_beq q; subst q; cases h; exact cB_ hg call_lenW hm PySem.boot_len ha F.sc h1 h2
 split at h
 .rename_i q; have q:=eq_of_beq q; subst q; cases h; exact cB_ hg (call_allW F.calm) hm ML.boot_all ha F.sc h1 h2
 split at h
 .rename_i q; have q:=eq_of_beq q; subst q; cases h; exact cB_ hg (call_anyW F.calm) hm ML.boot_any ha F.sc h1 h2
 split at h
 .rename_i q; have q:=eq_of_beq q; subst q; cases h; exact cB_ hg (call_sumW F.calm) hm ML.boot_sum ha F.sc h1 h2
 split at h
 .rename_i q; have q:=eq_of_beq q; subst q; cases h; exact cT_ hg call_intW hm tyb_int ha F.sc h1 h2
 split at h
 .rename_i q; have q:=eq_of_beq q; subst q; cases h; exact cT_ hg call_strW hm tyb_str ha F.sc h1 h2
 split at h
 .rename_i q; have q:=eq_of_beq q; subst q; cases h; exact cT_ hg call_tupleW hm tyb_tuple ha F.sc h1 h2
 split at h
 .rename_i q; have q:=eq_of_beq q; subst q; cases h; exact cT_ hg (call_dictW F.calm) hm tyb_dict ha F.sc h1 h2
 split at h
 .rename_i q
  have q:=eq_of_beq q; subst q
  split at h
  .cases h; exact cT_ hg call_listM hm tyb_list ha F.sc h1 h2
  .cases h; exact cT_ hg call_listW hm tyb_list ha F.sc h1 h2
 .cases h
theorem isiArg_ok{a:Expr}{T:Ty}(h:isiArg Γ as=some (a,T)):∃y p2,as=[a,.Name y p2]∧glB Γ.sc y=true∧isBin Γ y=true∧noStar a=true∧tyOf y=some T:=by
 unfold isiArg at h
 split at h
 .rename_i a' y p2
  split at h
  .rename_i q
   rw[Option.map_eq_some_iff] at h
   obtain⟨T',e,z⟩:=h
   cases z
   simp only[Bool.and_eq_true] at q
   exact⟨y,p2,rfl,q.1.1,q.1.2,q.2,e⟩
  .cases h
 .cases h
theorem xCallB_ok(F:Fits Γ cl k X)(hE:∀e m,E e=some m→SE X cl e m)(hg:glB Γ.sc x=true)(hb:isBin Γ x=true)(h:xCallB Γ E mu x as=some m):SE X cl (.Call (.Name x p) as [] pos) m:=by
 unfold xCallB at h
 split at h
 .rename_i q
  have q:=eq_of_beq q; subst q
  rw[Option.bind_eq_some_iff] at h
  obtain⟨⟨a,T⟩,e,h⟩:=h
  rw[Option.map_eq_some_iff] at h
  obtain⟨ma,e2,rfl⟩:=h
  obtain⟨y,p2,rfl,g2,b2,ns,ty⟩:=isiArg_ok e
  exact isi_ T hg g2 (hE _ _ e2) (bin_of F hb) (bin_of F b2) (tyOf_ok ty) F.sc (star_cons ns) (star_cons rfl) (star_plain rfl)
 .split at h
  .cases h
  .rw[Option.bind_eq_some_iff] at h
   obtain⟨g,e,h⟩:=h
   rw[Option.map_eq_some_iff] at h
   obtain⟨ms,e2,rfl⟩:=h
   obtain⟨hn,ha⟩:=xArgs_ok hE e2
   exact xBuiltin_ok F hg hb e hn ha
theorem setArg_ok{a:Expr}(h:setArg as=some a):∃p2 p3,as=[.Call (.Name "set" p2) [a] [] p3]:=by
 unfold setArg at h
 split at h
 .rename_i y p2 a' p3
  split at h
  .rename_i q
   cases h
   rw[eq_of_beq q]
   exact⟨p2,p3,rfl⟩
  .cases h
 .cases h
theorem xCallN_ok(F:Fits Γ cl k X)(hE:∀e m,E e=some m→SE X cl e m)(h:xCallN Γ E mu x as=some m):SE X cl (.Call (.Name x p) as [] pos) m:=by
 unfold xCallN at h
 split at h
 .rename_i hg
  split at h
  .rename_i g e
   rw[Option.map_eq_some_iff] at h
   obtain⟨ms,e2,rfl⟩:=h
   obtain⟨hn,ha⟩:=xArgs_ok hE e2
   obtain⟨f,fd,ps,fo,hm,hk,hb⟩:=F.base.fns.at e
   cases as with
   | nil=>
    have:ms=[]:=by
     cases e2; rfl
    subst this
    exact c0_ hg fo F.room hm hk hb F.sc
   | cons a r=>
    rw[List.all_cons,Bool.and_eq_true] at hn
    exact c_ hg fo F.room hm hk hb ha F.sc (star_cons hn.1) (star_plain hn.2)
  .split at h
   .rename_i hb
    split at h
    .rename_i a e
     split at h
     .rename_i q
      simp only[Bool.and_eq_true] at q
      rw[Option.map_eq_some_iff] at h
      obtain⟨ma,e2,rfl⟩:=h
      obtain⟨p2,p3,rfl⟩:=setArg_ok e
      have hx:=eq_of_beq q.1.1.1
      subst hx
      exact lset_ hg q.1.1.2 F.calm (bin_of F hb) (bin_of F q.1.2) (hE _ _ e2) F.sc (star_cons q.2) (star_plain rfl) (star_cons rfl) (star_plain rfl)
     .cases h
    .exact xCallB_ok F hE hg hb h
   .cases h
 .cases h
theorem xMeth_ok{o:Expr}{nm:Str}{apos:Pos}(F:Fits Γ cl k X)(hE:∀e m,E e=some m→SE X cl e m)(h:xMeth E o nm apos as pos=some m):SE X cl (.Call (.Attribute o nm apos) as [] pos) m:=by
 unfold xMeth at h
 split at h
 .rename_i q
  simp only[Bool.and_eq_true] at q
  obtain⟨⟨⟨q1,q2⟩,q3⟩,q4⟩:=q
  rw[Option.bind_eq_some_iff] at h
  obtain⟨mo,eo,h⟩:=h
  split at h
  .split at h
   .rename_i z
    rw[eq_of_beq z]
    cases h
    exact se_pop (hE _ _ eo) (base_no q1) q2
   .cases h
  .rename_i a r
   have hn:=q3
   rw[List.all_cons,Bool.and_eq_true] at hn
   split at h
   .rename_i z
    rw[eq_of_beq z]
    rw[Option.map_eq_some_iff] at h
    obtain⟨ms,e2,rfl⟩:=h
    exact se_append (hE _ _ eo) (xArgs_all hE q3 e2) (base_no q1) (few_of q3 q4) q2 (star_cons hn.1) (star_plain hn.2)
   split at h
   .rename_i z
    rw[eq_of_beq z]
    rw[Option.map_eq_some_iff] at h
    obtain⟨ms,e2,rfl⟩:=h
    exact se_extend (hE _ _ eo) (xArgs_all hE q3 e2) (base_no q1) (few_of q3 q4) q2 (star_cons hn.1) (star_plain hn.2)
   split at h
   .rename_i z
    rw[eq_of_beq z]
    split at h
    .rename_i b
     rw[Option.bind_eq_some_iff] at h
     obtain⟨ma,e1,h⟩:=h
     rw[Option.map_eq_some_iff] at h
     obtain⟨mb,e2,rfl⟩:=h
     have hb:noStar b=true:=by simpa using hn.2
     exact se_dget2 F.room.units (hE _ _ eo) (hE _ _ e1) (hE _ _ e2) ⟨base_no q1,few_of q3 q4,q2,by rw[back_cons hn.1,back_cons hb,star_nil]; rfl⟩
    .cases h
   .cases h
 .cases h
end
noncomputable def isTxt0(Γ:RC):Expr→Bool
 | .Constant (.str _) _ _=>true
 | .Name x _=>Γ.txt.any (· == x)
 | _=>false
noncomputable def isTxt(Γ:RC):Expr→Bool
 | .Subscript e (.Slice _ _ _ _) _=>isTxt0 Γ e
 | e=>isTxt0 Γ e
noncomputable def isTup:Expr→Bool
 | .Tuple ..=>true
 | _=>false
noncomputable def xIterN(Γ:RC)(E:Expr→Option ME)(tg:Expr)(x:Str)(as:List Expr):Option MI:=
 if (glB Γ.sc x&&isBin Γ x&&as.all noStar)=true then (match as with
  | [e]=>if x=="range" then (E e).map fun m=>iRng [m]
   else if (x=="enumerate" && isTup tg)=true then (E e).map fun m=>iEnum [m]
   else none
  | [e,e2]=>if (x=="zip" && isTup tg)=true then (E e).bind fun m=>(E e2).map fun m2=>iZip [m,m2] else none
  | _=>none) else none
noncomputable def xIterB(Γ:RC)(E:Expr→Option ME)(tg:Expr):Expr→Option MI
 | .Call (.Name x _) as [] _=>xIterN Γ E tg x as
 | _=>none
noncomputable def xIter(Γ:RC)(E:Expr→Option ME)(tg it:Expr):Option MI:=match xIterB Γ E tg it with
 | some m=>some m
 | none=>(E it).map fun m=>match isTxt Γ it with
  | true=>iStr m
  | false=>iSeq m
section
variable{Γ:RC}{cl:Nat→Addr}{k:Nat}{X:Cx}{x:Str}{pos p:Pos}{E:Expr→Option ME}{as:List Expr}{tg it:Expr}{mi:MI}
theorem isTup_ok(h:isTup tg=true):∃es n tp,tg=.Tuple es n tp:=by
 unfold isTup at h
 split at h
 .exact⟨_,_,_,rfl⟩
 .cases h
theorem xIterN_ok(F:Fits Γ cl k X)(hE:∀e m,E e=some m→SE X cl e m)(h:xIterN Γ E tg x as=some mi):SI X cl tg (.Call (.Name x p) as [] pos) mi:=by
 unfold xIterN at h
 split at h
 .rename_i q
  simp only[Bool.and_eq_true] at q
  obtain⟨⟨q1,q2⟩,q3⟩:=q
  split at h
  .rename_i e
   have hn:noStar e=true:=by simpa using q3
   split at h
   .rename_i z
    have z:=eq_of_beq z; subst z
    rw[Option.map_eq_some_iff] at h
    obtain⟨m,e1,rfl⟩:=h
    exact rng_ q1 (bin_of F q2) (sa_cons (hE _ _ e1) sa_nil (star_cons hn)) F.sc (by rw[star_cons hn,star_nil])
   split at h
   .rename_i z
    rw[Bool.and_eq_true] at z
    obtain⟨es,n,tp,rfl⟩:=isTup_ok z.2
    have z:=eq_of_beq z.1; subst z
    rw[Option.map_eq_some_iff] at h
    obtain⟨m,e1,rfl⟩:=h
    exact enu_ q1 (bin_of F q2) (sa_cons (hE _ _ e1) sa_nil (star_cons hn)) F.sc (star_cons hn) (star_plain rfl)
   .cases h
  .rename_i e e2
   rw[List.all_cons,Bool.and_eq_true] at q3
   have hn2:noStar e2=true:=by simpa using q3.2
   split at h
   .rename_i z
    rw[Bool.and_eq_true] at z
    obtain⟨es,n,tp,rfl⟩:=isTup_ok z.2
    have z:=eq_of_beq z.1; subst z
    rw[Option.bind_eq_some_iff] at h
    obtain⟨m,e1,h⟩:=h
    rw[Option.map_eq_some_iff] at h
    obtain⟨m2,e3,rfl⟩:=h
    exact zip_ q1 (bin_of F q2) (sa_cons (hE _ _ e1) (sa_cons (hE _ _ e3) sa_nil (star_cons hn2)) (star_cons q3.1)) F.sc (star_cons q3.1) (star_plain q3.2)
   .cases h
  .cases h
 .cases h
theorem xIter_ok(F:Fits Γ cl k X)(hE:∀e m,E e=some m→SE X cl e m)(h:xIter Γ E tg it=some mi):SI X cl tg it mi:=by
 unfold xIter at h
 split at h
 .rename_i m e
  cases h
  unfold xIterB at e
  split at e
  .exact xIterN_ok F hE e
  .cases e
 .rw[Option.map_eq_some_iff] at h
  obtain⟨m,e1,h⟩:=h
  cases q:isTxt Γ it with
  | true=>rw[q] at h; subst h; exact si_str (hE _ _ e1)
  | false=>rw[q] at h; subst h; exact si_seq (hE _ _ e1)
end
noncomputable def xTests(T:Expr→Option MT):List Expr→Option MT
 | []=>some tTrue
 | [c]=>T c
 | _=>none
structure CompR where
 mi:MI
 nl:Nat
 ks:List Nat
 g:MG
 t:MT
 m:ME
noncomputable def RC.inner(Γ:RC)(scope:Scope)(N':List Str):RC:={ Γ with sc:=relS Γ.sc scope,N:=N',inC:=true }
noncomputable def xComp1(Γ:RC)(E:RC→Bool→Expr→Option ME)(T:RC→Expr→Option MT)(elt tg it:Expr)(ifs:List Expr)(scope:Scope)(N':List Str):Option CompR:=
 if (noSet it&&nodupB N')=true then (mapO (fun x=>ixOf x Γ.N) (N'.drop (tgN tg))).bind fun ks=>
  if compOkB Γ.sc Γ.N scope N' (tgN tg) ks=true then (xIter Γ (E Γ false) tg it).bind fun mi=>(xTg (Γ.inner scope N') tg).bind fun g=>(xTests (T (Γ.inner scope N')) ifs).bind fun t=>(E (Γ.inner scope N') false elt).map fun m=>⟨mi,tgN tg,ks,g,t,m⟩
  else none
 else none
noncomputable def xComp(Γ:RC)(E:RC→Bool→Expr→Option ME)(T:RC→Expr→Option MT)(elt:Expr)(gens:List Comprehension)(scope:Scope)(pos:Pos):Option CompR:=match gens with
 | [⟨tg,it,ifs,ia⟩]=>match Γ.cmp.lookup (pos.line,pos.col) with
  | some N'=>if ia=0 then xComp1 Γ E T elt tg it ifs scope N' else none
  | none=>none
 | _=>none
section
variable{Γ:RC}{cl:Nat→Addr}{k:Nat}{X:Cx}{E:RC→Bool→Expr→Option ME}{T:RC→Expr→Option MT}{elt:Expr}{gens:List Comprehension}{scope:Scope}{pos:Pos}{r:CompR}
theorem Fits.inner(F:Fits Γ cl k X){N':List Str}(hN:N'.Nodup)(hk:scope.kind=.function)(cs:List (Str×Addr))(C:Addr)(s₀:Shared)(H₀:Hp)(ex:List Addr):Fits (Γ.inner scope N') cl k (cxC X scope cs C N' s₀ H₀ ex) where
 sc:=by
  show relabel scope X.env=relS Γ.sc scope
  rw[←F.sc]
  rfl
 N:=rfl
 nd:=hN
 fn:=fun h=>by cases h
 kind:=hk
 calm:=F.calm
 pass:=PassesOwn.never
 room:=F.room
 base:=⟨F.base.fns,F.base.con,F.base.tab,F.base.bin⟩
theorem xTests_ok{t:Expr→Option MT}{ifs:List Expr}{m:MT}(hT:∀e m,t e=some m→ST X cl e m)(h:xTests t ifs=some m):STs X cl ifs m:=by
 unfold xTests at h
 split at h
 .cases h; exact sts_nil
 .exact sts_one (hT _ _ h)
 .cases h
structure CompG(X:Cx)(cl:Nat→Addr)(elt:Expr)(gens:List Comprehension)(scope:Scope)(r:CompR):Prop where
 ex:∃tg it ifs N',gens=[⟨tg,it,ifs,0⟩]∧compOkB X.env.scope X.N scope N' r.nl r.ks=true∧noSet it=true∧SI X cl tg it r.mi∧(∀cs C s₀ H₀ ex,SG (cxC X scope cs C N' s₀ H₀ ex) cl tg r.g)∧(∀cs C s₀ H₀ ex,STs (cxC X scope cs C N' s₀ H₀ ex) cl ifs r.t)∧∀cs C s₀ H₀ ex,SE (cxC X scope cs C N' s₀ H₀ ex) cl elt r.m
theorem xComp_ok(F:Fits Γ cl k X)(hE:∀Γ X,Fits Γ cl k X→∀mu e m,E Γ mu e=some m→SE X cl e m)(hT:∀Γ X,Fits Γ cl k X→∀e m,T Γ e=some m→ST X cl e m)(h:xComp Γ E T elt gens scope pos=some r):CompG X cl elt gens scope r:=by
 unfold xComp at h
 split at h
 .rename_i tg it ifs ia
  split at h
  .rename_i N' _
   split at h
   .rename_i z
    subst z
    unfold xComp1 at h
    split at h
    .rename_i q
     rw[Bool.and_eq_true] at q
     rw[Option.bind_eq_some_iff] at h
     obtain⟨ks,e1,h⟩:=h
     split at h
     .rename_i ok
      rw[Option.bind_eq_some_iff] at h
      obtain⟨mi,e2,h⟩:=h
      rw[Option.bind_eq_some_iff] at h
      obtain⟨g,e3,h⟩:=h
      rw[Option.bind_eq_some_iff] at h
      obtain⟨t,e4,h⟩:=h
      rw[Option.map_eq_some_iff] at h
      obtain⟨m,e5,rfl⟩:=h
      have Fi:=fun cs C s₀ H₀ ex=>F.inner (scope:=scope) (nd_of q.2) (compOk_of ok).kind cs C s₀ H₀ ex
      exact⟨tg,it,ifs,N',rfl,by rw[F.sc,F.N]; exact ok,q.1,xIter_ok F (hE _ _ F false) e2,fun cs C s₀ H₀ ex=>xTg_ok (Fi cs C s₀ H₀ ex) e3,fun cs C s₀ H₀ ex=>xTests_ok (hT _ _ (Fi cs C s₀ H₀ ex)) e4,fun cs C s₀ H₀ ex=>hE _ _ (Fi cs C s₀ H₀ ex) _ _ _ e5⟩
     .cases h
    .cases h
   .cases h
  .cases h
 .cases h
end
noncomputable def tabOf(Γ:RC):CmpOp→Expr→Option (Bool×List (Str×W))
 | .In,.Name x _=>if glB Γ.sc x=true then (Γ.tab.lookup x).map fun l=>(false,l) else none
 | .NotIn,.Name x _=>if glB Γ.sc x=true then (Γ.tab.lookup x).map fun l=>(true,l) else none
 | _,_=>none
noncomputable def xCmp1(Γ:RC)(E:Expr→Option ME)(a:Expr)(op:CmpOp)(b:Expr):Option ME:=match tabOf Γ op b with
 | some p=>(E a).map (eUn (tabIn p.1 p.2))
 | none=>if behindInMarks op b=true then none else (opC op).bind fun f=>(E a).bind fun ma=>(E b).map fun mb=>eOp f ma mb
noncomputable def xCmp2(E:Expr→Option ME)(a:Expr)(op op':CmpOp)(b c:Expr):Option ME:=
 if lastMarks [op,op'] [b,c]=true then none else (opC op).bind fun f=>(opC op').bind fun g=>(E a).bind fun ma=>(E b).bind fun mb=>(E c).map fun mc=>eChain f g ma mb mc
noncomputable def xCmp(Γ:RC)(E:Expr→Option ME)(a:Expr)(ops:List CmpOp)(bs:List Expr):Option ME:=match ops,bs with
 | [op],[b]=>xCmp1 Γ E a op b
 | [op,op'],[b,c]=>xCmp2 E a op op' b c
 | _,_=>none
noncomputable def xOpt(E:Expr→Option ME):Option Expr→Option (Option ME)
 | none=>some none
 | some e=>(E e).map some
noncomputable def xSlice(E:Expr→Option ME)(ma:ME)(lo hi st:Option Expr):Option ME:=match st with
 | none=>(xOpt E lo).bind fun ml=>(xOpt E hi).map fun mh=>eSl ma ml mh
 | some (.UnaryOp .USub (.Constant (.int i) _ _) _)=>match lo,hi with
  | none,none=>if i=1 then some (eUn revW ma) else none
  | _,_=>none
 | _=>none
noncomputable def xTabGet(Γ:RC)(E:Expr→Option ME)(a b:Expr):Option ME:=match a with
 | .Name x _=>if (glB Γ.sc x&&noSlice b)=true then (match Γ.tab.lookup x with
  | some l=>(E b).map (eUn (tabGet l))
  | none=>none) else none
 | _=>none
noncomputable def xSub(Γ:RC)(E:Expr→Option ME)(a b:Expr):Option ME:=match xTabGet Γ E a b with
 | some m=>some m
 | none=>(E a).bind fun ma=>match b with
  | .Slice lo hi st _=>xSlice E ma lo hi st
  | b=>(E b).map (eOp ixW ma)
noncomputable def xBoolE(op:BoolOp)(E:Expr→Option ME):List Expr→Option ME
 | []=>none
 | [a]=>E a
 | a::r=>(E a).bind fun ma=>(xBoolE op E r).map fun mb=>match op with
  | .And=>eAnd ma mb
  | .Or=>eOr ma mb
noncomputable def xBoolT(op:BoolOp)(T:Expr→Option MT):List Expr→Option MT
 | []=>none
 | [a]=>T a
 | a::r=>(T a).bind fun ma=>(xBoolT op T r).map fun mb=>match op with
  | .And=>tAndM ma mb
  | .Or=>tOrM ma mb
noncomputable def xPairs(E:Expr→Option ME):List (Option Expr)→List Expr→Option (List (ME×ME))
 | [],[]=>some []
 | some a::ks,b::vs=>(E a).bind fun ma=>(E b).bind fun mb=>(xPairs E ks vs).map fun r=>(ma,mb)::r
 | _,_=>none
noncomputable def xDict(E:Expr→Option ME)(mu:Bool)(ks:List (Option Expr))(vs:List Expr):Option ME:=match ks,vs with
 | [],[]=>match mu with
  | true=>some eDnew
  | false=>some (eC (.fdc []))
 | k::ks,v::vs=>if decide (ks.length<15)=true then (xPairs E (k::ks) (v::vs)).map eDisp else none
 | _,_=>none
noncomputable def compME(mu:Bool)(r:CompR):ME:=match mu with
 | true=>eCompM r.mi r.nl r.ks r.g r.t r.m
 | false=>eComp r.mi r.nl r.ks r.g r.t r.m
noncomputable def stepE(E:RC→Bool→Expr→Option ME)(T:RC→Expr→Option MT)(Γ:RC)(mu:Bool):Expr→Option ME
 | .Name x _=>xName Γ x
 | .Constant c _ _=>xConst c
 | .UnaryOp .Not a _=>(E Γ false a).map eNot
 | .UnaryOp .USub a _=>(E Γ false a).map (eUn negW)
 | .BinOp a op b _=>(opB mu op).bind fun f=>(E Γ false a).bind fun ma=>(E Γ false b).map (eOp f ma)
 | .Compare a ops bs _=>xCmp Γ (E Γ false) a ops bs
 | .BoolOp op vs _=>xBoolE op (E Γ false) vs
 | .IfExp t a b _=>(T Γ t).bind fun mt=>(E Γ false a).bind fun ma=>(E Γ false b).map (eIf mt ma)
 | .Tuple es _ _=>(xArgs (E Γ false) es).map (eArgs tupW)
 | .List es _=>(xArgs (E Γ false) es).map (match mu with
  | true=>eArgs lstW
  | false=>eArgs flsW)
 | .Dict ks vs _=>xDict (E Γ false) mu ks vs
 | .Subscript a b _=>xSub Γ (E Γ false) a b
 | .Call (.Name x _) as [] _=>xCallN Γ (E Γ false) mu x as
 | .Call (.Attribute o nm apos) as [] pos=>xMeth (E Γ false) o nm apos as pos
 | .ListComp elt gens scope pos=>(xComp Γ E T elt gens scope pos).map (compME mu)
 | _=>none
noncomputable def stepT(E:RC→Bool→Expr→Option ME)(T:RC→Expr→Option MT)(Γ:RC):Expr→Option MT
 | .BoolOp op vs _=>xBoolT op (T Γ) vs
 | .UnaryOp .Not a _=>(T Γ a).map tNotM
 | .Compare a ops bs _=>(xCmp Γ (E Γ false) a ops bs).map tVal
 | e=>if plainT e=true then (E Γ false e).map tVal else none
noncomputable def cET:Nat→(RC→Bool→Expr→Option ME)×(RC→Expr→Option MT)
 | 0=>(fun _ _ _=>none,fun _ _=>none)
 | n+1=>(stepE (cET n).1 (cET n).2,stepT (cET n).1 (cET n).2)
section
variable{Γ:RC}{cl:Nat→Addr}{k:Nat}{X:Cx}{m:ME}{pos p:Pos}{E:Expr→Option ME}{T:Expr→Option MT}{a b:Expr}{mu:Bool}
theorem xCmp1_ok{op:CmpOp}(F:Fits Γ cl k X)(hE:∀e m,E e=some m→SE X cl e m)(h:xCmp1 Γ E a op b=some m):SE X cl (.Compare a [op] [b] pos) m∧ST X cl (.Compare a [op] [b] pos) (tVal m):=by
 unfold xCmp1 at h
 split at h
 .rename_i q e
  rw[Option.map_eq_some_iff] at h
  obtain⟨ma,e1,rfl⟩:=h
  unfold tabOf at e
  split at e
  .split at e
   .rename_i hg
    rw[Option.map_eq_some_iff] at e
    obtain⟨l,e2,rfl⟩:=e
    exact⟨tI_ hg F.room.units (F.base.tab.at e2) (hE _ _ e1) F.sc,tIt_ hg F.room.units (F.base.tab.at e2) (hE _ _ e1) F.sc⟩
   .cases e
  .split at e
   .rename_i hg
    rw[Option.map_eq_some_iff] at e
    obtain⟨l,e2,rfl⟩:=e
    exact⟨tN_ hg F.room.units (F.base.tab.at e2) (hE _ _ e1) F.sc,tNt_ hg F.room.units (F.base.tab.at e2) (hE _ _ e1) F.sc⟩
   .cases e
  .cases e
 .split at h
  .cases h
  .rename_i hm
   rw[Bool.not_eq_true] at hm
   rw[Option.bind_eq_some_iff] at h
   obtain⟨f,e0,h⟩:=h
   rw[Option.bind_eq_some_iff] at h
   obtain⟨ma,e1,h⟩:=h
   rw[Option.map_eq_some_iff] at h
   obtain⟨mb,e2,rfl⟩:=h
   exact⟨se_cmp (opC_ok F.room.units e0) (hE _ _ e1) (hE _ _ e2) hm,st_cmp (opC_ok F.room.units e0) (hE _ _ e1) (hE _ _ e2) hm⟩
theorem xCmp2_ok{op op':CmpOp}{c:Expr}(F:Fits Γ cl k X)(hE:∀e m,E e=some m→SE X cl e m)(h:xCmp2 E a op op' b c=some m):SE X cl (.Compare a [op,op'] [b,c] pos) m∧ST X cl (.Compare a [op,op'] [b,c] pos) (tVal m):=by
 unfold xCmp2 at h
 split at h
 .cases h
 .rename_i hm
  rw[Bool.not_eq_true] at hm
  rw[Option.bind_eq_some_iff] at h
  obtain⟨f,e0,h⟩:=h
  rw[Option.bind_eq_some_iff] at h
  obtain⟨g,e01,h⟩:=h
  rw[Option.bind_eq_some_iff] at h
  obtain⟨ma,e1,h⟩:=h
  rw[Option.bind_eq_some_iff] at h
  obtain⟨mb,e2,h⟩:=h
  rw[Option.map_eq_some_iff] at h
  obtain⟨mc,e3,rfl⟩:=h
  exact⟨se_chain (opC_ok F.room.units e0) (opC_ok F.room.units e01) (hE _ _ e1) (hE _ _ e2) (hE _ _ e3) hm,st_chain (opC_ok F.room.units e0) (opC_ok F.room.units e01) (hE _ _ e1) (hE _ _ e2) (hE _ _ e3) hm⟩
theorem xCmp_ok{ops:List CmpOp}{bs:List Expr}(F:Fits Γ cl k X)(hE:∀e m,E e=some m→SE X cl e m)(h:xCmp Γ E a ops bs=some m):SE X cl (.Compare a ops bs pos) m∧ST X cl (.Compare a ops bs pos) (tVal m):=by
 unfold xCmp at h
 split at h
 .exact xCmp1_ok F hE h
 .exact xCmp2_ok F hE h
 .cases h
theorem xOpt_ok{o:Option Expr}{mo:Option ME}(hE:∀e m,E e=some m→SE X cl e m)(h:xOpt E o=some mo):SO X cl o mo:=by
 unfold xOpt at h
 split at h
 .cases h; exact so_none
 .rw[Option.map_eq_some_iff] at h
  obtain⟨m,e1,rfl⟩:=h
  exact so_some (hE _ _ e1)
theorem xSlice_ok{ma:ME}{lo hi st:Option Expr}(hE:∀e m,E e=some m→SE X cl e m)(ha:SE X cl a ma)(h:xSlice E ma lo hi st=some m):SE X cl (.Subscript a (.Slice lo hi st p) pos) m:=by
 unfold xSlice at h
 split at h
 .rw[Option.bind_eq_some_iff] at h
  obtain⟨ml,e1,h⟩:=h
  rw[Option.map_eq_some_iff] at h
  obtain⟨mh,e2,rfl⟩:=h
  exact se_sl ha (xOpt_ok hE e1) (xOpt_ok hE e2)
 .split at h
  .split at h
   .rename_i z
    subst z
    cases h
    exact se_rev ha
   .cases h
  .cases h
 .cases h
theorem xTabGet_ok(F:Fits Γ cl k X)(hE:∀e m,E e=some m→SE X cl e m)(h:xTabGet Γ E a b=some m):SE X cl (.Subscript a b pos) m:=by
 unfold xTabGet at h
 split at h
 .split at h
  .rename_i q
   rw[Bool.and_eq_true] at q
   split at h
   .rename_i l e
    rw[Option.map_eq_some_iff] at h
    obtain⟨mb,e1,rfl⟩:=h
    exact tG_ q.1 F.room.units (F.base.tab.at e) (hE _ _ e1) F.sc (ix_no q.2)
   .cases h
  .cases h
 .cases h
theorem xSub_ok(F:Fits Γ cl k X)(hE:∀e m,E e=some m→SE X cl e m)(h:xSub Γ E a b=some m):SE X cl (.Subscript a b pos) m:=by
 unfold xSub at h
 split at h
 .rename_i m' e
  cases h
  exact xTabGet_ok F hE e
 .rw[Option.bind_eq_some_iff] at h
  obtain⟨ma,e1,h⟩:=h
  split at h
  .exact xSlice_ok hE (hE _ _ e1) h
  .rename_i hb
   rw[Option.map_eq_some_iff] at h
   obtain⟨mb,e2,rfl⟩:=h
   refine se_ix (hE _ _ e1) (hE _ _ e2) (ix_no ?_)
   cases b<;>first | rfl | exact absurd rfl (hb _ _ _ _)
theorem xBoolE_ok{op:BoolOp}(hE:∀e m,E e=some m→SE X cl e m):∀{vs:List Expr} {m:ME},xBoolE op E vs=some m→SE X cl (.BoolOp op vs pos) m
 | [],m,h=>by cases h
 | [a],m,h=>se_one (hE _ _ h)
 | a::b::r,m,h=>by
  unfold xBoolE at h
  rw[Option.bind_eq_some_iff] at h
  obtain⟨ma,e1,h⟩:=h
  rw[Option.map_eq_some_iff] at h
  obtain⟨mb,e2,h⟩:=h
  have ih:=xBoolE_ok hE e2
  cases op with
  | And=>subst h; exact se_and (hE _ _ e1) ih
  | Or=>subst h; exact se_or (hE _ _ e1) ih
theorem xBoolT_ok{op:BoolOp}(hT:∀e m,T e=some m→ST X cl e m):∀{vs:List Expr} {m:MT},xBoolT op T vs=some m→SW X cl (.BoolOp op vs pos) m
 | [],m,h=>by cases h
 | [a],m,h=>by
  cases op with
  | And=>exact sw_and1 (hT _ _ h)
  | Or=>exact sw_or1 (hT _ _ h)
 | a::b::r,m,h=>by
  unfold xBoolT at h
  rw[Option.bind_eq_some_iff] at h
  obtain⟨ma,e1,h⟩:=h
  rw[Option.map_eq_some_iff] at h
  obtain⟨mb,e2,h⟩:=h
  have ih:=xBoolT_ok hT e2
  cases op with
  | And=>subst h; exact sw_and (hT _ _ e1) ih
  | Or=>subst h; exact sw_or (hT _ _ e1) ih
theorem xPairs_ok(hE:∀e m,E e=some m→SE X cl e m):∀{ks:List (Option Expr)} {vs:List Expr} {r:List (ME×ME)},xPairs E ks vs=some r→SPs X cl pos ks vs r∧ks.all (·.isSome)=true∧ks.length=vs.length
 | [],[],r,h=>by cases h; exact⟨sp_nil,rfl,rfl⟩
 | some a::ks,b::vs,r,h=>by
  unfold xPairs at h
  rw[Option.bind_eq_some_iff] at h
  obtain⟨ma,e1,h⟩:=h
  rw[Option.bind_eq_some_iff] at h
  obtain⟨mb,e2,h⟩:=h
  rw[Option.map_eq_some_iff] at h
  obtain⟨r',e3,rfl⟩:=h
  obtain⟨i1,i2,i3⟩:=xPairs_ok hE e3
  exact⟨sp_cons (hE _ _ e1) (hE _ _ e2) i1,by simpa using i2,by simpa using i3⟩
 | [],_::_,r,h=>by simp[xPairs] at h
 | none::_,_,r,h=>by simp[xPairs] at h
 | some _::_,[],r,h=>by simp[xPairs] at h
theorem xDict_ok{ks:List (Option Expr)}{vs:List Expr}(hE:∀e m,E e=some m→SE X cl e m)(h:xDict E mu ks vs=some m):SE X cl (.Dict ks vs pos) m:=by
 unfold xDict at h
 split at h
 .split at h
  .cases h; exact se_dnewM
  .cases h; exact se_dnew
 .split at h
  .rename_i q
   rw[Option.map_eq_some_iff] at h
   obtain⟨r,e1,rfl⟩:=h
   obtain⟨i1,i2,i3⟩:=xPairs_ok (pos:=pos) hE e1
   exact se_disp i1 i2 i3 (by simp) (by rw[decide_eq_true_eq] at q; simp only[List.length_cons]; omega)
  .cases h
 .cases h
end
section
variable{Γ:RC}{cl:Nat→Addr}{k:Nat}{X:Cx}{m:ME}{pos p:Pos}{E:RC→Bool→Expr→Option ME}{T:RC→Expr→Option MT}{mu:Bool}
theorem compME_ok{elt:Expr}{gens:List Comprehension}{scope:Scope}{r:CompR}(F:Fits Γ cl k X)(g:CompG X cl elt gens scope r):SE X cl (.ListComp elt gens scope pos) (compME mu r):=by
 obtain⟨tg,it,ifs,N',rfl,ok,hs,hi,hg,ht,he⟩:=g.ex
 cases mu with
 | true=>exact se_compM _ _ N' r.nl r.ks F.calm ok hi hg ht he rfl rfl (folded_no hs)
 | false=>exact se_comp _ _ N' r.nl r.ks F.calm ok hi hg ht he rfl rfl (folded_no hs)
theorem stepE_ok(hE:∀Γ X,Fits Γ cl k X→∀mu e m,E Γ mu e=some m→SE X cl e m)(hT:∀Γ X,Fits Γ cl k X→∀e m,T Γ e=some m→ST X cl e m)(F:Fits Γ cl k X){e:Expr}(h:stepE E T Γ mu e=some m):SE X cl e m:=by
 have hE':=hE _ _ F
 have hF:=hE' false
 have hT':=hT _ _ F
 unfold stepE at h
 split at h
 .exact xName_ok F h
 .exact xConst_ok h
 .rw[Option.map_eq_some_iff] at h
  obtain⟨ma,e1,rfl⟩:=h
  exact se_not (hF _ _ e1)
 .rw[Option.map_eq_some_iff] at h
  obtain⟨ma,e1,rfl⟩:=h
  exact se_un un_negW (hF _ _ e1)
 .rw[Option.bind_eq_some_iff] at h
  obtain⟨f,e0,h⟩:=h
  rw[Option.bind_eq_some_iff] at h
  obtain⟨ma,e1,h⟩:=h
  rw[Option.map_eq_some_iff] at h
  obtain⟨mb,e2,rfl⟩:=h
  exact se_op (opB_ok e0) (hF _ _ e1) (hF _ _ e2)
 .exact(xCmp_ok F hF h).1
 .exact xBoolE_ok hF h
 .rw[Option.bind_eq_some_iff] at h
  obtain⟨mt,e0,h⟩:=h
  rw[Option.bind_eq_some_iff] at h
  obtain⟨ma,e1,h⟩:=h
  rw[Option.map_eq_some_iff] at h
  obtain⟨mb,e2,rfl⟩:=h
  exact se_if (hT' _ _ e0) (hF _ _ e1) (hF _ _ e2)
 .rw[Option.map_eq_some_iff] at h
  obtain⟨ms,e1,rfl⟩:=h
  exact se_tup (xArgs_ok hF e1).2
 .rw[Option.map_eq_some_iff] at h
  obtain⟨ms,e1,h⟩:=h
  cases mu with
  | true=>subst h; exact se_lst (xArgs_ok hF e1).2
  | false=>subst h; exact se_fls (xArgs_ok hF e1).2
 .exact xDict_ok hF h
 .exact xSub_ok F hF h
 .exact xCallN_ok F hF h
 .exact xMeth_ok F hF h
 .rw[Option.map_eq_some_iff] at h
  obtain⟨r,e1,rfl⟩:=h
  exact compME_ok F (xComp_ok F hE hT e1)
 .cases h
theorem stepT_ok(hE:∀Γ X,Fits Γ cl k X→∀mu e m,E Γ mu e=some m→SE X cl e m)(hT:∀Γ X,Fits Γ cl k X→∀e m,T Γ e=some m→ST X cl e m)(F:Fits Γ cl k X){e:Expr}{t:MT}(h:stepT E T Γ e=some t):ST X cl e t:=by
 have hF:=hE _ _ F false
 have hT':=hT _ _ F
 unfold stepT at h
 split at h
 .exact st_bool (xBoolT_ok hT' h)
 .rw[Option.map_eq_some_iff] at h
  obtain⟨ma,e1,rfl⟩:=h
  exact st_not (hT' _ _ e1)
 .rw[Option.map_eq_some_iff] at h
  obtain⟨ma,e1,rfl⟩:=h
  exact(xCmp_ok F hF e1).2
 .split at h
  .rename_i q
   rw[Option.map_eq_some_iff] at h
   obtain⟨ma,e1,rfl⟩:=h
   exact st_val (hF _ _ e1) (truth_no q)
  .cases h
theorem cET_ok:∀n,(∀Γ X,Fits Γ cl k X→∀mu e m,(cET n).1 Γ mu e=some m→SE X cl e m)∧(∀Γ X,Fits Γ cl k X→∀e m,(cET n).2 Γ e=some m→ST X cl e m)
 | 0=>⟨fun _ _ _ _ _ _ h=>(by cases h),fun _ _ _ _ _ h=>(by cases h)⟩
 | n+1=>⟨fun Γ X F mu e m h=>stepE_ok (cET_ok n).1 (cET_ok n).2 F h,fun Γ X F e m h=>stepT_ok (cET_ok n).1 (cET_ok n).2 F h⟩
end
noncomputable def isMut(Γ:RC)(x:Str):Bool:=Γ.own.any (· == x)
noncomputable def swapB(Γ:RC)(x:Str)(px:Pos)(scope:Scope)(cpos:Pos):Bool:=Γ.sc.names.lookup x==some .local&&px.line==cpos.line && !(scope.names.any fun(n,k)=>n==x&&(k==.local||k==.cell))
noncomputable def xAsgV(Γ:RC)(E:RC→Bool→Expr→Option ME)(T:RC→Expr→Option MT)(x:Str):Expr→Option ME
 | .ListComp elt gens scope cpos=>(xComp Γ E T elt gens scope cpos).map (compME (isMut Γ x))
 | v=>if noComp v=true then E Γ (isMut Γ x) v else none
noncomputable def xAsg(Γ:RC)(E:RC→Bool→Expr→Option ME)(T:RC→Expr→Option MT)(tg v:Expr):Option MS:=match tg with
 | .Name x _=>match ixOf x Γ.N with
  | some i=>if (setB Γ.sc Γ.N i x && !Γ.inC)=true then (xAsgV Γ E T x v).map fun m=>sAsg m (gNm i) else none
  | none=>none
 | .Tuple es n p=>if (noComp v&&noTup v)=true then (E Γ false v).bind fun m=>(xTg Γ (.Tuple es n p)).map fun g=>sAsg m g else none
 | _=>none
noncomputable def xAug(Γ:RC)(E:RC→Bool→Expr→Option ME)(tg:Expr)(op:Operator)(v:Expr):Option MS:=match tg,op with
 | .Name x _,.Add=>match ixOf x Γ.N with
  | some i=>if (setB Γ.sc Γ.N i x && !Γ.inC)=true then (E Γ false v).map (sAug i augI) else none
  | none=>none
 | _,_=>none
noncomputable def stepS(E:RC→Bool→Expr→Option ME)(T:RC→Expr→Option MT)(B:RC→List Stmt→Option MS)(Γ:RC):Stmt→Option MS
 | .Return (some e) _=>(E Γ false e).map sRet
 | .Pass _=>some sNext
 | .Expr e _=>if noComp e=true then (E Γ false e).map sExpr else none
 | .If c a b _=>(T Γ c).bind fun t=>(B Γ a).bind fun ma=>(B Γ b).map (sIf t ma)
 | .While c body [] _=>(T Γ c).bind fun t=>(B Γ body).map (sWhile t)
 | .For tg it body [] _=>if noSet it=true then (xIter Γ (E Γ false) tg it).bind fun mi=>(xTg Γ tg).bind fun g=>(B Γ body).map (sFor mi g) else none
 | .Assign [tg] v _=>xAsg Γ E T tg v
 | .AugAssign tg op v _=>xAug Γ E tg op v
 | _=>none
noncomputable def blk(S:Stmt→Option MS):List Stmt→Option MS
 | []=>some sNext
 | [s]=>S s
 | s::r=>(S s).bind fun a=>(blk S r).map (sSeq a)
noncomputable def cS:Nat→RC→Stmt→Option MS
 | 0=>fun _ _=>none
 | n+1=>stepS (cET 40).1 (cET 40).2 (fun Γ=>blk (cS n Γ))
noncomputable def cB(Γ:RC)(bd:List Stmt):Option MS:=blk (cS 12 Γ) bd
section
variable{Γ:RC}{cl:Nat→Addr}{k:Nat}{X:Cx}{pos p:Pos}{E:RC→Bool→Expr→Option ME}{T:RC→Expr→Option MT}{B:RC→List Stmt→Option MS}{ms:MS}
theorem swaps_comp{elt:Expr}{gens:List Comprehension}{scope:Scope}{cpos px:Pos}{x:Str}{l:Nat}{env:Env}:swapsWith (.ListComp elt gens scope cpos) (some (.Name x px)) l env=pure (env.blockKind==.function&&env.kindOf x==some .local&&px.line==cpos.line && !(scope.names.any fun(n,k)=>n==x&&(k==.local||k==.cell))):=rfl
theorem xAsgV_ok(hE:∀Γ X,Fits Γ cl k X→∀mu e m,E Γ mu e=some m→SE X cl e m)(hT:∀Γ X,Fits Γ cl k X→∀e m,T Γ e=some m→ST X cl e m)(F:Fits Γ cl k X)(hc:Γ.inC=false){x:Str}{i:Nat}{v:Expr}{m:ME}{px:Pos}(hb:setB Γ.sc Γ.N i x=true)(h:xAsgV Γ E T x v=some m):SS X cl (.Assign [.Name x px] v pos) (sAsg m (gNm i)):=by
 have hNd:=F.N▸F.nd
 unfold xAsgV at h
 split at h
 .rename_i elt gens scope cpos
  rw[Option.map_eq_some_iff] at h
  obtain⟨r,e1,rfl⟩:=h
  have g:=xComp_ok F hE hT e1
  have hk:X.env.blockKind=.function:=by
   unfold Env.blockKind
   rw[F.sc,F.kind]
   rfl
  have hsw:=swaps_comp (elt:=elt) (gens:=gens) (scope:=scope) (cpos:=cpos) (px:=px) (x:=x) (l:=pos.line) (env:=X.env)
  have he:(X.env.blockKind==.function&&X.env.kindOf x==some .local&&px.line==cpos.line && !(scope.names.any fun(n,k)=>n==x&&(k==.local||k==.cell)))=swapB Γ x px scope cpos:=by
   rw[hk]
   unfold swapB
   rw[←F.sc]
   rfl
  rw[he] at hsw
  cases q:swapB Γ x px scope cpos with
  | false=>
   rw[q] at hsw
   exact s_ hb hNd (compME_ok F g) F.sc F.N (F.fn hc _) hsw
  | true=>
   rw[q] at hsw
   obtain⟨tg,it,ifs,N',rfl,ok,hs,hi,hg,ht,hee⟩:=g.ex
   have hx:X.env.kindOf x=some .local:=by
    unfold swapB at q
    simp only[Bool.and_eq_true,beq_iff_eq] at q
    have:=q.1.1
    rw[←F.sc] at this
    exact this
   have hix:X.N[i]?=some x:=by
    unfold setB at hb
    simp only[Bool.and_eq_true,beq_iff_eq] at hb
    rw[F.N]
    exact hb.1
   unfold compME
   cases isMut Γ x with
   | true=>exact ss_compM i _ _ N' r.nl r.ks F.nd F.calm ok hi hg ht hee rfl rfl (folded_no hs) hix hx hsw
   | false=>exact ss_comp i _ _ N' r.nl r.ks F.nd F.calm ok hi hg ht hee rfl rfl (folded_no hs) hix hx hsw
 .split at h
  .rename_i q
   exact s_ hb hNd (hE _ _ F _ _ _ h) F.sc F.N (F.fn hc _) (swaps_no q)
  .cases h
theorem xAsg_ok(hE:∀Γ X,Fits Γ cl k X→∀mu e m,E Γ mu e=some m→SE X cl e m)(hT:∀Γ X,Fits Γ cl k X→∀e m,T Γ e=some m→ST X cl e m)(F:Fits Γ cl k X){tg v:Expr}(h:xAsg Γ E T tg v=some ms):SS X cl (.Assign [tg] v pos) ms:=by
 unfold xAsg at h
 split at h
 .split at h
  .split at h
   .rename_i q
    rw[Bool.and_eq_true,Bool.not_eq_true'] at q
    rw[Option.map_eq_some_iff] at h
    obtain⟨m,e1,rfl⟩:=h
    exact xAsgV_ok hE hT F q.2 q.1 e1
   .cases h
  .cases h
 .split at h
  .rename_i q
   rw[Bool.and_eq_true] at q
   rw[Option.bind_eq_some_iff] at h
   obtain⟨m,e1,h⟩:=h
   rw[Option.map_eq_some_iff] at h
   obtain⟨g,e2,rfl⟩:=h
   exact ss_asg (hE _ _ F _ _ _ e1) (xTg_ok F e2) ((show swapsWithSole [_] v pos.line X.env=swapsWith v (some _) pos.line X.env from rfl).trans (swaps_no q.1)) (swapped_no q.2) (by rw[assign_cons rfl,assign_nil]; rfl)
  .cases h
 .cases h
theorem xAug_ok(hE:∀Γ X,Fits Γ cl k X→∀mu e m,E Γ mu e=some m→SE X cl e m)(F:Fits Γ cl k X){tg v:Expr}{op:Operator}(h:xAug Γ E tg op v=some ms):SS X cl (.AugAssign tg op v pos) ms:=by
 unfold xAug at h
 split at h
 .split at h
  .split at h
   .rename_i q
    rw[Bool.and_eq_true,Bool.not_eq_true'] at q
    rw[Option.map_eq_some_iff] at h
    obtain⟨m,e1,rfl⟩:=h
    exact au_ q.1 (F.N▸F.nd) ip_addW (hE _ _ F _ _ _ e1) F.sc F.N (F.fn q.2 _)
   .cases h
  .cases h
 .cases h
theorem stepS_ok(hE:∀Γ X,Fits Γ cl k X→∀mu e m,E Γ mu e=some m→SE X cl e m)(hT:∀Γ X,Fits Γ cl k X→∀e m,T Γ e=some m→ST X cl e m)(hB:∀Γ X,Fits Γ cl k X→∀b m,B Γ b=some m→SB X cl b m)(F:Fits Γ cl k X){st:Stmt}(h:stepS E T B Γ st=some ms):SS X cl st ms:=by
 have hF:=hE _ _ F false
 have hT':=hT _ _ F
 have hB':=hB _ _ F
 unfold stepS at h
 split at h
 .rw[Option.map_eq_some_iff] at h
  obtain⟨m,e1,rfl⟩:=h
  exact ss_ret (hF _ _ e1)
 .cases h; exact ss_pass
 .split at h
  .rename_i q
   rw[Option.map_eq_some_iff] at h
   obtain⟨m,e1,rfl⟩:=h
   exact ss_expr (hF _ _ e1) (swaps_no q)
  .cases h
 .rw[Option.bind_eq_some_iff] at h
  obtain⟨t,e0,h⟩:=h
  rw[Option.bind_eq_some_iff] at h
  obtain⟨ma,e1,h⟩:=h
  rw[Option.map_eq_some_iff] at h
  obtain⟨mb,e2,rfl⟩:=h
  exact ss_if (hT' _ _ e0) (hB' _ _ e1) (hB' _ _ e2)
 .rw[Option.bind_eq_some_iff] at h
  obtain⟨t,e0,h⟩:=h
  rw[Option.map_eq_some_iff] at h
  obtain⟨mb,e2,rfl⟩:=h
  exact ss_while (hT' _ _ e0) (hB' _ _ e2) F.pass
 .split at h
  .rename_i q
   rw[Option.bind_eq_some_iff] at h
   obtain⟨mi,e0,h⟩:=h
   rw[Option.bind_eq_some_iff] at h
   obtain⟨g,e1,h⟩:=h
   rw[Option.map_eq_some_iff] at h
   obtain⟨mb,e2,rfl⟩:=h
   exact ss_for F.calm (xIter_ok F hF e0) (xTg_ok F e1) (hB' _ _ e2) (folded_no q) F.pass
  .cases h
 .exact xAsg_ok hE hT F h
 .exact xAug_ok hE F h
 .cases h
theorem blk_ok{S:Stmt→Option MS}(hS:∀s m,S s=some m→SS X cl s m):∀{b:List Stmt} {m:MS},blk S b=some m→SB X cl b m
 | [],m,h=>by cases h; exact sb_nil
 | [s],m,h=>sb_one (hS _ _ h)
 | s::s'::r,m,h=>by
  unfold blk at h
  rw[Option.bind_eq_some_iff] at h
  obtain⟨ma,e1,h⟩:=h
  rw[Option.map_eq_some_iff] at h
  obtain⟨mb,e2,rfl⟩:=h
  exact sb_cons (hS _ _ e1) (blk_ok hS e2)
theorem cS_ok:∀(n:Nat) (Γ:RC) (X:Cx),Fits Γ cl k X→∀s m,cS n Γ s=some m→SS X cl s m
 | 0,_,_,_,_,_,h=>by cases h
 | n+1,Γ,X,F,s,m,h=>stepS_ok (cET_ok 40).1 (cET_ok 40).2 (fun Γ X F b m h=>blk_ok (cS_ok n Γ X F) h) F h
theorem cB_ok(F:Fits Γ cl k X){bd:List Stmt}(h:cB Γ bd=some ms):SB X cl bd ms:=blk_ok (cS_ok 12 Γ X F) h
end
theorem fn_okR{P:Program}{w:World}{K:PySem.W.Frag}{mg:Str→Option Value}{base:Heap}{cl:Nat→Addr}{x qual:Str}{st:Stmt}{f:Addr}{fd:FuncData}{ps:List Str}{k np ns:Nat}{b:MS}(Γ:RC){bd:List Stmt}(F:Fun K x qual st f fd)(hsc:defScope st=Γ.sc)(hbd:defBody st=bd)(S:FnScope Γ.N ps Γ.sc)(hnp:ps.length=np)(hns:Γ.N.length-np=ns)
  (hc:Γ.inC=false) (B:BaseOk P w K mg base cl k Γ) (hb:cB Γ bd=some b):FnOk P w K mg base CX0 (k+1) f fd ps (spM K cl (gc (fnM np ns b))):=
 fn_ok2 F hsc hbd S hnp hns fun cdv A outer s H E hr=>cB_ok (k:=k) ⟨rfl,rfl,S.nd,fun _ _=>rfl,S.kind,rfl,PassesOwn.never,hr,⟨B.fns,B.con,B.tab,B.bin⟩⟩ hb
structure Def where
 x:Str
 st:Stmt
 ps:List Str
 N:List Str
 own:List Str
 txt:List Str
 cmp:List ((Nat×Nat)×List Str)
noncomputable def fnScopeB(N ps:List Str)(sc:Scope):Bool:=sc.kind==.function && !sc.isCoroutine && !sc.isGenerator&&nodupB N&&N.take ps.length==ps&&ps.all (locB sc)&&sc.names.all fun y=>y.2 != .free
theorem fnScope_of{N ps:List Str}{sc:Scope}(h:fnScopeB N ps sc=true):FnScope N ps sc:=by
 unfold fnScopeB at h
 simp only[Bool.and_eq_true,Bool.not_eq_true',beq_iff_eq] at h
 obtain⟨⟨⟨⟨⟨⟨h1,h2⟩,h3⟩,h4⟩,h5⟩,h6⟩,h7⟩:=h
 exact⟨h1,h2,h3,nd_of h4,h5,fun x hx=>locB_of (List.all_eq_true.mp h6 x hx),fun y hy=>by simpa using List.all_eq_true.mp h7 y hy⟩
noncomputable def HB(x:Str)(st:Stmt)(ps:List Str)(us:List Value):Prop:=∀(kV doc pm:Value) (an:Option Addr) (cdv ct:Value),bindArgs (PySem.W.fnOf x x (defArgs st) (defBody st) (defScope st) .none kV doc pm an cdv ct) ⟨us,[]⟩=pure (ps.zip us)
noncomputable def HBs(x:Str)(st:Stmt)(ps:List Str):Prop:=∀us:List Value,us.length=ps.length→HB x st ps us
section
variable{x:Str}{st:Stmt}{ps:List Str}
theorem hb0(h:HB x st ps [])(hl:ps.length=0:=by rfl):HBs x st ps:=fun us e=>match us,e.trans hl with
 | [],_=>h
theorem hb1(h:∀a,HB x st ps [a])(hl:ps.length=1:=by rfl):HBs x st ps:=fun us e=>match us,e.trans hl with
 | [_],_=>h _
theorem hb2(h:∀a b,HB x st ps [a,b])(hl:ps.length=2:=by rfl):HBs x st ps:=fun us e=>match us,e.trans hl with
 | [_,_],_=>h _ _
theorem hb3(h:∀a b c,HB x st ps [a,b,c])(hl:ps.length=3:=by rfl):HBs x st ps:=fun us e=>match us,e.trans hl with
 | [_,_,_],_=>h _ _ _
theorem hb4(h:∀a b c d,HB x st ps [a,b,c,d])(hl:ps.length=4:=by rfl):HBs x st ps:=fun us e=>match us,e.trans hl with
 | [_,_,_,_],_=>h _ _ _ _
theorem hb5(h:∀a b c d e,HB x st ps [a,b,c,d,e])(hl:ps.length=5:=by rfl):HBs x st ps:=fun us e=>match us,e.trans hl with
 | [_,_,_,_,_],_=>h _ _ _ _ _
end
noncomputable def TxtAt(K:PySem.W.Frag)(mg:Str→Option Value)(d:Def):Prop:=∃a fd,FTxt K mg d.x d.st d.ps a fd
noncomputable def AllD(P:Def→Prop):List Def→Prop
 | []=>True
 | d::r=>P d∧AllD P r
noncomputable def RC.at(Γ:RC)(d:Def):RC:=⟨defScope d.st,d.N,false,Γ.fns,Γ.con,Γ.tab,Γ.bin,d.own,d.txt,d.cmp⟩
section
variable{P:Program}{w:World}{K:PySem.W.Frag}{mg:Str→Option Value}{base:Heap}{cl:Nat→Addr}{n np ns:Nat}{Γ:RC}{d:Def}{b:MS}
theorem row_okF{a:Addr}{fd:FuncData}(T:FTxt K mg d.x d.st d.ps a fd)(B:BaseOk P w K mg base cl n Γ)(hsc:fnScopeB d.N d.ps (defScope d.st)=true)(hnp:d.ps.length=np)(hns:d.N.length-np=ns)(hb:cB (Γ.at d) (defBody d.st)=some b):FnOk P w K mg base CX0 (n+1) a fd d.ps (spM K cl (gc (fnM np ns b))):=
 fn_okR (Γ.at d) T.F rfl rfl (fnScope_of hsc) hnp hns rfl ⟨B.fns,B.con,B.tab,B.bin⟩ hb
theorem row_ok(T:TxtAt K mg d)(B:BaseOk P w K mg base cl n Γ)(hsc:fnScopeB d.N d.ps (defScope d.st)=true:=by kernel_rfl)(hnp:d.ps.length=np:=by rfl)(hns:d.N.length-np=ns:=by rfl)(hb:cB (Γ.at d) (defBody d.st)=some b:=by kernel_rfl):FnAt P w K mg base cl (n+1) d.x (gc (fnM np ns b)):=by
 obtain⟨a,fd,T⟩:=T
 exact⟨a,fd,d.ps,row_okF T B hsc hnp hns hb,T.m,T.F.kp,T.B⟩
theorem row_none(T:TxtAt K mg d):FnAt P w K mg base cl 0 d.x fun _ _=>none:=by
 obtain⟨a,fd,T⟩:=T
 have no:∀vs H Q E,¬spM K cl (fun _ _=>none) vs H Q E:=fun vs H Q E ⟨μ,h,ws,w,h2,R,rs,e,k⟩=>by cases e
 exact⟨a,fd,d.ps,⟨fun vs H Q E h=>absurd h (no vs H Q E),fun A outer s H args us vs Q E _ _ _ _ h=>absurd h (no vs H Q E)⟩,T.m,T.F.kp,T.B⟩
end
end ML
namespace ML
open PySem PySem.Spec PyProof.Rows PySem.W L2
noncomputable def Kw(h:Heap):PySem.W.Frag:=(List.range h.objs.size).filterMap fun a=>(h.get? a).map fun o=>(a,o)
theorem Kw.lookupAux(h:Heap)(a:Addr):∀l:List Nat,(l.filterMap fun a=>(h.get? a).map fun o=>(a,o)).lookup a=if a∈l then h.get? a else none
 | []=>by simp
 | b::l=>by
  cases q:h.get? b with
  | none=>
   rw[List.filterMap_cons_none (by rw[q]; rfl),Kw.lookupAux h a l]
   by_cases e:a=b
   .subst e; simp[q]
   .simp[e]
  | some o=>
   rw[List.filterMap_cons_some (b:=(b,o)) (by rw[q]; rfl),List.lookup_cons]
   by_cases e:a=b
   .subst e; simp[q]
   .have:(a==b)=false:=by simp[e]
    rw[this]; simp only[]; rw[Kw.lookupAux h a l]; simp[e]
theorem Kw.lookup{h:Heap}{a:Addr}:(Kw h).lookup a=h.get? a:=by
 unfold Kw
 rw[Kw.lookupAux]
 split
 .rfl
 .rename_i n
  cases q:h.get? a with
  | none=>rfl
  | some o=>exact absurd (List.mem_range.mpr (Heap.lt_size q)) n
theorem Kw.in(h:Heap):(Kw h).In h:=fun a o e=>Kw.lookup▸e
theorem walk_ofE{l:PySem.W.OpenLaw}{n k:Nat}{q:Program}{loose:List Str}{XP:(Str→Option Value)→Heap→Prop}{YP:World→Heap→Prop}{d:DefRec}{CX:CXT}{sp:PySem.W.Frag→Sp}{x:Str}
  (hn:l.most=some n) (hn2:n≤sizeLine) (hdf:d.params.defaults=[]) (hr:Room k callerA)
  (F:∀(w:World) (s₀:Shared) (mg mb:Str→Option Value) (fa:Addr) (h:Heap),Ground q loose [] XP w s₀ mg mb h→YP w h→mg d.name=some (.ref fa)→
   ∃fd:FuncData,(∀(s:Shared) (u:Value),BindsTo s fd ⟨[u],[]⟩ [(x,u)]) ∧
    ∀base:Heap,(Kw h).In base→base.Ns mainGlobals mg→FnOk l.prog w (Kw h) mg base CX k fa fd [x] (sp (Kw h)))
  (hsp:∀(K:PySem.W.Frag) (H:Hp) (a:Addr) (ns:List Int),ns.length≤n→Only H→SqL K H a (ns.map V.int)→sp K [.ref a] H (fun v _=>v=.bl true) fun _ _ _=>False)
  (hCX:∀(H:Hp) (s:Shared) (e:Value) (s':Shared),CX [] H s (fun _ _ _=>False) e s'→False) :
  PySem.W.WalkO q loose XP YP l.row.toRowW d [] (fun f vs=>PySem.call f vs):=by
 refine Att.attach_call hn hdf fun w s₀ s₁ mg mb fa o pm cd doc a vs ns G Y ho hd hcd hmg hobj hints hlen hg=>?_
 obtain⟨fd,hb,hF⟩:=F w s₀ mg mb fa _ G Y hmg
 exact law_call (Kw.in _) G.T.g G.T.b G.T.builtins G.T.nolimit hg hobj hints (Nat.le_trans hlen hn2) hr hF hb (fun H hO hS=>hsp _ H a ns hlen hO hS) fun H e s'=>hCX H s₁ e s'
theorem txtG{q:Program}{loose:List Str}{R:WRecords}{XP:(Str→Option Value)→Heap→Prop}{w:World}{s₀:Shared}{mg mb:Str→Option Value}{h:Heap}(G:Ground q loose R XP w s₀ mg mb h){d:Def}
  (hd:(defOf q d.x).map (fun p=>(p.1.name,p.1.params,p.1.body,p.1.scope,p.2))=some (d.x,defArgs d.st,defBody d.st,defScope d.st,[])) (hb:HBs d.x d.st d.ps) (hf:(defArgs d.st).defaults=[]):TxtAt (Kw h) mg d:=by
 obtain⟨⟨⟨n,p,b,sc,ps⟩,kw⟩,hq,e⟩:=Option.map_eq_some_iff.mp hd
 cases e
 obtain⟨a,o,pm,cd,doc,dV,kV,m,ho,hdt,hc,D⟩:=G.fn hq
 obtain rfl:dV=.none:=Dflts.none D hf
 obtain rfl:kV=.none:=Dflts.noKw D
 have lk:(Kw h).lookup a=some ⟨o.cls,o.dict,.func (PySem.W.fnOf d.x d.x (defArgs d.st) (defBody d.st) (defScope d.st) .none .none doc pm none cd .none),o.slots⟩:=by
  rw[Kw.lookup,ho]
  cases o
  cases hdt
  rfl
 have c:PySem.W.codeIn (Kw h) cd d.x=true:=by
  obtain⟨c,o',vs,t,rfl,e1,e2,e3⟩:=hc
  unfold PySem.W.codeIn
  simp only[Kw.lookup,e1]
  cases o'
  cases e2
  simp only[]
  obtain⟨vs⟩:=vs
  match vs,e3 with
  | [],e3=>cases e3
  | [_],e3=>cases e3
  | _::v::r,e3=>
   have e4:some v=some (Value.str d.x t):=by simpa using e3
   cases e4
   simp
 have k:PySem.W.keepIn (Kw h) (.ref a)=true:=by
  unfold PySem.W.keepIn
  simp only[lk]
 have F:=fun_mk (st:=d.st) lk c k
 exact⟨a,_,F,F.binds (fun kV doc pm an cdv ct us hl=>hb us hl kV doc pm an cdv ct),m⟩
noncomputable def toW:Nat→Cn→W
 | 0,_=>.non
 | n+1,c=>match c with
  | .int i=>.int i
  | .str x=>.str x
  | .tup l=>.tup (l.map (toW n))
noncomputable def toT(l:List (Str×Cn)):List (Str×W):=l.map fun p=>(p.1,toW 9 p.2)
theorem tupAt_ok{h:Heap}{v:Value}{its:Array Value}(e:tupAt h v=some its):∃a o n,v=.ref a∧h.get? a=some o∧o.cls=.type "tuple" ∧ o.data=.seq its n:=by
 cases v with
 | ref a=>
  obtain⟨⟨c,di,d,sl⟩,e1,e2⟩:=Option.bind_eq_some_iff.mp e
  cases c with
  | type t=>
   have e3:(if t="tuple" then (match d with | .seq its _=>some its | _=>none) else none)=some its:=e2
   by_cases q:t="tuple"
   .rw[if_pos q] at e3
    cases d with
    | seq its' n=>cases e3; exact⟨a,_,n,rfl,e1,by rw[q],rfl⟩
    | _=>cases e3
   .rw[if_neg q] at e3; cases e3
  | _=>cases e2
 | _=>cases e
theorem kws_of{K:PySem.W.Frag}{p:Cn→Value→Bool}{f:Cn→W}(hp:∀w v,p w v=true→KW K (f w) v)(l:List Cn):∀vs:List Value,allTwo p l vs=true→KWs K (l.map f) vs:=by
 induction l with
 | nil=>intro vs h; cases vs with | nil=>exact .nil | cons _ _=>cases h
 | cons w l ih=>
  intro vs h
  cases vs with
  | nil=>cases h
  | cons v vs=>have h2:=Bool.and_eq_true_iff.mp h; exact .cons (hp _ _ h2.1) (ih vs h2.2)
theorem constB_ok{h:Heap}{K:PySem.W.Frag}(hK:∀b o,h.get? b=some o→K.lookup b=some o)(n:Nat):∀w v,constB h n w v=true→KW K (toW n w) v:=by
 induction n with
 | zero=>intro w v e; cases e
 | succ n ih=>
  intro w v e
  cases w with
  | int i=>cases v with
   | int j t=>cases eq_of_beq (show(i==j)=true from e); exact .int
   | _=>cases e
  | str x=>cases v with
   | str j t=>cases eq_of_beq (show(x==j)=true from e); exact .str
   | _=>cases e
  | tup l=>
   have e1:((tupAt h v).any fun its=>decide (its.size≤sizeLine)&&allTwo (constB h n) l its.toList)=true:=e
   cases z:tupAt h v with
   | none=>rw[z] at e1; cases e1
   | some its=>
    rw[z] at e1
    obtain⟨a,o,m,rfl,e4,e5,e6⟩:=tupAt_ok z
    have e7:=Bool.and_eq_true_iff.mp e1
    exact .tup (hK _ _ e4) e5 e6 (of_decide_eq_true e7.1) (kws_of ih _ _ e7.2)
theorem dictAt_ok{h:Heap}{v:Value}{es:Array DictEntry}(e:dictAt h v=some es):∃a n,v=.ref a∧h.get? a=some ⟨.type "dict",none,.dict es n,#[]⟩∧(a==sysModules)=false:=by
 cases v with
 | ref a=>
  obtain⟨⟨c,di,d,sl⟩,e1,e2⟩:=Option.bind_eq_some_iff.mp e
  cases c with
  | type t=>
   have e3:(if t="dict" then (match d with | .dict es _=>if di.isNone&&sl.isEmpty&&a != sysModules then some es else none | _=>none) else none)=some es:=e2
   by_cases q:t="dict"
   .rw[if_pos q] at e3
    cases d with
    | dict es' n=>
     have e4:(if di.isNone&&sl.isEmpty&&a != sysModules then some es' else none)=some es:=e3
     by_cases z:(di.isNone&&sl.isEmpty&&a != sysModules)=true
     .rw[if_pos z] at e4
      cases e4
      have z1:=Bool.and_eq_true_iff.mp z
      have z2:=Bool.and_eq_true_iff.mp z1.1
      refine⟨a,n,rfl,?_,?_⟩
      .rw[e1,q,Option.isNone_iff_eq_none.mp z2.1,Array.isEmpty_iff.mp z2.2]
      .have:=z1.2; rw[bne,Bool.not_eq_true'] at this; exact this
     .rw[if_neg z] at e4; cases e4
    | _=>cases e3
   .rw[if_neg q] at e3; cases e3
  | _=>cases e2
 | _=>cases e
theorem tab_of{h:Heap}{K:PySem.W.Frag}(hK:∀b o,h.get? b=some o→K.lookup b=some o){P:Params}(l:List (Str×Cn)):∀es:List DictEntry,allTwo (fun p (e:DictEntry)=>isS p.1 e.key&&constB h 9 p.2 e.val) l es=true→es.map (·.hash)=l.map (fun p=>PyData.keyHash P p.1)→TabRel K (toT l) es∧PySem.W.KeysLit P es:=by
 induction l with
 | nil=>intro es a b; cases es with | nil=>exact⟨.nil,trivial⟩ | cons _ _=>cases a
 | cons p l ih=>
  intro es a b
  cases es with
  | nil=>cases a
  | cons e es=>
   have a1:=Bool.and_eq_true_iff.mp a
   have a2:=Bool.and_eq_true_iff.mp a1.1
   have b1:=List.cons.inj b
   obtain⟨r,t⟩:=ih es a1.2 b1.2
   obtain⟨eh,ek,ev⟩:=e
   cases ek with
   | str y t'=>
    have q:=eq_of_beq (show(p.1==y)=true from a2.1)
    subst q
    exact⟨.cons (hs:=0) (v:=.none) rfl (constB_ok hK _ _ _ a2.2) r,⟨_,_,rfl,b1.1⟩,t⟩
   | _=>cases a2.1
theorem mg_same{h h₀:Heap}{mg:Str→Option Value}(G:h.Ns mainGlobals mg)(k:∀b o,h₀.get? b=some o→h.get? b=some o)(hn:h₀.isNs mainGlobals=true)(x:Str):mg x=h₀.nsMap mainGlobals x:=by
 obtain⟨o,es,ep,e1,e2,e3,e4⟩:=Heap.Ns.of_isNs hn
 obtain⟨o',es',ep',f1,f2,f3,f4⟩:=G
 have:=k _ _ e1
 rw[f1] at this
 cases this
 rw[e2] at f2
 cases f2
 rw[←f4 x,←e4 x]
theorem all_of{α β:Type}{P:Str→α→Prop}(f:β→α):∀{l:List (Str×β)},(∀p∈l,P p.1 (f p.2))→AllOf P (l.map fun p=>(p.1,f p.2))
 | [],_=>trivial
 | (x,g)::r,h=>⟨h (x,g) (List.mem_cons_self ..),all_of f fun p m=>h p (List.mem_cons_of_mem _ m)⟩
theorem none_of{mg:Str→Option Value}:∀{l:List Str},(∀x∈l,mg x=none)→AllNone mg l
 | [],_=>trivial
 | x::r,h=>⟨h x (List.mem_cons_self ..),none_of fun p m=>h p (List.mem_cons_of_mem _ m)⟩
theorem see_ok{cons:List (Str×Cn)}{tabs:List (Str×List (Str×Cn))}{bins:List Str}{w:World}{h:Heap}{mg:Str→Option Value}(Y:(hookC cons tabs bins).says w h)(G:h.Ns mainGlobals mg) :
  AllOf (Glob (Kw h) mg) (toT cons)∧AllOf (TabOk (Kw h) w.params mg) (tabs.map fun p=>(p.1,toT p.2))∧AllNone mg bins:=by
 obtain⟨h₀,k,b,t⟩:=Y
 have hK:∀b o,h₀.get? b=some o→(Kw h).lookup b=some o:=fun b o e=>by rw[Kw.lookup]; exact k _ _ e
 unfold seeB at b
 simp only[Bool.and_eq_true,List.all_eq_true] at b
 obtain⟨⟨b1,b2⟩,b3⟩:=b
 have M:=mg_same G k b1
 refine⟨all_of (toW 9) fun p m=>?_,all_of toT fun p m=>?_,none_of fun x m=>?_⟩
 .have e:=b2 p m
  cases q:h₀.nsMap mainGlobals p.1 with
  | none=>rw[q] at e; cases e
  | some v=>rw[q] at e; exact(constB_ok hK _ _ _ e).glob ((M _).trans q)
 .have e:tabB h₀ p.2 (h₀.nsMap mainGlobals p.1)=(true,p.2.map fun k=>PyData.keyHash w.params k.1):=by
   unfold seeT goodT at t
   exact(List.map_inj_left.mp t) p m
  unfold tabB at e
  cases q:h₀.nsMap mainGlobals p.1 with
  | none=>rw[q] at e; cases e
  | some v=>
   rw[q] at e
   cases z:dictAt h₀ v with
   | none=>rw[Option.bind_some,z] at e; cases e
   | some es=>
    rw[Option.bind_some,z] at e
    have e2:=Prod.mk.inj e
    obtain⟨a,n,rfl,g,f⟩:=dictAt_ok z
    obtain⟨r,kl⟩:=tab_of hK (P:=w.params) p.2 es.toList e2.1 e2.2
    exact⟨a,es,n,(M _).trans q,hK _ _ g,kl,f,r⟩
 .have:=b3 x m
  rw[M]
  exact Option.isNone_iff_eq_none.mp this
theorem walk_lawE{l:PySem.W.OpenLaw}{q:Program}{loose:List Str}{XP:(Str→Option Value)→Heap→Prop}{d:DefRec}{D:Def}{g:List W→M W}{b:MS}{Γ:RC}{ds:List Def}{y:Str}{ns room:Nat}{cons:List (Str×Cn)}{tabs:List (Str×List (Str×Cn))}(hc:toT cons=Γ.con)(ht:(tabs.map fun p=>(p.1,toT p.2))=Γ.tab)(hn:l.most=some 63)(hdf:d.params.defaults=[])
  (hr:Room (room+1) callerA) (hx:D.x=d.name) (hps:D.ps=[y]) (hb:HBs D.x D.st D.ps) (hsc:fnScopeB D.N D.ps (defScope D.st)=true) (hns:D.N.length-1=ns) (hB:cB (Γ.at D) (defBody D.st)=some b) (hg:g=gc (fnM 1 ns b))
  (main:∀ns:List Int,ns.length≤63→∃h',g [.fls (ns.map W.int)] []=some (.bl true,h'))
  (lvl:∀(w:World) (K:PySem.W.Frag) (mg:Str→Option Value) (base:Heap),AllD (TxtAt K mg) ds→AllOf (Glob K mg) Γ.con→AllOf (TabOk K w.params mg) Γ.tab→AllNone mg Γ.bin→BaseOk l.prog w K mg base (fun _=>0) room Γ)
  (F:∀(w:World) (s₀:Shared) (mg mb:Str→Option Value) (h:Heap),Ground q loose [] XP w s₀ mg mb h→TxtAt (Kw h) mg D∧AllD (TxtAt (Kw h) mg) ds):PySem.W.WalkO q loose XP (hookC cons tabs Γ.bin).says l.row.toRowW d [] (fun f vs=>PySem.call f vs):=by
 refine walk_ofE (n:=63) (k:=room+1) (x:=y) (CX:=CX0) (sp:=spL g) hn (by decide) hdf hr (fun w s₀ mg mb fa h G Y hmg=>?_) (fun K H a ns hl _ hS=>spL_of main K H a ns hl hS) fun _ _ _ _ z=>z
 obtain⟨⟨a,fd,T⟩,h1⟩:=F w s₀ mg mb h G
 obtain⟨h2,h3,h4⟩:=see_ok Y G.T.g
 rw[hc] at h2
 rw[ht] at h3
 have e:=T.m.symm.trans (hx▸hmg)
 cases e
 refine⟨fd,?_,fun base _ _=>?_⟩
 .have hb2:=fun kV doc pm an cdv ct us hl=>hb us hl kV doc pm an cdv ct
  rw[hps] at hb2
  exact ftxt_bindsTo T.F hb2
 .have:=row_okF T (lvl w _ mg base h1 h2 h3 h4) hsc (np:=1) (by rw[hps]; rfl) hns hB
  rw[hps] at this
  subst hg
  exact this
end ML
namespace ML
open PySem L2
noncomputable def dt:Nat→W→Bool
 | 0,_=>false
 | _+1,.non=>true
 | _+1,.bl _=>true
 | _+1,.int _=>true
 | _+1,.str x=>PyData.strOk x&&decide (x.length≤1000)
 | n+1,.tup l=>decide (l.length≤1000)&&l.all (dt n)
 | n+1,.fls l=>decide (l.length≤1000)&&l.all (dt n)
 | _+1,.ref _=>false
 | _+1,.fdc _=>false
 | _+1,.fn _=>false
noncomputable def toD:Nat→W→PyData
 | 0,_=>.none
 | _+1,.non=>.none
 | _+1,.bl b=>.bool b
 | _+1,.int i=>.int i
 | _+1,.str x=>.str x
 | n+1,.tup l=>.tuple (l.map (toD n))
 | n+1,.fls l=>.list (l.map (toD n))
 | _+1,_=>.none
theorem lows_of{m:Nat}:∀{l:List W},(∀w∈l,low m w=true)→lows m l=true
 | [],_=>by unfold lows; rfl
 | w::r,h=>by
  unfold lows
  rw[h w List.mem_cons_self,lows_of fun w hw=>h w (List.mem_cons_of_mem _ hw)]
  rfl
theorem dt_low{m:Nat}:∀{n:Nat} {w:W},dt n w=true→low m w=true
 | 0,_,h=>by cases h
 | n+1,.non,_=>by unfold low; rfl
 | n+1,.bl _,_=>by unfold low; rfl
 | n+1,.int _,_=>by unfold low; rfl
 | n+1,.str _,_=>by unfold low; rfl
 | n+1,.tup l,h=>by
  unfold dt at h
  rw[Bool.and_eq_true] at h
  unfold low
  exact lows_of fun w hw=>dt_low (List.all_eq_true.mp h.2 w hw)
 | n+1,.fls l,h=>by
  unfold dt at h
  rw[Bool.and_eq_true] at h
  unfold low
  exact lows_of fun w hw=>dt_low (List.all_eq_true.mp h.2 w hw)
 | n+1,.ref _,h=>by cases h
 | n+1,.fdc _,h=>by cases h
 | n+1,.fn _,h=>by cases h
theorem dt_mono:∀{n m:Nat} {w:W},dt n w=true→n≤m→dt m w=true
 | 0,_,_,h,_=>by cases h
 | n+1,0,_,_,h=>by omega
 | n+1,m+1,.non,_,_=>rfl
 | n+1,m+1,.bl _,_,_=>rfl
 | n+1,m+1,.int _,_,_=>rfl
 | n+1,m+1,.str _,h,_=>h
 | n+1,m+1,.tup l,h,hn=>by
  unfold dt at h ⊢
  rw[Bool.and_eq_true] at h ⊢
  exact⟨h.1,List.all_eq_true.mpr fun w hw=>dt_mono (List.all_eq_true.mp h.2 w hw) (by omega)⟩
 | n+1,m+1,.fls l,h,hn=>by
  unfold dt at h ⊢
  rw[Bool.and_eq_true] at h ⊢
  exact⟨h.1,List.all_eq_true.mpr fun w hw=>dt_mono (List.all_eq_true.mp h.2 w hw) (by omega)⟩
 | n+1,m+1,.ref _,h,_=>by cases h
 | n+1,m+1,.fdc _,h,_=>by cases h
 | n+1,m+1,.fn _,h,_=>by cases h
theorem mapO_of{α β:Type}{f:α→Option β}{g:α→β}:∀{l:List α},(∀x∈l,f x=some (g x))→mapO f l=some (l.map g)
 | [],_=>rfl
 | x::r,h=>by
  unfold mapO
  rw[h x List.mem_cons_self,mapO_of fun y hy=>h y (List.mem_cons_of_mem _ hy)]
  rfl
theorem dataW_dt{h:MH}:∀{n m:Nat} {w:W},dt n w=true→n≤m→dataW m h w=some (toD n w)
 | 0,_,_,e,_=>by cases e
 | n+1,0,_,_,hn=>by omega
 | n+1,m+1,.non,_,_=>rfl
 | n+1,m+1,.bl _,_,_=>rfl
 | n+1,m+1,.int _,_,_=>rfl
 | n+1,m+1,.str x,e,_=>by
  unfold dt at e
  rw[Bool.and_eq_true] at e
  unfold dataW
  rw[if_pos e.1]
  rfl
 | n+1,m+1,.tup l,e,hn=>by
  unfold dt at e
  rw[Bool.and_eq_true] at e
  unfold dataW
  rw[mapO_of fun w hw=>dataW_dt (List.all_eq_true.mp e.2 w hw) (by omega)]
  rfl
 | n+1,m+1,.fls l,e,hn=>by
  unfold dt at e
  rw[Bool.and_eq_true] at e
  unfold dataW
  rw[mapO_of fun w hw=>dataW_dt (List.all_eq_true.mp e.2 w hw) (by omega)]
  rfl
 | n+1,m+1,.ref _,e,_=>by cases e
 | n+1,m+1,.fdc _,e,_=>by cases e
 | n+1,m+1,.fn _,e,_=>by cases e
theorem gc_dt{f:List W→M W}{ws:List W}{h:MH}{w:W}{n:Nat}(e:f ws h=some (w,h))(d:dt n w=true):gc f ws h=some (w,h):=gc_pure e (dt_low d) (List.prefix_refl _)
theorem gc_dt'{f:List W→M W}{ws:List W}{h t:MH}{w:W}{n:Nat}(e:f ws h=some (w,h++t))(d:dt n w=true):gc f ws h=some (w,h):=gc_pure e (dt_low d) (List.prefix_append _ _)
noncomputable def tyB(T:Ty):W→Bool
 | .bl _=>decide (T=.bool)||decide (T=.int)
 | .int _=>decide (T=.int)
 | .str _=>decide (T=.str)
 | .tup _=>decide (T=.tuple)
 | .fls _=>decide (T=.list)
 | _=>false
theorem isW_dt{T:Ty}{n:Nat}{w:W}{h:MH}(d:dt n w=true):isW T w h=some (.bl (tyB T w),h):=by
 cases n with
 | zero=>cases d
 | succ n=>
  unfold isW isTy tyB
  cases w with
  | ref _=>cases d
  | fdc _=>cases d
  | fn _=>cases d
  | non=>rfl
  | bl b=>simp only[tyW]; cases T<;>rfl
  | int b=>simp only[tyW]; cases T<;>rfl
  | str b=>simp only[tyW]; cases T<;>rfl
  | tup b=>simp only[tyW]; cases T<;>rfl
  | fls b=>simp only[tyW]; cases T<;>rfl
theorem eqB_str(h:MH)(x y:Str):eqB h (.str x) (.str y)=some (x==y):=rfl
theorem eqB_int(h:MH)(x y:Int):eqB h (.int x) (.int y)=some (x==y):=rfl
theorem eqB_bl(h:MH)(x y:Bool):eqB h (.bl x) (.bl y)=some (x==y):=rfl
noncomputable def isNil:W→Bool
 | .tup []=>true
 | _=>false
theorem eqB_tup{n m:Nat}{w:W}{l:List W}{h:MH}(d:dt n w=true)(hn:n≤60)(dl:dt m (.tup l)=true)(hm:m≤60):eqB h w (.tup l)=some (PyData.eqv (toD n w) (toD m (.tup l))):=by
 have e1:=dataW_dt (h:=h) d (show n≤deep from hn)
 have e2:=dataW_dt (h:=h) dl (show m≤deep from hm)
 unfold eqB
 have:eqF w (.tup l)=none:=by unfold eqF; cases w<;>rfl
 rw[this,e1,e2]
theorem eqB_nil{n:Nat}{w:W}{h:MH}(d:dt n w=true)(hn:n≤60):eqB h w (.tup [])=some (isNil w):=by
 rw[eqB_tup d hn (m:=1) (by rfl) (by omega)]
 cases n with
 | zero=>cases d
 | succ n=>
  cases w with
  | ref _=>cases d
  | fdc _=>cases d
  | fn _=>cases d
  | tup l=>cases l<;>simp[toD,PyData.eqv,PyData.eqvAll,isNil]
  | _=>simp[toD,PyData.eqv,isNil]
noncomputable def strIn(l:List Str):W→Bool
 | .str x=>l.any (· == x)
 | _=>false
noncomputable def strsW(l:List Str):List W:=l.map .str
theorem inB_strs{n:Nat}{w:W}{l:List Str}{h:MH}{y:W}(d:dt n w=true)(hn:n≤60)(hl:l.all PyData.strOk=true)(hy:seqOf h y=some (strsW l))(hns:∀z,y≠.str z):inB h w y=some (strIn l w):=by
 have e1:=dataW_dt (h:=h) d (show n≤deep from hn)
 have e2:mapO (dataW deep h) (strsW l)=some (l.map .str):=by
  unfold strsW
  have:∀l:List Str,l.all PyData.strOk=true→mapO (dataW deep h) (l.map .str)=some (l.map PyData.str):=by
   intro l
   induction l with
   | nil=>intro _; rfl
   | cons x r ih=>
    intro hl
    rw[List.all_cons,Bool.and_eq_true] at hl
    simp only[List.map_cons]
    unfold mapO
    have:dataW deep h (.str x)=some (.str x):=by
     show dataW (59+1) h (.str x)=_
     unfold dataW
     rw[if_pos hl.1]
    rw[this,ih hl.2]
  exact this l hl
 have e3:inB h w y=match seqOf h y with
  | some l=>match dataW deep h w,mapO (dataW deep h) l with
   | some d,some ds=>some (ds.any fun e=>PyData.eqv e d)
   | _,_=>none
  | none=>none:=by
  unfold inB
  split
  .rename_i j
   exact absurd rfl (hns _)
  .rfl
 rw[e3,hy]
 simp only[e1,e2]
 congr 1
 cases n with
 | zero=>cases d
 | succ n=>
  rw[List.any_map]
  cases w with
  | ref _=>cases d
  | fdc _=>cases d
  | fn _=>cases d
  | str x=>
   unfold strIn
   congr 1
  | _=>simp[toD,PyData.eqv,strIn]
theorem inB_tups{n:Nat}{w:W}{l:List Str}{h:MH}(d:dt n w=true)(hn:n≤60)(hl:l.all PyData.strOk=true):inB h w (.tup (strsW l))=some (strIn l w):=inB_strs d hn hl rfl (fun z=>nofun)
theorem inB_flss{n:Nat}{w:W}{l:List Str}{h:MH}(d:dt n w=true)(hn:n≤60)(hl:l.all PyData.strOk=true):inB h w (.fls (strsW l))=some (strIn l w):=inB_strs d hn hl rfl (fun z=>nofun)
theorem inB_str(h:MH)(x y:Str):inB h (.str x) (.str y)=some (inStr y x):=rfl
theorem compL_pure{caps:En}{t:MT}{m:ME}{n0:Nat}{h:MH}(hn:h.length=n0)(p:W→Bool)(f:W→W):∀(l:List W) (acc:List W) (o:Option W),
  (∀w∈l,∀H',t (some w::caps) H'=some (p w,H'))→(∀w∈l,p w=true→∀H',m (some w::caps) H'=some (f w,H'))→acc.length+l.length≤cap→
  compL 1 (gNm 0) t m n0 l (o::caps) (h++[.lst acc])=some (h++[.lst (acc++(l.filter p).map f)])
 | [],acc,o,_,_,_=>by simp[compL]
 | w::l,acc,o,ht,hf,hl=>by
  have ih:=fun acc'=>compL_pure (caps:=caps) (t:=t) (m:=m) hn p f l acc' none (fun w hw=>ht w (List.mem_cons_of_mem _ hw)) (fun w hw=>hf w (List.mem_cons_of_mem _ hw))
  have hb:blank 1 (some w::caps)=none::caps:=by simp[blank]
  unfold compL
  have hg:gNm 0 w (o::caps) (h++[.lst acc])=some (some w::caps,h++[.lst acc]):=by simp[gNm]
  rw[hg]
  simp only
  rw[ht w List.mem_cons_self]
  simp only[List.length_cons] at hl
  cases hp:p w with
  | false=>
   simp only
   rw[hb,ih acc (by omega)]
   simp[List.filter_cons,hp]
  | true=>
   simp only
   rw[hf w List.mem_cons_self hp]
   have e1:(h++[MO.lst acc])[n0]?=some (.lst acc):=by rw[←hn]; simp
   have e2:(h++[MO.lst acc]).set n0 (.lst (acc++[f w]))=h++[.lst (acc++[f w])]:=by rw[←hn,List.set_append_right _ _ (Nat.le_refl _)]; simp
   simp only[e1]
   rw[if_pos (by omega),hb,e2,ih (acc++[f w]) (by rw[List.length_append]; simp; omega)]
   simp[List.filter_cons,hp]
theorem comp1{mi:MI}{ks:List Nat}{t:MT}{m:ME}{ρ:En}{h:MH}{l:List W}(p:W→Bool)(f:W→W)(hm:mi ρ h=some (.items l,h))(ht:∀w∈l,∀H',t (some w::ks.map fun k=>(ρ[k]?).join) H'=some (p w,H'))
  (hf:∀w∈l,p w=true→∀H',m (some w::ks.map fun k=>(ρ[k]?).join) H'=some (f w,H')) (hlow:∀w∈l,p w=true→low h.length (f w)=true) (hl:l.length≤cap):eComp mi 1 ks (gNm 0) t m ρ h=some (.fls ((l.filter p).map f),h):=by
 have e:=compL_pure (caps:=ks.map fun k=>(ρ[k]?).join) (t:=t) (m:=m) (h:=h) rfl p f l [] none ht hf (by simpa using hl)
 unfold eComp compR
 rw[hm]
 have er:(List.replicate 1 (none:Option W)++ks.map fun k=>(ρ[k]?).join)=none::ks.map fun k=>(ρ[k]?).join:=rfl
 simp only
 rw[er,e]
 simp only[List.nil_append,List.getElem?_append_right (Nat.le_refl _),Nat.sub_self,List.getElem?_cons_zero]
 rw[if_pos]
 refine⟨List.prefix_append _ _,lows_of fun w hw=>?_⟩
 obtain⟨w',h1,rfl⟩:=List.mem_map.mp hw
 obtain⟨h2,h3⟩:=List.mem_filter.mp h1
 exact hlow w' h2 h3
theorem compL_pure2{caps:En}{t:MT}{m:ME}{n0:Nat}{h:MH}(hn:h.length=n0)(p:W→W→Bool)(f:W→W→W):∀(l:List (W×W)) (acc:List W) (o1 o2:Option W),
  (∀w∈l,∀H',t (some w.1::some w.2::caps) H'=some (p w.1 w.2,H'))→(∀w∈l,p w.1 w.2=true→∀H',m (some w.1::some w.2::caps) H'=some (f w.1 w.2,H'))→acc.length+l.length≤cap→
  compL 2 (gTp [gNm 0,gNm 1]) t m n0 (l.map fun w=>.tup [w.1,w.2]) (o1::o2::caps) (h++[.lst acc])=some (h++[.lst (acc++(l.filter fun w=>p w.1 w.2).map fun w=>f w.1 w.2)])
 | [],acc,_,_,_,_,_=>by simp[compL]
 | (a,b)::l,acc,o1,o2,ht,hf,hl=>by
  have ih:=fun acc'=>compL_pure2 (caps:=caps) (t:=t) (m:=m) hn p f l acc' none none (fun w hw=>ht w (List.mem_cons_of_mem _ hw)) (fun w hw=>hf w (List.mem_cons_of_mem _ hw))
  have hb:blank 2 (some a::some b::caps)=none::none::caps:=by simp[blank,List.replicate]
  simp only[List.map_cons]
  unfold compL
  have hg:gTp [gNm 0,gNm 1] (.tup [a,b]) (o1::o2::caps) (h++[.lst acc])=some (some a::some b::caps,h++[.lst acc]):=by simp[gTp,gTps,bnd,gNm]
  rw[hg]
  simp only
  rw[ht (a,b) List.mem_cons_self]
  simp only[List.length_cons] at hl
  cases hp:p a b with
  | false=>
   simp only
   rw[hb,ih acc (by omega)]
   simp[List.filter_cons,hp]
  | true=>
   simp only
   rw[hf (a,b) List.mem_cons_self hp]
   have e1:(h++[MO.lst acc])[n0]?=some (.lst acc):=by rw[←hn]; simp
   have e2:(h++[MO.lst acc]).set n0 (.lst (acc++[f a b]))=h++[.lst (acc++[f a b])]:=by rw[←hn,List.set_append_right _ _ (Nat.le_refl _)]; simp
   simp only[e1]
   rw[if_pos (by omega),hb,e2,ih (acc++[f a b]) (by rw[List.length_append]; simp; omega)]
   simp[List.filter_cons,hp]
theorem comp2{mi:MI}{ks:List Nat}{t:MT}{m:ME}{ρ:En}{h:MH}{l:List (W×W)}(p:W→W→Bool)(f:W→W→W)(hm:mi ρ h=some (.items (l.map fun w=>.tup [w.1,w.2]),h))(ht:∀w∈l,∀H',t (some w.1::some w.2::ks.map fun k=>(ρ[k]?).join) H'=some (p w.1 w.2,H'))
  (hf:∀w∈l,p w.1 w.2=true→∀H',m (some w.1::some w.2::ks.map fun k=>(ρ[k]?).join) H'=some (f w.1 w.2,H')) (hlow:∀w∈l,p w.1 w.2=true→low h.length (f w.1 w.2)=true) (hl:l.length≤cap):eComp mi 2 ks (gTp [gNm 0,gNm 1]) t m ρ h=some (.fls ((l.filter fun w=>p w.1 w.2).map fun w=>f w.1 w.2),h):=by
 have e:=compL_pure2 (caps:=ks.map fun k=>(ρ[k]?).join) (t:=t) (m:=m) (h:=h) rfl p f l [] none none ht hf (by simpa using hl)
 unfold eComp compR
 rw[hm]
 have er:(List.replicate 2 (none:Option W)++ks.map fun k=>(ρ[k]?).join)=none::none::ks.map fun k=>(ρ[k]?).join:=rfl
 simp only
 rw[er,e]
 simp only[List.nil_append,List.getElem?_append_right (Nat.le_refl _),Nat.sub_self,List.getElem?_cons_zero]
 rw[if_pos]
 refine⟨List.prefix_append _ _,lows_of fun w hw=>?_⟩
 obtain⟨w',h1,rfl⟩:=List.mem_map.mp hw
 obtain⟨h2,h3⟩:=List.mem_filter.mp h1
 exact hlow w' h2 h3
noncomputable def headIn(x letters:Str):Bool:=match x.cps.toList with
 | c::_=>inStr letters ⟨#[c]⟩
 | []=>false
noncomputable def figs(x:Str):Bool:=x.cps.toList.all fun c=>inStr "0123456789" ⟨#[c]⟩
noncomputable def tailS(x:Str):Str:=Txt.slice x (some 1) none
noncomputable def wordS(x letters:Str):Bool:=decide (1≤x.length∧x.length≤4)&&headIn x letters&&figs (tailS x)
noncomputable def isWord(letters:Str):W→Bool
 | .str x=>wordS x letters
 | _=>false
theorem len_cps(x:Str):x.cps.toList.length=x.length:=by simp[Str.length]
theorem ix_head{x:Str}{h:MH}(h1:1≤x.length)(h2:x.length≤cap):∃c r,x.cps.toList=c::r∧ixW (.str x) (.int 0) h=some (.str ⟨#[c]⟩,h):=by
 cases e:x.cps.toList with
 | nil=>have:=len_cps x; rw[e] at this; simp at this; omega
 | cons c r=>
  refine⟨c,r,rfl,?_⟩
  simp only[ixW,if_pos h2,atI,ixN,e]
  simp
theorem slice_ok{x:Str}{lo hi:Option Int}(h:PyData.strOk x=true):PyData.strOk (Txt.slice x lo hi)=true:=by
 unfold Txt.slice
 split
 .exact h
 .unfold PyData.strOk at h ⊢
  rw[Array.all_eq_true] at h
  simp only[List.all_toArray,List.all_eq_true,List.mem_filterMap]
  rintro c ⟨i,_,hc⟩
  obtain⟨hi,rfl⟩:=Array.getElem?_eq_some_iff.mp hc
  exact h i hi
end ML
namespace K1
open PySem PySem.Spec PyProof.Rows L2 ML
def top(i:Nat):Stmt:=PySem.Challenge.pw_shelfwork_k01_known.main.body.getD i (.Pass ⟨0,0,0,0⟩)
def c_SHELVES:W:=(.tup [(.str "a"),(.str "b"),(.str "c"),(.str "d")])
def c_MOST_WORTH:W:=(.int 1008)
def c_MOST_FIGURES:W:=(.int 3)
def c_MOST_RULES:W:=(.int 4)
def c_MOST_DEEDS:W:=(.int 60)
def c_MOST_NAMES:W:=(.int 2)
def t_FORMS:List (Str×W):=[("number",(.tup [(.int 2),(.int 2)])),("name",(.tup [(.int 2),(.int 2)])),("read",(.tup [(.int 2),(.int 2)])),("write",(.tup [(.int 3),(.int 2)])),("add",(.tup [(.int 3),(.int 1)])),("less",(.tup [(.int 3),(.int 1)])),("then",(.tup [(.int 3),(.int 1)])),("if",(.tup [(.int 4),(.int 1)])),("loop",(.tup [(.int 3),(.int 1)])),("let",(.tup [(.int 4),(.int 2)])),("own",(.tup [(.int 4),(.int 2)])),("say",(.tup [(.int 2),(.int 1)])),("ask",(.tup [(.int 1),(.int 1)])),("do",(.tup [(.int 2),(.int 2)])),("call",(.tup [(.int 4),(.int 2)]))]
structure Fs where
 f_has_form:List W→M W
 f_parts_of:List W→M W
 f_is_whole:List W→M W
 f_is_worth:List W→M W
 f_is_figures:List W→M W
 f_is_lettered:List W→M W
 f_is_name:List W→M W
 f_is_own_shelf:List W→M W
 f_is_handed_name:List W→M W
 f_is_shelf:List W→M W
 f_is_call:List W→M W
 f_is_deed_outside:List W→M W
 f_parts_with_known:List W→M W
 f_is_deed_where:List W→M W
 f_are_unlike:List W→M W
 f_is_head:List W→M W
 f_is_rule:List W→M W
 f_is_rules:List W→M W
 f_is_deed:List W→M W
 f_size_of:List W→M W
 f_law_cell:List W→M W
 f_law_drawn:List W→M W
 f_law_leaf:List W→M W
 f_law_deed:List W→M W
 f_law_call:List W→M W
 f_law_rules:List W→M W
 f_law_odd:List W→M W
 f_law_spoilt:List W→M W
 f_law_is_word:List W→M W
 f_law_left:List W→M W
 f_law_left_of_all:List W→M W
 f_law_left_of_call:List W→M W
 f_law_is_rules:List W→M W
 f_law_size:List W→M W
 f_law_weight:List W→M W
 f_law_light:List W→M W
 f_law_each:List W→M W
 f_law_known_ones:List W→M W
 f_law:List W→M W
noncomputable def b_f_has_form(F:Fs):MS:=(sSeq (sIf (tOrM (tNotM (tVal (eUn (isW .tuple) (eVar 0)))) (tVal (eOp (eqW false) (eArgs lenW [(eVar 0)]) (eC (.int 0)))))
 (sRet (eC (.bl false)))
 sNext)
 (sSeq (sIf (tOrM (tNotM (tVal (eUn (isW .str) (eOp ixW (eVar 0) (eC (.int 0)))))) (tVal (eUn (tabIn true t_FORMS) (eOp ixW (eVar 0) (eC (.int 0))))))
 (sRet (eC (.bl false)))
 sNext)
 (sRet (eOp (eqW false) (eArgs lenW [(eVar 0)]) (eOp ixW (eUn (tabGet t_FORMS) (eOp ixW (eVar 0) (eC (.int 0)))) (eC (.int 0)))))))
noncomputable def b_f_parts_of(F:Fs):MS:=(sSeq (sIf (tVal (eOp (eqW false) (eOp ixW (eVar 0) (eC (.int 0))) (eC (.str "call"))))
 (sRet (eOp addW (eOp ixW (eVar 0) (eC (.int 2))) (eOp ixW (eVar 0) (eC (.int 3)))))
 sNext)
 (sRet (eSl (eVar 0) (some (eOp ixW (eUn (tabGet t_FORMS) (eOp ixW (eVar 0) (eC (.int 0)))) (eC (.int 1)))) none)))
noncomputable def b_f_is_whole(F:Fs):MS:=(sRet (eAnd (eUn (isW .int) (eVar 0)) (eNot (eUn (isW .bool) (eVar 0)))))
noncomputable def b_f_is_worth(F:Fs):MS:=(sRet (eAnd (eArgs F.f_is_whole [(eVar 0)]) (eChain leW leW (eC (.int 0)) (eVar 0) (eC c_MOST_WORTH))))
noncomputable def b_f_is_figures(F:Fs):MS:=(sRet (eArgs allW [(eComp (iStr (eVar 0)) 1 [] (gNm 0) tTrue (eOp (inW false) (eVar 0) (eC (.str "0123456789"))))]))
noncomputable def b_f_is_lettered(F:Fs):MS:=(sSeq (sIf (tOrM (tNotM (tVal (eUn (isW .str) (eVar 0)))) (tNotM (tVal (eChain leW leW (eC (.int 1)) (eArgs lenW [(eVar 0)]) (eOp addW (eC (.int 1)) (eC c_MOST_FIGURES))))))
 (sRet (eC (.bl false)))
 sNext)
 (sRet (eAnd (eOp (inW false) (eOp ixW (eVar 0) (eC (.int 0))) (eVar 1)) (eArgs F.f_is_figures [(eSl (eVar 0) (some (eC (.int 1))) none)]))))
noncomputable def b_f_is_name(F:Fs):MS:=(sRet (eArgs F.f_is_lettered [(eVar 0),(eC (.str "xyz"))]))
noncomputable def b_f_is_own_shelf(F:Fs):MS:=(sRet (eArgs F.f_is_lettered [(eVar 0),(eC (.str "pq"))]))
noncomputable def b_f_is_handed_name(F:Fs):MS:=(sRet (eArgs F.f_is_lettered [(eVar 0),(eC (.str "fg"))]))
noncomputable def b_f_is_shelf(F:Fs):MS:=(sRet (eOr (eOp (inW false) (eVar 0) (eC c_SHELVES)) (eAnd (eArgs F.f_is_own_shelf [(eVar 0)]) (eOp (inW false) (eVar 0) (eVar 1)))))
noncomputable def b_f_is_call(F:Fs):MS:=(sSeq (sAsg (eOp ixW (eVar 1) (eC (.int 1))) (gNm 2))
 (sSeq (sIf (tOrM (tNotM (tVal (eArgs F.f_is_whole [(eVar 2)]))) (tNotM (tVal (eChain leW ltW (eC (.int 0)) (eVar 2) (eArgs lenW [(eVar 0)])))))
 (sRet (eC (.bl false)))
 sNext)
 (sSeq (sIf (tOrM (tNotM (tVal (eUn (isW .tuple) (eOp ixW (eVar 1) (eC (.int 2)))))) (tNotM (tVal (eUn (isW .tuple) (eOp ixW (eVar 1) (eC (.int 3)))))))
 (sRet (eC (.bl false)))
 sNext)
 (sSeq (sAsg (eOp ixW (eVar 0) (eVar 2)) (gNm 3))
 (sRet (eAnd (eOp (eqW false) (eArgs lenW [(eOp ixW (eVar 1) (eC (.int 2)))]) (eArgs lenW [(eOp ixW (eVar 3) (eC (.int 0)))])) (eOp (eqW false) (eArgs lenW [(eOp ixW (eVar 1) (eC (.int 3)))]) (eArgs lenW [(eOp ixW (eVar 3) (eC (.int 1)))]))))))))
noncomputable def b_f_is_deed_outside(F:Fs):MS:=(sSeq (sIf (tNotM (tVal (eArgs F.f_has_form [(eVar 1)])))
 (sRet (eC (.bl false)))
 sNext)
 (sSeq (sAsg (eOp ixW (eVar 1) (eC (.int 0))) (gNm 3))
 (sSeq (sIf (tVal (eOp (eqW false) (eVar 3) (eC (.str "number"))))
 (sRet (eArgs F.f_is_worth [(eOp ixW (eVar 1) (eC (.int 1)))]))
 sNext)
 (sSeq (sIf (tVal (eOp (eqW false) (eVar 3) (eC (.str "name"))))
 (sRet (eAnd (eArgs F.f_is_name [(eOp ixW (eVar 1) (eC (.int 1)))]) (eOp (inW false) (eOp ixW (eVar 1) (eC (.int 1))) (eVar 2))))
 sNext)
 (sSeq (sIf (tVal (eOp (eqW false) (eVar 3) (eC (.str "do"))))
 (sRet (eAnd (eArgs F.f_is_handed_name [(eOp ixW (eVar 1) (eC (.int 1)))]) (eOp (inW false) (eOp ixW (eVar 1) (eC (.int 1))) (eVar 2))))
 sNext)
 (sSeq (sIf (tVal (eOp (inW false) (eVar 3) (eArgs tupW [(eC (.str "read")),(eC (.str "write"))])))
 (sRet (eArgs F.f_is_shelf [(eOp ixW (eVar 1) (eC (.int 1))),(eVar 2)]))
 sNext)
 (sSeq (sIf (tVal (eOp (eqW false) (eVar 3) (eC (.str "let"))))
 (sRet (eArgs F.f_is_name [(eOp ixW (eVar 1) (eC (.int 1)))]))
 sNext)
 (sSeq (sIf (tVal (eOp (eqW false) (eVar 3) (eC (.str "own"))))
 (sRet (eArgs F.f_is_own_shelf [(eOp ixW (eVar 1) (eC (.int 1)))]))
 sNext)
 (sSeq (sIf (tVal (eOp (eqW false) (eVar 3) (eC (.str "call"))))
 (sRet (eArgs F.f_is_call [(eVar 0),(eVar 1)]))
 sNext)
 (sRet (eC (.bl true))))))))))))
noncomputable def b_f_parts_with_known(F:Fs):MS:=(sSeq (sIf (tVal (eOp (inW false) (eOp ixW (eVar 0) (eC (.int 0))) (eArgs tupW [(eC (.str "let")),(eC (.str "own"))])))
 (sRet (eArgs flsW [(eArgs tupW [(eOp ixW (eVar 0) (eC (.int 2))),(eVar 1)]),(eArgs tupW [(eOp ixW (eVar 0) (eC (.int 3))),(eOp addW (eVar 1) (eArgs tupW [(eOp ixW (eVar 0) (eC (.int 1)))]))])]))
 sNext)
 (sRet (eComp (iSeq (eArgs F.f_parts_of [(eVar 0)])) 1 [1] (gNm 0) tTrue (eArgs tupW [(eVar 0),(eVar 1)]))))
noncomputable def b_f_is_deed_where(F:Fs):MS:=(sSeq (sAsg (eC (.int 0)) (gNm 3))
 (sSeq (sAsg (eArgs lstW [(eArgs tupW [(eVar 1),(eVar 2)])]) (gNm 4))
 (sSeq (sWhile (tVal (eOp gtW (eArgs lenW [(eVar 4)]) (eC (.int 0))))
 (sSeq (sAsg (eMethL popM (eVar 4) []) (gNm 5))
 (sSeq (sAug 3 augI (eC (.int 1)))
 (sSeq (sIf (tOrM (tVal (eOp gtW (eVar 3) (eC c_MOST_DEEDS))) (tNotM (tVal (eArgs F.f_is_deed_outside [(eVar 0),(eOp ixW (eVar 5) (eC (.int 0))),(eOp ixW (eVar 5) (eC (.int 1)))]))))
 (sRet (eC (.bl false)))
 sNext)
 (sExpr (eMethL extendM (eVar 4) [(eArgs F.f_parts_with_known [(eOp ixW (eVar 5) (eC (.int 0))),(eOp ixW (eVar 5) (eC (.int 1)))])]))))))
 (sRet (eC (.bl true))))))
noncomputable def b_f_are_unlike(F:Fs):MS:=(sRet (eOp (eqW false) (eUn lenSet (eVar 0)) (eArgs lenW [(eVar 0)])))
noncomputable def b_f_is_head(F:Fs):MS:=(sSeq (sIf (tOrM (tNotM (tVal (eUn (isW .tuple) (eVar 0)))) (tNotM (tVal (eUn (isW .tuple) (eVar 1)))))
 (sRet (eC (.bl false)))
 sNext)
 (sSeq (sIf (tOrM (tVal (eOp gtW (eArgs lenW [(eVar 0)]) (eC c_MOST_NAMES))) (tVal (eOp gtW (eArgs lenW [(eVar 1)]) (eC c_MOST_NAMES))))
 (sRet (eC (.bl false)))
 sNext)
 (sSeq (sIf (tOrM (tNotM (tVal (eArgs allW [(eComp (iSeq (eVar 0)) 1 [] (gNm 0) tTrue (eArgs F.f_is_name [(eVar 0)]))]))) (tNotM (tVal (eArgs allW [(eComp (iSeq (eVar 1)) 1 [] (gNm 0) tTrue (eArgs F.f_is_handed_name [(eVar 0)]))]))))
 (sRet (eC (.bl false)))
 sNext)
 (sRet (eAnd (eArgs F.f_are_unlike [(eVar 0)]) (eArgs F.f_are_unlike [(eVar 1)]))))))
noncomputable def b_f_is_rule(F:Fs):MS:=(sSeq (sIf (tOrM (tNotM (tVal (eUn (isW .tuple) (eVar 1)))) (tVal (eOp (eqW true) (eArgs lenW [(eVar 1)]) (eC (.int 3)))))
 (sRet (eC (.bl false)))
 sNext)
 (sRet (eAnd (eArgs F.f_is_head [(eOp ixW (eVar 1) (eC (.int 0))),(eOp ixW (eVar 1) (eC (.int 1)))]) (eArgs F.f_is_deed_where [(eVar 0),(eOp ixW (eVar 1) (eC (.int 2))),(eOp addW (eOp ixW (eVar 1) (eC (.int 0))) (eOp ixW (eVar 1) (eC (.int 1))))]))))
noncomputable def b_f_is_rules(F:Fs):MS:=(sSeq (sIf (tOrM (tNotM (tVal (eUn (isW .tuple) (eVar 0)))) (tVal (eOp gtW (eArgs lenW [(eVar 0)]) (eC c_MOST_RULES))))
 (sRet (eC (.bl false)))
 sNext)
 (sSeq (sFor (iEnum [(eVar 0)]) (gTp [(gNm 1),(gNm 2)])
 (sIf (tNotM (tVal (eArgs F.f_is_rule [(eSl (eVar 0) none (some (eVar 1))),(eVar 2)])))
 (sRet (eC (.bl false)))
 sNext))
 (sRet (eC (.bl true)))))
noncomputable def b_f_is_deed(F:Fs):MS:=(sRet (eArgs F.f_is_deed_where [(eVar 0),(eVar 1),(eArgs tupW [])]))
noncomputable def b_f_size_of(F:Fs):MS:=(sSeq (sAsg (eC (.int 0)) (gNm 1))
 (sSeq (sAsg (eArgs lstW [(eVar 0)]) (gNm 2))
 (sSeq (sWhile (tVal (eOp gtW (eArgs lenW [(eVar 2)]) (eC (.int 0))))
 (sSeq (sAug 1 augI (eC (.int 1)))
 (sExpr (eMethL extendM (eVar 2) [(eArgs F.f_parts_of [(eMethL popM (eVar 2) [])])]))))
 (sRet (eVar 1)))))
noncomputable def b_f_law_cell(F:Fs):MS:=(sSeq (sIf (tVal (eOp (eqW false) (eVar 0) (eArgs flsW [])))
 (sRet (eOp mulW (eC (.int 7)) (eVar 1)))
 sNext)
 (sRet (eOp addW (eOp ixW (eVar 0) (eOp modW (eVar 1) (eArgs lenW [(eVar 0)]))) (eOp mulW (eC (.int 6553)) (eOp divW (eVar 1) (eArgs lenW [(eVar 0)]))))))
noncomputable def b_f_law_drawn(F:Fs):MS:=(sSeq (sAsg (eOp modW (eOp addW (eOp mulW (eOp modW (eArgs F.f_law_cell [(eVar 0),(eVar 1)]) (eC (.int 2147483563))) (eC (.int 69069))) (eOp mulW (eC (.int 104723)) (eOp addW (eVar 1) (eC (.int 1))))) (eC (.int 2147483563))) (gNm 3))
 (sSeq (sAsg (eOp modW (eOp addW (eOp mulW (eVar 3) (eVar 3)) (eOp divW (eVar 3) (eC (.int 3)))) (eC (.int 2147483399))) (gNm 3))
 (sRet (eOp modW (eOp divW (eOp modW (eOp addW (eOp mulW (eVar 3) (eVar 3)) (eOp divW (eVar 3) (eC (.int 7)))) (eC (.int 2147483647))) (eC (.int 11))) (eVar 2)))))
noncomputable def b_f_law_leaf(F:Fs):MS:=(sSeq (sAsg (eVar 2) (gTp [(gNm 3),(gNm 4),(gNm 5)]))
 (sSeq (sAsg (eArgs F.f_law_drawn [(eVar 0),(eVar 1),(eC (.int 8))]) (gNm 6))
 (sSeq (sIf (tVal (eOp ltW (eVar 6) (eC (.int 2))))
 (sRet (eArgs tupW [(eC (.str "number")),(eOp ixW (eArgs flsW [(eC (.int 0)),(eC (.int 1)),(eC (.int 2)),(eC (.int 3)),(eC (.int 7)),(eC (.int 1008))]) (eArgs F.f_law_drawn [(eVar 0),(eOp addW (eVar 1) (eC (.int 1))),(eC (.int 6))]))]))
 sNext)
 (sSeq (sIf (tAndM (tVal (eOp (eqW false) (eVar 6) (eC (.int 2)))) (tVal (eOp (eqW true) (eVar 3) (eArgs tupW []))))
 (sRet (eArgs tupW [(eC (.str "name")),(eOp ixW (eVar 3) (eArgs F.f_law_drawn [(eVar 0),(eOp addW (eVar 1) (eC (.int 1))),(eArgs lenW [(eVar 3)])]))]))
 sNext)
 (sSeq (sIf (tAndM (tVal (eOp (eqW false) (eVar 6) (eC (.int 3)))) (tVal (eOp (eqW true) (eVar 5) (eArgs tupW []))))
 (sRet (eArgs tupW [(eC (.str "do")),(eOp ixW (eVar 5) (eArgs F.f_law_drawn [(eVar 0),(eOp addW (eVar 1) (eC (.int 1))),(eArgs lenW [(eVar 5)])]))]))
 sNext)
 (sSeq (sIf (tVal (eOp (eqW false) (eVar 6) (eC (.int 4))))
 (sRet (eArgs tupW [(eC (.str "ask"))]))
 sNext)
 (sSeq (sAsg (eOp addW (eArgs tupW [(eC (.str "a")),(eC (.str "b")),(eC (.str "c")),(eC (.str "d"))]) (eOp mulW (eVar 4) (eC (.int 3)))) (gNm 7))
 (sRet (eArgs tupW [(eC (.str "read")),(eOp ixW (eVar 7) (eArgs F.f_law_drawn [(eVar 0),(eOp addW (eVar 1) (eC (.int 1))),(eArgs lenW [(eVar 7)])]))])))))))))
noncomputable def b_f_law_deed(F:Fs):MS:=(sSeq (sAsg (eArgs F.f_law_drawn [(eVar 0),(eVar 1),(eC (.int 15))]) (gNm 5))
 (sSeq (sIf (tOrM (tVal (eOp (eqW false) (eVar 2) (eC (.int 0)))) (tVal (eOp ltW (eVar 5) (eC (.int 2)))))
 (sRet (eArgs F.f_law_leaf [(eVar 0),(eOp addW (eVar 1) (eC (.int 1))),(eVar 3)]))
 sNext)
 (sSeq (sIf (tAndM (tVal (eOp ltW (eVar 5) (eC (.int 4)))) (tVal (eOp (eqW true) (eVar 4) (eArgs tupW []))))
 (sRet (eArgs F.f_law_call [(eVar 0),(eVar 1),(eVar 2),(eVar 3),(eVar 4)]))
 sNext)
 (sSeq (sAsg (eArgs F.f_law_deed [(eVar 0),(eOp addW (eOp mulW (eVar 1) (eC (.int 3))) (eC (.int 7))),(eOp subW (eVar 2) (eC (.int 1))),(eVar 3),(eVar 4)]) (gNm 6))
 (sSeq (sIf (tVal (eOp ltW (eVar 5) (eC (.int 6))))
 (sSeq (sAsg (eOp addW (eArgs tupW [(eC (.str "a")),(eC (.str "b")),(eC (.str "c")),(eC (.str "d"))]) (eOp mulW (eOp ixW (eVar 3) (eC (.int 1))) (eC (.int 3)))) (gNm 7))
 (sRet (eArgs tupW [(eC (.str "write")),(eOp ixW (eVar 7) (eArgs F.f_law_drawn [(eVar 0),(eOp addW (eVar 1) (eC (.int 3))),(eArgs lenW [(eVar 7)])])),(eVar 6)])))
 sNext)
 (sSeq (sIf (tVal (eOp (eqW false) (eVar 5) (eC (.int 6))))
 (sRet (eArgs tupW [(eC (.str "say")),(eVar 6)]))
 sNext)
 (sSeq (sIf (tVal (eOp (eqW false) (eVar 5) (eC (.int 7))))
 (sSeq (sAsg (eOp ixW (eArgs flsW [(eC (.str "x")),(eC (.str "y")),(eC (.str "x1"))]) (eArgs F.f_law_drawn [(eVar 0),(eOp addW (eVar 1) (eC (.int 3))),(eC (.int 3))])) (gNm 8))
 (sRet (eArgs tupW [(eC (.str "let")),(eVar 8),(eVar 6),(eArgs F.f_law_deed [(eVar 0),(eOp addW (eOp mulW (eVar 1) (eC (.int 3))) (eC (.int 23))),(eOp subW (eVar 2) (eC (.int 1))),(eOp addW (eArgs tupW [(eOp addW (eOp ixW (eVar 3) (eC (.int 0))) (eArgs tupW [(eVar 8)]))]) (eSl (eVar 3) (some (eC (.int 1))) none)),(eVar 4)])])))
 sNext)
 (sSeq (sIf (tVal (eOp (eqW false) (eVar 5) (eC (.int 8))))
 (sSeq (sAsg (eOp ixW (eArgs flsW [(eC (.str "p")),(eC (.str "q"))]) (eArgs F.f_law_drawn [(eVar 0),(eOp addW (eVar 1) (eC (.int 3))),(eC (.int 2))])) (gNm 8))
 (sSeq (sAsg (eArgs tupW [(eOp ixW (eVar 3) (eC (.int 0))),(eOp addW (eOp ixW (eVar 3) (eC (.int 1))) (eArgs tupW [(eVar 8)])),(eOp ixW (eVar 3) (eC (.int 2)))]) (gNm 9))
 (sRet (eArgs tupW [(eC (.str "own")),(eVar 8),(eVar 6),(eArgs F.f_law_deed [(eVar 0),(eOp addW (eOp mulW (eVar 1) (eC (.int 3))) (eC (.int 23))),(eOp subW (eVar 2) (eC (.int 1))),(eVar 9),(eVar 4)])]))))
 sNext)
 (sSeq (sAsg (eArgs F.f_law_deed [(eVar 0),(eOp addW (eOp mulW (eVar 1) (eC (.int 3))) (eC (.int 41))),(eOp subW (eVar 2) (eC (.int 1))),(eVar 3),(eVar 4)]) (gNm 10))
 (sSeq (sIf (tVal (eOp (eqW false) (eVar 5) (eC (.int 9))))
 (sRet (eArgs tupW [(eC (.str "if")),(eVar 6),(eVar 10),(eArgs F.f_law_deed [(eVar 0),(eOp addW (eOp mulW (eVar 1) (eC (.int 3))) (eC (.int 61))),(eOp subW (eVar 2) (eC (.int 1))),(eVar 3),(eVar 4)])]))
 sNext)
 (sRet (eOp addW (eOp ixW (eArgs flsW [(eArgs tupW [(eC (.str "then"))]),(eArgs tupW [(eC (.str "add"))]),(eArgs tupW [(eC (.str "less"))]),(eArgs tupW [(eC (.str "loop"))]),(eArgs tupW [(eC (.str "then"))])]) (eOp subW (eVar 5) (eC (.int 10)))) (eArgs tupW [(eVar 6),(eVar 10)])))))))))))))
noncomputable def b_f_law_call(F:Fs):MS:=(sSeq (sAsg (eArgs F.f_law_drawn [(eVar 0),(eOp addW (eVar 1) (eC (.int 3))),(eArgs lenW [(eVar 4)])]) (gNm 5))
 (sSeq (sAsg (eArgs lenW [(eOp ixW (eOp ixW (eVar 4) (eVar 5)) (eC (.int 0)))]) (gNm 6))
 (sSeq (sAsg (eArgs lstW []) (gNm 7))
 (sSeq (sFor (iRng [(eOp addW (eVar 6) (eArgs lenW [(eOp ixW (eOp ixW (eVar 4) (eVar 5)) (eC (.int 1)))]))]) (gNm 8)
 (sExpr (eMethL appendM (eVar 7) [(eArgs F.f_law_deed [(eVar 0),(eOp addW (eOp addW (eOp mulW (eVar 1) (eC (.int 3))) (eC (.int 7))) (eOp mulW (eC (.int 5)) (eVar 8))),(eOp subW (eVar 2) (eC (.int 1))),(eVar 3),(eVar 4)])])))
 (sRet (eArgs tupW [(eC (.str "call")),(eVar 5),(eArgs tupleW [(eSl (eVar 7) none (some (eVar 6)))]),(eArgs tupleW [(eSl (eVar 7) (some (eVar 6)) none)])]))))))
noncomputable def b_f_law_rules(F:Fs):MS:=(sSeq (sAsg (eArgs tupW []) (gNm 2))
 (sSeq (sFor (iRng [(eArgs F.f_law_drawn [(eVar 0),(eVar 1),(eC (.int 3))])]) (gNm 3)
 (sSeq (sAsg (eOp ixW (eArgs flsW [(eArgs tupW []),(eArgs tupW [(eC (.str "x"))]),(eArgs tupW [(eC (.str "y")),(eC (.str "x"))])]) (eArgs F.f_law_drawn [(eVar 0),(eOp addW (eOp addW (eVar 1) (eC (.int 1))) (eOp mulW (eC (.int 5)) (eVar 3))),(eC (.int 3))])) (gNm 4))
 (sSeq (sAsg (eOp ixW (eArgs flsW [(eArgs tupW []),(eArgs tupW [(eC (.str "f"))]),(eArgs tupW [(eC (.str "f")),(eC (.str "g1"))])]) (eArgs F.f_law_drawn [(eVar 0),(eOp addW (eOp addW (eVar 1) (eC (.int 2))) (eOp mulW (eC (.int 5)) (eVar 3))),(eC (.int 3))])) (gNm 5))
 (sSeq (sAsg (eArgs F.f_law_deed [(eVar 0),(eOp addW (eOp addW (eVar 1) (eC (.int 20))) (eOp mulW (eC (.int 7)) (eVar 3))),(eC (.int 2)),(eArgs tupW [(eVar 4),(eArgs tupW []),(eVar 5)]),(eVar 2)]) (gNm 6))
 (sAsg (eOp addW (eVar 2) (eArgs tupW [(eArgs tupW [(eVar 4),(eVar 5),(eVar 6)])])) (gNm 2))))))
 (sRet (eVar 2))))
noncomputable def b_f_law_odd(F:Fs):MS:=(sSeq (sAsg (eArgs lstW [(eUn negW (eC (.int 1))),(eC (.int 0)),(eC (.int 1)),(eC (.int 1008)),(eC (.int 1009)),(eC (.bl true)),(eC .non),(eC (.str "")),(eC (.str "a")),(eC (.str "x")),(eC (.str "p")),(eC (.str "f")),(eC (.str "x1")),(eC (.str "x1234")),(eC (.str "read")),(eArgs tupW []),(eArgs flsW []),(eArgs tupW [(eC (.str "ask"))])]) (gNm 1))
 (sSeq (sAsg (eOp addM (eVar 1) (eArgs flsW [(eArgs tupW [(eC (.str "name")),(eC (.str "x"))]),(eArgs tupW [(eC (.str "read")),(eC (.str "a"))]),(eArgs tupW [(eC (.str "do")),(eC (.str "f"))]),(eArgs tupW [(eC (.str "call")),(eC (.int 0)),(eArgs tupW []),(eArgs tupW [])]),(eArgs tupW [(eC (.str "number")),(eC (.bl true))]),(eArgs tupW [(eC (.str "ask")),(eC (.int 1))]),(eC (.int 2))])) (gNm 1))
 (sSeq (sExpr (eMethL appendM (eVar 1) [(eArgs tupW [(eC (.str "number")),(eC (.int 0))])]))
 (sRet (eOp ixW (eVar 1) (eOp modW (eVar 0) (eC (.int 26))))))))
noncomputable def b_f_law_spoilt(F:Fs):MS:=(sSeq (sIf (tAndM (tVal (eOp gtW (eVar 2) (eC (.int 0)))) (tAndM (tVal (eUn (isW .tuple) (eVar 0))) (tAndM (tVal (eOp gtW (eArgs lenW [(eVar 0)]) (eC (.int 0)))) (tVal (eOp gtW (eOp modW (eVar 1) (eC (.int 7))) (eC (.int 0)))))))
 (sSeq (sAsg (eOp modW (eOp divW (eVar 1) (eC (.int 7))) (eArgs lenW [(eVar 0)])) (gNm 3))
 (sSeq (sAsg (eArgs F.f_law_spoilt [(eOp ixW (eVar 0) (eVar 3)),(eOp divW (eVar 1) (eC (.int 91))),(eOp subW (eVar 2) (eC (.int 1)))]) (gNm 4))
 (sRet (eOp addW (eOp addW (eSl (eVar 0) none (some (eVar 3))) (eArgs tupW [(eVar 4)])) (eSl (eVar 0) (some (eOp addW (eVar 3) (eC (.int 1)))) none)))))
 sNext)
 (sSeq (sIf (tAndM (tVal (eUn (isW .tuple) (eVar 0))) (tAndM (tVal (eOp gtW (eArgs lenW [(eVar 0)]) (eC (.int 0)))) (tVal (eOp (eqW false) (eOp modW (eOp divW (eVar 1) (eC (.int 7))) (eC (.int 2))) (eC (.int 0))))))
 (sRet (eOp ixW (eArgs flsW [(eArgs listW [(eVar 0)]),(eSl (eVar 0) none (some (eUn negW (eC (.int 1))))),(eOp addW (eVar 0) (eSl (eVar 0) (some (eUn negW (eC (.int 1)))) none)),(eSl (eVar 0) (some (eC (.int 1))) none),(eUn revW (eVar 0)),(eOp mulW (eVar 0) (eC (.int 2)))]) (eOp modW (eOp divW (eVar 1) (eC (.int 14))) (eC (.int 6)))))
 sNext)
 (sSeq (sIf (tAndM (tVal (eUn (isW .int) (eVar 0))) (tVal (eOp (eqW false) (eOp modW (eOp divW (eVar 1) (eC (.int 7))) (eC (.int 2))) (eC (.int 0)))))
 (sRet (eOp ixW (eArgs flsW [(eArgs strW [(eVar 0)]),(eOp subW (eC (.int 0)) (eVar 0)),(eOp addW (eVar 0) (eC (.int 1))),(eOp (eqW false) (eVar 0) (eC (.int 1))),(eOp subW (eVar 0) (eC (.int 1))),(eOp addW (eVar 0) (eC (.int 9)))]) (eOp modW (eOp divW (eVar 1) (eC (.int 14))) (eC (.int 6)))))
 sNext)
 (sRet (eArgs F.f_law_odd [(eOp divW (eVar 1) (eC (.int 7)))])))))
noncomputable def b_f_law_is_word(F:Fs):MS:=(sSeq (sIf (tOrM (tNotM (tVal (eUn (isW .str) (eVar 0)))) (tOrM (tNotM (tVal (eChain leW leW (eC (.int 1)) (eArgs lenW [(eVar 0)]) (eC (.int 4))))) (tVal (eOp (inW true) (eOp ixW (eVar 0) (eC (.int 0))) (eVar 1)))))
 (sRet (eC (.bl false)))
 sNext)
 (sRet (eOp (eqW false) (eComp (iStr (eSl (eVar 0) (some (eC (.int 1))) none)) 1 [] (gNm 0) (tVal (eOp (inW true) (eVar 0) (eC (.str "0123456789")))) (eVar 0)) (eArgs flsW []))))
noncomputable def b_f_law_left(F:Fs):MS:=(sSeq (sIf (tOrM (tVal (eOp ltW (eVar 4) (eC (.int 1)))) (tOrM (tNotM (tVal (eUn (isW .tuple) (eVar 2)))) (tOrM (tVal (eOp (eqW false) (eVar 2) (eArgs tupW []))) (tNotM (tVal (eUn (isW .str) (eOp ixW (eVar 2) (eC (.int 0)))))))))
 (sRet (eUn negW (eC (.int 1))))
 sNext)
 (sSeq (sIf (tAndM (tVal (eOp (eqW false) (eOp ixW (eVar 2) (eC (.int 0))) (eC (.str "number")))) (tVal (eOp (eqW false) (eArgs lenW [(eVar 2)]) (eC (.int 2)))))
 (sSeq (sAsg (eAnd (eUn (isW .int) (eOp ixW (eVar 2) (eC (.int 1)))) (eAnd (eNot (eUn (isW .bool) (eOp ixW (eVar 2) (eC (.int 1))))) (eChain leW leW (eC (.int 0)) (eOp ixW (eVar 2) (eC (.int 1))) (eC (.int 1008))))) (gNm 5))
 (sRet (eOp ixW (eArgs flsW [(eUn negW (eC (.int 1))),(eOp subW (eVar 4) (eC (.int 1)))]) (eArgs intW [(eVar 5)]))))
 sNext)
 (sSeq (sIf (tAndM (tVal (eOp (inW false) (eOp ixW (eVar 2) (eC (.int 0))) (eArgs tupW [(eC (.str "name")),(eC (.str "do"))]))) (tVal (eOp (eqW false) (eArgs lenW [(eVar 2)]) (eC (.int 2)))))
 (sSeq (sAsg (eOp ixW (eArgs flsW [(eC (.str "xyz")),(eC (.str "fg"))]) (eArgs intW [(eOp (eqW false) (eOp ixW (eVar 2) (eC (.int 0))) (eC (.str "do")))])) (gNm 6))
 (sRet (eOp ixW (eArgs flsW [(eUn negW (eC (.int 1))),(eOp subW (eVar 4) (eC (.int 1)))]) (eArgs intW [(eAnd (eArgs F.f_law_is_word [(eOp ixW (eVar 2) (eC (.int 1))),(eVar 6)]) (eOp (inW false) (eOp ixW (eVar 2) (eC (.int 1))) (eVar 3)))]))))
 sNext)
 (sSeq (sIf (tAndM (tVal (eOp (inW false) (eOp ixW (eVar 2) (eC (.int 0))) (eArgs tupW [(eC (.str "read")),(eC (.str "write"))]))) (tVal (eOp (eqW false) (eArgs lenW [(eVar 2)]) (eOp addW (eC (.int 2)) (eArgs intW [(eOp (eqW false) (eOp ixW (eVar 2) (eC (.int 0))) (eC (.str "write")))])))))
 (sSeq (sAsg (eAnd (eArgs F.f_law_is_word [(eOp ixW (eVar 2) (eC (.int 1))),(eC (.str "pq"))]) (eOp (inW false) (eOp ixW (eVar 2) (eC (.int 1))) (eVar 3))) (gNm 7))
 (sSeq (sIf (tAndM (tNotM (tVal (eVar 7))) (tVal (eOp (inW true) (eOp ixW (eVar 2) (eC (.int 1))) (eArgs tupW [(eC (.str "a")),(eC (.str "b")),(eC (.str "c")),(eC (.str "d"))]))))
 (sRet (eUn negW (eC (.int 1))))
 sNext)
 (sRet (eArgs F.f_law_left_of_all [(eVar 0),(eVar 1),(eSl (eVar 2) (some (eC (.int 2))) none),(eVar 3),(eOp subW (eVar 4) (eC (.int 1)))]))))
 sNext)
 (sSeq (sIf (tVal (eOp (eqW false) (eVar 2) (eArgs tupW [(eC (.str "ask"))])))
 (sRet (eOp subW (eVar 4) (eC (.int 1))))
 sNext)
 (sSeq (sIf (tAndM (tVal (eOp (inW false) (eOp ixW (eVar 2) (eC (.int 0))) (eArgs tupW [(eC (.str "let")),(eC (.str "own"))]))) (tVal (eOp (eqW false) (eArgs lenW [(eVar 2)]) (eC (.int 4)))))
 (sSeq (sIf (tNotM (tVal (eArgs F.f_law_is_word [(eOp ixW (eVar 2) (eC (.int 1))),(eOp ixW (eArgs flsW [(eC (.str "xyz")),(eC (.str "pq"))]) (eArgs intW [(eOp (eqW false) (eOp ixW (eVar 2) (eC (.int 0))) (eC (.str "own")))]))])))
 (sRet (eUn negW (eC (.int 1))))
 sNext)
 (sSeq (sAsg (eArgs F.f_law_left [(eVar 0),(eVar 1),(eOp ixW (eVar 2) (eC (.int 2))),(eVar 3),(eOp subW (eVar 4) (eC (.int 1)))]) (gNm 4))
 (sRet (eArgs F.f_law_left [(eVar 0),(eVar 1),(eOp ixW (eVar 2) (eC (.int 3))),(eOp addW (eVar 3) (eArgs flsW [(eOp ixW (eVar 2) (eC (.int 1)))])),(eVar 4)]))))
 sNext)
 (sSeq (sIf (tAndM (tVal (eOp (eqW false) (eOp ixW (eVar 2) (eC (.int 0))) (eC (.str "call")))) (tVal (eOp (eqW false) (eArgs lenW [(eVar 2)]) (eC (.int 4)))))
 (sRet (eArgs F.f_law_left_of_call [(eVar 0),(eVar 1),(eVar 2),(eVar 3),(eOp subW (eVar 4) (eC (.int 1)))]))
 sNext)
 (sSeq (sIf (tVal (eOp (eqW true) (eArgs lenW [(eVar 2)]) (eDget2 (eDisp [((eC (.str "add")),(eC (.int 3))),((eC (.str "less")),(eC (.int 3))),((eC (.str "then")),(eC (.int 3))),((eC (.str "loop")),(eC (.int 3))),((eC (.str "if")),(eC (.int 4))),((eC (.str "say")),(eC (.int 2)))]) (eOp ixW (eVar 2) (eC (.int 0))) (eC (.int 0)))))
 (sRet (eUn negW (eC (.int 1))))
 sNext)
 (sRet (eArgs F.f_law_left_of_all [(eVar 0),(eVar 1),(eSl (eVar 2) (some (eC (.int 1))) none),(eVar 3),(eOp subW (eVar 4) (eC (.int 1)))]))))))))))
noncomputable def b_f_law_left_of_all(F:Fs):MS:=(sSeq (sFor (iSeq (eVar 2)) (gNm 5)
 (sAsg (eArgs F.f_law_left [(eVar 0),(eVar 1),(eVar 5),(eVar 3),(eVar 4)]) (gNm 4)))
 (sRet (eVar 4)))
noncomputable def b_f_law_left_of_call(F:Fs):MS:=(sSeq (sAsg (eOp ixW (eVar 2) (eC (.int 1))) (gNm 5))
 (sSeq (sIf (tOrM (tNotM (tVal (eUn (isW .int) (eVar 5)))) (tOrM (tVal (eUn (isW .bool) (eVar 5))) (tNotM (tVal (eChain leW ltW (eC (.int 0)) (eVar 5) (eVar 1))))))
 (sRet (eUn negW (eC (.int 1))))
 sNext)
 (sSeq (sIf (tOrM (tNotM (tVal (eUn (isW .tuple) (eOp ixW (eVar 2) (eC (.int 2)))))) (tNotM (tVal (eUn (isW .tuple) (eOp ixW (eVar 2) (eC (.int 3)))))))
 (sRet (eUn negW (eC (.int 1))))
 sNext)
 (sSeq (sIf (tOrM (tVal (eOp (eqW true) (eArgs lenW [(eOp ixW (eVar 2) (eC (.int 2)))]) (eArgs lenW [(eOp ixW (eOp ixW (eVar 0) (eVar 5)) (eC (.int 0)))]))) (tVal (eOp (eqW true) (eArgs lenW [(eOp ixW (eVar 2) (eC (.int 3)))]) (eArgs lenW [(eOp ixW (eOp ixW (eVar 0) (eVar 5)) (eC (.int 1)))]))))
 (sRet (eUn negW (eC (.int 1))))
 sNext)
 (sRet (eArgs F.f_law_left_of_all [(eVar 0),(eVar 1),(eOp addW (eOp ixW (eVar 2) (eC (.int 2))) (eOp ixW (eVar 2) (eC (.int 3)))),(eVar 3),(eVar 4)]))))))
noncomputable def b_f_law_is_rules(F:Fs):MS:=(sSeq (sIf (tOrM (tNotM (tVal (eUn (isW .tuple) (eVar 0)))) (tVal (eOp gtW (eArgs lenW [(eVar 0)]) (eC (.int 4)))))
 (sRet (eC (.bl false)))
 sNext)
 (sSeq (sFor (iEnum [(eVar 0)]) (gTp [(gNm 1),(gNm 2)])
 (sSeq (sIf (tOrM (tNotM (tVal (eUn (isW .tuple) (eVar 2)))) (tVal (eOp (eqW true) (eArgs lenW [(eVar 2)]) (eC (.int 3)))))
 (sRet (eC (.bl false)))
 sNext)
 (sSeq (sFor (iSeq (eArgs tupW [(eArgs tupW [(eOp ixW (eVar 2) (eC (.int 0))),(eC (.str "xyz"))]),(eArgs tupW [(eOp ixW (eVar 2) (eC (.int 1))),(eC (.str "fg"))])])) (gTp [(gNm 3),(gNm 4)])
 (sSeq (sIf (tOrM (tNotM (tVal (eUn (isW .tuple) (eVar 3)))) (tOrM (tVal (eOp gtW (eArgs lenW [(eVar 3)]) (eC (.int 2)))) (tAndM (tVal (eOp (eqW false) (eArgs lenW [(eVar 3)]) (eC (.int 2)))) (tVal (eOp (eqW false) (eOp ixW (eVar 3) (eC (.int 0))) (eOp ixW (eVar 3) (eC (.int 1))))))))
 (sRet (eC (.bl false)))
 sNext)
 (sIf (tVal (eOp (eqW true) (eComp (iSeq (eVar 3)) 1 [4] (gNm 0) (tNotM (tVal (eArgs F.f_law_is_word [(eVar 0),(eVar 1)]))) (eVar 0)) (eArgs flsW [])))
 (sRet (eC (.bl false)))
 sNext)))
 (sIf (tVal (eOp ltW (eArgs F.f_law_left [(eVar 0),(eVar 1),(eOp ixW (eVar 2) (eC (.int 2))),(eArgs listW [(eOp addW (eOp ixW (eVar 2) (eC (.int 0))) (eOp ixW (eVar 2) (eC (.int 1))))]),(eC (.int 60))]) (eC (.int 0))))
 (sRet (eC (.bl false)))
 sNext))))
 (sRet (eC (.bl true)))))
noncomputable def b_f_law_size(F:Fs):MS:=(sSeq (sAsg (eComp (iSeq (eSl (eVar 0) (some (eC (.int 1))) none)) 1 [] (gNm 0) (tVal (eUn (isW .tuple) (eVar 0))) (eVar 0)) (gNm 1))
 (sSeq (sIf (tVal (eOp (eqW false) (eOp ixW (eVar 0) (eC (.int 0))) (eC (.str "call"))))
 (sAsg (eArgs listW [(eOp addW (eOp ixW (eVar 0) (eC (.int 2))) (eOp ixW (eVar 0) (eC (.int 3))))]) (gNm 1))
 sNext)
 (sRet (eOp addW (eC (.int 1)) (eArgs sumW [(eComp (iSeq (eVar 1)) 1 [] (gNm 0) tTrue (eArgs F.f_law_size [(eVar 0)]))])))))
noncomputable def b_f_law_weight(F:Fs):MS:=(sSeq (sAsg (eOp ixW (eVar 1) (eC (.int 0))) (gNm 3))
 (sSeq (sIf (tVal (eOp (inW false) (eVar 3) (eArgs tupW [(eC (.str "number")),(eC (.str "name")),(eC (.str "ask")),(eC (.str "read"))])))
 (sRet (eC (.int 1)))
 sNext)
 (sSeq (sIf (tVal (eOp (eqW false) (eVar 3) (eC (.str "do"))))
 (sRet (eDget2 (eVar 2) (eOp ixW (eVar 1) (eC (.int 1))) (eC (.int 1))))
 sNext)
 (sSeq (sIf (tVal (eOp (eqW false) (eVar 3) (eC (.str "call"))))
 (sSeq (sAsg (eArgs dictW [(eComp (iZip [(eOp ixW (eOp ixW (eVar 0) (eOp ixW (eVar 1) (eC (.int 1)))) (eC (.int 1))),(eOp ixW (eVar 1) (eC (.int 3)))]) 2 [0,2] (gTp [(gNm 0),(gNm 1)]) tTrue (eArgs tupW [(eVar 0),(eArgs F.f_law_weight [(eVar 2),(eVar 1),(eVar 3)])]))]) (gNm 4))
 (sSeq (sAsg (eArgs sumW [(eComp (iSeq (eOp ixW (eVar 1) (eC (.int 2)))) 1 [0,2] (gNm 0) tTrue (eArgs F.f_law_weight [(eVar 1),(eVar 0),(eVar 2)]))]) (gNm 5))
 (sRet (eOp addW (eOp addW (eC (.int 1)) (eVar 5)) (eArgs F.f_law_weight [(eVar 0),(eOp ixW (eOp ixW (eVar 0) (eOp ixW (eVar 1) (eC (.int 1)))) (eC (.int 2))),(eVar 4)])))))
 sNext)
 (sSeq (sAsg (eComp (iSeq (eSl (eVar 1) (some (eC (.int 1))) none)) 1 [0,2] (gNm 0) (tVal (eUn (isW .tuple) (eVar 0))) (eArgs F.f_law_weight [(eVar 1),(eVar 0),(eVar 2)])) (gNm 6))
 (sSeq (sIf (tVal (eOp (eqW false) (eVar 3) (eC (.str "loop"))))
 (sRet (eOp addW (eOp addW (eC (.int 1)) (eOp ixW (eVar 6) (eC (.int 0)))) (eOp mulW (eC (.int 3)) (eOp ixW (eVar 6) (eC (.int 1))))))
 sNext)
 (sRet (eOp addW (eC (.int 1)) (eArgs sumW [(eVar 6)])))))))))
noncomputable def b_f_law_light(F:Fs):MS:=(sSeq (sAsg (eArgs F.f_law_deed [(eVar 0),(eVar 1),(eVar 2),(eArgs tupW [(eArgs tupW []),(eArgs tupW []),(eArgs tupW [])]),(eVar 3)]) (gNm 4))
 (sSeq (sIf (tVal (eOp gtW (eArgs F.f_law_weight [(eVar 3),(eVar 4),(eC (.fdc []))]) (eC (.int 80))))
 (sRet (eArgs tupW [(eC (.str "read")),(eOp ixW (eC (.str "abcd")) (eArgs F.f_law_drawn [(eVar 0),(eVar 1),(eC (.int 4))]))]))
 sNext)
 (sRet (eVar 4))))
noncomputable def b_f_law_each(F:Fs):MS:=(sSeq (sIf (tVal (eUn (isW .int) (eVar 0)))
 (sRet (eArgs flsW [(eC .non),(eC (.bl true)),(eOp subW (eVar 0) (eC (.int 1))),(eOp addW (eVar 0) (eC (.int 1))),(eC (.int 1000))]))
 sNext)
 (sSeq (sIf (tNotM (tVal (eUn (isW .tuple) (eVar 0))))
 (sRet (eArgs flsW [(eC .non),(eC (.str "")),(eC (.str "A")),(eC (.str "then"))]))
 sNext)
 (sSeq (sAsg (eArgs flsW [(eC .non),(eArgs listW [(eVar 0)]),(eOp addW (eVar 0) (eSl (eVar 0) (some (eUn negW (eC (.int 1)))) none)),(eSl (eVar 0) (some (eC (.int 1))) none)]) (gNm 1))
 (sSeq (sFor (iRng [(eArgs lenW [(eVar 0)])]) (gNm 2)
 (sAsg (eOp addW (eVar 1) (eComp (iSeq (eArgs F.f_law_each [(eOp ixW (eVar 0) (eVar 2))])) 1 [0,2] (gNm 0) tTrue (eOp addW (eOp addW (eSl (eVar 1) none (some (eVar 2))) (eArgs tupW [(eVar 0)])) (eSl (eVar 1) (some (eOp addW (eVar 2) (eC (.int 1)))) none)))) (gNm 1)))
 (sRet (eVar 1))))))
noncomputable def b_f_law_known_ones(F:Fs):MS:=(sSeq (sAsg (eArgs tupW [(eArgs tupW [(eArgs tupW [(eC (.str "x"))]),(eArgs tupW [(eC (.str "f"))]),(eArgs tupW [(eC (.str "add")),(eArgs tupW [(eC (.str "name")),(eC (.str "x"))]),(eArgs tupW [(eC (.str "do")),(eC (.str "f"))])])])]) (gNm 0))
 (sSeq (sIf (tVal (eOp (eqW true) (eComp (iSeq (eOp addW (eArgs flsW [(eVar 0)]) (eArgs F.f_law_each [(eVar 0)]))) 1 [] (gNm 0) (tVal (eOp (eqW true) (eArgs F.f_is_rules [(eVar 0)]) (eArgs F.f_law_is_rules [(eVar 0)]))) (eVar 0)) (eArgs flsW [])))
 (sRet (eC (.bl false)))
 sNext)
 (sSeq (sAsg (eArgs tupW [(eC (.str "call")),(eC (.int 0)),(eArgs tupW [(eArgs tupW [(eC (.str "number")),(eC (.int 1))])]),(eArgs tupW [(eArgs tupW [(eC (.str "write")),(eC (.str "a")),(eArgs tupW [(eC (.str "read")),(eC (.str "b"))])])])]) (gNm 1))
 (sSeq (sAsg (eOp addM (eOp addW (eArgs flsW [(eVar 1)]) (eArgs F.f_law_each [(eVar 1)])) (eComp (iSeq (eArgs tupW [(eC (.str "x123")),(eC (.str "x1234")),(eC (.str "y0"))])) 1 [] (gNm 0) tTrue (eArgs tupW [(eC (.str "let")),(eVar 0),(eArgs tupW [(eC (.str "ask"))]),(eArgs tupW [(eC (.str "name")),(eVar 0)])]))) (gNm 2))
 (sSeq (sAsg (eArgs tupW [(eC (.str "ask"))]) (gNm 3))
 (sSeq (sFor (iRng [(eC (.int 29))]) (gNm 4)
 (sAsg (eArgs tupW [(eC (.str "then")),(eArgs tupW [(eC (.str "ask"))]),(eVar 3)]) (gNm 3)))
 (sSeq (sAsg (eOp addM (eVar 2) (eArgs flsW [(eVar 3),(eArgs tupW [(eC (.str "say")),(eVar 3)]),(eArgs tupW [(eC (.str "then")),(eArgs tupW [(eC (.str "ask"))]),(eVar 3)]),(eArgs tupW [(eC (.str "name")),(eC (.str "x"))]),(eArgs tupW [(eC (.str "do")),(eC (.str "f"))]),(eArgs tupW [(eC (.str "read")),(eC (.str "p"))])])) (gNm 2))
 (sSeq (sAsg (eOp addM (eVar 2) (eArgs flsW [(eArgs tupW [(eC (.str "write")),(eC (.str "q")),(eArgs tupW [(eC (.str "ask"))])]),(eArgs tupW [(eC (.str "let")),(eC (.str "x")),(eArgs tupW [(eC (.str "name")),(eC (.str "x"))]),(eArgs tupW [(eC (.str "ask"))])])])) (gNm 2))
 (sSeq (sExpr (eMethL appendM (eVar 2) [(eArgs tupW [(eC (.str "own")),(eC (.str "p")),(eArgs tupW [(eC (.str "read")),(eC (.str "p"))]),(eArgs tupW [(eC (.str "ask"))])])]))
 (sSeq (sAsg (eOp addM (eVar 2) (eArgs flsW [(eArgs tupW [(eC (.str "own")),(eC (.str "p")),(eArgs tupW [(eC (.str "ask"))]),(eArgs tupW [(eC (.str "write")),(eC (.str "p")),(eArgs tupW [(eC (.str "read")),(eC (.str "p"))])])]),(eArgs tupW [(eC (.str "let")),(eC (.str "x")),(eArgs tupW [(eC (.str "ask"))]),(eArgs tupW [(eC (.str "name")),(eC (.str "y"))])])])) (gNm 2))
 (sSeq (sFor (iSeq (eVar 2)) (gNm 5)
 (sIf (tVal (eOp (eqW true) (eArgs F.f_is_deed [(eVar 0),(eVar 5)]) (eOp geW (eArgs F.f_law_left [(eVar 0),(eArgs lenW [(eVar 0)]),(eVar 5),(eArgs flsW []),(eC (.int 60))]) (eC (.int 0)))))
 (sRet (eC (.bl false)))
 sNext))
 (sRet (eC (.bl true))))))))))))))
noncomputable def b_f_law(F:Fs):MS:=(sSeq (sAsg (eArgs F.f_law_rules [(eVar 0),(eC (.int 1))]) (gNm 1))
 (sSeq (sAsg (eArgs F.f_law_light [(eVar 0),(eC (.int 90)),(eC (.int 2)),(eVar 1)]) (gNm 2))
 (sSeq (sAsg (eArgs F.f_law_spoilt [(eVar 1),(eArgs F.f_law_drawn [(eVar 0),(eC (.int 80)),(eOp powW (eC (.int 10)) (eC (.int 7)))]),(eArgs F.f_law_drawn [(eVar 0),(eC (.int 81)),(eC (.int 6))])]) (gNm 3))
 (sSeq (sFor (iSeq (eArgs tupW [(eVar 1),(eVar 3),(eOp mulW (eVar 1) (eC (.int 2))),(eUn revW (eVar 1)),(eArgs tupW [(eArgs tupW [(eArgs tupW []),(eArgs tupW []),(eArgs tupW [(eC (.str "call")),(eC (.int 0)),(eArgs tupW []),(eArgs tupW [])])])]),(eArgs tupW [(eC (.int 5)),(eVar 1)])])) (gNm 4)
 (sSeq (sAsg (eArgs F.f_is_rules [(eVar 4)]) (gNm 5))
 (sIf (tOrM (tNotM (tVal (eUn (isW .bool) (eVar 5)))) (tVal (eOp (eqW true) (eVar 5) (eArgs F.f_law_is_rules [(eVar 4)]))))
 (sRet (eC (.bl false)))
 sNext)))
 (sSeq (sAsg (eArgs F.f_law_spoilt [(eVar 2),(eArgs F.f_law_drawn [(eVar 0),(eC (.int 82)),(eOp powW (eC (.int 10)) (eC (.int 7)))]),(eArgs F.f_law_drawn [(eVar 0),(eC (.int 83)),(eC (.int 5))])]) (gNm 6))
 (sSeq (sAsg (eVar 2) (gNm 7))
 (sSeq (sFor (iRng [(eArgs F.f_law_drawn [(eVar 0),(eC (.int 84)),(eC (.int 5))])]) (gNm 8)
 (sAsg (eArgs tupW [(eC (.str "then")),(eVar 7),(eVar 7)]) (gNm 7)))
 (sSeq (sAsg (eArgs flsW [(eVar 2),(eVar 6),(eVar 7),(eArgs tupW [(eC (.str "let")),(eC (.str "x")),(eVar 2),(eArgs tupW [(eC (.str "read")),(eC (.str "x"))])]),(eArgs tupW [(eC (.str "own")),(eC (.str "p")),(eVar 2),(eArgs tupW [(eC (.str "name")),(eC (.str "p"))])])]) (gNm 9))
 (sSeq (sFor (iSeq (eOp addW (eVar 9) (eArgs flsW [(eArgs flsW [(eVar 2)])]))) (gNm 4)
 (sSeq (sAsg (eArgs F.f_is_deed [(eVar 1),(eVar 4)]) (gNm 5))
 (sIf (tOrM (tNotM (tVal (eUn (isW .bool) (eVar 5)))) (tVal (eOp (eqW true) (eVar 5) (eOp geW (eArgs F.f_law_left [(eVar 1),(eArgs lenW [(eVar 1)]),(eVar 4),(eArgs flsW []),(eC (.int 60))]) (eC (.int 0))))))
 (sRet (eC (.bl false)))
 sNext)))
 (sRet (eAnd (eOp (eqW false) (eArgs F.f_size_of [(eVar 7)]) (eArgs F.f_law_size [(eVar 7)])) (eArgs F.f_law_known_ones []))))))))))))
noncomputable def step(F:Fs):Fs where
 f_has_form:=gc (fnM 1 0 (b_f_has_form F))
 f_parts_of:=gc (fnM 1 0 (b_f_parts_of F))
 f_is_whole:=gc (fnM 1 0 (b_f_is_whole F))
 f_is_worth:=gc (fnM 1 0 (b_f_is_worth F))
 f_is_figures:=gc (fnM 1 0 (b_f_is_figures F))
 f_is_lettered:=gc (fnM 2 0 (b_f_is_lettered F))
 f_is_name:=gc (fnM 1 0 (b_f_is_name F))
 f_is_own_shelf:=gc (fnM 1 0 (b_f_is_own_shelf F))
 f_is_handed_name:=gc (fnM 1 0 (b_f_is_handed_name F))
 f_is_shelf:=gc (fnM 2 0 (b_f_is_shelf F))
 f_is_call:=gc (fnM 2 2 (b_f_is_call F))
 f_is_deed_outside:=gc (fnM 3 1 (b_f_is_deed_outside F))
 f_parts_with_known:=gc (fnM 2 0 (b_f_parts_with_known F))
 f_is_deed_where:=gc (fnM 3 3 (b_f_is_deed_where F))
 f_are_unlike:=gc (fnM 1 0 (b_f_are_unlike F))
 f_is_head:=gc (fnM 2 0 (b_f_is_head F))
 f_is_rule:=gc (fnM 2 0 (b_f_is_rule F))
 f_is_rules:=gc (fnM 1 2 (b_f_is_rules F))
 f_is_deed:=gc (fnM 2 0 (b_f_is_deed F))
 f_size_of:=gc (fnM 1 2 (b_f_size_of F))
 f_law_cell:=gc (fnM 2 0 (b_f_law_cell F))
 f_law_drawn:=gc (fnM 3 1 (b_f_law_drawn F))
 f_law_leaf:=gc (fnM 3 5 (b_f_law_leaf F))
 f_law_deed:=gc (fnM 5 6 (b_f_law_deed F))
 f_law_call:=gc (fnM 5 4 (b_f_law_call F))
 f_law_rules:=gc (fnM 2 5 (b_f_law_rules F))
 f_law_odd:=gc (fnM 1 1 (b_f_law_odd F))
 f_law_spoilt:=gc (fnM 3 2 (b_f_law_spoilt F))
 f_law_is_word:=gc (fnM 2 0 (b_f_law_is_word F))
 f_law_left:=gc (fnM 5 3 (b_f_law_left F))
 f_law_left_of_all:=gc (fnM 5 1 (b_f_law_left_of_all F))
 f_law_left_of_call:=gc (fnM 5 1 (b_f_law_left_of_call F))
 f_law_is_rules:=gc (fnM 1 4 (b_f_law_is_rules F))
 f_law_size:=gc (fnM 1 1 (b_f_law_size F))
 f_law_weight:=gc (fnM 3 4 (b_f_law_weight F))
 f_law_light:=gc (fnM 4 1 (b_f_law_light F))
 f_law_each:=gc (fnM 1 2 (b_f_law_each F))
 f_law_known_ones:=gc (fnM 0 6 (b_f_law_known_ones F))
 f_law:=gc (fnM 1 9 (b_f_law F))
def Fs.bot:Fs:=⟨fun _ _=>none,fun _ _=>none,fun _ _=>none,fun _ _=>none,fun _ _=>none,fun _ _=>none,fun _ _=>none,fun _ _=>none,fun _ _=>none,fun _ _=>none,fun _ _=>none,fun _ _=>none,fun _ _=>none,fun _ _=>none,fun _ _=>none,fun _ _=>none,fun _ _=>none,fun _ _=>none,fun _ _=>none,fun _ _=>none,fun _ _=>none,fun _ _=>none,fun _ _=>none,fun _ _=>none,fun _ _=>none,fun _ _=>none,fun _ _=>none,fun _ _=>none,fun _ _=>none,fun _ _=>none,fun _ _=>none,fun _ _=>none,fun _ _=>none,fun _ _=>none,fun _ _=>none,fun _ _=>none,fun _ _=>none,fun _ _=>none,fun _ _=>none⟩
noncomputable def lv:Nat→Fs
 | 0=>.bot
 | n+1=>step (lv n)
def fns(F:Fs):List (Str×(List W→M W)):=[(("has_form":Str),F.f_has_form),(("parts_of":Str),F.f_parts_of),(("is_whole":Str),F.f_is_whole),(("is_worth":Str),F.f_is_worth),(("is_figures":Str),F.f_is_figures),(("is_lettered":Str),F.f_is_lettered),(("is_name":Str),F.f_is_name),(("is_own_shelf":Str),F.f_is_own_shelf),(("is_handed_name":Str),F.f_is_handed_name),(("is_shelf":Str),F.f_is_shelf),(("is_call":Str),F.f_is_call),(("is_deed_outside":Str),F.f_is_deed_outside),(("parts_with_known":Str),F.f_parts_with_known),(("is_deed_where":Str),F.f_is_deed_where),(("are_unlike":Str),F.f_are_unlike),(("is_head":Str),F.f_is_head),(("is_rule":Str),F.f_is_rule),(("is_rules":Str),F.f_is_rules),(("is_deed":Str),F.f_is_deed),(("size_of":Str),F.f_size_of),(("_law_cell":Str),F.f_law_cell),(("_law_drawn":Str),F.f_law_drawn),(("_law_leaf":Str),F.f_law_leaf),(("_law_deed":Str),F.f_law_deed),(("_law_call":Str),F.f_law_call),(("_law_rules":Str),F.f_law_rules),(("_law_odd":Str),F.f_law_odd),(("_law_spoilt":Str),F.f_law_spoilt),(("_law_is_word":Str),F.f_law_is_word),(("_law_left":Str),F.f_law_left),(("_law_left_of_all":Str),F.f_law_left_of_all),(("_law_left_of_call":Str),F.f_law_left_of_call),(("_law_is_rules":Str),F.f_law_is_rules),(("_law_size":Str),F.f_law_size),(("_law_weight":Str),F.f_law_weight),(("_law_light":Str),F.f_law_light),(("_law_each":Str),F.f_law_each),(("_law_known_ones":Str),F.f_law_known_ones),(("law":Str),F.f_law)]
def cons:List (Str×W):=[("SHELVES",c_SHELVES),("MOST_WORTH",c_MOST_WORTH),("MOST_FIGURES",c_MOST_FIGURES),("MOST_RULES",c_MOST_RULES),("MOST_DEEDS",c_MOST_DEEDS),("MOST_NAMES",c_MOST_NAMES)]
def tabs:List (Str×List (Str×W)):=[("FORMS",t_FORMS)]
def bins:List Str:=["all","bool","dict","enumerate","int","isinstance","len","list","range","set","str","sum","tuple","zip"]
def rc(F:Fs):RC:=⟨⟨.function,[],false,false,[]⟩,[],false,fns F,cons,tabs,bins,[],[],[]⟩
def d_f_has_form:Def:=⟨"has_form",top 2,["thing"],["thing"],[],[],[]⟩
def d_f_parts_of:Def:=⟨"parts_of",top 3,["deed"],["deed"],[],[],[]⟩
def d_f_is_whole:Def:=⟨"is_whole",top 8,["thing"],["thing"],[],[],[]⟩
def d_f_is_worth:Def:=⟨"is_worth",top 9,["thing"],["thing"],[],[],[]⟩
def d_f_is_figures:Def:=⟨"is_figures",top 10,["text"],["text"],[],["text"],[((22,15),["sign"])]⟩
def d_f_is_lettered:Def:=⟨"is_lettered",top 11,["thing","letters"],["thing","letters"],[],[],[]⟩
def d_f_is_name:Def:=⟨"is_name",top 12,["thing"],["thing"],[],[],[]⟩
def d_f_is_own_shelf:Def:=⟨"is_own_shelf",top 13,["thing"],["thing"],[],[],[]⟩
def d_f_is_handed_name:Def:=⟨"is_handed_name",top 14,["thing"],["thing"],[],[],[]⟩
def d_f_is_shelf:Def:=⟨"is_shelf",top 19,["thing","known"],["thing","known"],[],[],[]⟩
def d_f_is_call:Def:=⟨"is_call",top 20,["rules","deed"],["rules","deed","number","rule"],[],[],[]⟩
def d_f_is_deed_outside:Def:=⟨"is_deed_outside",top 21,["rules","thing","known"],["rules","thing","known","word"],[],[],[]⟩
def d_f_parts_with_known:Def:=⟨"parts_with_known",top 22,["deed","known"],["deed","known"],[],[],[((69,11),["part","known"])]⟩
def d_f_is_deed_where:Def:=⟨"is_deed_where",top 23,["rules","thing","known"],["rules","thing","known","count","waiting","place"],["waiting"],[],[]⟩
def d_f_are_unlike:Def:=⟨"are_unlike",top 24,["things"],["things"],[],[],[]⟩
def d_f_is_head:Def:=⟨"is_head",top 25,["names","handed"],["names","handed"],[],[],[((87,15),["name"]),((87,61),["name"])]⟩
def d_f_is_rule:Def:=⟨"is_rule",top 26,["lesser","thing"],["lesser","thing"],[],[],[]⟩
def d_f_is_rules:Def:=⟨"is_rules",top 27,["thing"],["thing","number","rule"],[],[],[]⟩
def d_f_is_deed:Def:=⟨"is_deed",top 28,["rules","thing"],["rules","thing"],[],[],[]⟩
def d_f_size_of:Def:=⟨"size_of",top 29,["deed"],["deed","count","waiting"],["waiting"],[],[]⟩
def d_f_law_cell:Def:=⟨"_law_cell",top 31,["_law_script","_law_k"],["_law_script","_law_k"],[],[],[]⟩
def d_f_law_drawn:Def:=⟨"_law_drawn",top 32,["_law_script","_law_k","_law_many"],["_law_script","_law_k","_law_many","_law_cell_here"],[],[],[]⟩
def d_f_law_leaf:Def:=⟨"_law_leaf",top 33,["_law_script","_law_at","_law_known"],["_law_script","_law_at","_law_known","_law_names","_law_owns","_law_handed","_law_way","_law_shelves"],[],[],[]⟩
def d_f_law_deed:Def:=⟨"_law_deed",top 34,["_law_script","_law_at","_law_deep","_law_known","_law_rules_here"],["_law_script","_law_at","_law_deep","_law_known","_law_rules_here","_law_way","_law_one","_law_shelves","_law_word","_law_inner","_law_other"],[],[],[]⟩
def d_f_law_call:Def:=⟨"_law_call",top 35,["_law_script","_law_at","_law_deep","_law_known","_law_rules_here"],["_law_script","_law_at","_law_deep","_law_known","_law_rules_here","_law_number","_law_size_here","_law_parts","_law_k"],["_law_parts"],[],[]⟩
def d_f_law_rules:Def:=⟨"_law_rules",top 36,["_law_script","_law_at"],["_law_script","_law_at","_law_rules_here","_law_k","_law_names","_law_handed","_law_body"],[],[],[]⟩
def d_f_law_odd:Def:=⟨"_law_odd",top 39,["_law_number"],["_law_number","_law_some"],["_law_some"],[],[]⟩
def d_f_law_spoilt:Def:=⟨"_law_spoilt",top 40,["_law_thing","_law_number","_law_deep"],["_law_thing","_law_number","_law_deep","_law_at","_law_part"],[],[],[]⟩
def d_f_law_is_word:Def:=⟨"_law_is_word",top 41,["_law_thing","_law_letters"],["_law_thing","_law_letters"],[],["_law_thing"],[((192,11),["_law_sign"])]⟩
def d_f_law_left:Def:=⟨"_law_left",top 42,["_law_rules_here","_law_below","_law_thing","_law_known","_law_left_here"],["_law_rules_here","_law_below","_law_thing","_law_known","_law_left_here","_law_is_worth","_law_letters","_law_is_own"],[],[],[]⟩
def d_f_law_left_of_all:Def:=⟨"_law_left_of_all",top 43,["_law_rules_here","_law_below","_law_parts","_law_known","_law_left_here"],["_law_rules_here","_law_below","_law_parts","_law_known","_law_left_here","_law_part"],[],[],[]⟩
def d_f_law_left_of_call:Def:=⟨"_law_left_of_call",top 44,["_law_rules_here","_law_below","_law_thing","_law_known","_law_left_here"],["_law_rules_here","_law_below","_law_thing","_law_known","_law_left_here","_law_number"],[],[],[]⟩
def d_f_law_is_rules:Def:=⟨"_law_is_rules",top 45,["_law_thing"],["_law_thing","_law_number","_law_rule","_law_words","_law_letters"],[],[],[((241,15),["_law_word","_law_letters"])]⟩
def d_f_law_size:Def:=⟨"_law_size",top 46,["_law_deed_here"],["_law_deed_here","_law_parts"],[],[],[((247,17),["_law_part"]),((250,19),["_law_part"])]⟩
def d_f_law_weight:Def:=⟨"_law_weight",top 47,["_law_rules_here","_law_deed_here","_law_handed"],["_law_rules_here","_law_deed_here","_law_handed","_law_word","_law_there","_law_parts","_law_inner"],[],[],[((261,17),["_law_part","_law_rules_here","_law_handed"]),((258,26),["_law_one","_law_part","_law_rules_here","_law_handed"]),((259,25),["_law_part","_law_rules_here","_law_handed"])]⟩
def d_f_law_light:Def:=⟨"_law_light",top 48,["_law_script","_law_at","_law_deep","_law_rules_here"],["_law_script","_law_at","_law_deep","_law_rules_here","_law_deed_here"],[],[],[]⟩
def d_f_law_each:Def:=⟨"_law_each",top 49,["_law_thing"],["_law_thing","_law_found","_law_place"],[],[],[((277,34),["_law_part","_law_thing","_law_place"])]⟩
def d_f_law_known_ones:Def:=⟨"_law_known_ones",top 50,[],["_law_rules_here","_law_deed_here","_law_some","_law_great","_law_turn","_law_one"],["_law_some"],[],[((281,7),["_law_one"]),((284,63),["_law_name"])]⟩
def d_f_law:Def:=⟨"law",top 51,["_law_script"],["_law_script","_law_rules_here","_law_deed_here","_law_spoilt_rules","_law_thing","_law_said","_law_spoilt_deed","_law_great","_law_k","_law_some"],[],[],[]⟩
def defs:List Def:=[d_f_has_form,d_f_parts_of,d_f_is_whole,d_f_is_worth,d_f_is_figures,d_f_is_lettered,d_f_is_name,d_f_is_own_shelf,d_f_is_handed_name,d_f_is_shelf,d_f_is_call,d_f_is_deed_outside,d_f_parts_with_known,d_f_is_deed_where,d_f_are_unlike,d_f_is_head,d_f_is_rule,d_f_is_rules,d_f_is_deed,d_f_size_of,d_f_law_cell,d_f_law_drawn,d_f_law_leaf,d_f_law_deed,d_f_law_call,d_f_law_rules,d_f_law_odd,d_f_law_spoilt,d_f_law_is_word,d_f_law_left,d_f_law_left_of_all,d_f_law_left_of_call,d_f_law_is_rules,d_f_law_size,d_f_law_weight,d_f_law_light,d_f_law_each,d_f_law_known_ones,d_f_law]
theorem lvl{P:Program}{w:World}{K:PySem.W.Frag}{mg:Str→Option Value}{base:Heap}(T:AllD (TxtAt K mg) defs)(c:AllOf (Glob K mg) cons)(t:AllOf (TabOk K w.params mg) tabs)(z:AllNone mg bins):∀n,BaseOk P w K mg base (fun _=>0) n (rc (lv n)):=by
 obtain⟨T0,T1,T2,T3,T4,T5,T6,T7,T8,T9,T10,T11,T12,T13,T14,T15,T16,T17,T18,T19,T20,T21,T22,T23,T24,T25,T26,T27,T28,T29,T30,T31,T32,T33,T34,T35,T36,T37,T38,-⟩:=T
 intro n
 induction n with
 | zero=>exact⟨⟨row_none T0,row_none T1,row_none T2,row_none T3,row_none T4,row_none T5,row_none T6,row_none T7,row_none T8,row_none T9,row_none T10,row_none T11,row_none T12,row_none T13,row_none T14,row_none T15,row_none T16,row_none T17,row_none T18,row_none T19,row_none T20,row_none T21,row_none T22,row_none T23,row_none T24,row_none T25,row_none T26,row_none T27,row_none T28,row_none T29,row_none T30,row_none T31,row_none T32,row_none T33,row_none T34,row_none T35,row_none T36,row_none T37,row_none T38,trivial⟩,c,t,z⟩
 | succ n ih=>exact⟨⟨row_ok (b:=b_f_has_form _) T0 ih,row_ok (b:=b_f_parts_of _) T1 ih,row_ok (b:=b_f_is_whole _) T2 ih,row_ok (b:=b_f_is_worth _) T3 ih,row_ok (b:=b_f_is_figures _) T4 ih,row_ok (b:=b_f_is_lettered _) T5 ih,row_ok (b:=b_f_is_name _) T6 ih,row_ok (b:=b_f_is_own_shelf _) T7 ih,row_ok (b:=b_f_is_handed_name _) T8 ih,row_ok (b:=b_f_is_shelf _) T9 ih,row_ok (b:=b_f_is_call _) T10 ih,row_ok (b:=b_f_is_deed_outside _) T11 ih,row_ok (b:=b_f_parts_with_known _) T12 ih,row_ok (b:=b_f_is_deed_where _) T13 ih,row_ok (b:=b_f_are_unlike _) T14 ih,row_ok (b:=b_f_is_head _) T15 ih,row_ok (b:=b_f_is_rule _) T16 ih,row_ok (b:=b_f_is_rules _) T17 ih,row_ok (b:=b_f_is_deed _) T18 ih,row_ok (b:=b_f_size_of _) T19 ih,row_ok (b:=b_f_law_cell _) T20 ih,row_ok (b:=b_f_law_drawn _) T21 ih,row_ok (b:=b_f_law_leaf _) T22 ih,row_ok (b:=b_f_law_deed _) T23 ih,row_ok (b:=b_f_law_call _) T24 ih,row_ok (b:=b_f_law_rules _) T25 ih,row_ok (b:=b_f_law_odd _) T26 ih,row_ok (b:=b_f_law_spoilt _) T27 ih,row_ok (b:=b_f_law_is_word _) T28 ih,row_ok (b:=b_f_law_left _) T29 ih,row_ok (b:=b_f_law_left_of_all _) T30 ih,row_ok (b:=b_f_law_left_of_call _) T31 ih,row_ok (b:=b_f_law_is_rules _) T32 ih,row_ok (b:=b_f_law_size _) T33 ih,row_ok (b:=b_f_law_weight _) T34 ih,row_ok (b:=b_f_law_light _) T35 ih,row_ok (b:=b_f_law_each _) T36 ih,row_ok (b:=b_f_law_known_ones _) T37 ih,row_ok (b:=b_f_law _) T38 ih,trivial⟩,c,t,z⟩
end K1
namespace K1
open PySem L2 ML
theorem ite_ap{α:Type}{β:Type}{c:Prop}[Decidable c]{f g:α→β}{x:α}:(if c then f else g) x=if c then f x else g x:=by split<;>rfl
local macro_rules
 |`(tactic|simp![$l,*])=>`(tactic|simp[step,fnM,sSeq,sIf,sRet,sExpr,sNext,sAsg,gNm,gTp,gTps,eVar,eC,eOp,eUn,eArgs,mArgs,eAnd,eOr,eNot,eIf,eChain,tVal,tAndM,tOrM,tNotM,asB,bnd,eqW,inW,ite_ap,$l,*])
noncomputable def isWhole:W→Bool
 | .int _=>true
 | _=>false
theorem s_is_whole{F:Fs}{n:Nat}{w:W}{h:MH}(d:dt n w=true):(step F).f_is_whole [w] h=some (.bl (isWhole w),h):=by
 refine gc_dt (n:=1) ?_ rfl
 cases w<;>simp![b_f_is_whole,isW_dt d,tyB,isWhole]
noncomputable def isWorth:W→Bool
 | .int i=>decide (0≤i)&&decide (i≤1008)
 | _=>false
theorem s_is_worth{F:Fs}{n:Nat}{w:W}{h:MH}(d:dt n w=true):(step (step F)).f_is_worth [w] h=some (.bl (isWorth w),h):=by
 refine gc_dt (n:=1) ?_ rfl
 have e:=fun h=>s_is_whole (F:=F) (h:=h) d
 generalize step F=G at e
 cases w with
 | int i=>by_cases h0:0≤i<;>simp![b_f_is_worth,e,isWhole,isWorth,c_MOST_WORTH,cmpI,leW,h0]
 | _=>simp![b_f_is_worth,e,isWhole,isWorth]
theorem bls_map(l:List W)(f:W→Bool):blsOf (l.map fun w=>.bl (f w))=some (l.map f):=by
 induction l with
 | nil=>rfl
 | cons x r ih=>simp only[List.map_cons]; unfold blsOf; rw[ih]
noncomputable def strB(f:Str→Bool):W→Bool
 | .str x=>f x
 | _=>false
theorem s_is_figures{F:Fs}{x:Str}{h:MH}(hx:x.length≤1000):(step F).f_is_figures [.str x] h=some (.bl (figs x),h):=by
 refine gc_dt (n:=1) ?_ rfl
 have e:eComp (iStr (eVar 0)) 1 [] (gNm 0) tTrue (eOp (inW false) (eVar 0) (eC (.str "0123456789"))) [some (.str x)] h=some (.fls (((signs x).filter fun _=>true).map fun w=>.bl (strB (inStr "0123456789") w)),h):=by
  refine comp1 (fun _=>true) (fun w=>.bl (strB (inStr "0123456789") w)) ?_ ?_ ?_ ?_ ?_
  .simp![iStr]
  .intro w _ H'; rfl
  .intro w hw _ H'
   unfold signs at hw
   obtain⟨c,_,rfl⟩:=List.mem_map.mp hw
   simp![inB_str,strB]
  .intro w _ _; unfold low; rfl
  .unfold signs
   rw[List.length_map,len_cps]
   exact Nat.le_trans hx (by decide)
 simp![b_f_is_figures]
 rw[e]
 simp[allW,foldB,seqOf,getL,bls_map]
 unfold figs signs
 simp[List.all_map,Function.comp_def,strB]
theorem slice_len(x:Str)(lo hi:Option Int):(Txt.slice x lo hi).length≤x.length:=Txt.slice_le x lo hi
theorem s_is_lettered{F:Fs}{n:Nat}{w:W}{l:Str}{h:MH}(d:dt n w=true):(step (step F)).f_is_lettered [w,.str l] h=some (.bl (isWord l w),h):=by
 refine gc_dt (n:=1) ?_ rfl
 have e:=fun(x:Str) h (hx:x.length≤1000)=>s_is_figures (F:=F) (x:=x) (h:=h) hx
 generalize step F=G at e
 cases n with
 | zero=>cases d
 | succ n=>
 cases w with
 | str x=>
  have hx:x.length≤1000:=by unfold dt at d; simp at d; exact d.2
  have hc:x.length≤cap:=Nat.le_trans hx (by decide)
  by_cases h1:1≤x.length
  .have q1:(1:Int)≤(x.length:Int):=by omega
   by_cases h2:x.length≤4
   .have q2:(x.length:Int)≤4:=by omega
    obtain⟨c,r,e1,e2⟩:=ix_head (h:=h) h1 hc
    have e4:slW (.str x) (some 1) none h=some (.str (tailS x),h):=by simp[slW,hc,tailS]
    have e5:=e (tailS x) h (Nat.le_trans (slice_len x (some 1) none) hx)
    cases hh:inStr l ⟨#[c]⟩<;>simp![b_f_is_lettered,isW_dt d,tyB,lenW,hc,c_MOST_FIGURES,addW,addI,cmpI,isWord,wordS,headIn,e1,e2,eSl,mPart,e4,inB_str,e5,h1,h2,q1,q2,hh]
   .have q2:¬(x.length:Int)≤4:=by omega
    simp![b_f_is_lettered,isW_dt d,tyB,lenW,hc,c_MOST_FIGURES,addW,addI,cmpI,isWord,wordS,q1,q2,h2]
  .have q1:¬(1:Int)≤(x.length:Int):=by omega
   simp![b_f_is_lettered,isW_dt d,tyB,lenW,hc,c_MOST_FIGURES,addW,addI,cmpI,isWord,wordS,q1,h1]
 | _=>simp![b_f_is_lettered,isW_dt d,tyB,isWord]
theorem s_is_name{F:Fs}{n:Nat}{w:W}{h:MH}(d:dt n w=true):(step (step (step F))).f_is_name [w] h=some (.bl (isWord "xyz" w),h):=by
 refine gc_dt (n:=1) ?_ rfl
 have e:=fun h=>s_is_lettered (F:=F) (l:="xyz") (h:=h) d
 generalize step (step F)=G at e
 simp![b_f_is_name,e]
theorem s_is_own_shelf{F:Fs}{n:Nat}{w:W}{h:MH}(d:dt n w=true):(step (step (step F))).f_is_own_shelf [w] h=some (.bl (isWord "pq" w),h):=by
 refine gc_dt (n:=1) ?_ rfl
 have e:=fun h=>s_is_lettered (F:=F) (l:="pq") (h:=h) d
 generalize step (step F)=G at e
 simp![b_f_is_own_shelf,e]
theorem s_is_handed_name{F:Fs}{n:Nat}{w:W}{h:MH}(d:dt n w=true):(step (step (step F))).f_is_handed_name [w] h=some (.bl (isWord "fg" w),h):=by
 refine gc_dt (n:=1) ?_ rfl
 have e:=fun h=>s_is_lettered (F:=F) (l:="fg") (h:=h) d
 generalize step (step F)=G at e
 simp![b_f_is_handed_name,e]
noncomputable def forms:List (Str×(Int×Int)):=[("number",(2,2)),("name",(2,2)),("read",(2,2)),("write",(3,2)),("add",(3,1)),("less",(3,1)),("then",(3,1)),("if",(4,1)),("loop",(3,1)),("let",(4,2)),("own",(4,2)),("say",(2,1)),("ask",(1,1)),("do",(2,2)),("call",(4,2))]
noncomputable def fm(x:Str):Option (Int×Int):=forms.lookup x
theorem t_forms:t_FORMS=forms.map fun p=>(p.1,.tup [.int p.2.1,.int p.2.2]):=rfl
theorem lk_map{α β:Type}(f:α→β)(x:Str):∀l:List (Str×α),(l.map fun p=>(p.1,f p.2)).lookup x=(l.lookup x).map f
 | []=>rfl
 | (k,v)::r=>by
  simp only[List.map_cons,List.lookup_cons]
  cases x==k with
  | true=>rfl
  | false=>exact lk_map f x r
theorem t_fm(x:Str):t_FORMS.lookup x=(fm x).map fun p=>W.tup [.int p.1,.int p.2]:=by
 rw[t_forms]
 exact lk_map (fun p:Int×Int=>W.tup [.int p.1,.int p.2]) x forms
noncomputable def hasForm:W→Bool
 | .tup (.str x::r)=>match fm x with
  | some p=>decide ((r.length:Int)+1=p.1)
  | none=>false
 | _=>false
theorem dt_tup{n:Nat}{l:List W}(d:dt n (.tup l)=true):∃m,n=m+1∧l.length≤1000∧∀w∈l,dt m w=true:=by
 cases n with
 | zero=>cases d
 | succ m=>
  unfold dt at d
  rw[Bool.and_eq_true] at d
  exact⟨m,rfl,of_decide_eq_true d.1,fun w hw=>List.all_eq_true.mp d.2 w hw⟩
theorem ix0{x:W}{r:List W}{h:MH}:ixW (.tup (x::r)) (.int 0) h=some (x,h):=by simp[ixW,atI,ixN]
theorem s_has_form{F:Fs}{n:Nat}{w:W}{h:MH}(d:dt n w=true):(step F).f_has_form [w] h=some (.bl (hasForm w),h):=by
 refine gc_dt (n:=1) ?_ rfl
 cases w with
 | tup l=>
  cases l with
  | nil=>simp![b_f_has_form,isW_dt d,tyB,lenW,eqB_int,hasForm]
  | cons y r=>
   obtain⟨m,rfl,hl,hd⟩:=dt_tup d
   have hy:=hd y List.mem_cons_self
   have q:((r.length:Int)+1==0)=false:=by rw[beq_eq_false_iff_ne]; omega
   cases y with
   | str x=>
    cases hf:fm x with
    | none=>simp![b_f_has_form,isW_dt d,isW_dt hy,tyB,lenW,eqB_int,hasForm,ix0,tabIn,t_fm,hf,q]
    | some p=>
     simp![b_f_has_form,isW_dt d,isW_dt hy,tyB,lenW,eqB_int,hasForm,ix0,tabIn,tabGet,t_fm,hf,q]
     by_cases hp:(r.length:Int)+1=p.1<;>simp[hp]
   | _=>simp![b_f_has_form,isW_dt d,isW_dt hy,tyB,lenW,eqB_int,hasForm,ix0,q]
 | _=>simp![b_f_has_form,isW_dt d,tyB,hasForm]
noncomputable def shelves:List Str:=["a","b","c","d"]
theorem c_shelves:c_SHELVES=.tup (strsW shelves):=rfl
noncomputable def isShelf(ks:List Str)(w:W):Bool:=strIn shelves w||(isWord "pq" w&&strIn ks w)
theorem s_is_shelf{F:Fs}{n:Nat}{w:W}{ks:List Str}{h:MH}(d:dt n w=true)(hn:n≤60)(hk:ks.all PyData.strOk=true):(step (step (step (step F)))).f_is_shelf [w,.tup (strsW ks)] h=some (.bl (isShelf ks w),h):=by
 refine gc_dt (n:=1) ?_ rfl
 have e:=fun h=>s_is_own_shelf (F:=F) (h:=h) d
 generalize step (step (step F))=G at e
 cases h1:strIn shelves w<;>cases h2:isWord "pq" w<;>simp![b_f_is_shelf,c_shelves,inB_tups (l:=shelves) d hn (by decide +kernel),inB_tups d hn hk,e,isShelf,h1,h2]
noncomputable def RulesOk(rl:List W):Prop:=∀r∈rl,∃ns hs b,r=.tup [.tup ns,.tup hs,b]∧ns.length≤1000∧hs.length≤1000
noncomputable def isCall(rl:List W):W→Bool
 | .tup [_,.int i,.tup a,.tup b]=>decide (0≤i)&&decide (i<rl.length)&&(match rl[i.toNat]? with
  | some (.tup [.tup ns,.tup hs,_])=>decide (a.length=ns.length)&&decide (b.length=hs.length)
  | _=>false)
 | _=>false
theorem ix1{x y:W}{r:List W}{h:MH}:ixW (.tup (x::y::r)) (.int 1) h=some (y,h):=by
 have:(1:Int)<(r.length:Int)+1+1:=by omega
 simp[ixW,atI,ixN,this]
theorem ix2{x y z:W}{r:List W}{h:MH}:ixW (.tup (x::y::z::r)) (.int 2) h=some (z,h):=by
 have:(2:Int)<(r.length:Int)+1+1+1:=by omega
 simp[ixW,atI,ixN,this]
theorem ix3{x y z u:W}{r:List W}{h:MH}:ixW (.tup (x::y::z::u::r)) (.int 3) h=some (u,h):=by
 have:(3:Int)<(r.length:Int)+1+1+1+1:=by omega
 simp[ixW,atI,ixN,this]
theorem ixn{l:List W}{i:Int}{h:MH}{w:W}(h0:0≤i)(h1:i<l.length)(e:l[i.toNat]?=some w):ixW (.tup l) (.int i) h=some (w,h):=by
 have hj:i.toNat<l.length:=by omega
 have:l[i.toNat]=w:=by rw[List.getElem?_eq_getElem hj] at e; exact Option.some.inj e
 simp[ixW,atI,ixN,h0,h1,this]
theorem s_is_call{F:Fs}{n:Nat}{x y a b:W}{rl:List W}{h:MH}(d:dt n (.tup [x,y,a,b])=true)(hr:RulesOk rl):(step (step F)).f_is_call [.tup rl,.tup [x,y,a,b]] h=some (.bl (isCall rl (.tup [x,y,a,b])),h):=by
 refine gc_dt (n:=1) ?_ rfl
 obtain⟨m,rfl,hl,hd⟩:=dt_tup d
 have dy:=hd y (by simp); have da:=hd a (by simp); have db:=hd b (by simp)
 have e:=fun h=>s_is_whole (F:=F) (h:=h) dy
 generalize step F=G at e
 cases y with
 | int i=>
  by_cases h0:0≤i
  .by_cases h1:i<rl.length
   .obtain⟨j,rfl⟩:=Int.eq_ofNat_of_zero_le h0
    have hj:j<rl.length:=by omega
    obtain⟨ns,hs,bb,hrr,_,_⟩:=hr rl[j] (List.getElem_mem hj)
    have ei:ixW (.tup rl) (.int (j:Int)) h=some (.tup [.tup ns,.tup hs,bb],h):=ixn h0 h1 (by simp[hj,hrr])
    cases a with
    | tup la=>
     cases b with
     | tup lb=>
      have k1:((la.length:Int)==(ns.length:Int))=decide (la.length=ns.length):=by rw[Bool.eq_iff_iff]; simp; omega
      have k2:((lb.length:Int)==(hs.length:Int))=decide (lb.length=hs.length):=by rw[Bool.eq_iff_iff]; simp; omega
      by_cases c1:la.length=ns.length<;>by_cases c2:lb.length=hs.length<;>simp![k1,k2,b_f_is_call,e,isWhole,cmpI,leW,ltW,ix1,ix2,ix3,h0,h1,hj,lenW,isW_dt da,isW_dt db,tyB,ei,ix0,eqB_int,isCall,hrr,c1,c2]
     | _=>simp![b_f_is_call,e,isWhole,cmpI,leW,ltW,ix1,ix2,ix3,h0,h1,hj,lenW,isW_dt da,isW_dt db,tyB,isCall]
    | _=>simp![b_f_is_call,e,isWhole,cmpI,leW,ltW,ix1,ix2,ix3,h0,h1,hj,lenW,isW_dt da,isW_dt db,tyB,isCall]
   .simp![b_f_is_call,e,isWhole,cmpI,leW,ltW,ix1,h0,h1,lenW,isCall]
    cases a<;>cases b<;>simp[isCall,h1]
  .simp![b_f_is_call,e,isWhole,cmpI,leW,ltW,ix1,h0,isCall]
   cases a<;>cases b<;>simp[isCall,h0]
 | _=>simp![b_f_is_call,e,isWhole,ix1,isCall]
noncomputable def r0(r:List W):W:=r.headD .non
noncomputable def outB(rl:List W)(ks:List Str)(w:W):Bool:=hasForm w&&(match w with
 | .tup (.str x::r)=>
  if x=="number" then isWorth (r0 r)
  else if x=="name" then isWord "xyz" (r0 r)&&strIn ks (r0 r)
  else if x=="do" then isWord "fg" (r0 r)&&strIn ks (r0 r)
  else if x=="read" || x=="write" then isShelf ks (r0 r)
  else if x=="let" then isWord "xyz" (r0 r)
  else if x=="own" then isWord "pq" (r0 r)
  else if x=="call" then isCall rl w
  else true
 | _=>false)
theorem form_len{x:Str}{r:List W}{p:Int×Int}(h:hasForm (.tup (.str x::r))=true)(e:fm x=some p):(r.length:Int)+1=p.1:=by
 simp only[hasForm,e] at h
 simpa using h
theorem len1{r:List W}(h:(r.length:Int)+1=2):∃a,r=[a]:=by
 match r with
 | [a]=>exact⟨a,rfl⟩
 | []=>simp at h
 | _::_::_=>simp at h; omega
theorem len2{r:List W}(h:(r.length:Int)+1=3):∃a b,r=[a,b]:=by
 match r with
 | [a,b]=>exact⟨a,b,rfl⟩
 | []=>simp at h
 | [_]=>simp at h
 | _::_::_::_=>simp at h; omega
theorem len3{r:List W}(h:(r.length:Int)+1=4):∃a b c,r=[a,b,c]:=by
 match r with
 | [a,b,c]=>exact⟨a,b,c,rfl⟩
 | []=>simp at h
 | [_]=>simp at h
 | [_,_]=>simp at h
 | _::_::_::_::_=>simp at h; omega
theorem s_is_deed_outside{F:Fs}{n:Nat}{w:W}{rl:List W}{ks:List Str}{h:MH}(d:dt n w=true)(hn:n≤60)(hk:ks.all PyData.strOk=true)(hr:RulesOk rl) :
  (step (step (step (step (step F))))).f_is_deed_outside [.tup rl,w,.tup (strsW ks)] h=some (.bl (outB rl ks w),h):=by
 refine gc_dt (n:=1) ?_ rfl
 have e0:=fun h=>s_has_form (F:=step (step (step F))) (h:=h) d
 have e1:=fun {n:Nat} {w:W} (d:dt n w=true) h=>s_is_worth (F:=step (step F)) (h:=h) d
 have e2:=fun {n:Nat} {w:W} (d:dt n w=true) h=>s_is_name (F:=step F) (h:=h) d
 have e3:=fun {n:Nat} {w:W} (d:dt n w=true) h=>s_is_own_shelf (F:=step F) (h:=h) d
 have e4:=fun {n:Nat} {w:W} (d:dt n w=true) h=>s_is_handed_name (F:=step F) (h:=h) d
 have e5:=fun {n:Nat} {w:W} (d:dt n w=true) (hn:n≤60) h=>s_is_shelf (F:=F) (h:=h) d hn hk
 have e6:=fun {n:Nat} {x y a b:W} (d:dt n (.tup [x,y,a,b])=true) h=>s_is_call (F:=step (step F)) (h:=h) d hr
 generalize step (step (step (step F)))=G at e0 e1 e2 e3 e4 e5 e6
 cases hf:hasForm w with
 | false=>simp![b_f_is_deed_outside,e0,hf,outB]
 | true=>
  match w,hf,d,e0 with
  | .tup (.str x::r),hf,d,e0=>
   obtain⟨m,rfl,hl,hd⟩:=dt_tup d
   have hr0:∀a r',r=a::r'→dt m a=true:=fun a r' e=>hd a (by simp[e])
   have hrw:inB h (.str x) (.tup [.str "read",.str "write"])=some (strIn ["read","write"] (.str x)):=inB_tups (l:=["read","write"]) (hd (.str x) (by simp)) (by omega) (by decide +kernel)
   have hsi:strIn ["read","write"] (.str x)=(x=="read" || x=="write"):=by
    simp only[strIn,List.any_cons,List.any_nil,Bool.or_false]
    rw[show(("read":Str)==x)=(x=="read") from Bool.beq_comm ..,show(("write":Str)==x)=(x=="write") from Bool.beq_comm ..]
   cases t1:(x==("number":Str)) with
   | true=>
    obtain⟨a,rfl⟩:=len1 (form_len hf (p:=(2,2)) (by rw[eq_of_beq t1]; decide +kernel))
    simp![b_f_is_deed_outside,e0,hf,outB,ix0,ix1,eqB_str,t1,e1 (hr0 a [] rfl),r0]
   | false=>
   cases t2:(x==("name":Str)) with
   | true=>
    obtain⟨a,rfl⟩:=len1 (form_len hf (p:=(2,2)) (by rw[eq_of_beq t2]; decide +kernel))
    have da:=hr0 a [] rfl
    cases q:isWord "xyz" a<;>simp![b_f_is_deed_outside,e0,hf,outB,ix0,ix1,eqB_str,t1,t2,e2 da,r0,q,inB_tups da (by omega) hk]
   | false=>
   cases t3:(x==("do":Str)) with
   | true=>
    obtain⟨a,rfl⟩:=len1 (form_len hf (p:=(2,2)) (by rw[eq_of_beq t3]; decide +kernel))
    have da:=hr0 a [] rfl
    cases q:isWord "fg" a<;>simp![b_f_is_deed_outside,e0,hf,outB,ix0,ix1,eqB_str,t1,t2,t3,e4 da,r0,q,inB_tups da (by omega) hk]
   | false=>
   cases t4:(x==("read":Str)||x=="write") with
   | true=>
    have:∃a r',r=a::r':=by
     rcases Bool.or_eq_true_iff.mp t4 with t | t
     .obtain⟨a,rfl⟩:=len1 (form_len hf (p:=(2,2)) (by rw[eq_of_beq t]; decide +kernel)); exact⟨a,[],rfl⟩
     .obtain⟨a,b,rfl⟩:=len2 (form_len hf (p:=(3,2)) (by rw[eq_of_beq t]; decide +kernel)); exact⟨a,[b],rfl⟩
    obtain⟨a,r',rfl⟩:=this
    have da:=hr0 a r' rfl
    simp![b_f_is_deed_outside,e0,hf,outB,ix0,ix1,eqB_str,t1,t2,t3,tupW,cap,hrw,hsi,t4,e5 da (by omega),r0]
   | false=>
   cases t5:(x==("let":Str)) with
   | true=>
    obtain⟨a,b,c,rfl⟩:=len3 (form_len hf (p:=(4,2)) (by rw[eq_of_beq t5]; decide +kernel))
    simp![b_f_is_deed_outside,e0,hf,outB,ix0,ix1,eqB_str,t1,t2,t3,tupW,cap,hrw,hsi,t4,t5,e2 (hr0 a _ rfl),r0]
   | false=>
   cases t6:(x==("own":Str)) with
   | true=>
    obtain⟨a,b,c,rfl⟩:=len3 (form_len hf (p:=(4,2)) (by rw[eq_of_beq t6]; decide +kernel))
    simp![b_f_is_deed_outside,e0,hf,outB,ix0,ix1,eqB_str,t1,t2,t3,tupW,cap,hrw,hsi,t4,t5,t6,e3 (hr0 a _ rfl),r0]
   | false=>
   cases t7:(x==("call":Str)) with
   | true=>
    obtain⟨a,b,c,rfl⟩:=len3 (form_len hf (p:=(4,2)) (by rw[eq_of_beq t7]; decide +kernel))
    simp![b_f_is_deed_outside,e0,hf,outB,ix0,ix1,eqB_str,t1,t2,t3,tupW,cap,hrw,hsi,t4,t5,t6,t7,e6 d,r0]
   | false=>simp![b_f_is_deed_outside,e0,hf,outB,ix0,ix1,eqB_str,t1,t2,t3,tupW,cap,hrw,hsi,t4,t5,t6,t7]
noncomputable def partsL:W→List W
 | .tup (.str x::r)=>if x=="call" then (match r with
   | [_,.tup a,.tup b]=>a++b
   | _=>[]) else (match fm x with
   | some p=>r.drop (p.2.toNat-1)
   | none=>[])
 | _=>[]
theorem cut_from{l:List W}{k:Nat}:cutW l (some (k:Int)) none=l.drop k:=by
 unfold cutW
 have e1:HT.sIx l.length 0 (some (k:Int))=min k l.length:=by
  have:¬((k:Int)<0):=by omega
  simp[HT.sIx,this]
 have e2:HT.sIx l.length l.length none=l.length:=rfl
 rw[e1,e2]
 have:l.drop (min k l.length)=l.drop k:=by
  by_cases h:k≤l.length
  .rw[Nat.min_eq_left h]
  .rw[Nat.min_eq_right (by omega),List.drop_length,List.drop_of_length_le (by omega)]
 rw[this]
 apply List.take_of_length_le
 rw[List.length_drop]
 omega
theorem fm_pos{x:Str}{p:Int×Int}(e:fm x=some p):1≤p.2∧p.2≤4:=by
 have:∀(l:List (Str×(Int×Int))),(l.all fun q=>decide (1≤q.2.2∧q.2.2≤4))=true→l.lookup x=some p→1≤p.2∧p.2≤4:=by
  intro l
  induction l with
  | nil=>intro _ e; cases e
  | cons q r ih=>
   obtain⟨k,v⟩:=q
   intro h e
   rw[List.all_cons,Bool.and_eq_true] at h
   rw[List.lookup_cons] at e
   split at e
   .cases e; exact of_decide_eq_true h.1
   .exact ih h.2 e
 exact this forms (by decide) e
theorem hasForm_str{w:W}(h:hasForm w=true):∃x r p,w=.tup (.str x::r)∧fm x=some p:=by
 match w,h with
 | .tup (.str x::r),h=>
  cases e:fm x with
  | none=>simp[hasForm,e] at h
  | some p=>exact⟨x,r,p,rfl,e⟩
theorem outB_form{rl:List W}{ks:List Str}{w:W}(h:outB rl ks w=true):hasForm w=true:=by
 unfold outB at h
 rw[Bool.and_eq_true] at h
 exact h.1
theorem out_call{rl:List W}{ks:List Str}{x:Str}{r:List W}(h:outB rl ks (.tup (.str x::r))=true)(t7:(x==("call":Str))=true):∃i a b,r=[.int i,.tup a,.tup b]:=by
 have hx:=eq_of_beq t7
 have hf:=outB_form h
 obtain⟨a,b,c,rfl⟩:=len3 (form_len hf (p:=(4,2)) (by rw[hx]; decide +kernel))
 subst hx
 have h2:isCall rl (.tup [.str "call",a,b,c])=true:=by
  unfold outB at h
  rw[Bool.and_eq_true] at h
  have h3:=h.2
  simp only[show(("call":Str)=="number")=false by decide +kernel,show(("call":Str)=="name")=false by decide +kernel,show(("call":Str)=="do")=false by decide +kernel,show(("call":Str)=="read")=false by decide +kernel,show(("call":Str)=="write")=false by decide +kernel,show(("call":Str)=="let")=false by decide +kernel,show(("call":Str)=="own")=false by decide +kernel,beq_self_eq_true,Bool.or_false,if_true,if_false,Bool.false_eq_true] at h3
  exact h3
 match a,b,c,h2 with
 | .int i,.tup a,.tup b,_=>exact⟨i,a,b,rfl⟩
theorem s_parts_of{F:Fs}{n:Nat}{w:W}{rl:List W}{ks:List Str}{h:MH}(d:dt n w=true)(ho:outB rl ks w=true):(step F).f_parts_of [w] h=some (.tup (partsL w),h):=by
 have hf:=outB_form ho
 obtain⟨x,r,p,rfl,hp⟩:=hasForm_str hf
 obtain⟨m,rfl,hl,hd⟩:=dt_tup d
 obtain⟨p1,p2⟩:=fm_pos hp
 cases t7:(x==("call":Str)) with
 | true=>
  obtain⟨i,a,b,rfl⟩:=out_call ho t7
  obtain⟨m1,rfl,la,da⟩:=dt_tup (hd (.tup a) (by simp))
  obtain⟨m2,e2,lb,db⟩:=dt_tup (hd (.tup b) (by simp))
  have hc:a.length+b.length≤cap:=Nat.le_trans (show a.length+b.length≤2000 by omega) (by decide)
  have e:partsL (.tup [.str x,.int i,.tup a,.tup b])=a++b:=by simp[partsL,t7]
  rw[e]
  refine gc_pure (h':=h) ?_ ?_ (List.prefix_refl _)
  .simp![b_f_parts_of,ix0,ix2,ix3,eqB_str,t7,addW,addI,hc]
  .unfold low
   refine lows_of fun w hw=>?_
   rcases List.mem_append.mp hw with hw | hw
   .exact dt_low (da w hw)
   .exact dt_low (db w hw)
 | false=>
  obtain⟨k,hk⟩:=Int.eq_ofNat_of_zero_le (show 0≤p.2 by omega)
  have e:partsL (.tup (.str x::r))=(W.str x::r).drop k:=by
   simp only[partsL,t7,hp]
   rw[hk]
   cases k with
   | zero=>omega
   | succ k=>simp
  rw[e]
  refine gc_pure (h':=h) ?_ ?_ (List.prefix_refl _)
  .have ek:ixW (.tup [.int p.1,.int p.2]) (.int 1) h=some (.int p.2,h):=ix1
   simp![b_f_parts_of,ix0,eqB_str,t7,eSl,mPart,tabGet,t_fm,hp,ek,slW]
   rw[hk]
   exact cut_from
  .unfold low
   exact lows_of fun w hw=>dt_low (hd w (List.mem_of_mem_drop hw))
noncomputable def partsK(ks:List Str):W→List (W×List Str)
 | .tup (.str x::r)=>if x=="let" || x=="own" then (match r with
   | [.str v,a,b]=>[(a,ks),(b,ks++[v])]
   | _=>[]) else (partsL (.tup (.str x::r))).map fun p=>(p,ks)
 | _=>[]
noncomputable def place(p:W×List Str):W:=.tup [p.1,.tup (strsW p.2)]
theorem out_let{rl:List W}{ks:List Str}{x:Str}{r:List W}(h:outB rl ks (.tup (.str x::r))=true)(t:(x==("let":Str)||x=="own")=true):∃v a b,r=[.str v,a,b]:=by
 have hf:=outB_form h
 have key:∀l:Str,∀v,isWord l v=true→∃y,v=.str y:=fun l v hv=>by
  cases v with
  | str y=>exact⟨y,rfl⟩
  | _=>cases hv
 unfold outB at h
 rw[Bool.and_eq_true] at h
 have h3:=h.2
 rcases Bool.or_eq_true_iff.mp t with t | t
 .have hx:=eq_of_beq t
  subst hx
  obtain⟨a,b,c,rfl⟩:=len3 (form_len hf (p:=(4,2)) (by decide +kernel))
  simp only[show(("let":Str)=="number")=false by decide +kernel,show(("let":Str)=="name")=false by decide +kernel,show(("let":Str)=="do")=false by decide +kernel,show(("let":Str)=="read")=false by decide +kernel,show(("let":Str)=="write")=false by decide +kernel,beq_self_eq_true,Bool.or_false,if_true,if_false,Bool.false_eq_true] at h3
  obtain⟨y,hy⟩:=key _ _ h3
  exact⟨y,b,c,by rw[show a=W.str y from hy]⟩
 .have hx:=eq_of_beq t
  subst hx
  obtain⟨a,b,c,rfl⟩:=len3 (form_len hf (p:=(4,2)) (by decide +kernel))
  simp only[show(("own":Str)=="number")=false by decide +kernel,show(("own":Str)=="name")=false by decide +kernel,show(("own":Str)=="do")=false by decide +kernel,show(("own":Str)=="read")=false by decide +kernel,show(("own":Str)=="write")=false by decide +kernel,show(("own":Str)=="let")=false by decide +kernel,beq_self_eq_true,Bool.or_false,if_true,if_false,Bool.false_eq_true] at h3
  obtain⟨y,hy⟩:=key _ _ h3
  exact⟨y,b,c,by rw[show a=W.str y from hy]⟩
theorem strsW_len(ks:List Str):(strsW ks).length=ks.length:=by simp[strsW]
theorem low_strs{m:Nat}(ks:List Str):low m (.tup (strsW ks))=true:=by
 unfold low
 refine lows_of fun w hw=>?_
 unfold strsW at hw
 obtain⟨x,_,rfl⟩:=List.mem_map.mp hw
 unfold low; rfl
theorem low_place{m:Nat}{p:W×List Str}(h:low m p.1=true):low m (place p)=true:=by
 unfold place low
 refine lows_of fun w hw=>?_
 simp only[List.mem_cons,List.not_mem_nil,or_false] at hw
 rcases hw with rfl | rfl
 .exact h
 .exact low_strs p.2
theorem partsL_dt{n:Nat}{w:W}(d:dt (n+1) w=true):∀v∈partsL w,dt n v=true:=by
 intro v hv
 unfold partsL at hv
 split at hv
 .rename_i x r
  obtain⟨m,e,hl,hd⟩:=dt_tup d
  cases e
  split at hv
  .split at hv
   .rename_i a b
    rename_i z0
    cases n with
    | zero=>have:=hd (.tup a) (by simp); cases this
    | succ n=>
    obtain⟨m1,e1,la,da⟩:=dt_tup (hd (.tup a) (by simp))
    obtain⟨m2,e2,lb,db⟩:=dt_tup (hd (.tup b) (by simp))
    cases e1; cases e2
    rcases List.mem_append.mp hv with h | h
    .exact dt_mono (da v h) (Nat.le_succ _)
    .exact dt_mono (db v h) (Nat.le_succ _)
   .simp at hv
  .split at hv
   .exact hd v (List.mem_cons_of_mem _ (List.mem_of_mem_drop hv))
   .simp at hv
 .simp at hv
theorem partsL_len{n:Nat}{w:W}(d:dt n w=true):(partsL w).length≤2000:=by
 unfold partsL
 split
 .rename_i x r
  obtain⟨m,rfl,hl,hd⟩:=dt_tup d
  split
  .split
   .rename_i a b
    obtain⟨m1,e1,la,da⟩:=dt_tup (hd (.tup a) (by simp))
    obtain⟨m2,e2,lb,db⟩:=dt_tup (hd (.tup b) (by simp))
    rw[List.length_append]
    omega
   .simp
  .split
   .rw[List.length_drop]
    simp at hl
    omega
   .simp
 .simp
theorem s_parts_with_known{F:Fs}{n:Nat}{w:W}{rl:List W}{ks:List Str}{h:MH}(d:dt n w=true)(hn:n≤60)(ho:outB rl ks w=true)(hk:ks.length≤1000) :
  (step (step F)).f_parts_with_known [w,.tup (strsW ks)] h=some (.fls ((partsK ks w).map place),h):=by
 have e0:=fun h=>s_parts_of (F:=F) (h:=h) d ho
 generalize step F=G at e0
 have hf:=outB_form ho
 obtain⟨x,r,p,rfl,hp⟩:=hasForm_str hf
 obtain⟨m,rfl,hl,hd⟩:=dt_tup d
 have hlo:inB h (.str x) (.tup [.str "let",.str "own"])=some (x=="let" || x=="own"):=by
  rw[show(W.tup [.str "let",.str "own"])=.tup (strsW ["let","own"]) from rfl,inB_tups (hd (.str x) (by simp)) (by omega) (by decide +kernel)]
  simp only[strIn,List.any_cons,List.any_nil,Bool.or_false]
  rw[show(("let":Str)==x)=(x=="let") from Bool.beq_comm ..,show(("own":Str)==x)=(x=="own") from Bool.beq_comm ..]
 cases t:(x==("let":Str)||x=="own") with
 | true=>
  obtain⟨v,a,b,rfl⟩:=out_let ho t
  have hc:ks.length+1≤cap:=Nat.le_trans (show ks.length+1≤2000 by omega) (by decide)
  have e:partsK ks (.tup [.str x,.str v,a,b])=[(a,ks),(b,ks++[v])]:=by simp[partsK,t]
  rw[e]
  refine gc_pure (h':=h) ?_ ?_ (List.prefix_refl _)
  .have hc2:(strsW ks).length+1≤cap:=by rw[strsW_len]; exact hc
   have e9:strsW (ks++[v])=strsW ks++[.str v]:=by simp[strsW]
   have c1:(1:Nat)≤cap:=by decide
   have c2:(2:Nat)≤cap:=by decide
   simp![b_f_parts_with_known,ix0,ix1,ix2,ix3,tupW,flsW,c1,c2,hlo,t,addW,addI,place,hc2,e9]
  .unfold low
   refine lows_of fun w hw=>?_
   simp only[List.map_cons,List.map_nil,List.mem_cons,List.not_mem_nil,or_false] at hw
   rcases hw with rfl | rfl
   .exact low_place (dt_low (hd a (by simp)))
   .exact low_place (dt_low (hd b (by simp)))
 | false=>
  have e:partsK ks (.tup (.str x::r))=(partsL (.tup (.str x::r))).map fun p=>(p,ks):=by simp[partsK,t]
  rw[e]
  have hpl:(partsL (.tup (.str x::r))).length≤cap:=Nat.le_trans (partsL_len d) (by decide)
  have ec:eComp (iSeq (eArgs G.f_parts_of [eVar 0])) 1 [1] (gNm 0) tTrue (eArgs tupW [eVar 0,eVar 1]) [some (.tup (.str x::r)),some (.tup (strsW ks))] h=some (.fls (((partsL (.tup (.str x::r))).filter fun _=>true).map fun w=>place (w,ks)),h):=by
   refine comp1 (fun _=>true) (fun w=>place (w,ks)) ?_ ?_ ?_ ?_ hpl
   .simp![iSeq,e0,srcOf]
   .intro w _ H'; rfl
   .intro w _ _ H'
    simp![tupW,cap,place]
   .intro w hw _
    cases m with
    | zero=>have:=hd (.str x) (by simp); cases this
    | succ m=>exact low_place (dt_low (partsL_dt d w hw))
  refine gc_pure (h':=h) ?_ ?_ (List.prefix_refl _)
  .simp![b_f_parts_with_known,ix0,tupW,cap,hlo,t]
   rw[ec]
   rw[List.filter_eq_self.mpr (by simp)]
   simp[Function.comp_def]
  .unfold low
   refine lows_of fun w hw=>?_
   simp only[List.map_map,List.mem_map,Function.comp] at hw
   obtain⟨v,hv,rfl⟩:=hw
   exact low_place (dt_low (partsL_dt d v hv))
noncomputable def sumO:List (Option Nat)→Option Nat
 | []=>some 0
 | some a::r=>match sumO r with
  | some b=>some (a+b)
  | none=>none
 | none::_=>none
noncomputable def nodes(rl:List W):Nat→W×List Str→Option Nat
 | 0,_=>none
 | n+1,p=>if outB rl p.2 p.1=true then (match sumO ((partsK p.2 p.1).map (nodes rl n)) with
  | some t=>some (t+1)
  | none=>none) else none
noncomputable def fits(m:Nat):Option Nat→Bool
 | some t=>decide (t≤m)
 | none=>false
theorem sumO_append(a b:List (Option Nat)):sumO (a++b)=match sumO a,sumO b with
  | some x,some y=>some (x+y)
  | _,_=>none:=by
 induction a with
 | nil=>simp only[List.nil_append,sumO]; cases sumO b<;>simp
 | cons o r ih=>
  cases o with
  | none=>simp[sumO]
  | some x=>
   simp only[List.cons_append,sumO,ih]
   cases sumO r<;>cases sumO b<;>simp[Nat.add_assoc]
theorem sumO_reverse(a:List (Option Nat)):sumO a.reverse=sumO a:=by
 induction a with
 | nil=>rfl
 | cons o r ih=>
  rw[List.reverse_cons,sumO_append,ih]
  cases o<;>cases e:sumO r<;>simp[sumO,e,Nat.add_comm]
theorem partsK_dt{rl:List W}{n:Nat}{w:W}{ks:List Str}(d:dt (n+1) w=true):∀p∈partsK ks w,dt n p.1=true:=by
 intro p hp
 unfold partsK at hp
 split at hp
 .rename_i x r
  obtain⟨m,e,hl,hd⟩:=dt_tup d
  cases e
  split at hp
  .split at hp
   .simp only[List.mem_cons,List.not_mem_nil,or_false] at hp
    rcases hp with rfl | rfl
    .exact hd _ (by simp)
    .exact hd _ (by simp)
   .simp at hp
  .obtain⟨v,hv,rfl⟩:=List.mem_map.mp hp
   exact partsL_dt d v hv
 .simp at hp
theorem partsK_ks{w:W}{ks:List Str}(hk:ks.all PyData.strOk=true){n:Nat}(d:dt n w=true):∀p∈partsK ks w,p.2.all PyData.strOk=true∧p.2.length≤ks.length+1:=by
 intro p hp
 unfold partsK at hp
 split at hp
 .rename_i x r
  obtain⟨m,rfl,hl,hd⟩:=dt_tup d
  split at hp
  .split at hp
   .rename_i v a b
    have hv:=hd (.str v) (by simp)
    have hs:PyData.strOk v=true:=by
     cases m with
     | zero=>cases hv
     | succ m=>unfold dt at hv; rw[Bool.and_eq_true] at hv; exact hv.1
    simp only[List.mem_cons,List.not_mem_nil,or_false] at hp
    rcases hp with rfl | rfl
    .exact⟨hk,by simp⟩
    .exact⟨by rw[List.all_append,hk]; simp[hs],by simp⟩
   .simp at hp
  .obtain⟨v,hv,rfl⟩:=List.mem_map.mp hp
   exact⟨hk,Nat.le_succ _⟩
 .simp at hp
theorem partsK_len{w:W}{ks:List Str}{n:Nat}(d:dt n w=true):(partsK ks w).length≤2000:=by
 unfold partsK
 split
 .split
  .split<;>simp
  .rw[List.length_map]; exact partsL_len d
 .simp
theorem sumO_map_congr{α:Type}{f g:α→Option Nat}:∀{l:List α},(∀x∈l,f x=g x)→sumO (l.map f)=sumO (l.map g)
 | [],_=>rfl
 | x::r,h=>by
  have:=sumO_map_congr (f:=f) (g:=g) (l:=r) fun y hy=>h y (List.mem_cons_of_mem _ hy)
  simp only[List.map_cons]
  rw[h x List.mem_cons_self]
  cases g x<;>simp[sumO,this]
theorem nodes_mono{rl:List W}:∀{n m:Nat} {p:W×List Str},dt n p.1=true→n≤m→nodes rl m p=nodes rl n p
 | 0,_,_,d,_=>by cases d
 | n+1,0,_,_,h=>by omega
 | n+1,m+1,p,d,h=>by
  unfold nodes
  rw[sumO_map_congr fun q hq=>nodes_mono (n:=n) (m:=m) (partsK_dt (rl:=rl) d q hq) (by omega)]
noncomputable def loopB(rl:List W):Nat→List (W×List Str)→Bool
 | _,[]=>true
 | 0,_::_=>false
 | m+1,p::s=>if outB rl p.2 p.1=true then loopB rl m ((partsK p.2 p.1).reverse++s) else false
theorem loop_nodes{rl:List W}:∀(m:Nat) (s:List (W×List Str)),(∀p∈s,dt 60 p.1=true)→loopB rl m s=fits m (sumO (s.map (nodes rl 60)))
 | m,[],_=>by cases m<;>simp[loopB,sumO,fits]
 | 0,p::s,hs=>by
  have:∀t,nodes rl 60 p=some t→1≤t:=by
   intro t e
   unfold nodes at e
   split at e
   .split at e
    .cases e; omega
    .cases e
   .cases e
  simp only[loopB,List.map_cons]
  cases e:nodes rl 60 p with
  | none=>simp[sumO,fits]
  | some t=>
   have:=this t e
   simp only[sumO]
   cases sumO (s.map (nodes rl 60)) with
   | none=>simp[fits]
   | some u=>simp[fits]; omega
 | m+1,p::s,hs=>by
  have dp:=hs p List.mem_cons_self
  simp only[loopB,List.map_cons]
  cases ho:outB rl p.2 p.1 with
  | false=>
   have:nodes rl 60 p=none:=by unfold nodes; simp[ho]
   simp[this,sumO,fits]
  | true=>
   have hq:∀q∈partsK p.2 p.1,dt 59 q.1=true:=partsK_dt (rl:=rl) dp
   have ih:=loop_nodes (rl:=rl) m ((partsK p.2 p.1).reverse++s) (fun q hq'=>by
    rcases List.mem_append.mp hq' with h | h
    .exact dt_mono (hq q (List.mem_reverse.mp h)) (by omega)
    .exact hs q (List.mem_cons_of_mem _ h))
   rw[if_pos rfl,ih,List.map_append,sumO_append,List.map_reverse,sumO_reverse]
   have e1:sumO ((partsK p.2 p.1).map (nodes rl 60))=sumO ((partsK p.2 p.1).map (nodes rl 59)):=sumO_map_congr fun q h=>nodes_mono (hq q h) (by omega)
   have e2:nodes rl 60 p=match sumO ((partsK p.2 p.1).map (nodes rl 59)) with
    | some t=>some (t+1)
    | none=>none:=by
    show nodes rl (59+1) p=_
    unfold nodes
    rw[if_pos ho]
   rw[e1,e2]
   cases sumO ((partsK p.2 p.1).map (nodes rl 59)) with
   | none=>simp[sumO,fits]
   | some t=>
    simp only[sumO]
    cases sumO (s.map (nodes rl 60)) with
    | none=>simp[fits]
    | some u=>simp[fits]; omega
theorem at0{α:Type}(h:List α)(o:α):(h++[o])[h.length]?=some o:=by simp
theorem set0{α:Type}(h:List α)(o o':α):(h++[o]).set h.length o'=h++[o']:=by rw[List.set_append_right _ _ (Nat.le_refl _)]; simp
structure StkOk(m:Nat)(s:List (W×List Str)):Prop where
 d:∀p∈s,dt 60 p.1=true
 k:∀p∈s,p.2.all PyData.strOk=true∧p.2.length+m≤900
 l:s.length+2000*m≤500000
theorem StkOk.next{m:Nat}{p:W×List Str}{s:List (W×List Str)}(h:StkOk (m+1) (p::s)):StkOk m ((partsK p.2 p.1).reverse++s):=by
 have dp:=h.d p List.mem_cons_self
 obtain⟨k1,k2⟩:=h.k p List.mem_cons_self
 refine⟨fun q hq=>?_,fun q hq=>?_,?_⟩
 .rcases List.mem_append.mp hq with z | z
  .exact dt_mono (partsK_dt (rl:=[]) dp q (List.mem_reverse.mp z)) (by omega)
  .exact h.d q (List.mem_cons_of_mem _ z)
 .rcases List.mem_append.mp hq with z | z
  .obtain⟨h1,h2⟩:=partsK_ks k1 dp q (List.mem_reverse.mp z)
   exact⟨h1,by omega⟩
  .obtain⟨h1,h2⟩:=h.k q (List.mem_cons_of_mem _ z)
   exact⟨h1,by omega⟩
 .have:=partsK_len (ks:=p.2) dp
  have hl:=h.l
  rw[List.length_append,List.length_reverse]
  simp only[List.length_cons] at hl
  omega
noncomputable def wT:MT:=tVal (eOp gtW (eArgs lenW [eVar 4]) (eC (.int 0)))
noncomputable def wB(F:Fs):MS:=(sSeq (sAsg (eMethL popM (eVar 4) []) (gNm 5))
 (sSeq (sAug 3 augI (eC (.int 1)))
 (sSeq (sIf (tOrM (tVal (eOp gtW (eVar 3) (eC c_MOST_DEEDS))) (tNotM (tVal (eArgs F.f_is_deed_outside [(eVar 0),(eOp ixW (eVar 5) (eC (.int 0))),(eOp ixW (eVar 5) (eC (.int 1)))]))))
 (sRet (eC (.bl false)))
 sNext)
 (sExpr (eMethL extendM (eVar 4) [(eArgs F.f_parts_with_known [(eOp ixW (eVar 5) (eC (.int 0))),(eOp ixW (eVar 5) (eC (.int 1)))])])))))
noncomputable def stk(s:List (W×List Str)):List W:=(s.map place).reverse
theorem stk_cons(p:W×List Str)(s:List (W×List Str)):stk (p::s)=stk s++[place p]:=by simp[stk]
theorem stk_len(s:List (W×List Str)):(stk s).length=s.length:=by simp[stk]
theorem where_loop{G:Fs}{rl:List W}{h0:MH}{x1 x2:Option W}(e1:∀(p:W×List Str) h,dt 60 p.1=true→p.2.all PyData.strOk=true→G.f_is_deed_outside [.tup rl,p.1,.tup (strsW p.2)] h=some (.bl (outB rl p.2 p.1),h))
  (e2:∀(p:W×List Str) h,dt 60 p.1=true→p.2.length≤1000→outB rl p.2 p.1=true→G.f_parts_with_known [p.1,.tup (strsW p.2)] h=some (.fls ((partsK p.2 p.1).map place),h)) :
  ∀(m:Nat) (s:List (W×List Str)) (o5:Option W) (c:Int),StkOk m s→c+m=60→∃ρ o,whileN wT (wB G) (m+2) [some (.tup rl),x1,x2,some (.int c),some (.ref h0.length),o5] (h0++[.lst (stk s)])=some (if loopB rl m s=true then Fl.nx ρ else .ret (.bl false),h0++[o]):=by
 intro m
 induction m with
 | zero=>
  intro s o5 c hs hc
  cases s with
  | nil=>
   refine⟨[some (.tup rl),x1,x2,some (.int c),some (.ref h0.length),o5],.lst [],?_⟩
   have t:wT [some (.tup rl),x1,x2,some (.int c),some (.ref h0.length),o5] (h0++[.lst []])=some (false,h0++[.lst []]):=by
    simp![wT,lenW,getL,at0,cmpI]
   have es:stk []=[]:=rfl
   rw[es]
   unfold whileN
   rw[t]
   rw[show loopB rl _ []=true by unfold loopB; rfl]
   rfl
  | cons p s=>
   have hl:(0:Int)<(s.length:Int)+1:=by omega
   have h60:(60:Int)<c+1:=by omega
   refine⟨[],.lst (stk s),?_⟩
   rw[stk_cons]
   simp only[whileN,loopB]
   have t:wT [some (.tup rl),x1,x2,some (.int c),some (.ref h0.length),o5] (h0++[.lst (stk s++[place p])])=some (true,h0++[.lst (stk s++[place p])]):=by
    simp![wT,lenW,getL,at0,cmpI,stk_len,hl]
   rw[t]
   have b:wB G [some (.tup rl),x1,x2,some (.int c),some (.ref h0.length),o5] (h0++[.lst (stk s++[place p])])=some (.ret (.bl false),h0++[.lst (stk s)]):=by
    simp![wB,eMethL,getL,at0,popM,set0,sAug,augI,cmpI,c_MOST_DEEDS,h60]
   simp only[b]
   rfl
 | succ m ih=>
  intro s o5 c hs hc
  cases s with
  | nil=>
   refine⟨[some (.tup rl),x1,x2,some (.int c),some (.ref h0.length),o5],.lst [],?_⟩
   have t:wT [some (.tup rl),x1,x2,some (.int c),some (.ref h0.length),o5] (h0++[.lst []])=some (false,h0++[.lst []]):=by
    simp![wT,lenW,getL,at0,cmpI]
   have es:stk []=[]:=rfl
   rw[es]
   unfold whileN
   rw[t]
   rw[show loopB rl _ []=true by unfold loopB; rfl]
   rfl
  | cons p s=>
   have dp:=hs.d p List.mem_cons_self
   obtain⟨k1,k2⟩:=hs.k p List.mem_cons_self
   have hl:(0:Int)<(s.length:Int)+1:=by omega
   have h60:¬(60:Int)<c+1:=by omega
   have t:wT [some (.tup rl),x1,x2,some (.int c),some (.ref h0.length),o5] (h0++[.lst (stk s++[place p])])=some (true,h0++[.lst (stk s++[place p])]):=by
    simp![wT,lenW,getL,at0,cmpI,stk_len,hl]
   have i0:∀h,ixW (place p) (.int 0) h=some (p.1,h):=fun h=>ix0
   have i1:∀h,ixW (place p) (.int 1) h=some (.tup (strsW p.2),h):=fun h=>ix1
   cases ho:outB rl p.2 p.1 with
   | false=>
    refine⟨[],.lst (stk s),?_⟩
    rw[stk_cons,show m+1+2=(m+2)+1 by omega]
    simp only[whileN,loopB,ho]
    rw[t]
    have b:wB G [some (.tup rl),x1,x2,some (.int c),some (.ref h0.length),o5] (h0++[.lst (stk s++[place p])])=some (.ret (.bl false),h0++[.lst (stk s)]):=by
     simp![wB,eMethL,getL,at0,popM,set0,sAug,augI,cmpI,c_MOST_DEEDS,h60,i0,i1,e1 p _ dp k1,ho]
    simp only[b]
    rfl
   | true=>
    obtain⟨ρ,o,e⟩:=ih ((partsK p.2 p.1).reverse++s) (some (place p)) (c+1) hs.next (by omega)
    refine⟨ρ,o,?_⟩
    rw[stk_cons,show m+1+2=(m+2)+1 by omega]
    simp only[loopB,ho,if_true]
    unfold whileN
    rw[t]
    have es:stk ((partsK p.2 p.1).reverse++s)=stk s++(partsK p.2 p.1).map place:=by simp[stk]
    have hcap:(stk s).length+((partsK p.2 p.1).map place).length≤cap:=by
     rw[stk_len,List.length_map]
     have h1:=partsK_len (ks:=p.2) dp
     have h2:=hs.l
     simp only[List.length_cons] at h2
     exact Nat.le_trans (show s.length+(partsK p.2 p.1).length≤600000 by omega) (by decide)
    have b:wB G [some (.tup rl),x1,x2,some (.int c),some (.ref h0.length),o5] (h0++[.lst (stk s++[place p])])=some (.nx [some (.tup rl),x1,x2,some (.int (c+1)),some (.ref h0.length),some (place p)],h0++[.lst (stk s++(partsK p.2 p.1).map place)]):=by
     have hcap':(stk s).length+(partsK p.2 p.1).length≤cap:=by simpa using hcap
     simp![wB,eMethL,getL,at0,popM,set0,sAug,augI,cmpI,c_MOST_DEEDS,h60,i0,i1,e1 p _ dp k1,ho,e2 p _ dp (by omega) ho,extendM,seqOf,hcap']
    simp only[b]
    rw[←es]
    exact e
theorem s_is_deed_where{F:Fs}{w:W}{rl:List W}{ks:List Str}{h:MH}(d:dt 60 w=true)(hk:ks.all PyData.strOk=true)(hk2:ks.length≤800)(hr:RulesOk rl) :
  (step (step (step (step (step (step F)))))).f_is_deed_where [.tup rl,w,.tup (strsW ks)] h=some (.bl (fits 60 (nodes rl 60 (w,ks))),h):=by
 have e1:=fun(p:W×List Str) h (dp:dt 60 p.1=true) (hk:p.2.all PyData.strOk=true)=>s_is_deed_outside (F:=F) (h:=h) dp (Nat.le_refl _) hk hr
 have e2:=fun(p:W×List Str) h (dp:dt 60 p.1=true) (hk:p.2.length≤1000) (ho:outB rl p.2 p.1=true)=>s_parts_with_known (F:=step (step (step F))) (h:=h) dp (Nat.le_refl _) ho hk
 generalize step (step (step (step (step F))))=G at e1 e2
 obtain⟨ρ,o,e⟩:=where_loop (h0:=h) (x1:=some w) (x2:=some (.tup (strsW ks))) e1 e2 60 [(w,ks)] none 0 ⟨fun p hp=>by simp at hp; subst hp; exact d,fun p hp=>by simp at hp; subst hp; exact⟨hk,by simp; omega⟩,by simp⟩ (by omega)
 have e3:=sWhile_of e
 have hl:=loop_nodes (rl:=rl) 60 [(w,ks)] (fun p hp=>by simp at hp; subst hp; exact d)
 have hl':loopB rl 60 [(w,ks)]=fits 60 (nodes rl 60 (w,ks)):=by
  rw[hl]
  simp only[List.map_cons,List.map_nil]
  cases nodes rl 60 (w,ks)<;>simp[sumO]
 rw[hl'] at e3
 refine gc_dt' (t:=[o]) (n:=1) ?_ rfl
 have hb:b_f_is_deed_where G=sSeq (sAsg (eC (.int 0)) (gNm 3)) (sSeq (sAsg (eArgs lstW [(eArgs tupW [(eVar 1),(eVar 2)])]) (gNm 4)) (sSeq (sWhile wT (wB G)) (sRet (eC (.bl true))))):=rfl
 simp only[step,fnM,hb]
 have es:stk [(w,ks)]=[.tup [w,.tup (strsW ks)]]:=rfl
 rw[es] at e3
 cases hfit:fits 60 (nodes rl 60 (w,ks)) with
 | true=>
  rw[hfit] at e3
  simp![tupW,lstW,cap,e3]
 | false=>
  rw[hfit] at e3
  simp![tupW,lstW,cap,e3]
theorem strOk1{x:Str}{c:Nat}(h:PyData.strOk x=true)(hc:c∈x.cps.toList):PyData.strOk ⟨#[c]⟩=true:=by
 unfold PyData.strOk at h ⊢
 rw[Array.all_eq_true] at h
 obtain⟨i,hi,rfl⟩:=List.getElem_of_mem hc
 simpa using h i (by simpa using hi)
theorem s_law_is_word{F:Fs}{n:Nat}{w:W}{l:Str}{h:MH}(d:dt n w=true):(step F).f_law_is_word [w,.str l] h=some (.bl (isWord l w),h):=by
 refine gc_dt (n:=1) ?_ rfl
 cases n with
 | zero=>cases d
 | succ n=>
 cases w with
 | str x=>
  have hd:=d
  unfold dt at hd
  rw[Bool.and_eq_true] at hd
  have hx:x.length≤1000:=of_decide_eq_true hd.2
  have hc:x.length≤cap:=Nat.le_trans hx (by decide)
  by_cases h1:1≤x.length
  .have q1:(1:Int)≤(x.length:Int):=by omega
   by_cases h2:x.length≤4
   .have q2:(x.length:Int)≤4:=by omega
    obtain⟨c,r,e1,e2⟩:=ix_head (h:=h) h1 hc
    have e4:slW (.str x) (some 1) none h=some (.str (tailS x),h):=by simp[slW,hc,tailS]
    have ec:eComp (iStr (eSl (eVar 0) (some (eC (.int 1))) none)) 1 [] (gNm 0) (tVal (eOp (inW true) (eVar 0) (eC (.str "0123456789")))) (eVar 0) [some (.str x),some (.str l)] h=some (.fls (((signs (tailS x)).filter fun w=>!strB (inStr "0123456789") w).map fun w=>w),h):=by
     refine comp1 (fun w=>!strB (inStr "0123456789") w) (fun w=>w) ?_ ?_ ?_ ?_ ?_
     .simp![iStr,eSl,mPart,e4]
     .intro w hw H'
      unfold signs at hw
      obtain⟨c,_,rfl⟩:=List.mem_map.mp hw
      simp![inB_str,strB]
     .intro w hw _ H'
      simp![]
     .intro w hw _
      unfold signs at hw
      obtain⟨c,_,rfl⟩:=List.mem_map.mp hw
      unfold low; rfl
     .unfold signs
      rw[List.length_map,len_cps]
      exact Nat.le_trans (slice_len x (some 1) none) hc
    have hds:∀w∈(signs (tailS x)).filter fun w=>!strB (inStr "0123456789") w,dt 1 w=true:=by
     intro w hw
     have hw':=(List.mem_filter.mp hw).1
     unfold signs at hw'
     obtain⟨c,hc',rfl⟩:=List.mem_map.mp hw'
     unfold dt
     rw[strOk1 (slice_ok hd.1) hc']
     rfl
    have heq:eqB h (.fls (((signs (tailS x)).filter fun w=>!strB (inStr "0123456789") w).map fun w=>w)) (.fls [])=some (figs (tailS x)):=by
     rw[List.map_id']
     have dl:dt 2 (.fls ((signs (tailS x)).filter fun w=>!strB (inStr "0123456789") w))=true:=by
      unfold dt
      rw[Bool.and_eq_true]
      refine⟨decide_eq_true ?_,List.all_eq_true.mpr hds⟩
      refine Nat.le_trans (List.length_filter_le _ _) ?_
      unfold signs
      rw[List.length_map,len_cps]
      exact Nat.le_trans (slice_len x (some 1) none) hx
     have e1:=dataW_dt (h:=h) dl (show 2≤deep by decide)
     have e2:=dataW_dt (h:=h) (show dt 1 (.fls [])=true from rfl) (show 1≤deep by decide)
     unfold eqB
     simp only[eqF,e1,e2]
     congr 1
     simp only[toD,List.map_nil,PyData.eqv]
     unfold figs
     cases hfl:(signs (tailS x)).filter fun w=>!strB (inStr "0123456789") w with
     | nil=>
      simp only[List.map_nil,PyData.eqvAll]
      symm
      rw[List.all_eq_true]
      intro c hc'
      rw[List.filter_eq_nil_iff] at hfl
      have:=hfl (.str ⟨#[c]⟩) (by unfold signs; exact List.mem_map.mpr ⟨c,hc',rfl⟩)
      simpa[strB] using this
     | cons w r=>
      simp only[List.map_cons,PyData.eqvAll]
      symm
      have hw:w∈(signs (tailS x)).filter fun w=>!strB (inStr "0123456789") w:=by rw[hfl]; exact List.mem_cons_self
      obtain⟨hw1,hw2⟩:=List.mem_filter.mp hw
      unfold signs at hw1
      obtain⟨c,hc',rfl⟩:=List.mem_map.mp hw1
      rw[List.all_eq_false]
      exact⟨c,hc',by simpa[strB] using hw2⟩
    cases hh:inStr l ⟨#[c]⟩ with
    | false=>simp![b_f_law_is_word,isW_dt d,tyB,lenW,hc,cmpI,isWord,wordS,headIn,e1,e2,inB_str,h1,h2,q1,q2,hh]
    | true=>
     simp![b_f_law_is_word,isW_dt d,tyB,lenW,hc,cmpI,isWord,wordS,headIn,e1,e2,inB_str,h1,h2,q1,q2,hh,flsW]
     rw[ec]
     simp only[heq]
   .have q2:¬(x.length:Int)≤4:=by omega
    simp![b_f_law_is_word,isW_dt d,tyB,lenW,hc,cmpI,isWord,wordS,q1,q2,h2]
  .have q1:¬(1:Int)≤(x.length:Int):=by omega
   simp![b_f_law_is_word,isW_dt d,tyB,lenW,hc,cmpI,isWord,wordS,q1,h1]
 | _=>simp![b_f_law_is_word,isW_dt d,tyB,isWord]
noncomputable def leftV:Option Nat→Int→Int
 | some t,l=>if (t:Int)≤l then l-t else -1
 | none,_=>-1
theorem leftV_ge{o:Option Nat}{l:Int}(h:-1≤l):-1≤leftV o l:=by
 cases o with
 | none=>simp[leftV]
 | some t=>simp only[leftV]; split<;>omega
theorem leftV_sum(o:Option Nat)(r:List (Option Nat))(l:Int)(h:-1≤l):leftV (sumO (o::r)) l=leftV (sumO r) (leftV o l):=by
 cases o with
 | none=>
  simp only[sumO,leftV]
  cases sumO r with
  | none=>rfl
  | some t=>simp only[leftV]; rw[if_neg (by omega)]
 | some a=>
  simp only[sumO]
  cases hr:sumO r with
  | none=>simp[leftV]
  | some t=>
   have L:∀(t:Nat) (l:Int),leftV (some t) l=if (t:Int)≤l then l-t else -1:=fun _ _=>rfl
   by_cases h1:(a:Int)≤l
   .have e1:leftV (some a) l=l-a:=by rw[L,if_pos h1]
    rw[e1,L,L]
    by_cases h2:(t:Int)≤l-a
    .rw[if_pos h2,if_pos (by push_cast; omega)]; push_cast; omega
    .rw[if_neg h2,if_neg (by push_cast; omega)]
   .have e1:leftV (some a) l = -1:=by rw[L,if_neg h1]
    rw[e1,L,L,if_neg (by push_cast; omega),if_neg (by omega)]
noncomputable def up:Nat→Fs→Fs
 | 0,F=>F
 | n+1,F=>step (up n F)
noncomputable def LeftOk(G:Fs)(al:List W)(k n:Nat):Prop:=∀(w:W) (ks:List Str) (l:Int) (h:MH),dt n w=true→ks.all PyData.strOk=true→ks.length+n≤900→-1≤l→
 G.f_law_left [.tup al,.int k,w,.fls (strsW ks),.int l] h=some (.int (leftV (nodes (al.take k) n (w,ks)) l),h)
theorem all_loop{G:Fs}{al:List W}{k n:Nat}{ks:List Str}{x2:Option W}(H:LeftOk G al k n)(hk:ks.all PyData.strOk=true)(hk2:ks.length+n≤900):∀(ps:List W) (l:Int) (o5:Option W) (h:MH),(∀w∈ps,dt n w=true)→-1≤l→
  ∃o,forL (gNm 5) (sAsg (eArgs G.f_law_left [(eVar 0),(eVar 1),(eVar 5),(eVar 3),(eVar 4)]) (gNm 4)) ps [some (.tup al),some (.int k),x2,some (.fls (strsW ks)),some (.int l),o5] h =
   some (.nx [some (.tup al),some (.int k),x2,some (.fls (strsW ks)),some (.int (leftV (sumO (ps.map fun w=>nodes (al.take k) n (w,ks))) l)),o],h)
 | [],l,o5,h,_,hl=>⟨o5,by
   unfold forL
   simp only[List.map_nil,sumO,leftV]
   by_cases h0:(0:Int)≤l
   .rw[if_pos (by simpa using h0)]; simp
   .rw[if_neg (by simpa using h0)]
    have:l = -1:=by omega
    rw[this]⟩
 | w::ps,l,o5,h,hd,hl=>by
  obtain⟨o,e⟩:=all_loop H hk hk2 ps (leftV (nodes (al.take k) n (w,ks)) l) (some w) h (fun v hv=>hd v (List.mem_cons_of_mem _ hv)) (leftV_ge hl)
  refine⟨o,?_⟩
  unfold forL
  have g:gNm 5 w [some (.tup al),some (.int k),x2,some (.fls (strsW ks)),some (.int l),o5] h=some ([some (.tup al),some (.int k),x2,some (.fls (strsW ks)),some (.int l),some w],h):=by simp[gNm]
  have b:sAsg (eArgs G.f_law_left [(eVar 0),(eVar 1),(eVar 5),(eVar 3),(eVar 4)]) (gNm 4) [some (.tup al),some (.int k),x2,some (.fls (strsW ks)),some (.int l),some w] h=some (.nx [some (.tup al),some (.int k),x2,some (.fls (strsW ks)),some (.int (leftV (nodes (al.take k) n (w,ks)) l)),some w],h):=by
   simp![H w ks l h (hd w List.mem_cons_self) hk hk2 hl]
  rw[g]
  simp only[b]
  rw[e,List.map_cons,leftV_sum _ _ _ hl]
theorem s_left_of_all{G:Fs}{al:List W}{k n:Nat}{ks:List Str}{ps:List W}{l:Int}{h:MH}(H:LeftOk G al k n)(hk:ks.all PyData.strOk=true)(hk2:ks.length+n≤900)(hd:∀w∈ps,dt n w=true)(hl:-1≤l) :
  (step G).f_law_left_of_all [.tup al,.int k,.tup ps,.fls (strsW ks),.int l] h=some (.int (leftV (sumO (ps.map fun w=>nodes (al.take k) n (w,ks))) l),h):=by
 refine gc_dt (n:=1) ?_ rfl
 obtain⟨o,e⟩:=all_loop (x2:=some (.tup ps)) H hk hk2 ps l none h hd hl
 simp![b_f_law_left_of_all,sFor,iSeq,srcOf,e]
noncomputable def LS0(F:Fs):MS:=(sIf (tOrM (tVal (eOp ltW (eVar 4) (eC (.int 1)))) (tOrM (tNotM (tVal (eUn (isW .tuple) (eVar 2)))) (tOrM (tVal (eOp (eqW false) (eVar 2) (eArgs tupW []))) (tNotM (tVal (eUn (isW .str) (eOp ixW (eVar 2) (eC (.int 0)))))))))
 (sRet (eUn negW (eC (.int 1))))
 sNext)
noncomputable def LS1(F:Fs):MS:=(sIf (tAndM (tVal (eOp (eqW false) (eOp ixW (eVar 2) (eC (.int 0))) (eC (.str "number")))) (tVal (eOp (eqW false) (eArgs lenW [(eVar 2)]) (eC (.int 2)))))
 (sSeq (sAsg (eAnd (eUn (isW .int) (eOp ixW (eVar 2) (eC (.int 1)))) (eAnd (eNot (eUn (isW .bool) (eOp ixW (eVar 2) (eC (.int 1))))) (eChain leW leW (eC (.int 0)) (eOp ixW (eVar 2) (eC (.int 1))) (eC (.int 1008))))) (gNm 5))
 (sRet (eOp ixW (eArgs flsW [(eUn negW (eC (.int 1))),(eOp subW (eVar 4) (eC (.int 1)))]) (eArgs intW [(eVar 5)]))))
 sNext)
noncomputable def LS2(F:Fs):MS:=(sIf (tAndM (tVal (eOp (inW false) (eOp ixW (eVar 2) (eC (.int 0))) (eArgs tupW [(eC (.str "name")),(eC (.str "do"))]))) (tVal (eOp (eqW false) (eArgs lenW [(eVar 2)]) (eC (.int 2)))))
 (sSeq (sAsg (eOp ixW (eArgs flsW [(eC (.str "xyz")),(eC (.str "fg"))]) (eArgs intW [(eOp (eqW false) (eOp ixW (eVar 2) (eC (.int 0))) (eC (.str "do")))])) (gNm 6))
 (sRet (eOp ixW (eArgs flsW [(eUn negW (eC (.int 1))),(eOp subW (eVar 4) (eC (.int 1)))]) (eArgs intW [(eAnd (eArgs F.f_law_is_word [(eOp ixW (eVar 2) (eC (.int 1))),(eVar 6)]) (eOp (inW false) (eOp ixW (eVar 2) (eC (.int 1))) (eVar 3)))]))))
 sNext)
noncomputable def LS3(F:Fs):MS:=(sIf (tAndM (tVal (eOp (inW false) (eOp ixW (eVar 2) (eC (.int 0))) (eArgs tupW [(eC (.str "read")),(eC (.str "write"))]))) (tVal (eOp (eqW false) (eArgs lenW [(eVar 2)]) (eOp addW (eC (.int 2)) (eArgs intW [(eOp (eqW false) (eOp ixW (eVar 2) (eC (.int 0))) (eC (.str "write")))])))))
 (sSeq (sAsg (eAnd (eArgs F.f_law_is_word [(eOp ixW (eVar 2) (eC (.int 1))),(eC (.str "pq"))]) (eOp (inW false) (eOp ixW (eVar 2) (eC (.int 1))) (eVar 3))) (gNm 7))
 (sSeq (sIf (tAndM (tNotM (tVal (eVar 7))) (tVal (eOp (inW true) (eOp ixW (eVar 2) (eC (.int 1))) (eArgs tupW [(eC (.str "a")),(eC (.str "b")),(eC (.str "c")),(eC (.str "d"))]))))
 (sRet (eUn negW (eC (.int 1))))
 sNext)
 (sRet (eArgs F.f_law_left_of_all [(eVar 0),(eVar 1),(eSl (eVar 2) (some (eC (.int 2))) none),(eVar 3),(eOp subW (eVar 4) (eC (.int 1)))]))))
 sNext)
noncomputable def LS4(F:Fs):MS:=(sIf (tVal (eOp (eqW false) (eVar 2) (eArgs tupW [(eC (.str "ask"))])))
 (sRet (eOp subW (eVar 4) (eC (.int 1))))
 sNext)
noncomputable def LS5(F:Fs):MS:=(sIf (tAndM (tVal (eOp (inW false) (eOp ixW (eVar 2) (eC (.int 0))) (eArgs tupW [(eC (.str "let")),(eC (.str "own"))]))) (tVal (eOp (eqW false) (eArgs lenW [(eVar 2)]) (eC (.int 4)))))
 (sSeq (sIf (tNotM (tVal (eArgs F.f_law_is_word [(eOp ixW (eVar 2) (eC (.int 1))),(eOp ixW (eArgs flsW [(eC (.str "xyz")),(eC (.str "pq"))]) (eArgs intW [(eOp (eqW false) (eOp ixW (eVar 2) (eC (.int 0))) (eC (.str "own")))]))])))
 (sRet (eUn negW (eC (.int 1))))
 sNext)
 (sSeq (sAsg (eArgs F.f_law_left [(eVar 0),(eVar 1),(eOp ixW (eVar 2) (eC (.int 2))),(eVar 3),(eOp subW (eVar 4) (eC (.int 1)))]) (gNm 4))
 (sRet (eArgs F.f_law_left [(eVar 0),(eVar 1),(eOp ixW (eVar 2) (eC (.int 3))),(eOp addW (eVar 3) (eArgs flsW [(eOp ixW (eVar 2) (eC (.int 1)))])),(eVar 4)]))))
 sNext)
noncomputable def LS6(F:Fs):MS:=(sIf (tAndM (tVal (eOp (eqW false) (eOp ixW (eVar 2) (eC (.int 0))) (eC (.str "call")))) (tVal (eOp (eqW false) (eArgs lenW [(eVar 2)]) (eC (.int 4)))))
 (sRet (eArgs F.f_law_left_of_call [(eVar 0),(eVar 1),(eVar 2),(eVar 3),(eOp subW (eVar 4) (eC (.int 1)))]))
 sNext)
noncomputable def LS7(F:Fs):MS:=(sIf (tVal (eOp (eqW true) (eArgs lenW [(eVar 2)]) (eDget2 (eDisp [((eC (.str "add")),(eC (.int 3))),((eC (.str "less")),(eC (.int 3))),((eC (.str "then")),(eC (.int 3))),((eC (.str "loop")),(eC (.int 3))),((eC (.str "if")),(eC (.int 4))),((eC (.str "say")),(eC (.int 2)))]) (eOp ixW (eVar 2) (eC (.int 0))) (eC (.int 0)))))
 (sRet (eUn negW (eC (.int 1))))
 sNext)
noncomputable def LS8(F:Fs):MS:=(sRet (eArgs F.f_law_left_of_all [(eVar 0),(eVar 1),(eSl (eVar 2) (some (eC (.int 1))) none),(eVar 3),(eOp subW (eVar 4) (eC (.int 1)))]))
theorem LS_row(F:Fs):b_f_law_left F=sSeq (LS0 F) (sSeq (LS1 F) (sSeq (LS2 F) (sSeq (LS3 F) (sSeq (LS4 F) (sSeq (LS5 F) (sSeq (LS6 F) (sSeq (LS7 F) (LS8 F)))))))):=rfl
theorem seq_nx{a b:MS}{ρ ρ':En}{h h':MH}(e:a ρ h=some (.nx ρ',h')):sSeq a b ρ h=b ρ' h':=by unfold sSeq; rw[e]
theorem seq_ret{a b:MS}{ρ:En}{h h':MH}{w:W}(e:a ρ h=some (.ret w,h')):sSeq a b ρ h=some (.ret w,h'):=by unfold sSeq; rw[e]
theorem ixf0{a:W}{r:List W}{h:MH}:ixW (.fls (a::r)) (.int 0) h=some (a,h):=by simp[ixW,getL,atI,ixN]
theorem ixf1{a b:W}{r:List W}{h:MH}:ixW (.fls (a::b::r)) (.int 1) h=some (b,h):=by
 have:(1:Int)<(r.length:Int)+1+1:=by omega
 simp[ixW,getL,atI,ixN,this]
section
variable{G:Fs}{al:List W}{k:Nat}{ks:List Str}{l:Int}{h:MH}{x:Str}{r:List W}{m:Nat}
noncomputable abbrev ρL(al:List W)(k:Nat)(w:W)(ks:List Str)(l:Int):En:=[some (.tup al),some (.int k),some w,some (.fls (strsW ks)),some (.int l),none,none,none]
noncomputable abbrev th(x:Str)(r:List W):W:=.tup (.str x::r)
theorem pair_in{a b:Str}(hx:dt m (.str x)=true)(hm:m≤60)(hab:([a,b]:List Str).all PyData.strOk=true):inB h (.str x) (.tup [.str a,.str b])=some (x==a||x==b):=by
 rw[show(W.tup [.str a,.str b])=.tup (strsW [a,b]) from rfl,inB_tups hx hm hab]
 simp only[strIn,List.any_cons,List.any_nil,Bool.or_false]
 rw[show(a==x)=(x==a) from Bool.beq_comm ..,show(b==x)=(x==b) from Bool.beq_comm ..]
theorem L0a(hl:l<1){w:W}:LS0 G (ρL al k w ks l) h=some (.ret (.int (-1)),h):=by
 simp![LS0,cmpI,hl,negW]
theorem L0b{n:Nat}{w:W}(d:dt n w=true)(hn:n≤60)(hl:¬l<1)(hw:∀x r,w≠th x r):LS0 G (ρL al k w ks l) h=some (.ret (.int (-1)),h):=by
 cases w with
 | tup lw=>
  cases lw with
  | nil=>simp![LS0,cmpI,hl,negW,isW_dt d,tyB,tupW,cap,eqB_nil d hn,isNil]
  | cons y r=>
   obtain⟨m,rfl,_,hd⟩:=dt_tup d
   have dy:=hd y List.mem_cons_self
   cases y with
   | str x=>exact absurd rfl (hw x r)
   | _=>simp![LS0,cmpI,hl,negW,isW_dt d,tyB,tupW,cap,eqB_nil d hn,isNil,ix0,isW_dt dy]
 | _=>simp![LS0,cmpI,hl,negW,isW_dt d,tyB]
theorem L0c(d:dt (m+1) (th x r)=true)(hn:m+1≤60)(hl:¬l<1):LS0 G (ρL al k (th x r) ks l) h=some (.nx (ρL al k (th x r) ks l),h):=by
 obtain⟨m',e,_,hd⟩:=dt_tup d
 cases e
 have dy:=hd (.str x) List.mem_cons_self
 simp![LS0,cmpI,hl,isW_dt d,tyB,tupW,cap,eqB_nil d hn,isNil,ix0,isW_dt dy]
theorem L1p(t:(x==("number":Str)&&decide ((r.length:Int)+1=2))=false):LS1 G (ρL al k (th x r) ks l) h=some (.nx (ρL al k (th x r) ks l),h):=by
 cases t1:(x==("number":Str)) with
 | false=>simp![LS1,ix0,eqB_str,t1]
 | true=>
  rw[t1,Bool.true_and] at t
  have t2:¬(r.length:Int)+1=2:=of_decide_eq_false t
  have t3:((r.length:Int)+1==2)=false:=by simpa using t2
  simp![LS1,ix0,eqB_str,t1,lenW,eqB_int,t3]
theorem L1h{a:W}(da:dt m a=true)(t1:(x==("number":Str))=true):LS1 G (ρL al k (th x [a]) ks l) h=some (.ret (.int (if isWorth a=true then l-1 else -1)),h):=by
 cases a with
 | int i=>
  by_cases h0:0≤i<;>by_cases h1:i≤1008<;>simp![LS1,ix0,ix1,eqB_str,t1,lenW,eqB_int,isW_dt da,tyB,cmpI,h0,h1,isWorth,flsW,cap,intW,ixf0,ixf1,negW,subW]
 | _=>simp![LS1,ix0,ix1,eqB_str,t1,lenW,eqB_int,isW_dt da,tyB,isWorth,flsW,cap,intW,ixf0,ixf1,negW,subW]
theorem L2p(dx:dt m (.str x)=true)(hm:m≤60)(t:((x==("name":Str)||x=="do")&&decide ((r.length:Int)+1=2))=false):LS2 G (ρL al k (th x r) ks l) h=some (.nx (ρL al k (th x r) ks l),h):=by
 have e:=pair_in (h:=h) (a:="name") (b:="do") dx hm (by decide +kernel)
 cases t1:(x==("name":Str)||x=="do") with
 | false=>simp![LS2,ix0,tupW,cap,e,t1]
 | true=>
  rw[t1,Bool.true_and] at t
  have t2:¬(r.length:Int)+1=2:=of_decide_eq_false t
  have t3:((r.length:Int)+1==2)=false:=by simpa using t2
  simp![LS2,ix0,tupW,cap,e,t1,lenW,eqB_int,t3]
theorem L2h{a:W}(eW:∀lt:Str,∀h,G.f_law_is_word [a,.str lt] h=some (.bl (isWord lt a),h))(dx:dt m (.str x)=true)(da:dt m a=true)(hm:m≤60)(hk:ks.all PyData.strOk=true)(t1:(x==("name":Str)||x=="do")=true) :
  LS2 G (ρL al k (th x [a]) ks l) h=some (.ret (.int (if (isWord (if x=="do" then "fg" else "xyz") a&&strIn ks a)=true then l-1 else -1)),h):=by
 have e:=pair_in (h:=h) (a:="name") (b:="do") dx hm (by decide +kernel)
 rw[t1] at e
 have e2:=inB_flss (h:=h) da hm hk
 cases t2:(x==("do":Str)) with
 | true=>
  cases q1:isWord "fg" a<;>cases q2:strIn ks a<;>simp![LS2,ix0,ix1,tupW,cap,e,t2,lenW,eqB_int,eqB_str,flsW,cap,intW,ixf0,ixf1,negW,subW,eW,q1,q2,e2]
 | false=>
  cases q1:isWord "xyz" a<;>cases q2:strIn ks a<;>simp![LS2,ix0,ix1,tupW,cap,e,t2,lenW,eqB_int,eqB_str,flsW,cap,intW,ixf0,ixf1,negW,subW,eW,q1,q2,e2]
theorem L3p(dx:dt m (.str x)=true)(hm:m≤60)(t:((x==("read":Str)||x=="write")&&decide ((r.length:Int)+1=2+(if x=="write" then 1 else 0)))=false):LS3 G (ρL al k (th x r) ks l) h=some (.nx (ρL al k (th x r) ks l),h):=by
 have e:=pair_in (h:=h) (a:="read") (b:="write") dx hm (by decide +kernel)
 cases t1:(x==("read":Str)||x=="write") with
 | false=>rw[t1] at e; simp![LS3,ix0,tupW,cap,e]
 | true=>
  rw[t1] at e
  rw[t1,Bool.true_and] at t
  have t2:¬(r.length:Int)+1=2+(if x=="write" then 1 else 0):=of_decide_eq_false t
  cases t4:(x==("write":Str)) with
  | true=>
   rw[t4] at t2
   have t3:((r.length:Int)+1==3)=false:=by simpa using t2
   simp![LS3,ix0,tupW,cap,e,t4,lenW,eqB_int,eqB_str,intW,addW,addI,t3]
  | false=>
   rw[t4] at t2
   have t3:((r.length:Int)+1==2)=false:=by simpa using t2
   simp![LS3,ix0,tupW,cap,e,t4,lenW,eqB_int,eqB_str,intW,addW,addI,t3]
theorem L3h{n:Nat}{a:W}(eW:∀lt:Str,∀h,G.f_law_is_word [a,.str lt] h=some (.bl (isWord lt a),h))(dx:dt m (.str x)=true)(da:dt m a=true)(hm:m≤60)(hk:ks.all PyData.strOk=true)(t1:(x==("read":Str)||x=="write")=true)
  (hlen:(r.length:Int)+1+1=2+(if x=="write" then 1 else 0)) (v:Int) (eA:G.f_law_left_of_all [.tup al,.int k,.tup r,.fls (strsW ks),.int (l-1)] h=some (.int v,h)) :
  LS3 G (ρL al k (th x (a::r)) ks l) h=some (.ret (.int (if isShelf ks a=true then v else -1)),h):=by
 have e:=pair_in (h:=h) (a:="read") (b:="write") dx hm (by decide +kernel)
 rw[t1] at e
 have e2:=inB_flss (h:=h) da hm hk
 have e3:inB h a (.tup [.str "a",.str "b",.str "c",.str "d"])=some (strIn shelves a):=inB_tups (l:=shelves) da hm (by decide +kernel)
 have e5:slW (th x (a::r)) (some 2) none h=some (.tup r,h):=by
  simp only[slW,th]
  rw[show(2:Int)=((2:Nat):Int) from rfl,cut_from]
  rfl
 have key:∀(z:Int),((r.length:Int)+1+1==z)=true→(2+(if (x==("write":Str))=true then (1:Int) else 0))=z→LS3 G (ρL al k (th x (a::r)) ks l) h=some (.ret (.int (if isShelf ks a=true then v else -1)),h):=by
  intro z hz hzz
  cases t4:(x==("write":Str)) with
  | true=>
   rw[t4] at hzz
   have:z=3:=by simpa using hzz.symm
   subst this
   cases q1:isWord "pq" a<;>cases q2:strIn ks a<;>cases q3:strIn shelves a<;>simp![LS3,ix0,ix1,tupW,cap,e,t4,lenW,eqB_int,eqB_str,intW,addW,addI,hz,eW,q1,q2,q3,e2,e3,negW,isShelf,eSl,mPart,e5,subW,eA]
  | false=>
   rw[t4] at hzz
   have:z=2:=by simpa using hzz.symm
   subst this
   cases q1:isWord "pq" a<;>cases q2:strIn ks a<;>cases q3:strIn shelves a<;>simp![LS3,ix0,ix1,tupW,cap,e,t4,lenW,eqB_int,eqB_str,intW,addW,addI,hz,eW,q1,q2,q3,e2,e3,negW,isShelf,eSl,mPart,e5,subW,eA]
 exact key _ (by rw[hlen]; exact beq_self_eq_true _) rfl
end
section
variable{G:Fs}{al:List W}{k:Nat}{ks:List Str}{l:Int}{h:MH}{x:Str}{r:List W}{m:Nat}
theorem eqB_ask(d:dt (m+1) (th x r)=true)(hm:m+1≤60):eqB h (th x r) (.tup [.str "ask"])=some (x=="ask" && r.isEmpty):=by
 rw[eqB_tup d hm (m:=2) (by decide +kernel) (by omega)]
 obtain⟨m',e,_,hd⟩:=dt_tup d
 cases e
 have dx:=hd (.str x) List.mem_cons_self
 cases m with
 | zero=>cases dx
 | succ m=>
  cases r with
  | nil=>simp[toD,PyData.eqv,PyData.eqvAll]
  | cons a r=>simp[toD,PyData.eqv,PyData.eqvAll]
theorem L4p(d:dt (m+1) (th x r)=true)(hm:m+1≤60)(t:(x==("ask":Str)&&r.isEmpty)=false):LS4 G (ρL al k (th x r) ks l) h=some (.nx (ρL al k (th x r) ks l),h):=by
 have e:=eqB_ask (h:=h) d hm
 rw[t] at e
 simp![LS4,tupW,cap,e]
theorem L4h(d:dt (m+1) (th x r)=true)(hm:m+1≤60)(t:(x==("ask":Str)&&r.isEmpty)=true):LS4 G (ρL al k (th x r) ks l) h=some (.ret (.int (l-1)),h):=by
 have e:=eqB_ask (h:=h) d hm
 rw[t] at e
 simp![LS4,tupW,cap,e,subW]
theorem L5p(dx:dt m (.str x)=true)(hm:m≤60)(t:((x==("let":Str)||x=="own")&&decide ((r.length:Int)+1=4))=false):LS5 G (ρL al k (th x r) ks l) h=some (.nx (ρL al k (th x r) ks l),h):=by
 have e:=pair_in (h:=h) (a:="let") (b:="own") dx hm (by decide +kernel)
 cases t1:(x==("let":Str)||x=="own") with
 | false=>rw[t1] at e; simp![LS5,ix0,tupW,cap,e]
 | true=>
  rw[t1] at e
  rw[t1,Bool.true_and] at t
  have t2:¬(r.length:Int)+1=4:=of_decide_eq_false t
  have t3:((r.length:Int)+1==4)=false:=by simpa using t2
  simp![LS5,ix0,tupW,cap,e,lenW,eqB_int,t3]
theorem L5h{v a b:W}{l1 l2:Int}(eW:∀lt:Str,∀h,G.f_law_is_word [v,.str lt] h=some (.bl (isWord lt v),h))(dx:dt m (.str x)=true)(hm:m≤60)(t1:(x==("let":Str)||x=="own")=true)(hks:ks.length≤1000)
  (e1:G.f_law_left [.tup al,.int k,a,.fls (strsW ks),.int (l-1)] h=some (.int l1,h)) (e2:G.f_law_left [.tup al,.int k,b,.fls (strsW ks++[v]),.int l1] h=some (.int l2,h)) :
  LS5 G (ρL al k (th x [v,a,b]) ks l) h=some (.ret (.int (if isWord (if x=="own" then "pq" else "xyz") v=true then l2 else -1)),h):=by
 have e:=pair_in (h:=h) (a:="let") (b:="own") dx hm (by decide +kernel)
 rw[t1] at e
 have hc:(strsW ks).length+1≤cap:=by rw[strsW_len]; exact Nat.le_trans (show ks.length+1≤2000 by omega) (by decide)
 have c1:(1:Nat)≤cap:=by decide
 have c2:(2:Nat)≤cap:=by decide
 cases t2:(x==("own":Str)) with
 | true=>cases q1:isWord "pq" v<;>simp![LS5,ix0,ix1,ix2,ix3,tupW,c1,c2,e,t2,lenW,eqB_int,eqB_str,flsW,intW,ixf0,ixf1,negW,subW,eW,q1,e1,addW,addI,getL,hc,e2]
 | false=>cases q1:isWord "xyz" v<;>simp![LS5,ix0,ix1,ix2,ix3,tupW,c1,c2,e,t2,lenW,eqB_int,eqB_str,flsW,intW,ixf0,ixf1,negW,subW,eW,q1,e1,addW,addI,getL,hc,e2]
theorem L6p(t:(x==("call":Str)&&decide ((r.length:Int)+1=4))=false):LS6 G (ρL al k (th x r) ks l) h=some (.nx (ρL al k (th x r) ks l),h):=by
 cases t1:(x==("call":Str)) with
 | false=>simp![LS6,ix0,eqB_str,t1]
 | true=>
  rw[t1,Bool.true_and] at t
  have t2:¬(r.length:Int)+1=4:=of_decide_eq_false t
  have t3:((r.length:Int)+1==4)=false:=by simpa using t2
  simp![LS6,ix0,eqB_str,t1,lenW,eqB_int,t3]
theorem L6h{a b c:W}{v:Int}(t1:(x==("call":Str))=true)(eC:G.f_law_left_of_call [.tup al,.int k,th x [a,b,c],.fls (strsW ks),.int (l-1)] h=some (.int v,h)):LS6 G (ρL al k (th x [a,b,c]) ks l) h=some (.ret (.int v),h):=by
 simp![LS6,ix0,eqB_str,t1,lenW,eqB_int,subW,eC]
noncomputable def six:List (Str×Int):=[("add",3),("less",3),("then",3),("loop",3),("if",4),("say",2)]
noncomputable def glen(x:Str):Int:=(six.lookup x).getD 0
noncomputable def sixK:List (Key×W):=[(.inr "add",.int 3),(.inr "less",.int 3),(.inr "then",.int 3),(.inr "loop",.int 3),(.inr "if",.int 4),(.inr "say",.int 2)]
theorem six_merge:mergeW [] sixK=sixK:=by
 unfold mergeW sixK
 simp only[List.foldl_cons,List.foldl_nil]
 rfl
theorem six_val(x:Str):(valW sixK (.inr x)).getD (.int 0)=.int (glen x):=by
 unfold glen
 have:∀l:List (Str×Int),(valW (l.map fun p=>((.inr p.1:Key),W.int p.2)) (.inr x)).getD (.int 0)=.int ((l.lookup x).getD 0):=by
  intro l
  induction l with
  | nil=>rfl
  | cons p r ih=>
   obtain⟨y,i⟩:=p
   rw[List.lookup_cons]
   by_cases hxy:x=y
   .subst hxy
    simp[valW,List.find?_cons]
   .have e1:(x==y)=false:=by simpa using hxy
    have e2:¬(y=x):=fun z=>hxy z.symm
    simp only[List.map_cons,valW,List.find?_cons,Sum.inr.injEq,e2,decide_false,e1]
    exact ih
 exact this six
theorem six_disp{ρ:En}:eDisp [((eC (.str "add")),(eC (.int 3))),((eC (.str "less")),(eC (.int 3))),((eC (.str "then")),(eC (.int 3))),((eC (.str "loop")),(eC (.int 3))),((eC (.str "if")),(eC (.int 4))),((eC (.str "say")),(eC (.int 2)))] ρ h=some (.fdc sixK,h):=by
 unfold eDisp
 have e:mPairs [((eC (.str "add")),(eC (.int 3))),((eC (.str "less")),(eC (.int 3))),((eC (.str "then")),(eC (.int 3))),((eC (.str "loop")),(eC (.int 3))),((eC (.str "if")),(eC (.int 4))),((eC (.str "say")),(eC (.int 2)))] ρ (h++[.dic []])=some ([(.str "add",.int 3),(.str "less",.int 3),(.str "then",.int 3),(.str "loop",.int 3),(.str "if",.int 4),(.str "say",.int 2)],h++[.dic []]):=by
  simp[mPairs,bnd,eC]
 rw[e]
 have e2:keysOf [(.str "add",.int 3),(.str "less",.int 3),(.str "then",.int 3),(.str "loop",.int 3),(.str "if",.int 4),(.str "say",.int 2)]=some sixK:=rfl
 simp only[e2]
 rw[if_pos ⟨trivial,by decide,by simp[sixK,lows,low]⟩,six_merge]
theorem L7:LS7 G (ρL al k (th x r) ks l) h=some (if ((r.length:Int)+1==glen x)=true then .nx (ρL al k (th x r) ks l) else .ret (.int (-1)),h):=by
 have e:∀ρ,eDisp [((eC (.str "add")),(eC (.int 3))),((eC (.str "less")),(eC (.int 3))),((eC (.str "then")),(eC (.int 3))),((eC (.str "loop")),(eC (.int 3))),((eC (.str "if")),(eC (.int 4))),((eC (.str "say")),(eC (.int 2)))] ρ h=some (.fdc sixK,h):=fun ρ=>six_disp
 have e2:=six_val x
 cases q:((r.length:Int)+1==glen x)<;>simp![LS7,ix0,lenW,eDget2,e,getDi,keyOf,e2,eqB_int,q,negW]
theorem L8{v:Int}(eA:G.f_law_left_of_all [.tup al,.int k,.tup r,.fls (strsW ks),.int (l-1)] h=some (.int v,h)):LS8 G (ρL al k (th x r) ks l) h=some (.ret (.int v),h):=by
 have e5:slW (th x r) (some 1) none h=some (.tup r,h):=by
  simp only[slW,th]
  rw[show(1:Int)=((1:Nat):Int) from rfl,cut_from]
  rfl
 simp![LS8,eSl,mPart,e5,subW,eA]
end
section
variable{al:List W}{k:Nat}{ks:List Str}{l:Int}{h:MH}{m:Nat}
theorem s_left_of_call{G:Fs}{n:Nat}{x y a b:W}(H:LeftOk G al k n)(hk:ks.all PyData.strOk=true)(hk2:ks.length+n≤900)(d:dt (n+1) (.tup [x,y,a,b])=true)(hl:-1≤l)(hka:k≤al.length)(hr:RulesOk (al.take k)) :
  (step (step G)).f_law_left_of_call [.tup al,.int k,.tup [x,y,a,b],.fls (strsW ks),.int l] h=some (.int (if isCall (al.take k) (.tup [x,y,a,b])=true then (match a,b with
   | .tup la,.tup lb=>leftV (sumO ((la++lb).map fun w=>nodes (al.take k) n (w,ks))) l
   | _,_=>-1) else -1),h):=by
 refine gc_dt (n:=1) ?_ rfl
 obtain⟨m,e,_,hd⟩:=dt_tup d
 cases e
 have dy:=hd y (by simp); have da:=hd a (by simp); have db:=hd b (by simp)
 have eA:=fun(ps:List W) (hp:∀w∈ps,dt n w=true) (h:MH)=>s_left_of_all (ps:=ps) (h:=h) H hk hk2 hp hl
 generalize step G=G' at eA
 have hlen:(al.take k).length=k:=by rw[List.length_take]; omega
 cases y with
 | int i=>
  by_cases h0:0≤i
  .obtain⟨j,rfl⟩:=Int.eq_ofNat_of_zero_le h0
   by_cases h1:(j:Int)<k
   .have hj:j<k:=by omega
    have hj2:j<(al.take k).length:=by omega
    obtain⟨ns,hs,bb,hrr,_,_⟩:=hr (al.take k)[j] (List.getElem_mem hj2)
    have hrr':al[j]'(by omega)=.tup [.tup ns,.tup hs,bb]:=by rw[←hrr]; simp
    have ei:∀h,ixW (.tup al) (.int (j:Int)) h=some (.tup [.tup ns,.tup hs,bb],h):=fun h=>ixn h0 (by omega) (by simp[show j<al.length by omega,hrr'])
    have et:(al.take k)[j]?=some (.tup [.tup ns,.tup hs,bb]):=by rw[List.getElem?_eq_getElem hj2,hrr]
    have h2:(j:Int)<((al.take k).length:Int):=by omega
    cases a with
    | tup la=>
     cases b with
     | tup lb=>
      have k1:((la.length:Int)==(ns.length:Int))=decide (la.length=ns.length):=by rw[Bool.eq_iff_iff]; simp; omega
      have k2:((lb.length:Int)==(hs.length:Int))=decide (lb.length=hs.length):=by rw[Bool.eq_iff_iff]; simp; omega
      obtain⟨m1,rfl,la1,da1⟩:=dt_tup da
      obtain⟨m2,e2,lb1,db1⟩:=dt_tup db
      cases e2
      have hc:la.length+lb.length≤cap:=Nat.le_trans (show la.length+lb.length≤2000 by omega) (by decide)
      have eA':=eA (la++lb) (fun w hw=>by
       rcases List.mem_append.mp hw with z | z
       .exact dt_mono (da1 w z) (by omega)
       .exact dt_mono (db1 w z) (by omega)) h
      have ic:isCall (al.take k) (.tup [x,.int (j:Int),.tup la,.tup lb])=(decide (la.length=ns.length)&&decide (lb.length=hs.length)):=by
       simp only[isCall,h0,h2,decide_true,Bool.true_and,Int.toNat_natCast,et]
      rw[ic]
      cases c1:decide (la.length=ns.length)<;>cases c2:decide (lb.length=hs.length)<;>rw[c1] at k1<;>rw[c2] at k2<;>simp![b_f_law_left_of_call,cmpI,h0,h1,ix1,ix2,ix3,lenW,isW_dt da,isW_dt db,isW_dt dy,tyB,ei,ix0,eqB_int,k1,k2,negW,addW,addI,hc,eA']
     | _=>simp![b_f_law_left_of_call,cmpI,h0,h1,ix1,ix2,ix3,isW_dt da,isW_dt db,isW_dt dy,tyB,negW,isCall]
    | _=>simp![b_f_law_left_of_call,cmpI,h0,h1,ix1,ix2,ix3,isW_dt da,isW_dt db,isW_dt dy,tyB,negW,isCall]
   .have ic:isCall (al.take k) (.tup [x,.int (j:Int),a,b])=false:=by
     have h2:¬(j:Int)<((al.take k).length:Int):=by omega
     cases a<;>cases b<;>simp only[isCall,h2,decide_false,Bool.and_false,Bool.false_and]
    rw[ic]
    simp![b_f_law_left_of_call,cmpI,h0,h1,ix1,isW_dt dy,tyB,negW]
  .have ic:isCall (al.take k) (.tup [x,.int i,a,b])=false:=by
    cases a<;>cases b<;>simp only[isCall,h0,decide_false,Bool.false_and]
   rw[ic]
   simp![b_f_law_left_of_call,cmpI,h0,ix1,isW_dt dy,tyB,negW]
 | _=>
  simp![b_f_law_left_of_call,cmpI,ix1,isW_dt dy,tyB,negW,isCall]
theorem nodes_one{rl:List W}{n:Nat}{p:W×List Str}{t:Nat}(e:nodes rl n p=some t):1≤t:=by
 cases n with
 | zero=>cases e
 | succ n=>
  unfold nodes at e
  split at e
  .split at e
   .cases e; omega
   .cases e
  .cases e
theorem leftV_low{rl:List W}{n:Nat}{p:W×List Str}(hl:l<1):leftV (nodes rl n p) l = -1:=by
 cases e:nodes rl n p with
 | none=>rfl
 | some t=>
  have:=nodes_one e
  simp only[leftV]
  rw[if_neg (by omega)]
theorem leftV_no{rl:List W}{n:Nat}{w:W}(ho:outB rl ks w=false):leftV (nodes rl (n+1) (w,ks)) l = -1:=by
 unfold nodes
 simp[ho,leftV]
theorem leftV_parts{rl:List W}{n:Nat}{w:W}(ho:outB rl ks w=true)(hl:¬l<1):leftV (nodes rl (n+1) (w,ks)) l=leftV (sumO ((partsK ks w).map (nodes rl n))) (l-1):=by
 unfold nodes
 rw[if_pos ho]
 cases sumO ((partsK ks w).map (nodes rl n)) with
 | none=>rfl
 | some t=>
  simp only[leftV]
  by_cases h1:(t:Int)≤l-1
  .rw[if_pos h1,if_pos (by push_cast; omega)]; push_cast; omega
  .rw[if_neg h1,if_neg (by push_cast; omega)]
end
theorem andF{b c:Bool}(h:b=false):(b&&c)=false:=by rw[h]; rfl
theorem andD{b:Bool}{p:Prop}[Decidable p](h:¬p):(b&&decide p)=false:=by rw[decide_eq_false h]; cases b<;>rfl
section
variable{G:Fs}{al:List W}{k:Nat}{ks:List Str}{l:Int}{h:MH}{x:Str}{r:List W}{m:Nat}
theorem path(d:dt (m+1) (th x r)=true)(hm:m+1≤60)(hl:¬l<1)(c1:(x==("number":Str)&&decide ((r.length:Int)+1=2))=false)(c2:((x==("name":Str)||x=="do")&&decide ((r.length:Int)+1=2))=false)
  (c3:((x==("read":Str)||x=="write")&&decide ((r.length:Int)+1=2+(if x=="write" then 1 else 0)))=false) (c4:(x==("ask":Str)&&r.isEmpty)=false) (c5:((x==("let":Str)||x=="own")&&decide ((r.length:Int)+1=4))=false)
  (c6:(x==("call":Str)&&decide ((r.length:Int)+1=4))=false) :
  b_f_law_left G (ρL al k (th x r) ks l) h=if ((r.length:Int)+1==glen x)=true then LS8 G (ρL al k (th x r) ks l) h else some (.ret (.int (-1)),h):=by
 obtain⟨m',e,_,hd⟩:=dt_tup d
 cases e
 have dx:=hd (.str x) List.mem_cons_self
 have hm':m≤60:=by omega
 rw[LS_row,seq_nx (L0c d hm hl),seq_nx (L1p c1),seq_nx (L2p dx hm' c2),seq_nx (L3p dx hm' c3),seq_nx (L4p d hm c4),seq_nx (L5p dx hm' c5),seq_nx (L6p c6)]
 have e7:=L7 (G:=G) (al:=al) (k:=k) (ks:=ks) (l:=l) (h:=h) (x:=x) (r:=r)
 cases q:((r.length:Int)+1==glen x) with
 | true=>rw[q] at e7; rw[seq_nx e7]; rfl
 | false=>rw[q] at e7; rw[seq_ret e7]; rfl
end
theorem form_no{rl:List W}{ks:List Str}{x:Str}{r:List W}{p:Int×Int}(e:fm x=some p)(hn:¬(r.length:Int)+1=p.1):outB rl ks (th x r)=false:=by
 unfold outB
 have:hasForm (th x r)=false:=by simp[hasForm,th,e,hn]
 rw[this]; rfl
theorem form_none{rl:List W}{ks:List Str}{x:Str}{r:List W}(e:fm x=none):outB rl ks (th x r)=false:=by
 unfold outB
 have:hasForm (th x r)=false:=by simp[hasForm,th,e]
 rw[this]; rfl
theorem form_yes{x:Str}{r:List W}{p:Int×Int}(e:fm x=some p)(hn:(r.length:Int)+1=p.1):hasForm (th x r)=true:=by simp[hasForm,th,e,hn]
theorem other_fm {x : Str} (t1 : (x == ("number" : Str)) = false) (t2 : (x == ("name" : Str)) = false) (t3 : (x == ("do" : Str)) = false) (t4 : (x == ("read" : Str)) = false) (t5 : (x == ("write" : Str)) = false) (t6 : (x == ("ask" : Str)) = false) (t7 : (x == ("let" : Str)) = false) (t8 : (x == ("own" : Str)) = false) (t9 : (x == ("call" : Str)) = false) :
    fm x = (six.lookup x).map fun n => (n, 1) := by
  unfold fm forms six
  simp only [List.lookup_cons, t1, t2, t3, t4, t5, t6, t7, t8, t9, List.lookup_nil]
  cases q1 : (x == ("add" : Str)) <;> cases q2 : (x == ("less" : Str)) <;> cases q3 : (x == ("then" : Str)) <;> cases q4 : (x == ("if" : Str)) <;> cases q5 : (x == ("loop" : Str)) <;> cases q6 : (x == ("say" : Str)) <;> first
    | rfl
    | (exfalso
       have : False := by
         first
         | exact absurd ((eq_of_beq q1).symm.trans (eq_of_beq q2)) (by decide +kernel)
         | exact absurd ((eq_of_beq q4).symm.trans (eq_of_beq q5)) (by decide +kernel)
         | exact absurd ((eq_of_beq q1).symm.trans (eq_of_beq q4)) (by decide +kernel)
       exact this)
theorem leftV_zero{l:Int}(hl:¬l<1):leftV (some 0) (l-1)=l-1:=by
 simp only[leftV]; rw[if_pos (by simp; omega)]; simp
theorem L5n{G:Fs}{al:List W}{k:Nat}{ks:List Str}{l:Int}{h:MH}{x:Str}{m:Nat}{v a b:W}(eW:∀lt:Str,∀h,G.f_law_is_word [v,.str lt] h=some (.bl (isWord lt v),h))(dx:dt m (.str x)=true)(hm:m≤60)(t1:(x==("let":Str)||x=="own")=true)
  (q:isWord (if x=="own" then "pq" else "xyz") v=false):LS5 G (ρL al k (th x [v,a,b]) ks l) h=some (.ret (.int (-1)),h):=by
 have e:=pair_in (h:=h) (a:="let") (b:="own") dx hm (by decide +kernel)
 rw[t1] at e
 have c1:(1:Nat)≤cap:=by decide
 have c2:(2:Nat)≤cap:=by decide
 cases t2:(x==("own":Str)) with
 | true=>rw[t2] at q; simp only[if_true] at q; simp![LS5,ix0,ix1,ix2,ix3,tupW,c1,c2,e,t2,lenW,eqB_int,eqB_str,flsW,intW,ixf0,ixf1,negW,eW,q]
 | false=>rw[t2] at q; simp only[Bool.false_eq_true,if_false] at q; simp![LS5,ix0,ix1,ix2,ix3,tupW,c1,c2,e,t2,lenW,eqB_int,eqB_str,flsW,intW,ixf0,ixf1,negW,eW,q]
theorem left_step{G3:Fs}{al:List W}{k n:Nat}(hka:k≤al.length)(hr:RulesOk (al.take k))(hn:n+1≤60)(H3:LeftOk G3 al k n)(H2:LeftOk (step G3) al k n)(H1:LeftOk (step (step G3)) al k n):LeftOk (step (step (step G3))) al k (n+1):=by
 intro w ks l h d hk hk2 hl
 have eW:=fun {v:W} (dv:dt n v=true) (lt:Str) h=>s_law_is_word (F:=step G3) (l:=lt) (h:=h) dv
 have eA:=fun(ps:List W) (l:Int) (hp:∀w∈ps,dt n w=true) (hl:-1≤l)=>s_left_of_all (ps:=ps) (h:=h) (ks:=ks) H2 hk (by omega) hp hl
 have eC:=fun {x y a b:W} (l:Int) (d:dt (n+1) (.tup [x,y,a,b])=true) (hl:-1≤l)=>s_left_of_call (h:=h) (ks:=ks) H3 hk (by omega) d hl hka hr
 generalize step (step G3)=G at eW eA eC H1
 refine gc_dt (n:=1) ?_ rfl
 suffices hs:b_f_law_left G (ρL al k w ks l) h=some (.ret (.int (leftV (nodes (al.take k) (n+1) (w,ks)) l)),h) by
  simp only[fnM,List.length_cons,List.length_nil,if_true,List.map_cons,List.map_nil,List.replicate,List.cons_append,List.nil_append]
  simp only[ρL] at hs
  simp only[hs]
 by_cases hl1:l<1
 .rw[LS_row,seq_ret (L0a hl1),leftV_low hl1]
 by_cases hw:∃x r,w=th x r
 .obtain⟨x,r,rfl⟩:=hw
  obtain⟨m',e,hlen,hd⟩:=dt_tup d
  cases e
  have dx:=hd (.str x) List.mem_cons_self
  have hn':n≤60:=by omega
  have hl0:-1≤l-1:=by omega
  have mem:∀a∈r,dt n a=true:=fun a ha=>hd a (List.mem_cons_of_mem _ ha)
  cases t1:(x==("number":Str)) with
  | true=>
   have hx:=eq_of_beq t1; subst hx
   have hf:fm ("number":Str)=some (2,2):=by decide +kernel
   by_cases hlen2:(r.length:Int)+1=2
   .obtain⟨a,rfl⟩:=len1 hlen2
    rw[LS_row,seq_nx (L0c d hn hl1),seq_ret (L1h (mem a (by simp)) t1)]
    have ho:outB (al.take k) ks (th "number" [a])=isWorth a:=by
     unfold outB; rw[form_yes hf hlen2]; simp[th,r0]
    cases q:isWorth a with
    | true=>
     rw[leftV_parts (by rw[ho,q]) hl1]
     have:partsK ks (th "number" [a])=[]:=by simp[partsK,partsL,th,hf,show(("number":Str)=="let")=false by decide +kernel,show(("number":Str)=="own")=false by decide +kernel,show(("number":Str)=="call")=false by decide +kernel]
     rw[this]; simp only[List.map_nil,sumO,if_true]; rw[leftV_zero hl1]
    | false=>rw[leftV_no (by rw[ho,q])]; rfl
   .rw[path d hn hl1 (andD hlen2) (andF (by decide +kernel)) (andF (by decide +kernel)) (andF (by decide +kernel)) (andF (by decide +kernel)) (andF (by decide +kernel)),leftV_no (form_no hf hlen2)]
    have:glen ("number":Str)=0:=by decide +kernel
    rw[this,if_neg (by simp; omega)]
  | false=>
  cases t2:(x==("name":Str)||x=="do") with
  | true=>
   have hf:fm x=some (2,2):=by
    rcases Bool.or_eq_true_iff.mp t2 with t | t<;>(rw[eq_of_beq t]; decide +kernel)
   have ncl:(x==("let":Str)||x=="own")=false∧(x==("call":Str))=false∧(x==("read":Str)||x=="write")=false∧(x==("ask":Str))=false∧glen x=0:=by
    rcases Bool.or_eq_true_iff.mp t2 with t | t<;>(rw[eq_of_beq t]; decide +kernel)
   obtain⟨n1,n2,n3,n4,n5⟩:=ncl
   by_cases hlen2:(r.length:Int)+1=2
   .obtain⟨a,rfl⟩:=len1 hlen2
    have da:=mem a (by simp)
    rw[LS_row,seq_nx (L0c d hn hl1),seq_nx (L1p (andF t1)),seq_ret (L2h (eW da) dx da hn' hk t2)]
    have ho:outB (al.take k) ks (th x [a])=(isWord (if x=="do" then "fg" else "xyz") a&&strIn ks a):=by
     unfold outB; rw[form_yes hf hlen2]
     cases t3:(x==("name":Str)) with
     | true=>
      have:(x==("do":Str))=false:=by rw[eq_of_beq t3]; decide +kernel
      simp[th,r0,t1,t3,this]
     | false=>
      have:(x==("do":Str))=true:=by rw[t3,Bool.false_or] at t2; exact t2
      simp[th,r0,t1,t3,this]
    cases q:(isWord (if x=="do" then "fg" else "xyz") a&&strIn ks a) with
    | true=>
     rw[leftV_parts (by rw[ho,q]) hl1]
     have:partsK ks (th x [a])=[]:=by simp only[partsK,partsL,th,hf,n1,n2]; simp
     rw[this]; simp only[List.map_nil,sumO,if_true]; rw[leftV_zero hl1]
    | false=>rw[leftV_no (by rw[ho,q])]; rfl
   .rw[path d hn hl1 (andF t1) (andD hlen2) (andF n3) (andF n4) (andF n1) (andF n2),leftV_no (form_no hf hlen2),n5,if_neg (by simp; omega)]
  | false=>
  cases t3:(x==("read":Str)||x=="write") with
  | true=>
   have hf:fm x=some (2+(if x=="write" then 1 else 0),2):=by
    rcases Bool.or_eq_true_iff.mp t3 with t | t<;>(rw[eq_of_beq t]; decide +kernel)
   have ncl:(x==("let":Str)||x=="own")=false∧(x==("call":Str))=false∧(x==("ask":Str))=false∧glen x=0:=by
    rcases Bool.or_eq_true_iff.mp t3 with t | t<;>(rw[eq_of_beq t]; decide +kernel)
   obtain⟨n1,n2,n4,n5⟩:=ncl
   by_cases hlen2:(r.length:Int)+1=2+(if x=="write" then 1 else 0)
   .have:∃a r',r=a::r':=by
     cases r with
     | nil=>exfalso; simp at hlen2; split at hlen2<;>omega
     | cons a r'=>exact⟨a,r',rfl⟩
    obtain⟨a,r',rfl⟩:=this
    have da:=mem a (by simp)
    have dr:∀v∈r',dt n v=true:=fun v hv=>mem v (List.mem_cons_of_mem _ hv)
    rw[LS_row,seq_nx (L0c d hn hl1),seq_nx (L1p (andF t1)),seq_nx (L2p dx hn' (andF t2)),seq_ret (L3h (n:=n) (eW da) dx da hn' hk t3 (by simpa using hlen2) _ (eA r' (l-1) dr hl0))]
    have ho:outB (al.take k) ks (th x (a::r'))=isShelf ks a:=by
     unfold outB; rw[form_yes hf hlen2]
     rw[Bool.or_eq_false_iff] at t2
     simp[th,r0,t1,t2.1,t2.2,t3]
    cases q:isShelf ks a with
    | true=>
     rw[leftV_parts (by rw[ho,q]) hl1]
     have:partsK ks (th x (a::r'))=r'.map fun p=>(p,ks):=by simp only[partsK,partsL,th,hf,n1,n2]; simp
     rw[this,List.map_map]; rfl
    | false=>rw[leftV_no (by rw[ho,q])]; rfl
   .rw[path d hn hl1 (andF t1) (andF t2) (andD hlen2) (andF n4) (andF n1) (andF n2),leftV_no (form_no hf hlen2),n5,if_neg (by simp; omega)]
  | false=>
  cases t4:(x==("ask":Str)) with
  | true=>
   have hx:=eq_of_beq t4; subst hx
   have hf:fm ("ask":Str)=some (1,1):=by decide +kernel
   cases r with
   | nil=>
    rw[LS_row,seq_nx (L0c d hn hl1),seq_nx (L1p (andF t1)),seq_nx (L2p dx hn' (andF t2)),seq_nx (L3p dx hn' (andF t3)),seq_ret (L4h d hn (by decide +kernel))]
    have ho:outB (al.take k) ks (th "ask" [])=true:=by
     unfold outB; rw[form_yes hf (by simp)]
     simp only[th,show(("ask":Str)=="number")=false by decide +kernel,show(("ask":Str)=="name")=false by decide +kernel,show(("ask":Str)=="do")=false by decide +kernel,show(("ask":Str)=="read")=false by decide +kernel,show(("ask":Str)=="write")=false by decide +kernel,show(("ask":Str)=="let")=false by decide +kernel,show(("ask":Str)=="own")=false by decide +kernel,show(("ask":Str)=="call")=false by decide +kernel]
     rfl
    rw[leftV_parts ho hl1]
    have:partsK ks (th "ask" [])=[]:=by simp[partsK,partsL,th,hf,show(("ask":Str)=="let")=false by decide +kernel,show(("ask":Str)=="own")=false by decide +kernel,show(("ask":Str)=="call")=false by decide +kernel]
    rw[this]; simp only[List.map_nil,sumO]; rw[leftV_zero hl1]
   | cons a r'=>
    have hne:¬(((a::r').length:Nat):Int)+1=1:=by simp; omega
    rw[path d hn hl1 (andF t1) (andF t2) (andF t3) (by simp) (andF (by decide +kernel)) (andF (by decide +kernel)),leftV_no (form_no hf hne)]
    have:glen ("ask":Str)=0:=by decide +kernel
    rw[this,if_neg (by simp; omega)]
  | false=>
  cases t5:(x==("let":Str)||x=="own") with
  | true=>
   have hf:fm x=some (4,2):=by
    rcases Bool.or_eq_true_iff.mp t5 with t | t<;>(rw[eq_of_beq t]; decide +kernel)
   have ncl:(x==("call":Str))=false∧glen x=0:=by
    rcases Bool.or_eq_true_iff.mp t5 with t | t<;>(rw[eq_of_beq t]; decide +kernel)
   obtain⟨n2,n5⟩:=ncl
   by_cases hlen2:(r.length:Int)+1=4
   .obtain⟨v,a,b,rfl⟩:=len3 hlen2
    have dv:=mem v (by simp); have da:=mem a (by simp); have db:=mem b (by simp)
    have ho:outB (al.take k) ks (th x [v,a,b])=isWord (if x=="own" then "pq" else "xyz") v:=by
     unfold outB; rw[form_yes hf hlen2]
     rw[Bool.or_eq_false_iff] at t2 t3
     cases t6:(x==("let":Str)) with
     | true=>
      have:(x==("own":Str))=false:=by rw[eq_of_beq t6]; decide +kernel
      simp[th,r0,t1,t2.1,t2.2,t3.1,t3.2,t6,this]
     | false=>
      have:(x==("own":Str))=true:=by rw[t6,Bool.false_or] at t5; exact t5
      simp[th,r0,t1,t2.1,t2.2,t3.1,t3.2,t6,this]
    have e1:=H1 a ks (l-1) h da hk (by omega) hl0
    cases q:isWord (if x=="own" then "pq" else "xyz") v with
    | true=>
     have hv:∃y,v=.str y:=by
      cases v with
      | str y=>exact⟨y,rfl⟩
      | _=>cases q
     obtain⟨y,rfl⟩:=hv
     have hy:PyData.strOk y=true:=by
      cases n with
      | zero=>cases dv
      | succ n=>unfold dt at dv; rw[Bool.and_eq_true] at dv; exact dv.1
     have e2:=H1 b (ks++[y]) (leftV (nodes (al.take k) n (a,ks)) (l-1)) h db (by rw[List.all_append,hk]; simp[hy]) (by simp; omega) (leftV_ge hl0)
     have es:strsW (ks++[y])=strsW ks++[.str y]:=by simp[strsW]
     rw[es] at e2
     rw[LS_row,seq_nx (L0c d hn hl1),seq_nx (L1p (andF t1)),seq_nx (L2p dx hn' (andF t2)),seq_nx (L3p dx hn' (andF t3)),seq_nx (L4p d hn (andF t4)),seq_ret (L5h (eW dv) dx hn' t5 (by omega) e1 e2),q]
     rw[leftV_parts (by rw[ho,q]) hl1]
     have:partsK ks (th x [.str y,a,b])=[(a,ks),(b,ks++[y])]:=by simp[partsK,th,t5]
     rw[this]
     simp only[List.map_cons,List.map_nil,if_true]
     rw[leftV_sum _ _ _ hl0,leftV_sum _ _ _ (leftV_ge hl0)]
     have hz:=leftV_ge (o:=nodes (al.take k) n (b,ks++[y])) (leftV_ge (o:=nodes (al.take k) n (a,ks)) hl0)
     generalize leftV (nodes (al.take k) n (b,ks++[y])) (leftV (nodes (al.take k) n (a,ks)) (l-1))=z at hz
     have hz2:leftV (sumO []) z=z:=by
      simp only[sumO,leftV]
      by_cases h0:(0:Int)≤z
      .rw[if_pos (by simpa using h0)]; simp
      .rw[if_neg (by simpa using h0)]; omega
     rw[hz2]
    | false=>
     rw[leftV_no (by rw[ho,q])]
     rw[LS_row,seq_nx (L0c d hn hl1),seq_nx (L1p (andF t1)),seq_nx (L2p dx hn' (andF t2)),seq_nx (L3p dx hn' (andF t3)),seq_nx (L4p d hn (andF t4)),seq_ret (L5n (eW dv) dx hn' t5 q)]
   .rw[path d hn hl1 (andF t1) (andF t2) (andF t3) (andF t4) (andD hlen2) (andF n2),leftV_no (form_no hf hlen2),n5,if_neg (by simp; omega)]
  | false=>
  cases t6:(x==("call":Str)) with
  | true=>
   have hx:=eq_of_beq t6; subst hx
   have hf:fm ("call":Str)=some (4,2):=by decide +kernel
   by_cases hlen2:(r.length:Int)+1=4
   .obtain⟨a,b,c,rfl⟩:=len3 hlen2
    rw[LS_row,seq_nx (L0c d hn hl1),seq_nx (L1p (andF t1)),seq_nx (L2p dx hn' (andF t2)),seq_nx (L3p dx hn' (andF t3)),seq_nx (L4p d hn (andF t4)),seq_nx (L5p dx hn' (andF t5)),seq_ret (L6h t6 (eC (l-1) d hl0))]
    have ho:outB (al.take k) ks (th "call" [a,b,c])=isCall (al.take k) (th "call" [a,b,c]):=by
     unfold outB; rw[form_yes hf hlen2]
     rw[Bool.or_eq_false_iff] at t2 t3 t5
     simp[th,r0,t1,t2.1,t2.2,t3.1,t3.2,t5.1,t5.2]
    cases q:isCall (al.take k) (th "call" [a,b,c]) with
    | true=>
     obtain⟨i,la,lb,er⟩:=out_call (rl:=al.take k) (ks:=ks) (by rw[ho,q]) t6
     cases er
     rw[leftV_parts (by rw[ho,q]) hl1]
     have:partsK ks (th "call" [.int i,.tup la,.tup lb])=(la++lb).map fun p=>(p,ks):=by simp only[partsK,partsL,th,t5]; simp
     rw[this,List.map_map]; rfl
    | false=>rw[leftV_no (by rw[ho,q])]; rfl
   .rw[path d hn hl1 (andF t1) (andF t2) (andF t3) (andF t4) (andF t5) (andD hlen2),leftV_no (form_no hf hlen2)]
    have:glen ("call":Str)=0:=by decide +kernel
    rw[this,if_neg (by simp; omega)]
  | false=>
   rw[path d hn hl1 (andF t1) (andF t2) (andF t3) (andF t4) (andF t5) (andF t6)]
   rw[Bool.or_eq_false_iff] at t2 t3 t5
   have hfm:=other_fm t1 t2.1 t2.2 t3.1 t3.2 t4 t5.1 t5.2 t6
   cases hs:six.lookup x with
   | none=>
    rw[hs] at hfm
    have:glen x=0:=by unfold glen; rw[hs]; rfl
    rw[this,leftV_no (form_none hfm),if_neg (by simp; omega)]
   | some z=>
    rw[hs] at hfm
    have hg:glen x=z:=by unfold glen; rw[hs]; rfl
    rw[hg]
    by_cases hlen2:(r.length:Int)+1=z
    .rw[if_pos (by simpa using hlen2),L8 (eA r (l-1) mem hl0)]
     have ho:outB (al.take k) ks (th x r)=true:=by
      unfold outB; rw[form_yes hfm hlen2]
      simp[th,r0,t1,t2.1,t2.2,t3.1,t3.2,t5.1,t5.2,t6]
     rw[leftV_parts ho hl1]
     have:partsK ks (th x r)=r.map fun p=>(p,ks):=by
      have t5':(x==("let":Str)||x=="own")=false:=by rw[t5.1,t5.2]; rfl
      simp only[partsK,partsL,th,hfm,t5',t6]; simp
     rw[this,List.map_map]; rfl
    .rw[if_neg (by simpa using hlen2),leftV_no (form_no hfm hlen2)]
 .have hw':∀x r,w≠th x r:=fun x r e=>hw ⟨x,r,e⟩
  rw[LS_row,seq_ret (L0b d hn hl1 hw')]
  have ho:outB (al.take k) ks w=false:=by
   unfold outB
   have:hasForm w=false:=by
    cases hf:hasForm w with
    | false=>rfl
    | true=>obtain⟨x,r,p,e,_⟩:=hasForm_str hf; exact absurd e (hw' x r)
   rw[this]; rfl
  rw[leftV_no ho]
theorem up_step(n:Nat)(G:Fs):up n (step G)=step (up n G):=by
 induction n with
 | zero=>rfl
 | succ n ih=>show step (up n (step G))=_; rw[ih]; rfl
theorem left_all{al:List W}{k:Nat}(hka:k≤al.length)(hr:RulesOk (al.take k)):∀n,n≤60→∀G,LeftOk (up (3*n) G) al k n
 | 0,_,G=>fun w ks l h d=>by cases d
 | n+1,hn,G=>by
  have ih:=left_all hka hr n (by omega)
  have e:up (3*(n+1)) G=step (step (step (up (3*n) G))):=by rw[show 3*(n+1)=3*n+1+1+1 by omega]; rfl
  rw[e]
  refine left_step hka hr hn (ih G) ?_ ?_
  .rw[←up_step]; exact ih (step G)
  .rw[←up_step,←up_step]; exact ih (step (step G))
noncomputable def un2:List W→Bool
 | [.str a,.str b]=>!(a==b)
 | _=>true
noncomputable def strOf:W→Str
 | .str x=>x
 | _=>default
theorem words_strs{lt:Str}:∀{la:List W},la.all (isWord lt)=true→la=strsW (la.map strOf)
 | [],_=>rfl
 | w::r,h=>by
  rw[List.all_cons,Bool.and_eq_true] at h
  cases w with
  | str x=>simp only[List.map_cons,strOf,strsW]; congr 1; exact words_strs h.2
  | _=>cases h.1
theorem s_are_unlike{F:Fs}{ss:List Str}{h:MH}(hl:ss.length≤2):(step F).f_are_unlike [.tup (strsW ss)] h=some (.bl (un2 (strsW ss)),h):=by
 refine gc_dt (n:=1) ?_ rfl
 match ss,hl with
 | [],_=>simp![b_f_are_unlike,lenSet,seqOf,strsW,strsOf,unlike,lenW,eqB_int,un2]
 | [a],_=>simp![b_f_are_unlike,lenSet,seqOf,strsW,strsOf,unlike,lenW,eqB_int,un2]
 | [a,b],_=>
  cases q:(a==b) with
  | true=>simp![b_f_are_unlike,lenSet,seqOf,strsW,strsOf,unlike,lenW,eqB_int,un2,eq_of_beq q]
  | false=>
   have this2:¬b=a:=fun z=>by rw[z] at q; simp at q
   simp![b_f_are_unlike,lenSet,seqOf,strsW,strsOf,unlike,lenW,eqB_int,un2,this2,q]
noncomputable def headB(lt:Str):W→Bool
 | .tup l=>decide (l.length≤2)&&l.all (isWord lt)&&un2 l
 | _=>false
theorem all_words{G:Fs}{lt:Str}{f:List W→M W}{ρ:En}{l:List W}{h:MH}{mi:MI}{n:Nat}(ef:∀w h,dt n w=true→f [w] h=some (.bl (isWord lt w),h))(hm:mi ρ h=some (.items l,h))(hd:∀w∈l,dt n w=true)(hl:l.length≤1000) :
  eArgs allW [eComp mi 1 [] (gNm 0) tTrue (eArgs f [eVar 0])] ρ h=some (.bl (l.all (isWord lt)),h):=by
 have ec:eComp mi 1 [] (gNm 0) tTrue (eArgs f [eVar 0]) ρ h=some (.fls ((l.filter fun _=>true).map fun w=>.bl (isWord lt w)),h):=by
  refine comp1 (fun _=>true) (fun w=>.bl (isWord lt w)) hm (fun w _ H'=>rfl) (fun w hw _ H'=>?_) (fun w hw _=>?_) (Nat.le_trans hl (by decide))
  .simp![ef w H' (hd w hw)]
  .unfold low; rfl
 rw[List.filter_eq_self.mpr (by simp)] at ec
 simp only[eArgs,mArgs,bnd,ec]
 simp only[allW,foldB,seqOf,getL,bls_map]
 simp[List.all_map,Function.comp_def]
theorem s_is_head{F:Fs}{n:Nat}{a b:W}{h:MH}(da:dt n a=true)(db:dt n b=true):(step (step (step (step F)))).f_is_head [a,b] h=some (.bl (headB "xyz" a&&headB "fg" b),h):=by
 refine gc_dt (n:=1) ?_ rfl
 have e1:=fun(w:W) (h:MH) {m:Nat} (d:dt m w=true)=>s_is_name (F:=F) (h:=h) d
 have e2:=fun(w:W) (h:MH) {m:Nat} (d:dt m w=true)=>s_is_handed_name (F:=F) (h:=h) d
 have e3:=fun(ss:List Str) (h:MH) (hl:ss.length≤2)=>s_are_unlike (F:=step (step F)) (ss:=ss) (h:=h) hl
 generalize step (step (step F))=G at e1 e2 e3
 cases a with
 | tup la=>
  cases b with
  | tup lb=>
   obtain⟨m,rfl,la1,da1⟩:=dt_tup da
   obtain⟨m',e,lb1,db1⟩:=dt_tup db
   cases e
   by_cases ha:la.length≤2
   .by_cases hb:lb.length≤2
    .have qa:¬(2:Int)<(la.length:Int):=by omega
     have qb:¬(2:Int)<(lb.length:Int):=by omega
     have ea:=all_words (G:=G) (lt:="xyz") (f:=G.f_is_name) (ρ:=[some (.tup la),some (.tup lb)]) (mi:=iSeq (eVar 0)) (h:=h) (fun w h d=>e1 w h d) (by simp![iSeq,srcOf]) da1 la1
     have eb:=all_words (G:=G) (lt:="fg") (f:=G.f_is_handed_name) (ρ:=[some (.tup la),some (.tup lb)]) (mi:=iSeq (eVar 1)) (h:=h) (fun w h d=>e2 w h d) (by simp![iSeq,srcOf]) db1 lb1
     have hrow:b_f_is_head G=sSeq (sIf (tOrM (tNotM (tVal (eUn (isW .tuple) (eVar 0)))) (tNotM (tVal (eUn (isW .tuple) (eVar 1))))) (sRet (eC (.bl false))) sNext) (sSeq (sIf (tOrM (tVal (eOp gtW (eArgs lenW [(eVar 0)]) (eC c_MOST_NAMES))) (tVal (eOp gtW (eArgs lenW [(eVar 1)]) (eC c_MOST_NAMES)))) (sRet (eC (.bl false))) sNext)
       (sSeq (sIf (tOrM (tNotM (tVal (eArgs allW [(eComp (iSeq (eVar 0)) 1 [] (gNm 0) tTrue (eArgs G.f_is_name [(eVar 0)]))]))) (tNotM (tVal (eArgs allW [(eComp (iSeq (eVar 1)) 1 [] (gNm 0) tTrue (eArgs G.f_is_handed_name [(eVar 0)]))])))) (sRet (eC (.bl false))) sNext) (sRet (eAnd (eArgs G.f_are_unlike [(eVar 0)]) (eArgs G.f_are_unlike [(eVar 1)]))))):=rfl
     simp only[step,fnM,hrow]
     generalize eArgs allW [(eComp (iSeq (eVar 0)) 1 [] (gNm 0) tTrue (eArgs G.f_is_name [(eVar 0)]))]=A1 at ea
     generalize eArgs allW [(eComp (iSeq (eVar 1)) 1 [] (gNm 0) tTrue (eArgs G.f_is_handed_name [(eVar 0)]))]=A2 at eb
     cases w1:la.all (isWord "xyz") with
     | false=>rw[w1] at ea; simp![isW_dt da,isW_dt db,tyB,lenW,c_MOST_NAMES,cmpI,qa,qb,ea,headB,ha,hb,w1]
     | true=>
      rw[w1] at ea
      cases w2:lb.all (isWord "fg") with
      | false=>rw[w2] at eb; simp![isW_dt da,isW_dt db,tyB,lenW,c_MOST_NAMES,cmpI,qa,qb,ea,eb,headB,ha,hb,w1,w2]
      | true=>
       rw[w2] at eb
       have sa:=words_strs w1
       have sb:=words_strs w2
       have ua:=e3 (la.map strOf) h (by simpa using ha)
       have ub:=e3 (lb.map strOf) h (by simpa using hb)
       rw[←sa] at ua
       rw[←sb] at ub
       cases u1:un2 la<;>simp![isW_dt da,isW_dt db,tyB,lenW,c_MOST_NAMES,cmpI,qa,qb,ea,eb,headB,ha,hb,w1,w2,ua,ub,u1]
    .have qa:¬(2:Int)<(la.length:Int):=by omega
     have qb:(2:Int)<(lb.length:Int):=by omega
     simp![b_f_is_head,isW_dt da,isW_dt db,tyB,lenW,c_MOST_NAMES,cmpI,qa,qb,headB,hb]
   .have qa:(2:Int)<(la.length:Int):=by omega
    simp![b_f_is_head,isW_dt da,isW_dt db,tyB,lenW,c_MOST_NAMES,cmpI,qa,headB,ha]
  | _=>simp![b_f_is_head,isW_dt da,isW_dt db,tyB,headB]
 | _=>simp![b_f_is_head,isW_dt da,tyB,headB]
noncomputable def ksOf(a b:W):List Str:=match a,b with
 | .tup la,.tup lb=>(la++lb).map strOf
 | _,_=>[]
noncomputable def isRule(rl:List W):W→Bool
 | .tup [a,b,c]=>headB "xyz" a&&headB "fg" b&&fits 60 (nodes rl 60 (c,ksOf a b))
 | _=>false
theorem head_shape{lt:Str}{a:W}(h:headB lt a=true):∃la,a=.tup la∧la.length≤2∧la.all (isWord lt)=true∧un2 la=true:=by
 cases a with
 | tup la=>
  simp only[headB,Bool.and_eq_true,decide_eq_true_eq] at h
  exact⟨la,rfl,h.1.1,h.1.2,h.2⟩
 | _=>cases h
theorem word_ok{n:Nat}{la:List W}(hd:∀w∈la,dt n w=true){lt:Str}(hw:la.all (isWord lt)=true):(la.map strOf).all PyData.strOk=true:=by
 rw[List.all_map,List.all_eq_true]
 intro w hw'
 have d:=hd w hw'
 have:=List.all_eq_true.mp hw w hw'
 cases w with
 | str x=>
  cases n with
  | zero=>cases d
  | succ n=>unfold dt at d; rw[Bool.and_eq_true] at d; exact d.1
 | _=>cases this
theorem s_is_rule{F:Fs}{w:W}{rl:List W}{h:MH}(d:dt 60 w=true)(hr:RulesOk rl):(step (step (step (step (step (step (step F))))))).f_is_rule [.tup rl,w] h=some (.bl (isRule rl w),h):=by
 refine gc_dt (n:=1) ?_ rfl
 have e1:=fun {n:Nat} {a b:W} (da:dt n a=true) (db:dt n b=true) (h:MH)=>s_is_head (F:=step (step F)) (h:=h) da db
 have e2:=fun {c:W} {ks:List Str} (d:dt 60 c=true) (hk:ks.all PyData.strOk=true) (hk2:ks.length≤800) (h:MH)=>s_is_deed_where (F:=F) (h:=h) d hk hk2 hr
 generalize step (step (step (step (step (step F)))))=G at e1 e2
 cases w with
 | tup l=>
  obtain⟨m,hm,hl,hd⟩:=dt_tup d
  have hm':m=59:=by omega
  subst hm'
  match l,hd,hl,d with
  | [a,b,c],hd,hl,d=>
   have da:=hd a (by simp); have db:=hd b (by simp); have dc:=dt_mono (hd c (by simp)) (show 59≤60 by omega)
   cases q:(headB "xyz" a&&headB "fg" b) with
   | false=>simp![b_f_is_rule,isW_dt d,tyB,lenW,eqB_int,ix0,ix1,ix2,e1 da db,q,isRule]
   | true=>
    rw[Bool.and_eq_true] at q
    obtain⟨la,rfl,l1,w1,_⟩:=head_shape q.1
    obtain⟨lb,rfl,l2,w2,_⟩:=head_shape q.2
    have ea:strsW (ksOf (.tup la) (.tup lb))=la++lb:=by
     rw[show ksOf (.tup la) (.tup lb)=(la++lb).map strOf from rfl]
     unfold strsW
     rw[List.map_append,List.map_append]
     have h1:=words_strs w1; have h2:=words_strs w2
     unfold strsW at h1 h2
     rw[←h1,←h2]
    obtain⟨m1,e3,_,da1⟩:=dt_tup da
    obtain⟨m2,e4,_,db1⟩:=dt_tup db
    have hk:(ksOf (.tup la) (.tup lb)).all PyData.strOk=true:=by
     rw[show ksOf (.tup la) (.tup lb)=(la++lb).map strOf from rfl]
     rw[List.map_append,List.all_append,word_ok da1 w1,word_ok db1 w2]; rfl
    have hk2:(ksOf (.tup la) (.tup lb)).length≤800:=by rw[show ksOf (.tup la) (.tup lb)=(la++lb).map strOf from rfl]; simp; omega
    have e5:=e2 dc hk hk2 h
    rw[ea] at e5
    have hc:la.length+lb.length≤cap:=Nat.le_trans (show la.length+lb.length≤4 by omega) (by decide)
    simp![b_f_is_rule,isW_dt d,tyB,lenW,eqB_int,ix0,ix1,ix2,e1 da db,q.1,q.2,isRule,addW,addI,hc,e5]
  | [],hd,hl,d=>simp![b_f_is_rule,isW_dt d,tyB,lenW,eqB_int,isRule]
  | [_],hd,hl,d=>simp![b_f_is_rule,isW_dt d,tyB,lenW,eqB_int,isRule]
  | [_,_],hd,hl,d=>simp![b_f_is_rule,isW_dt d,tyB,lenW,eqB_int,isRule]
  | _::_::_::_::r,hd,hl,d=>
   have q:((r.length:Int)+1+1+1+1==3)=false:=by rw[beq_eq_false_iff_ne]; omega
   simp![b_f_is_rule,isW_dt d,tyB,lenW,eqB_int,isRule,q]
 | _=>simp![b_f_is_rule,isW_dt d,tyB,isRule]
noncomputable def rulesFrom(al:List W):Nat→List W→Bool
 | _,[]=>true
 | i,w::r=>isRule (al.take i) w&&rulesFrom al (i+1) r
noncomputable def isRules:W→Bool
 | .tup al=>decide (al.length≤4)&&rulesFrom al 0 al
 | _=>false
theorem rule_shape{rl:List W}{w:W}(h:isRule rl w=true):∃ns hs b,w=.tup [.tup ns,.tup hs,b]∧ns.length≤1000∧hs.length≤1000:=by
 match w,h with
 | .tup [a,b,c],h=>
  simp only[isRule,Bool.and_eq_true] at h
  obtain⟨la,rfl,l1,_⟩:=head_shape h.1.1
  obtain⟨lb,rfl,l2,_⟩:=head_shape h.1.2
  exact⟨la,lb,c,rfl,by omega,by omega⟩
theorem RulesOk.snoc{al:List W}{i:Nat}{w:W}(h:RulesOk (al.take i))(e:al[i]?=some w)(hw:∃ns hs b,w=.tup [.tup ns,.tup hs,b]∧ns.length≤1000∧hs.length≤1000):RulesOk (al.take (i+1)):=by
 intro r hr
 rw[List.take_succ,e] at hr
 rcases List.mem_append.mp hr with z | z
 .exact h r z
 .simp at z; subst z; exact hw
theorem cut_to{l:List W}{k:Nat}(hk:k≤l.length):cutW l none (some (k:Int))=l.take k:=by
 unfold cutW
 have e1:HT.sIx l.length l.length (some (k:Int))=k:=by
  have:¬((k:Int)<0):=by omega
  simp[HT.sIx,this]; omega
 have e2:HT.sIx l.length 0 none=0:=rfl
 rw[e1,e2]; simp
theorem rules_loop{G:Fs}{al:List W}{h:MH}(hal:∀w∈al,dt 60 w=true)(e1:∀(w:W) (rl:List W) (h:MH),dt 60 w=true→RulesOk rl→G.f_is_rule [.tup rl,w] h=some (.bl (isRule rl w),h)) :
  ∀(r:List W) (i:Nat) (o1 o2:Option W),al.drop i=r→RulesOk (al.take i)→∃ρ,forL (gTp [gNm 1,gNm 2]) (sIf (tNotM (tVal (eArgs G.f_is_rule [(eSl (eVar 0) none (some (eVar 1))),(eVar 2)]))) (sRet (eC (.bl false))) sNext) ((r.zipIdx i).map fun p=>.tup [.int (p.2:Nat),p.1]) [some (.tup al),o1,o2] h =
   some (if rulesFrom al i r=true then Fl.nx ρ else .ret (.bl false),h)
 | [],i,o1,o2,_,_=>⟨_,by simp[forL,rulesFrom]; rfl⟩
 | w::r,i,o1,o2,hr,hok=>by
  have hi:al[i]?=some w:=by
   have:=congrArg List.head? hr
   rw[List.head?_drop] at this
   simpa using this
  have hil:i<al.length:=(List.getElem?_eq_some_iff.mp hi).1
  have hr':al.drop (i+1)=r:=by
   rw[←List.drop_drop,hr]
   simp
  have dw:=hal w (List.mem_of_getElem? hi)
  have es:slW (.tup al) none (some (i:Int)) h=some (.tup (al.take i),h):=by simp only[slW]; rw[cut_to (by omega)]
  have er:=e1 w (al.take i) h dw hok
  simp only[List.zipIdx_cons,List.map_cons]
  have g:gTp [gNm 1,gNm 2] (.tup [.int (i:Nat),w]) [some (.tup al),o1,o2] h=some ([some (.tup al),some (.int (i:Nat)),some w],h):=by simp[gTp,gTps,bnd,gNm]
  cases q:isRule (al.take i) w with
  | false=>
   refine⟨[],?_⟩
   unfold forL
   rw[g]
   have b:sIf (tNotM (tVal (eArgs G.f_is_rule [(eSl (eVar 0) none (some (eVar 1))),(eVar 2)]))) (sRet (eC (.bl false))) sNext [some (.tup al),some (.int (i:Nat)),some w] h=some (.ret (.bl false),h):=by
    simp![eSl,mPart,es,er,q]
   simp only[b]
   simp[rulesFrom,q]
  | true=>
   obtain⟨ρ,e⟩:=rules_loop hal e1 r (i+1) (some (.int (i:Nat))) (some w) hr' (hok.snoc hi (rule_shape q))
   refine⟨ρ,?_⟩
   unfold forL
   rw[g]
   have b:sIf (tNotM (tVal (eArgs G.f_is_rule [(eSl (eVar 0) none (some (eVar 1))),(eVar 2)]))) (sRet (eC (.bl false))) sNext [some (.tup al),some (.int (i:Nat)),some w] h=some (.nx [some (.tup al),some (.int (i:Nat)),some w],h):=by
    simp![eSl,mPart,es,er,q]
   simp only[b]
   rw[e]
   simp[rulesFrom,q]
theorem s_is_rules{F:Fs}{w:W}{h:MH}(d:dt 61 w=true):(step (step (step (step (step (step (step (step F)))))))).f_is_rules [w] h=some (.bl (isRules w),h):=by
 refine gc_dt (n:=1) ?_ rfl
 have e1:=fun(w:W) (rl:List W) (h:MH) (d:dt 60 w=true) (hr:RulesOk rl)=>s_is_rule (F:=F) (h:=h) d hr
 generalize step (step (step (step (step (step (step F))))))=G at e1
 cases w with
 | tup al=>
  obtain⟨m,hm,hl,hd⟩:=dt_tup d
  have hm':m=60:=by omega
  subst hm'
  by_cases h4:al.length≤4
  .have q:¬(4:Int)<(al.length:Int):=by omega
   obtain⟨ρ,e⟩:=rules_loop (h:=h) hd e1 al 0 none none (by simp) (fun r hr=>by simp at hr)
   have en:numbered al=(al.zipIdx 0).map fun p=>.tup [.int (p.2:Nat),p.1]:=rfl
   cases qq:rulesFrom al 0 al with
   | true=>rw[qq] at e; simp![b_f_is_rules,isW_dt d,tyB,lenW,c_MOST_RULES,cmpI,q,sFor,iEnum,enumW,sndOf,en,e,isRules,h4,qq]
   | false=>rw[qq] at e; simp![b_f_is_rules,isW_dt d,tyB,lenW,c_MOST_RULES,cmpI,q,sFor,iEnum,enumW,sndOf,en,e,isRules,h4,qq]
  .have q:(4:Int)<(al.length:Int):=by omega
   simp![b_f_is_rules,isW_dt d,tyB,lenW,c_MOST_RULES,cmpI,q,isRules,h4]
 | _=>simp![b_f_is_rules,isW_dt d,tyB,isRules]
theorem eqB_fnil{n:Nat}{l:List W}{h:MH}(d:dt n (.fls l)=true)(hn:n≤60):eqB h (.fls l) (.fls [])=some l.isEmpty:=by
 have e1:=dataW_dt (h:=h) d (show n≤deep from hn)
 have e2:=dataW_dt (h:=h) (show dt 1 (.fls [])=true from rfl) (show 1≤deep by decide)
 unfold eqB
 simp only[eqF,e1,e2]
 congr 1
 cases n with
 | zero=>cases d
 | succ n=>
  cases l<;>simp[toD,PyData.eqv,PyData.eqvAll]
theorem fits_left(o:Option Nat):decide (leftV o 60<0) = !fits 60 o:=by
 cases o with
 | none=>simp[leftV,fits]
 | some t=>
  simp only[leftV,fits]
  by_cases h:t≤60
  .have:(t:Int)≤60:=by omega
   simp[h,this]
  .have:¬(t:Int)≤60:=by omega
   simp[h,this]
noncomputable def pB(F:Fs):MS:=(sSeq (sIf (tOrM (tNotM (tVal (eUn (isW .tuple) (eVar 3)))) (tOrM (tVal (eOp gtW (eArgs lenW [(eVar 3)]) (eC (.int 2)))) (tAndM (tVal (eOp (eqW false) (eArgs lenW [(eVar 3)]) (eC (.int 2)))) (tVal (eOp (eqW false) (eOp ixW (eVar 3) (eC (.int 0))) (eOp ixW (eVar 3) (eC (.int 1))))))))
 (sRet (eC (.bl false)))
 sNext)
 (sIf (tVal (eOp (eqW true) (eComp (iSeq (eVar 3)) 1 [4] (gNm 0) (tNotM (tVal (eArgs F.f_law_is_word [(eVar 0),(eVar 1)]))) (eVar 0)) (eArgs flsW [])))
 (sRet (eC (.bl false)))
 sNext))
theorem pair_ok{G:Fs}{n:Nat}{x0 x1 x2:Option W}{w:W}{lt:Str}{h:MH}(eW:∀(v:W) h,dt n v=true→G.f_law_is_word [v,.str lt] h=some (.bl (isWord lt v),h))(d:dt (n+1) w=true)(hn:n+1≤60) :
  pB G [x0,x1,x2,some w,some (.str lt)] h=some (if headB lt w=true then .nx [x0,x1,x2,some w,some (.str lt)] else .ret (.bl false),h):=by
 cases w with
 | tup la=>
  obtain⟨m,e,hl,hd⟩:=dt_tup d
  cases e
  have ec:eComp (iSeq (eVar 3)) 1 [4] (gNm 0) (tNotM (tVal (eArgs G.f_law_is_word [(eVar 0),(eVar 1)]))) (eVar 0) [x0,x1,x2,some (.tup la),some (.str lt)] h=some (.fls ((la.filter fun w=>!isWord lt w).map fun w=>w),h):=by
   refine comp1 (fun w=>!isWord lt w) (fun w=>w) ?_ ?_ ?_ ?_ (Nat.le_trans hl (by decide))
   .simp![iSeq,srcOf]
   .intro w hw H'
    simp![eW w H' (hd w hw)]
   .intro w hw _ H'
    simp![]
   .intro w hw _
    exact dt_low (hd w hw)
  rw[List.map_id'] at ec
  have dl:dt (n+1) (.fls (la.filter fun w=>!isWord lt w))=true:=by
   unfold dt
   rw[Bool.and_eq_true]
   exact⟨decide_eq_true (Nat.le_trans (List.length_filter_le _ _) hl),List.all_eq_true.mpr fun v hv=>hd v (List.mem_filter.mp hv).1⟩
  have eq:=eqB_fnil (h:=h) dl hn
  have hall:(la.filter fun w=>!isWord lt w).isEmpty=la.all (isWord lt):=by
   rw[Bool.eq_iff_iff,List.isEmpty_iff,List.filter_eq_nil_iff,List.all_eq_true]
   simp
  rw[hall] at eq
  by_cases h2:la.length≤2
  .have q:¬(2:Int)<(la.length:Int):=by omega
   match la,h2,d,hl,hd,ec,eq with
   | [a,b],h2,d,hl,hd,ec,eq=>
    have da:=hd a (by simp); have db:=hd b (by simp)
    have hm':n≤60:=by omega
    have e1:=dataW_dt (h:=h) da (show n≤deep from hm')
    have e2:=dataW_dt (h:=h) db (show n≤deep from hm')
    have hab:∃c,eqB h a b=some c∧(isWord lt a=true→isWord lt b=true→c = !un2 [a,b]):=by
     cases a with
     | str y=>
      cases b with
      | str z=>exact⟨y==z,rfl,fun _ _=>by simp[un2]⟩
      | _=>exact⟨_,by unfold eqB; simp only[eqF,e1,e2]; rfl,fun _ q=>by cases q⟩
     | _=>
      cases b<;>first
      | exact⟨_,by unfold eqB; simp only[eqF,e1,e2]; rfl,fun q _=>by cases q⟩
      | exact⟨_,rfl,fun q _=>by cases q⟩
    obtain⟨c,ec1,ec2⟩:=hab
    cases c with
    | true=>
     have hb:headB lt (.tup [a,b])=false:=by
      cases w1:isWord lt a<;>cases w2:isWord lt b<;>simp[headB,w1,w2]
      have:=ec2 w1 w2
      simpa using this
     simp![pB,isW_dt d,tyB,lenW,cmpI,eqB_int,ix0,ix1,ec1,hb]
    | false=>
     have hb:headB lt (.tup [a,b])=[a,b].all (isWord lt):=by
      cases w1:isWord lt a<;>cases w2:isWord lt b<;>simp[headB,w1,w2]
      have:=ec2 w1 w2
      simpa using this
     rw[hb]
     have hseq:pB G=sSeq (sIf (tOrM (tNotM (tVal (eUn (isW .tuple) (eVar 3)))) (tOrM (tVal (eOp gtW (eArgs lenW [(eVar 3)]) (eC (.int 2)))) (tAndM (tVal (eOp (eqW false) (eArgs lenW [(eVar 3)]) (eC (.int 2)))) (tVal (eOp (eqW false) (eOp ixW (eVar 3) (eC (.int 0))) (eOp ixW (eVar 3) (eC (.int 1)))))))) (sRet (eC (.bl false))) sNext) (sIf (tVal (eOp (eqW true) (eComp (iSeq (eVar 3)) 1 [4] (gNm 0) (tNotM (tVal (eArgs G.f_law_is_word [(eVar 0),(eVar 1)]))) (eVar 0)) (eArgs flsW []))) (sRet (eC (.bl false))) sNext):=rfl
     rw[hseq]
     generalize eComp (iSeq (eVar 3)) 1 [4] (gNm 0) (tNotM (tVal (eArgs G.f_law_is_word [(eVar 0),(eVar 1)]))) (eVar 0)=C at ec
     cases wa:[a,b].all (isWord lt)<;>rw[wa] at eq<;>simp![isW_dt d,tyB,lenW,cmpI,eqB_int,ix0,ix1,ec1,ec,flsW,eq]
   | [a],h2,d,hl,hd,ec,eq=>
    have hb:headB lt (.tup [a])=[a].all (isWord lt):=by
     have:un2 [a]=true:=by cases a<;>rfl
     simp[headB,this]
    rw[hb]
    have hseq:pB G=sSeq (sIf (tOrM (tNotM (tVal (eUn (isW .tuple) (eVar 3)))) (tOrM (tVal (eOp gtW (eArgs lenW [(eVar 3)]) (eC (.int 2)))) (tAndM (tVal (eOp (eqW false) (eArgs lenW [(eVar 3)]) (eC (.int 2)))) (tVal (eOp (eqW false) (eOp ixW (eVar 3) (eC (.int 0))) (eOp ixW (eVar 3) (eC (.int 1)))))))) (sRet (eC (.bl false))) sNext) (sIf (tVal (eOp (eqW true) (eComp (iSeq (eVar 3)) 1 [4] (gNm 0) (tNotM (tVal (eArgs G.f_law_is_word [(eVar 0),(eVar 1)]))) (eVar 0)) (eArgs flsW []))) (sRet (eC (.bl false))) sNext):=rfl
    rw[hseq]
    generalize eComp (iSeq (eVar 3)) 1 [4] (gNm 0) (tNotM (tVal (eArgs G.f_law_is_word [(eVar 0),(eVar 1)]))) (eVar 0)=C at ec
    cases wa:[a].all (isWord lt)<;>rw[wa] at eq<;>simp![isW_dt d,tyB,lenW,cmpI,eqB_int,ec,flsW,eq]
   | [],h2,d,hl,hd,ec,eq=>
    have hb:headB lt (.tup [])=true:=by simp[headB,un2]
    rw[hb]
    have hseq:pB G=sSeq (sIf (tOrM (tNotM (tVal (eUn (isW .tuple) (eVar 3)))) (tOrM (tVal (eOp gtW (eArgs lenW [(eVar 3)]) (eC (.int 2)))) (tAndM (tVal (eOp (eqW false) (eArgs lenW [(eVar 3)]) (eC (.int 2)))) (tVal (eOp (eqW false) (eOp ixW (eVar 3) (eC (.int 0))) (eOp ixW (eVar 3) (eC (.int 1)))))))) (sRet (eC (.bl false))) sNext) (sIf (tVal (eOp (eqW true) (eComp (iSeq (eVar 3)) 1 [4] (gNm 0) (tNotM (tVal (eArgs G.f_law_is_word [(eVar 0),(eVar 1)]))) (eVar 0)) (eArgs flsW []))) (sRet (eC (.bl false))) sNext):=rfl
    rw[hseq]
    generalize eComp (iSeq (eVar 3)) 1 [4] (gNm 0) (tNotM (tVal (eArgs G.f_law_is_word [(eVar 0),(eVar 1)]))) (eVar 0)=C at ec
    simp only[List.filter_nil,List.all_nil] at eq
    simp![isW_dt d,tyB,lenW,cmpI,eqB_int,ec,flsW,eq]
  .have q:(2:Int)<(la.length:Int):=by omega
   simp![pB,isW_dt d,tyB,lenW,cmpI,q,headB,h2]
 | _=>simp![pB,isW_dt d,tyB,headB]
noncomputable def rB0(F:Fs):MS:=(sIf (tOrM (tNotM (tVal (eUn (isW .tuple) (eVar 2)))) (tVal (eOp (eqW true) (eArgs lenW [(eVar 2)]) (eC (.int 3)))))
 (sRet (eC (.bl false)))
 sNext)
noncomputable def rB1(F:Fs):MS:=(sFor (iSeq (eArgs tupW [(eArgs tupW [(eOp ixW (eVar 2) (eC (.int 0))),(eC (.str "xyz"))]),(eArgs tupW [(eOp ixW (eVar 2) (eC (.int 1))),(eC (.str "fg"))])])) (gTp [(gNm 3),(gNm 4)]) (pB F))
noncomputable def rB2(F:Fs):MS:=(sIf (tVal (eOp ltW (eArgs F.f_law_left [(eVar 0),(eVar 1),(eOp ixW (eVar 2) (eC (.int 2))),(eArgs listW [(eOp addW (eOp ixW (eVar 2) (eC (.int 0))) (eOp ixW (eVar 2) (eC (.int 1))))]),(eC (.int 60))]) (eC (.int 0))))
 (sRet (eC (.bl false)))
 sNext)
noncomputable def rB(F:Fs):MS:=sSeq (rB0 F) (sSeq (rB1 F) (rB2 F))
theorem rules_row(F:Fs):b_f_law_is_rules F=sSeq (sIf (tOrM (tNotM (tVal (eUn (isW .tuple) (eVar 0)))) (tVal (eOp gtW (eArgs lenW [(eVar 0)]) (eC (.int 4))))) (sRet (eC (.bl false))) sNext)
 (sSeq (sFor (iEnum [(eVar 0)]) (gTp [(gNm 1),(gNm 2)]) (rB F)) (sRet (eC (.bl true)))):=rfl
theorem pairs_loop{G:Fs}{n:Nat}{x0 x1 x2 o3 o4:Option W}{a b:W}{h:MH}(eW:∀(v:W) (lt:Str) h,dt n v=true→G.f_law_is_word [v,.str lt] h=some (.bl (isWord lt v),h))(da:dt (n+1) a=true)(db:dt (n+1) b=true)(hn:n+1≤60) :
  ∃y3 y4,forL (gTp [gNm 3,gNm 4]) (pB G) [.tup [a,.str "xyz"],.tup [b,.str "fg"]] [x0,x1,x2,o3,o4] h=some (if (headB "xyz" a&&headB "fg" b)=true then Fl.nx [x0,x1,x2,y3,y4] else .ret (.bl false),h):=by
 have g1:gTp [gNm 3,gNm 4] (.tup [a,.str "xyz"]) [x0,x1,x2,o3,o4] h=some ([x0,x1,x2,some a,some (.str "xyz")],h):=by simp[gTp,gTps,bnd,gNm]
 have p1:=pair_ok (x0:=x0) (x1:=x1) (x2:=x2) (h:=h) (fun v h d=>eW v "xyz" h d) da hn
 have g2:gTp [gNm 3,gNm 4] (.tup [b,.str "fg"]) [x0,x1,x2,some a,some (.str "xyz")] h=some ([x0,x1,x2,some b,some (.str "fg")],h):=by simp[gTp,gTps,bnd,gNm]
 have p2:=pair_ok (x0:=x0) (x1:=x1) (x2:=x2) (h:=h) (fun v h d=>eW v "fg" h d) db hn
 refine⟨some b,some (.str "fg"),?_⟩
 cases q1:headB "xyz" a with
 | false=>
  rw[q1] at p1
  unfold forL
  rw[g1]
  simp[p1]
 | true=>
  rw[q1] at p1
  unfold forL
  rw[g1]
  simp only[p1,if_true]
  unfold forL
  rw[g2]
  cases q2:headB "fg" b with
  | false=>rw[q2] at p2; simp[p2]
  | true=>rw[q2] at p2; simp[p2,forL]
theorem rule_turn{G:Fs}{al:List W}{i:Nat}{w:W}{o3 o4:Option W}{h:MH}(eW:∀(v:W) (lt:Str) h,dt 58 v=true→G.f_law_is_word [v,.str lt] h=some (.bl (isWord lt v),h))(H:LeftOk G al i 60)(d:dt 60 w=true) :
  ∃y3 y4,rB G [some (.tup al),some (.int (i:Nat)),some w,o3,o4] h=some (if isRule (al.take i) w=true then Fl.nx [some (.tup al),some (.int (i:Nat)),some w,y3,y4] else .ret (.bl false),h):=by
 cases w with
 | tup l=>
  obtain⟨m,hm,hl,hd⟩:=dt_tup d
  have hm':m=59:=by omega
  subst hm'
  match l,hd,hl,d with
  | [a,b,c],hd,hl,d=>
   have da:=hd a (by simp); have db:=hd b (by simp); have dc:=dt_mono (hd c (by simp)) (show 59≤60 by omega)
   have s0:rB0 G [some (.tup al),some (.int (i:Nat)),some (.tup [a,b,c]),o3,o4] h=some (.nx [some (.tup al),some (.int (i:Nat)),some (.tup [a,b,c]),o3,o4],h):=by
    simp![rB0,isW_dt d,tyB,lenW,eqB_int]
   obtain⟨y3,y4,e⟩:=pairs_loop (n:=58) (x0:=some (.tup al)) (x1:=some (.int (i:Nat))) (x2:=some (.tup [a,b,c])) (o3:=o3) (o4:=o4) (h:=h) eW da db (by omega)
   have s1:rB1 G [some (.tup al),some (.int (i:Nat)),some (.tup [a,b,c]),o3,o4] h=some (if (headB "xyz" a&&headB "fg" b)=true then Fl.nx [some (.tup al),some (.int (i:Nat)),some (.tup [a,b,c]),y3,y4] else .ret (.bl false),h):=by
    rw[←e]
    simp![rB1,sFor,iSeq,tupW,cap,ix0,ix1,srcOf]
   refine⟨y3,y4,?_⟩
   unfold rB
   rw[seq_nx s0]
   cases q:(headB "xyz" a&&headB "fg" b) with
   | false=>rw[q] at s1; rw[seq_ret s1]; simp[isRule,q]
   | true=>
    rw[q] at s1
    rw[seq_nx s1]
    rw[Bool.and_eq_true] at q
    obtain⟨la,rfl,l1,w1,_⟩:=head_shape q.1
    obtain⟨lb,rfl,l2,w2,_⟩:=head_shape q.2
    have ea:strsW (ksOf (.tup la) (.tup lb))=la++lb:=by
     rw[show ksOf (.tup la) (.tup lb)=(la++lb).map strOf from rfl]
     unfold strsW
     rw[List.map_append,List.map_append]
     have h1:=words_strs w1; have h2:=words_strs w2
     unfold strsW at h1 h2
     rw[←h1,←h2]
    obtain⟨m1,e3,_,da1⟩:=dt_tup da
    obtain⟨m2,e4,_,db1⟩:=dt_tup db
    have hk:(ksOf (.tup la) (.tup lb)).all PyData.strOk=true:=by
     rw[show ksOf (.tup la) (.tup lb)=(la++lb).map strOf from rfl,List.map_append,List.all_append,word_ok da1 w1,word_ok db1 w2]; rfl
    have hk2:(ksOf (.tup la) (.tup lb)).length+60≤900:=by rw[show ksOf (.tup la) (.tup lb)=(la++lb).map strOf from rfl]; simp; omega
    have e5:=H c (ksOf (.tup la) (.tup lb)) 60 h dc hk hk2 (by omega)
    rw[ea] at e5
    have hc:la.length+lb.length≤cap:=Nat.le_trans (show la.length+lb.length≤4 by omega) (by decide)
    have hfl:=fits_left (nodes (al.take i) 60 (c,ksOf (.tup la) (.tup lb)))
    cases qf:fits 60 (nodes (al.take i) 60 (c,ksOf (.tup la) (.tup lb)))<;>rw[qf] at hfl<;>simp![rB2,ix0,ix1,ix2,addW,addI,hc,listW,seqOf,e5,cmpI,hfl,isRule,q.1,q.2,qf]
  | [],hd,hl,d=>exact⟨o3,o4,by unfold rB; rw[seq_ret (w:=.bl false) (h':=h) (by simp![rB0,isW_dt d,tyB,lenW,eqB_int])]; simp[isRule]⟩
  | [_],hd,hl,d=>exact⟨o3,o4,by unfold rB; rw[seq_ret (w:=.bl false) (h':=h) (by simp![rB0,isW_dt d,tyB,lenW,eqB_int])]; simp[isRule]⟩
  | [_,_],hd,hl,d=>exact⟨o3,o4,by unfold rB; rw[seq_ret (w:=.bl false) (h':=h) (by simp![rB0,isW_dt d,tyB,lenW,eqB_int])]; simp[isRule]⟩
  | _::_::_::_::r,hd,hl,d=>
   have q:((r.length:Int)+1+1+1+1==3)=false:=by rw[beq_eq_false_iff_ne]; omega
   exact⟨o3,o4,by unfold rB; rw[seq_ret (w:=.bl false) (h':=h) (by simp![rB0,isW_dt d,tyB,lenW,eqB_int,q])]; simp[isRule]⟩
 | _=>exact⟨o3,o4,by unfold rB; rw[seq_ret (w:=.bl false) (h':=h) (by simp![rB0,isW_dt d,tyB])]; simp[isRule]⟩
theorem law_rules_loop{G:Fs}{al:List W}{h:MH}(hal:∀w∈al,dt 60 w=true)(eW:∀(v:W) (lt:Str) h,dt 58 v=true→G.f_law_is_word [v,.str lt] h=some (.bl (isWord lt v),h))(H:∀i,i≤al.length→RulesOk (al.take i)→LeftOk G al i 60) :
  ∀(r:List W) (i:Nat) (o1 o2 o3 o4:Option W),al.drop i=r→RulesOk (al.take i)→∃ρ,forL (gTp [gNm 1,gNm 2]) (rB G) ((r.zipIdx i).map fun p=>.tup [.int (p.2:Nat),p.1]) [some (.tup al),o1,o2,o3,o4] h =
   some (if rulesFrom al i r=true then Fl.nx ρ else .ret (.bl false),h)
 | [],i,o1,o2,o3,o4,_,_=>⟨_,by simp[forL,rulesFrom]; rfl⟩
 | w::r,i,o1,o2,o3,o4,hr,hok=>by
  have hi:al[i]?=some w:=by
   have:=congrArg List.head? hr
   rw[List.head?_drop] at this
   simpa using this
  have hil:i<al.length:=(List.getElem?_eq_some_iff.mp hi).1
  have hr':al.drop (i+1)=r:=by
   rw[←List.drop_drop,hr]
   simp
  have dw:=hal w (List.mem_of_getElem? hi)
  obtain⟨y3,y4,b⟩:=rule_turn (o3:=o3) (o4:=o4) (h:=h) eW (H i (by omega) hok) dw
  simp only[List.zipIdx_cons,List.map_cons]
  have g:gTp [gNm 1,gNm 2] (.tup [.int (i:Nat),w]) [some (.tup al),o1,o2,o3,o4] h=some ([some (.tup al),some (.int (i:Nat)),some w,o3,o4],h):=by simp[gTp,gTps,bnd,gNm]
  cases q:isRule (al.take i) w with
  | false=>
   rw[q] at b
   refine⟨[],?_⟩
   unfold forL
   rw[g]
   simp only[b]
   simp[rulesFrom,q]
  | true=>
   rw[q] at b
   obtain⟨ρ,e⟩:=law_rules_loop hal eW H r (i+1) (some (.int (i:Nat))) (some w) y3 y4 hr' (hok.snoc hi (rule_shape q))
   refine⟨ρ,?_⟩
   unfold forL
   rw[g]
   simp only[b,if_true]
   rw[e]
   simp[rulesFrom,q]
theorem s_law_is_rules{F:Fs}{w:W}{h:MH}(d:dt 61 w=true):(step (up 180 F)).f_law_is_rules [w] h=some (.bl (isRules w),h):=by
 refine gc_dt (n:=1) ?_ rfl
 have eW:=fun(v:W) (lt:Str) (h:MH) (d:dt 58 v=true)=>s_law_is_word (F:=up 179 F) (l:=lt) (h:=h) d
 have e180:step (up 179 F)=up 180 F:=rfl
 rw[e180] at eW
 show fnM 1 4 (b_f_law_is_rules (up 180 F)) [w] h=_
 cases w with
 | tup al=>
  obtain⟨m,hm,hl,hd⟩:=dt_tup d
  have hm':m=60:=by omega
  subst hm'
  have H:∀i,i≤al.length→RulesOk (al.take i)→LeftOk (up 180 F) al i 60:=fun i hi hr=>left_all hi hr 60 (by omega) F
  generalize up 180 F=G at eW H
  rw[rules_row]
  by_cases h4:al.length≤4
  .have q:¬(4:Int)<(al.length:Int):=by omega
   obtain⟨ρ,e⟩:=law_rules_loop (h:=h) hd eW H al 0 none none none none (by simp) (fun r hr=>by simp at hr)
   have en:numbered al=(al.zipIdx 0).map fun p=>.tup [.int (p.2:Nat),p.1]:=rfl
   cases qq:rulesFrom al 0 al with
   | true=>rw[qq] at e; simp![isW_dt d,tyB,lenW,cmpI,q,sFor,iEnum,enumW,sndOf,en,e,isRules,h4,qq]
   | false=>rw[qq] at e; simp![isW_dt d,tyB,lenW,cmpI,q,sFor,iEnum,enumW,sndOf,en,e,isRules,h4,qq]
  .have q:(4:Int)<(al.length:Int):=by omega
   simp![isW_dt d,tyB,lenW,cmpI,q,isRules,h4]
 | _=>simp![rules_row,isW_dt d,tyB,isRules]
theorem s_is_deed{F:Fs}{w:W}{rl:List W}{h:MH}(d:dt 60 w=true)(hr:RulesOk rl):(step (step (step (step (step (step (step F))))))).f_is_deed [.tup rl,w] h=some (.bl (fits 60 (nodes rl 60 (w,[]))),h):=by
 refine gc_dt (n:=1) ?_ rfl
 have e:=s_is_deed_where (F:=F) (h:=h) (ks:=[]) d rfl (by simp) hr
 generalize step (step (step (step (step (step F)))))=G at e
 have e':G.f_is_deed_where [.tup rl,w,.tup []] h=some (.bl (fits 60 (nodes rl 60 (w,[]))),h):=e
 simp![b_f_is_deed,tupW,cap,e']
noncomputable def scr(ns:List Int):W:=.fls (ns.map W.int)
theorem scr_dt{ns:List Int}(h:ns.length≤63):dt 2 (scr ns)=true:=by
 unfold scr dt
 rw[Bool.and_eq_true]
 refine⟨decide_eq_true (by simp; omega),List.all_eq_true.mpr fun w hw=>?_⟩
 obtain⟨i,_,rfl⟩:=List.mem_map.mp hw
 rfl
noncomputable def cellV(ns:List Int)(k:Int):Int:=if ns=[] then 7*k else ns.getD (k%ns.length).toNat 0+6553*(k/ns.length)
theorem dt_int(i:Int):dt 1 (.int i)=true:=rfl
theorem s_cell{F:Fs}{ns:List Int}{k:Int}{h:MH}(hl:ns.length≤63):(step F).f_law_cell [scr ns,.int k] h=some (.int (cellV ns k),h):=by
 refine gc_dt (n:=1) ?_ rfl
 have eq:=eqB_fnil (h:=h) (scr_dt hl) (by omega)
 have sm:(small 7||small k)=true:=by rw[show small 7=true by decide]; rfl
 cases ns with
 | nil=>
  have eq':eqB h (scr []) (.fls [])=some true:=eq
  simp![b_f_law_cell,flsW,cap,eq',mulW,sm,cellV]
 | cons n r=>
  have eq':eqB h (scr (n::r)) (.fls [])=some false:=eq
  have hp:(0:Int)<(r.length:Int)+1:=by omega
  have hb:(r.length:Int)+1<1073741824:=by simp at hl; omega
  have hm0:=Int.emod_nonneg k (show((r.length:Int)+1)≠0 by omega)
  have hm1:=Int.emod_lt_of_pos k hp
  have hlen:lenW [scr (n::r)] h=some (.int ((r.length:Int)+1),h):=by simp[lenW,scr,getL]
  have hix:ixW (scr (n::r)) (.int (k%((r.length:Int)+1))) h=some (.int ((n::r).getD (k%((r.length:Int)+1)).toNat 0),h):=by
   have hj:(k%((r.length:Int)+1)).toNat<(n::r).length:=by simp; omega
   have e1:((n::r).map W.int)[(k%((r.length:Int)+1)).toNat]?=some (.int ((n::r).getD (k%((r.length:Int)+1)).toNat 0)):=by
    rw[List.getElem?_map,List.getElem?_eq_getElem hj]
    simp only[Option.map_some,List.getD,List.getElem?_eq_getElem hj,Option.getD_some]
   have e2:atI ((n::r).map W.int) (k%((r.length:Int)+1))=some (.int ((n::r).getD (k%((r.length:Int)+1)).toNat 0)):=by
    unfold atI ixN
    rw[if_pos hm0,if_pos (by simp; omega)]
    exact e1
   simp only[ixW,scr,getL,e2]
  have sm2:(small 6553||small (k/((r.length:Int)+1)))=true:=by rw[show small 6553=true by decide]; rfl
  simp![b_f_law_cell,flsW,cap,eq',hlen,modW,hp,hix,divW,hb,mulW,sm2,addW,addI,cellV]
noncomputable def h1V(ns:List Int)(k:Int):Int:=(cellV ns k%2147483563*69069+104723*(k+1))%2147483563
noncomputable def h2V(ns:List Int)(k:Int):Int:=(h1V ns k*h1V ns k+h1V ns k/3)%2147483399
noncomputable def drawV(ns:List Int)(k many:Int):Int:=(h2V ns k*h2V ns k+h2V ns k/7)%2147483647/11%many
theorem small_of{i:Int}(h0:0≤i)(h1:i<2147483648):small i=true:=by
 unfold small
 exact decide_eq_true ⟨by omega,by omega⟩
theorem s_drawn{F:Fs}{ns:List Int}{k many:Int}{h:MH}(hl:ns.length≤63)(hm:0<many):(step (step F)).f_law_drawn [scr ns,.int k,.int many] h=some (.int (drawV ns k many),h):=by
 refine gc_dt (n:=1) ?_ rfl
 have e:=fun h=>s_cell (F:=F) (k:=k) (h:=h) hl
 generalize step F=G at e
 have a1:0≤h1V ns k∧h1V ns k<2147483563:=⟨Int.emod_nonneg _ (by omega),Int.emod_lt_of_pos _ (by omega)⟩
 have a2:0≤h2V ns k∧h2V ns k<2147483399:=⟨Int.emod_nonneg _ (by omega),Int.emod_lt_of_pos _ (by omega)⟩
 have c0:0≤cellV ns k%2147483563∧cellV ns k%2147483563<2147483563:=⟨Int.emod_nonneg _ (by omega),Int.emod_lt_of_pos _ (by omega)⟩
 have s1:(small (cellV ns k%2147483563)||small 69069)=true:=by rw[small_of c0.1 (by omega)]; rfl
 have s2:(small 104723||small (k+1))=true:=by rw[show small 104723=true by decide]; rfl
 have s3:(small (h1V ns k)||small (h1V ns k))=true:=by rw[small_of a1.1 (by omega)]; rfl
 have s4:(small (h2V ns k)||small (h2V ns k))=true:=by rw[small_of a2.1 (by omega)]; rfl
 have m1:∀h,mulW (.int (cellV ns k%2147483563)) (.int 69069) h=some (.int (cellV ns k%2147483563*69069),h):=fun h=>by simp only[mulW,s1,if_true]
 have m2:∀h,mulW (.int 104723) (.int (k+1)) h=some (.int (104723*(k+1)),h):=fun h=>by simp only[mulW,s2,if_true]
 have m3:∀h,mulW (.int (h1V ns k)) (.int (h1V ns k)) h=some (.int (h1V ns k*h1V ns k),h):=fun h=>by simp only[mulW,s3,if_true]
 have m4:∀h,mulW (.int (h2V ns k)) (.int (h2V ns k)) h=some (.int (h2V ns k*h2V ns k),h):=fun h=>by simp only[mulW,s4,if_true]
 have f1:(cellV ns k%2147483563*69069+104723*(k+1))%2147483563=h1V ns k:=rfl
 have f2:(h1V ns k*h1V ns k+h1V ns k/3)%2147483399=h2V ns k:=rfl
 have f3:(h2V ns k*h2V ns k+h2V ns k/7)%2147483647/11%many=drawV ns k many:=rfl
 have b1:(sAsg (eOp modW (eOp addW (eOp mulW (eOp modW (eArgs G.f_law_cell [(eVar 0),(eVar 1)]) (eC (.int 2147483563))) (eC (.int 69069))) (eOp mulW (eC (.int 104723)) (eOp addW (eVar 1) (eC (.int 1))))) (eC (.int 2147483563))) (gNm 3)) [some (scr ns),some (.int k),some (.int many),none] h=some (.nx [some (scr ns),some (.int k),some (.int many),some (.int (h1V ns k))],h):=by
  simp![e,modW,m1,m2,addW,addI,f1]
 have b2:(sAsg (eOp modW (eOp addW (eOp mulW (eVar 3) (eVar 3)) (eOp divW (eVar 3) (eC (.int 3)))) (eC (.int 2147483399))) (gNm 3)) [some (scr ns),some (.int k),some (.int many),some (.int (h1V ns k))] h=some (.nx [some (scr ns),some (.int k),some (.int many),some (.int (h2V ns k))],h):=by
  simp![modW,m3,divW,addW,addI,f2]
 have b3:(sRet (eOp modW (eOp divW (eOp modW (eOp addW (eOp mulW (eVar 3) (eVar 3)) (eOp divW (eVar 3) (eC (.int 7)))) (eC (.int 2147483647))) (eC (.int 11))) (eVar 2))) [some (scr ns),some (.int k),some (.int many),some (.int (h2V ns k))] h=some (.ret (.int (drawV ns k many)),h):=by
  simp![modW,m4,divW,addW,addI,hm,f3]
 have row:b_f_law_drawn G [some (scr ns),some (.int k),some (.int many),none] h=some (.ret (.int (drawV ns k many)),h):=by
  unfold b_f_law_drawn
  rw[seq_nx b1,seq_nx b2,b3]
 simp only[fnM,List.length_cons,List.length_nil,if_true,List.map_cons,List.map_nil,List.replicate,List.cons_append,List.nil_append]
 simp only[row]
theorem draw_range{ns:List Int}{k many:Int}(hm:0<many):0≤drawV ns k many∧drawV ns k many<many:=⟨Int.emod_nonneg _ (by omega),Int.emod_lt_of_pos _ hm⟩
noncomputable def pl:Nat→W→Bool
 | 0,_=>false
 | _+1,.int i=>decide (0≤i)&&decide (i≤1008)
 | _+1,.str x=>PyData.strOk x&&decide (x.length≤1000)
 | n+1,.tup l=>decide (l.length≤4)&&l.all (pl n)
 | _+1,_=>false
theorem pl_tup{n:Nat}{l:List W}(d:pl n (.tup l)=true):∃m,n=m+1∧l.length≤4∧∀w∈l,pl m w=true:=by
 cases n with
 | zero=>cases d
 | succ m=>
  unfold pl at d
  rw[Bool.and_eq_true] at d
  exact⟨m,rfl,of_decide_eq_true d.1,fun w hw=>List.all_eq_true.mp d.2 w hw⟩
theorem pl_of{n:Nat}{l:List W}(hl:l.length≤4)(h:∀w∈l,pl n w=true):pl (n+1) (.tup l)=true:=by
 unfold pl
 rw[Bool.and_eq_true]
 exact⟨decide_eq_true hl,List.all_eq_true.mpr h⟩
theorem dt_of{n:Nat}{l:List W}(hl:l.length≤1000)(h:∀w∈l,dt n w=true):dt (n+1) (.tup l)=true:=by
 unfold dt
 rw[Bool.and_eq_true]
 exact⟨decide_eq_true hl,List.all_eq_true.mpr h⟩
theorem dt_fls{n:Nat}{l:List W}(hl:l.length≤1000)(h:∀w∈l,dt n w=true):dt (n+1) (.fls l)=true:=by
 unfold dt
 rw[Bool.and_eq_true]
 exact⟨decide_eq_true hl,List.all_eq_true.mpr h⟩
theorem pl_dt:∀{n:Nat} {w:W},pl n w=true→dt n w=true
 | 0,_,h=>by cases h
 | n+1,.non,h=>by cases h
 | n+1,.bl _,h=>by cases h
 | n+1,.int _,_=>rfl
 | n+1,.str _,h=>h
 | n+1,.tup l,h=>by
  obtain⟨m,e,hl,hd⟩:=pl_tup h
  cases e
  exact dt_of (by omega) fun w hw=>pl_dt (hd w hw)
 | n+1,.fls _,h=>by cases h
 | n+1,.ref _,h=>by cases h
 | n+1,.fdc _,h=>by cases h
 | n+1,.fn _,h=>by cases h
theorem pl_mono:∀{n m:Nat} {w:W},pl n w=true→n≤m→pl m w=true
 | 0,_,_,h,_=>by cases h
 | n+1,0,_,_,h=>by omega
 | n+1,m+1,.non,h,_=>by cases h
 | n+1,m+1,.bl _,h,_=>by cases h
 | n+1,m+1,.int _,h,_=>h
 | n+1,m+1,.str _,h,_=>h
 | n+1,m+1,.tup l,h,hn=>by
  obtain⟨m',e,hl,hd⟩:=pl_tup h
  cases e
  exact pl_of hl fun w hw=>pl_mono (hd w hw) (by omega)
 | n+1,m+1,.fls _,h,_=>by cases h
 | n+1,m+1,.ref _,h,_=>by cases h
 | n+1,m+1,.fdc _,h,_=>by cases h
 | n+1,m+1,.fn _,h,_=>by cases h
inductive Sh(rl:List W)(k:Nat):W→Prop
 | number (i:Int):Sh rl k (th "number" [.int i])
 | name (v:Str):Sh rl k (th "name" [.str v])
 | read (v:Str):Sh rl k (th "read" [.str v])
 | doo (v:Str):Sh rl k (th "do" [.str v])
 | ask:Sh rl k (th "ask" [])
 | write (v:Str) (a:List W):Sh rl k (th "write" [.str v,.tup a])
 | say (a:List W):Sh rl k (th "say" [.tup a])
 | lett (v:Str) (a b:List W):Sh rl k (th "let" [.str v,.tup a,.tup b])
 | own (v:Str) (a b:List W):Sh rl k (th "own" [.str v,.tup a,.tup b])
 | add (a b:List W):Sh rl k (th "add" [.tup a,.tup b])
 | less (a b:List W):Sh rl k (th "less" [.tup a,.tup b])
 | thenn (a b:List W):Sh rl k (th "then" [.tup a,.tup b])
 | loop (a b:List W):Sh rl k (th "loop" [.tup a,.tup b])
 | iff (a b c:List W):Sh rl k (th "if" [.tup a,.tup b,.tup c])
 | call (i:Nat) (a b:List W) (hi:i<k) (ns:List W) (hs:List Str) (body:W) (e:rl[i]?=some (.tup [.tup ns,.tup (strsW hs),body])):Sh rl k (th "call" [.int i,.tup a,.tup b])
inductive Pn:W→Prop
 | mk (x:Str) (r:List W) (p:Int×Int) (hc:(x==("call":Str))=false) (hf:fm x=some p) (hp:r.filter (tyB .tuple)=partsL (th x r)):Pn (th x r)
theorem Sh.split{rl:List W}{k:Nat}{w:W}(h:Sh rl k w):Pn w∨∃(i:Nat) (a b:List W) (ns:List W) (hs:List Str) (body:W),w=th "call" [.int i,.tup a,.tup b]∧i<k∧rl[i]?=some (.tup [.tup ns,.tup (strsW hs),body]):=by
 have key:∀(x:Str) (p:Int×Int),(x==("call":Str))=false→fm x=some p→∀r:List W,r.filter (tyB .tuple)=r.drop (p.2.toNat-1)→Pn (th x r):=by
  intro x p hc hf r hr
  refine .mk x r p hc hf ?_
  simp only[partsL,hc,hf,hr]
  rfl
 cases h with
 | number i=>exact .inl (key _ (2,2) (by decide +kernel) (by decide +kernel) _ (by simp[tyB]))
 | name v=>exact .inl (key _ (2,2) (by decide +kernel) (by decide +kernel) _ (by simp[tyB]))
 | read v=>exact .inl (key _ (2,2) (by decide +kernel) (by decide +kernel) _ (by simp[tyB]))
 | doo v=>exact .inl (key _ (2,2) (by decide +kernel) (by decide +kernel) _ (by simp[tyB]))
 | ask=>exact .inl (key _ (1,1) (by decide +kernel) (by decide +kernel) _ (by simp))
 | write v a=>exact .inl (key _ (3,2) (by decide +kernel) (by decide +kernel) _ (by simp[tyB]))
 | say a=>exact .inl (key _ (2,1) (by decide +kernel) (by decide +kernel) _ (by simp[tyB]))
 | lett v a b=>exact .inl (key _ (4,2) (by decide +kernel) (by decide +kernel) _ (by simp[tyB]))
 | own v a b=>exact .inl (key _ (4,2) (by decide +kernel) (by decide +kernel) _ (by simp[tyB]))
 | add a b=>exact .inl (key _ (3,1) (by decide +kernel) (by decide +kernel) _ (by simp[tyB]))
 | less a b=>exact .inl (key _ (3,1) (by decide +kernel) (by decide +kernel) _ (by simp[tyB]))
 | thenn a b=>exact .inl (key _ (3,1) (by decide +kernel) (by decide +kernel) _ (by simp[tyB]))
 | loop a b=>exact .inl (key _ (3,1) (by decide +kernel) (by decide +kernel) _ (by simp[tyB]))
 | iff a b c=>exact .inl (key _ (4,1) (by decide +kernel) (by decide +kernel) _ (by simp[tyB]))
 | call i a b hi ns hs body e=>exact .inr ⟨i,a,b,ns,hs,body,rfl,hi,e⟩
theorem partsL_call(i:Int)(a b:List W):partsL (th "call" [.int i,.tup a,.tup b])=a++b:=by simp[partsL]
theorem s_parts_sh{F:Fs}{n:Nat}{w:W}{rl:List W}{k:Nat}{h:MH}(d:dt n w=true)(ho:Sh rl k w):(step F).f_parts_of [w] h=some (.tup (partsL w),h):=by
 rcases ho.split with hp | ⟨i,a,b,ns,hs,body,rfl,hi,e⟩
 .obtain⟨x,r,p,t7,hp,hq⟩:=hp
  obtain⟨m,rfl,hl,hd⟩:=dt_tup d
  obtain⟨p1,p2⟩:=fm_pos hp
  obtain⟨k,hk⟩:=Int.eq_ofNat_of_zero_le (show 0≤p.2 by omega)
  have e:partsL (.tup (.str x::r))=(W.str x::r).drop k:=by
   simp only[partsL,t7,hp]
   rw[hk]
   cases k with
   | zero=>omega
   | succ k=>simp
  rw[e]
  refine gc_pure (h':=h) ?_ ?_ (List.prefix_refl _)
  .have ek:ixW (.tup [.int p.1,.int p.2]) (.int 1) h=some (.int p.2,h):=ix1
   simp![b_f_parts_of,ix0,eqB_str,t7,eSl,mPart,tabGet,t_fm,hp,ek,slW]
   rw[hk]
   exact cut_from
  .unfold low
   exact lows_of fun w hw=>dt_low (hd w (List.mem_of_mem_drop hw))
 .obtain⟨m,rfl,hl,hd⟩:=dt_tup d
  obtain⟨m1,rfl,la,da⟩:=dt_tup (hd (.tup a) (by simp))
  obtain⟨m2,e2,lb,db⟩:=dt_tup (hd (.tup b) (by simp))
  have hc:a.length+b.length≤cap:=Nat.le_trans (show a.length+b.length≤2000 by omega) (by decide)
  rw[partsL_call]
  refine gc_pure (h':=h) ?_ ?_ (List.prefix_refl _)
  .simp![b_f_parts_of,ix0,ix2,ix3,eqB_str,addW,addI,hc]
  .unfold low
   refine lows_of fun w hw=>?_
   rcases List.mem_append.mp hw with hw | hw
   .exact dt_low (da w hw)
   .exact dt_low (db w hw)
noncomputable def okd(rl:List W)(k:Nat):Nat→W→Prop
 | 0,_=>False
 | n+1,w=>Sh rl k w∧∀p∈partsL w,okd rl k n p
noncomputable def cnt:Nat→W→Nat
 | 0,_=>0
 | n+1,w=>1+((partsL w).map (cnt n)).sum
theorem okd_mono{rl:List W}{k:Nat}:∀{n m:Nat} {w:W},okd rl k n w→n≤m→okd rl k m w
 | 0,_,_,h,_=>by cases h
 | n+1,0,_,_,h=>by omega
 | n+1,m+1,w,h,hn=>⟨h.1,fun p hp=>okd_mono (h.2 p hp) (by omega)⟩
theorem map_sum_congr{f g:W→Nat}{l:List W}(h:∀p∈l,f p=g p):(l.map f).sum=(l.map g).sum:=by rw[List.map_congr_left h]
theorem cnt_mono{rl:List W}{k:Nat}:∀{n m:Nat} {w:W},okd rl k n w→n≤m→cnt m w=cnt n w
 | 0,_,_,h,_=>by cases h
 | n+1,0,_,_,h=>by omega
 | n+1,m+1,w,h,hn=>by
  unfold cnt
  rw[map_sum_congr fun p hp=>cnt_mono (h.2 p hp) (by omega)]
theorem cnt_pos{n:Nat}{w:W}:1≤cnt (n+1) w:=by unfold cnt; omega
theorem cnt_le{n B:Nat}{w:W}{l:Nat}(hl:(partsL w).length≤l)(h:∀p∈partsL w,cnt n p≤B):cnt (n+1) w≤1+l*B:=by
 unfold cnt
 have:∀ps:List W,(∀p∈ps,cnt n p≤B)→(ps.map (cnt n)).sum≤ps.length*B:=by
  intro ps
  induction ps with
  | nil=>intro _; simp
  | cons p r ih=>
   intro hp
   have h1:=hp p List.mem_cons_self
   have h2:=ih fun q hq=>hp q (List.mem_cons_of_mem _ hq)
   simp only[List.map_cons,List.sum_cons,List.length_cons,Nat.add_mul]
   omega
 have h1:=this _ h
 have h2:(partsL w).length*B≤l*B:=Nat.mul_le_mul_right _ hl
 omega
noncomputable def zT:MT:=tVal (eOp gtW (eArgs lenW [eVar 2]) (eC (.int 0)))
noncomputable def zB(F:Fs):MS:=(sSeq (sAug 1 augI (eC (.int 1)))
 (sExpr (eMethL extendM (eVar 2) [(eArgs F.f_parts_of [(eMethL popM (eVar 2) [])])])))
theorem size_loop{G:Fs}{h0:MH}{x0:Option W}{N:Nat}{rl:List W}{k:Nat}(e1:∀w h,dt 60 w=true→Sh rl k w→G.f_parts_of [w] h=some (.tup (partsL w),h)) :
  ∀(T:Nat) (s:List W) (c:Int),(∀w∈s,dt 60 w=true∧okd rl k N w)→(s.map (cnt N)).sum=T→T≤100000→
   whileN zT (zB G) (T+1) [x0,some (.int c),some (.ref h0.length)] (h0++[.lst s.reverse])=some (.nx [x0,some (.int (c+T)),some (.ref h0.length)],h0++[.lst []]):=by
 intro T
 induction T with
 | zero=>
  intro s c hs ht hT
  cases s with
  | nil=>
   have t:zT [x0,some (.int c),some (.ref h0.length)] (h0++[.lst []])=some (false,h0++[.lst []]):=by
    simp![zT,lenW,getL,at0,cmpI]
   simp only[List.reverse_nil]
   unfold whileN
   rw[t]
   simp
  | cons w r=>
   exfalso
   simp only[List.map_cons,List.sum_cons] at ht
   obtain⟨_,o⟩:=hs w List.mem_cons_self
   cases N with
   | zero=>cases o
   | succ N=>have:=cnt_pos (n:=N) (w:=w); omega
 | succ T ih=>
  intro s c hs ht hT
  cases s with
  | nil=>simp at ht
  | cons w r=>
   obtain⟨d,o⟩:=hs w List.mem_cons_self
   cases N with
   | zero=>cases o
   | succ N=>
   have hl:(0:Int)<(r.length:Int)+1:=by omega
   have t:zT [x0,some (.int c),some (.ref h0.length)] (h0++[.lst (w::r).reverse])=some (true,h0++[.lst (w::r).reverse]):=by
    simp![zT,lenW,getL,at0,cmpI,hl]
   have hsum:(((partsL w).reverse++r).map (cnt (N+1))).sum=T:=by
    simp only[List.map_cons,List.sum_cons] at ht
    have e:cnt (N+1) w=1+((partsL w).map (cnt (N+1))).sum:=by
     conv=>lhs; unfold cnt
     rw[map_sum_congr fun p hp=>(cnt_mono (o.2 p hp) (Nat.le_succ N)).symm]
    rw[List.map_append,List.sum_append,List.map_reverse,List.sum_reverse]
    omega
   have hlen:∀(l:List W),(∀p∈l,okd rl k (N+1) p)→l.length≤(l.map (cnt (N+1))).sum:=by
    intro l
    induction l with
    | nil=>intro _; simp
    | cons p q ihq=>
     intro hq
     have h1:=ihq fun z hz=>hq z (List.mem_cons_of_mem _ hz)
     have h2:=cnt_pos (n:=N) (w:=p)
     simp only[List.map_cons,List.sum_cons,List.length_cons]
     omega
   have hs':∀v∈(partsL w).reverse++r,dt 60 v=true∧okd rl k (N+1) v:=by
    intro v hv
    rcases List.mem_append.mp hv with z | z
    .have z:=List.mem_reverse.mp z
     exact⟨dt_mono (partsL_dt (n:=59) d v z) (by omega),okd_mono (o.2 v z) (Nat.le_succ _)⟩
    .exact hs v (List.mem_cons_of_mem _ z)
   have hle:=hlen _ fun p hp=>(hs' p hp).2
   rw[hsum,List.length_append,List.length_reverse] at hle
   have hc:r.length+(partsL w).length≤cap:=Nat.le_trans (show r.length+(partsL w).length≤100000 by omega) (by decide)
   have pe:=fun h=>e1 w h d o.1
   have b:zB G [x0,some (.int c),some (.ref h0.length)] (h0++[.lst (w::r).reverse])=some (.nx [x0,some (.int (c+1)),some (.ref h0.length)],h0++[.lst ((partsL w).reverse++r).reverse]):=by
    simp![zB,eMethL,getL,at0,popM,set0,sAug,augI,pe,extendM,seqOf,hc]
   have:=ih ((partsL w).reverse++r) (c+1) hs' hsum (by omega)
   unfold whileN
   rw[t]
   simp only[b]
   rw[this]
   have:c+1+(T:Int)=c+((T+1:Nat):Int):=by omega
   rw[this]
theorem s_size_of{F:Fs}{n k:Nat}{rl:List W}{w:W}{h:MH}(d:dt 60 w=true)(o:okd rl k n w)(hb:cnt n w≤100000):(step (step F)).f_size_of [w] h=some (.int (cnt n w),h):=by
 have e1:=fun(w:W) (h:MH) (d:dt 60 w=true) (o:Sh rl k w)=>s_parts_sh (F:=F) (h:=h) d o
 generalize step F=G at e1
 have c1:(1:Nat)≤cap:=by decide
 have e2:=sWhile_of (size_loop (h0:=h) (x0:=some w) (N:=n) e1 (cnt n w) [w] 0 (fun v hv=>by simp at hv; subst hv; exact⟨d,o⟩) (by simp) hb)
 refine gc_dt' (t:=[.lst []]) (n:=1) ?_ rfl
 have e3:sWhile (tVal (eOp gtW (eArgs lenW [eVar 2]) (eC (.int 0)))) (sSeq (sAug 1 augI (eC (.int 1))) (sExpr (eMethL extendM (eVar 2) [(eArgs G.f_parts_of [(eMethL popM (eVar 2) [])])]))) [some w,some (.int 0),some (.ref h.length)] (h++[.lst [w]])=_:=e2
 have q1:b_f_size_of G [some w,none,none] h=some (.ret (.int (cnt n w)),h++[.lst []]):=by
  unfold b_f_size_of
  rw[seq_nx (ρ':=[some w,some (.int 0),none]) (h':=h) (by simp![])]
  rw[seq_nx (ρ':=[some w,some (.int 0),some (.ref h.length)]) (h':=h++[.lst [w]]) (by simp![lstW,c1])]
  rw[seq_nx e3]
  simp![]
 simp only[fnM,List.length_cons,List.length_nil,if_true,List.map_cons,List.map_nil,List.replicate,List.cons_append,List.nil_append]
 simp only[q1]
theorem ints_map(l:List W)(f:W→Int):intsOf (l.map fun w=>.int (f w))=some (l.map f):=by
 induction l with
 | nil=>rfl
 | cons x r ih=>simp only[List.map_cons]; unfold intsOf; rw[ih]
theorem sumL_cast(l:List W)(f:W→Nat):sumL (l.map fun w=>((f w:Nat):Int))=((l.map f).sum:Nat):=by
 induction l with
 | nil=>rfl
 | cons x r ih=>simp only[List.map_cons,sumL,List.sum_cons,ih]; omega
theorem filter_true{α:Type}(l:List α):(l.filter fun _=>true)=l:=List.filter_eq_self.mpr (by simp)
theorem drop1{x:W}{r:List W}:cutW (x::r) (some 1) none=r:=by
 have:=cut_from (l:=x::r) (k:=1)
 simpa using this
theorem comp_tups{w:W}{r:List W}{x:W}{h:MH}{ρ:En}{n:Nat}(e0:ρ[0]?=some (some (.tup (x::r))))(hd:∀v∈r,dt n v=true)(hl:r.length≤1000) :
  eComp (iSeq (eSl (eVar 0) (some (eC (.int 1))) none)) 1 [] (gNm 0) (tVal (eUn (isW .tuple) (eVar 0))) (eVar 0) ρ h=some (.fls (r.filter (tyB .tuple)),h):=by
 have:=comp1 (mi:=iSeq (eSl (eVar 0) (some (eC (.int 1))) none)) (ks:=[]) (t:=tVal (eUn (isW .tuple) (eVar 0))) (m:=eVar 0) (ρ:=ρ) (h:=h) (l:=r) (tyB .tuple) id (by simp![iSeq,eSl,mPart,e0,slW,srcOf,drop1]) (fun v hv H'=>by simp![isW_dt (hd v hv)]) (fun v hv _ H'=>by simp![]) (fun v hv _=>dt_low (hd v hv)) (Nat.le_trans hl (by decide))
 rw[this]
 simp
theorem s_law_size{rl:List W}{k:Nat}:∀(n:Nat) (F:Fs) (w:W) (h:MH),dt 60 w=true→okd rl k n w→(up n F).f_law_size [w] h=some (.int (cnt n w),h)
 | 0,_,_,_,_,o=>by cases o
 | n+1,F,w,h,d,o=>by
  have ih:=fun(w:W) (h:MH) (d:dt 60 w=true) (o:okd rl k n w)=>s_law_size n F w h d o
  show gc (fnM 1 1 (b_f_law_size (up n F))) [w] h=_
  generalize up n F=G at ih
  have dp:∀v∈partsL w,dt 60 v=true:=fun v hv=>dt_mono (partsL_dt (n:=59) d v hv) (by omega)
  have es:∀ρ:En,ρ[1]?=some (some (.fls (partsL w)))→eComp (iSeq (eVar 1)) 1 [] (gNm 0) tTrue (eArgs G.f_law_size [eVar 0]) ρ h=some (.fls ((partsL w).map fun v=>.int (cnt n v:Nat)),h):=by
   intro ρ e1
   have:=comp1 (mi:=iSeq (eVar 1)) (ks:=[]) (t:=tTrue) (m:=eArgs G.f_law_size [eVar 0]) (ρ:=ρ) (h:=h) (l:=partsL w) (fun _=>true) (fun v=>.int (cnt n v:Nat)) (by simp![iSeq,e1,srcOf]) (fun v hv H'=>rfl) (fun v hv _ H'=>by simp![ih v H' (dp v hv) (o.2 v hv)]) (fun v hv _=>by unfold low; rfl) (Nat.le_trans (partsL_len d) (by decide))
   rw[this,filter_true]
  have fin:∀ρ:En,ρ[1]?=some (some (.fls (partsL w)))→(sRet (eOp addW (eC (.int 1)) (eArgs sumW [(eComp (iSeq (eVar 1)) 1 [] (gNm 0) tTrue (eArgs G.f_law_size [(eVar 0)]))]))) ρ h=some (.ret (.int (cnt (n+1) w:Nat)),h):=by
   intro ρ e1
   have:=es ρ e1
   have e2:=ints_map (partsL w) fun v=>((cnt n v:Nat):Int)
   simp![this,sumW,seqOf,getL,e2,addW,addI]
   rw[sumL_cast]
   unfold cnt
   omega
  refine gc_dt (n:=1) ?_ rfl
  suffices hs:b_f_law_size G [some w,none] h=some (.ret (.int (cnt (n+1) w:Nat)),h) by
   simp only[fnM,List.length_cons,List.length_nil,if_true,List.map_cons,List.map_nil,List.replicate,List.cons_append,List.nil_append]
   simp only[hs]
  rcases o.1.split with hp | ⟨i,a,b,ns,hs,body,rfl,hi,e⟩
  .obtain⟨x,r,p,hc,hf,hq⟩:=hp
   obtain⟨m,e,hl,hd⟩:=dt_tup d
   cases e
   have hl':r.length≤1000:=by simp at hl; omega
   have c1:=comp_tups (w:=th x r) (r:=r) (x:=.str x) (h:=h) (ρ:=[some (th x r),none]) (n:=59) rfl (fun v hv=>hd v (List.mem_cons_of_mem _ hv)) hl'
   rw[hq] at c1
   unfold b_f_law_size
   rw[seq_nx (ρ':=[some (th x r),some (.fls (partsL (th x r)))]) (h':=h) (by unfold sAsg; rw[c1]; simp![])]
   rw[seq_nx (ρ':=[some (th x r),some (.fls (partsL (th x r)))]) (h':=h) (by simp![ix0,eqB_str,hc])]
   exact fin _ rfl
  .obtain⟨m,e',hl,hd⟩:=dt_tup d
   cases e'
   obtain⟨m1,e1,la,da⟩:=dt_tup (hd (.tup a) (by simp))
   obtain⟨m2,e2,lb,db⟩:=dt_tup (hd (.tup b) (by simp))
   have hc:a.length+b.length≤cap:=Nat.le_trans (show a.length+b.length≤2000 by omega) (by decide)
   have c1:=comp_tups (w:=th "call" [.int i,.tup a,.tup b]) (r:=[.int i,.tup a,.tup b]) (x:=.str "call") (h:=h) (ρ:=[some (th "call" [.int i,.tup a,.tup b]),none]) (n:=59) rfl (fun v hv=>hd v (List.mem_cons_of_mem _ hv)) (by simp)
   rw[partsL_call] at fin
   unfold b_f_law_size
   rw[seq_nx (ρ':=[some (th "call" [.int i,.tup a,.tup b]),some (.fls ([.int i,.tup a,.tup b].filter (tyB .tuple)))]) (h':=h) (by unfold sAsg; rw[c1]; simp![])]
   rw[seq_nx (ρ':=[some (th "call" [.int i,.tup a,.tup b]),some (.fls (a++b))]) (h':=h) (by simp![ix0,ix2,ix3,eqB_str,addW,addI,hc,listW,seqOf])]
   exact fin _ rfl
noncomputable def HdOk(l:List (Key×W)):Prop:=∀p∈l,∃v,p.2=.int v
theorem putW_ok{l:List (Key×W)}{k:Key}{v:Int}(h:HdOk l):HdOk (putW l k (.int v)):=by
 intro p hp
 unfold putW at hp
 split at hp
 .obtain⟨q,hq,rfl⟩:=List.mem_map.mp hp
  split
  .exact⟨v,rfl⟩
  .exact h q hq
 .rcases List.mem_append.mp hp with z | z
  .exact h p z
  .simp at z; subst z; exact⟨v,rfl⟩
theorem mergeW_ok:∀{more l:List (Key×W)},HdOk l→HdOk more→HdOk (mergeW l more)
 | [],l,h,_=>h
 | (k,w)::r,l,h,hm=>by
  obtain⟨v,e⟩:=hm (k,w) List.mem_cons_self
  simp only at e
  subst e
  have:=mergeW_ok (more:=r) (l:=putW l k (.int v)) (putW_ok h) fun p hp=>hm p (List.mem_cons_of_mem _ hp)
  exact this
theorem valW_ok{l:List (Key×W)}{k:Key}(h:HdOk l):∃v,(valW l k).getD (.int 1)=.int v:=by
 unfold valW
 cases e:l.find? fun kv=>decide (kv.1=k) with
 | none=>exact⟨1,rfl⟩
 | some p=>
  obtain⟨v,hv⟩:=h p (List.mem_of_find?_eq_some e)
  exact⟨v,by simp[hv]⟩
structure RulesGood(rl:List W):Prop where
 g:∀i,i<rl.length→∃(ns:List W) (hs:List Str) (body:W),rl[i]?=some (.tup [.tup ns,.tup (strsW hs),body])∧dt 60 body=true∧okd rl i 3 body∧hs.length≤4
noncomputable def WOk(G:Fs)(rl:List W)(k n:Nat):Prop:=∀(w:W) (hd:List (Key×W)),okd rl k n w→dt 60 w=true→HdOk hd→∃v:Int,∀h,G.f_law_weight [.tup rl,w,.fdc hd] h=some (.int v,h)
noncomputable def wv(G:Fs)(rl:List W)(hd:List (Key×W))(w:W):Int:=match G.f_law_weight [.tup rl,w,.fdc hd] [] with
 | some (.int v,_)=>v
 | _=>0
theorem WOk.at{G:Fs}{rl:List W}{k n:Nat}(H:WOk G rl k n){w:W}{hd:List (Key×W)}(o:okd rl k n w)(d:dt 60 w=true)(q:HdOk hd)(h:MH):G.f_law_weight [.tup rl,w,.fdc hd] h=some (.int (wv G rl hd w),h):=by
 obtain⟨v,e⟩:=H w hd o d q
 unfold wv
 rw[e []]
 exact e h
noncomputable def four:List Str:=["number","name","ask","read"]
noncomputable abbrev ρw(rl:List W)(w:W)(hd:List (Key×W))(x:Str)(o4 o5 o6:Option W):En:=[some (.tup rl),some w,some (.fdc hd),some (.str x),o4,o5,o6]
noncomputable def w1(F:Fs):MS:=(sIf (tVal (eOp (inW false) (eVar 3) (eArgs tupW [(eC (.str "number")),(eC (.str "name")),(eC (.str "ask")),(eC (.str "read"))])))
 (sRet (eC (.int 1)))
 sNext)
noncomputable def w2(F:Fs):MS:=(sIf (tVal (eOp (eqW false) (eVar 3) (eC (.str "do"))))
 (sRet (eDget2 (eVar 2) (eOp ixW (eVar 1) (eC (.int 1))) (eC (.int 1))))
 sNext)
noncomputable def w3(F:Fs):MS:=(sIf (tVal (eOp (eqW false) (eVar 3) (eC (.str "call"))))
 (sSeq (sAsg (eArgs dictW [(eComp (iZip [(eOp ixW (eOp ixW (eVar 0) (eOp ixW (eVar 1) (eC (.int 1)))) (eC (.int 1))),(eOp ixW (eVar 1) (eC (.int 3)))]) 2 [0,2] (gTp [(gNm 0),(gNm 1)]) tTrue (eArgs tupW [(eVar 0),(eArgs F.f_law_weight [(eVar 2),(eVar 1),(eVar 3)])]))]) (gNm 4))
 (sSeq (sAsg (eArgs sumW [(eComp (iSeq (eOp ixW (eVar 1) (eC (.int 2)))) 1 [0,2] (gNm 0) tTrue (eArgs F.f_law_weight [(eVar 1),(eVar 0),(eVar 2)]))]) (gNm 5))
 (sRet (eOp addW (eOp addW (eC (.int 1)) (eVar 5)) (eArgs F.f_law_weight [(eVar 0),(eOp ixW (eOp ixW (eVar 0) (eOp ixW (eVar 1) (eC (.int 1)))) (eC (.int 2))),(eVar 4)])))))
 sNext)
noncomputable def w4(F:Fs):MS:=(sAsg (eComp (iSeq (eSl (eVar 1) (some (eC (.int 1))) none)) 1 [0,2] (gNm 0) (tVal (eUn (isW .tuple) (eVar 0))) (eArgs F.f_law_weight [(eVar 1),(eVar 0),(eVar 2)])) (gNm 6))
noncomputable def w5(F:Fs):MS:=(sIf (tVal (eOp (eqW false) (eVar 3) (eC (.str "loop"))))
 (sRet (eOp addW (eOp addW (eC (.int 1)) (eOp ixW (eVar 6) (eC (.int 0)))) (eOp mulW (eC (.int 3)) (eOp ixW (eVar 6) (eC (.int 1))))))
 sNext)
noncomputable def w6(F:Fs):MS:=(sRet (eOp addW (eC (.int 1)) (eArgs sumW [(eVar 6)])))
theorem w_row(F:Fs):b_f_law_weight F=sSeq (sAsg (eOp ixW (eVar 1) (eC (.int 0))) (gNm 3)) (sSeq (w1 F) (sSeq (w2 F) (sSeq (w3 F) (sSeq (w4 F) (sSeq (w5 F) (w6 F)))))):=rfl
theorem in4{x:Str}{h:MH}{n:Nat}(d:dt n (.str x)=true)(hn:n≤60):inB h (.str x) (.tup [.str "number",.str "name",.str "ask",.str "read"])=some (strIn four (.str x)):=inB_tups (l:=four) d hn (by decide +kernel)
theorem w1_yes{F:Fs}{rl:List W}{w:W}{hd:List (Key×W)}{x:Str}{h:MH}{n:Nat}(d:dt n (.str x)=true)(hn:n≤60)(q:strIn four (.str x)=true):w1 F (ρw rl w hd x none none none) h=some (.ret (.int 1),h):=by
 have c4:(4:Nat)≤cap:=by decide
 have e:=in4 (h:=h) d hn
 rw[q] at e
 simp![w1,tupW,c4,e]
theorem w1_no{F:Fs}{rl:List W}{w:W}{hd:List (Key×W)}{x:Str}{h:MH}{n:Nat}(d:dt n (.str x)=true)(hn:n≤60)(q:strIn four (.str x)=false):w1 F (ρw rl w hd x none none none) h=some (.nx (ρw rl w hd x none none none),h):=by
 have c4:(4:Nat)≤cap:=by decide
 have e:=in4 (h:=h) d hn
 rw[q] at e
 simp![w1,tupW,c4,e]
theorem w2_no{F:Fs}{rl:List W}{w:W}{hd:List (Key×W)}{x:Str}{h:MH}(q:(x==("do":Str))=false):w2 F (ρw rl w hd x none none none) h=some (.nx (ρw rl w hd x none none none),h):=by
 simp![w2,eqB_str,q]
theorem w3_no{F:Fs}{rl:List W}{w:W}{hd:List (Key×W)}{x:Str}{h:MH}(q:(x==("call":Str))=false):w3 F (ρw rl w hd x none none none) h=some (.nx (ρw rl w hd x none none none),h):=by
 simp![w3,eqB_str,q]
theorem pairs_map(l:List (Str×W))(f:W→Int):pairsOf (l.map fun p=>.tup [.str p.1,.int (f p.2)])=some (l.map fun p=>(.str p.1,.int (f p.2))):=by
 induction l with
 | nil=>rfl
 | cons x r ih=>simp only[List.map_cons]; unfold pairsOf; rw[ih]
theorem keys_map(l:List (Str×W))(f:W→Int):keysOf (l.map fun p=>(W.str p.1,W.int (f p.2)))=some (l.map fun p=>(.inr p.1,.int (f p.2))):=by
 induction l with
 | nil=>rfl
 | cons x r ih=>simp only[List.map_cons]; unfold keysOf; rw[ih]; rfl
theorem zip_strs(hs:List Str)(b:List W):(strsW hs).zip b=(hs.zip b).map fun p=>(W.str p.1,p.2):=by
 induction hs generalizing b with
 | nil=>rfl
 | cons x r ih=>
  cases b with
  | nil=>rfl
  | cons y b=>simp only[strsW,List.map_cons,List.zip_cons_cons,List.map_cons] at ih ⊢; rw[ih]
theorem strsW_inj:∀{a b:List Str},strsW a=strsW b→a=b
 | [],[],_=>rfl
 | [],y::b,h=>by simp[strsW] at h
 | x::a,[],h=>by simp[strsW] at h
 | x::a,y::b,h=>by
  simp only[strsW,List.map_cons,List.cons.injEq,W.str.injEq] at h
  rw[h.1,strsW_inj (a:=a) (b:=b) h.2]
theorem asg_of{m:ME}{g:MG}{ρ ρ':En}{h h' h2:MH}{w:W}(e1:m ρ h=some (w,h'))(e2:g w ρ h'=some (ρ',h2)):sAsg m g ρ h=some (.nx ρ',h2):=by
 unfold sAsg; rw[e1]; simp only[e2]
theorem args1_of{f:List W→M W}{m:ME}{ρ:En}{h h':MH}{w:W}(e:m ρ h=some (w,h')):eArgs f [m] ρ h=f [w] h':=by
 simp[eArgs,mArgs,bnd,e]
theorem weight_step{G:Fs}{rl:List W}{k n:Nat}(hr:RulesGood rl)(hk:k≤rl.length)(H:WOk G rl k n)(HB:∀i,i<k→WOk G rl i 3):WOk (step G) rl k (n+1):=by
 intro w hd o d q
 suffices hs:∃v:Int,∀h,b_f_law_weight G [some (.tup rl),some w,some (.fdc hd),none,none,none,none] h=some (.ret (.int v),h) by
  obtain⟨v,e⟩:=hs
  refine⟨v,fun h=>gc_dt (n:=1) ?_ rfl⟩
  simp only[fnM,List.length_cons,List.length_nil,if_true,List.map_cons,List.map_nil,List.replicate,List.cons_append,List.nil_append]
  simp only[e h]
 have dp:∀v∈partsL w,dt 60 v=true:=fun v hv=>dt_mono (partsL_dt (n:=59) d v hv) (by omega)
 have lp:=partsL_len d
 have start:∀x r,w=th x r→∀h,(sAsg (eOp ixW (eVar 1) (eC (.int 0))) (gNm 3)) [some (.tup rl),some w,some (.fdc hd),none,none,none,none] h=some (.nx (ρw rl w hd x none none none),h):=by
  intro x r e h
  subst e
  simp![ix0]
 have dx:∀x r,w=th x r→dt 59 (.str x)=true:=by
  intro x r e
  subst e
  obtain⟨m,e,hl,hd⟩:=dt_tup d
  cases e
  exact hd _ List.mem_cons_self
 have leaf:∀x r,w=th x r→strIn four (.str x)=true→∃v:Int,∀h,b_f_law_weight G [some (.tup rl),some w,some (.fdc hd),none,none,none,none] h=some (.ret (.int v),h):=by
  intro x r e hx
  refine⟨1,fun h=>?_⟩
  rw[w_row,seq_nx (start x r e h),seq_ret (w1_yes (dx x r e) (by omega) hx)]
 have inner:∀x r,w=th x r→r.filter (tyB .tuple)=partsL w→∀h,w4 G (ρw rl w hd x none none none) h=some (.nx (ρw rl w hd x none none (some (.fls ((partsL w).map fun v=>.int (wv G rl hd v))))),h):=by
  intro x r e hq h
  have c:=comp1 (mi:=iSeq (eSl (eVar 1) (some (eC (.int 1))) none)) (ks:=[0,2]) (t:=tVal (eUn (isW .tuple) (eVar 0))) (m:=eArgs G.f_law_weight [(eVar 1),(eVar 0),(eVar 2)]) (ρ:=ρw rl w hd x none none none) (h:=h) (l:=r) (tyB .tuple) (fun v=>.int (wv G rl hd v))
   (by subst e; simp![iSeq,eSl,mPart,slW,srcOf,drop1])
   (fun v hv H'=>by
    subst e
    obtain⟨m,e,hl,hd'⟩:=dt_tup d
    simp![isW_dt (hd' v (List.mem_cons_of_mem _ hv))])
   (fun v hv hy H'=>by
    have hv':v∈partsL w:=by rw[←hq]; exact List.mem_filter.mpr ⟨hv,hy⟩
    simp![H.at (o.2 v hv') (dp v hv') q H'])
   (fun v hv _=>by unfold low; rfl)
   (by
    subst e
    obtain⟨m,e,hl,hd'⟩:=dt_tup d
    have:r.length≤1000:=by simp at hl; omega
    exact Nat.le_trans this (by decide))
  rw[hq] at c
  unfold w4 sAsg
  rw[c]
  simp![]
 have other:∀x r,w=th x r→strIn four (.str x)=false→(x==("do":Str))=false→(x==("loop":Str))=false→Pn w→∃v:Int,∀h,b_f_law_weight G [some (.tup rl),some w,some (.fdc hd),none,none,none,none] h=some (.ret (.int v),h):=by
  intro x r e h1 h2 h3 hp
  refine⟨1+sumL ((partsL w).map fun v=>wv G rl hd v),fun h=>?_⟩
  cases hp with
  | mk x' r' p hc hf hq=>
   cases e
   have e2:=ints_map (partsL (th x r)) fun v=>wv G rl hd v
   rw[w_row,seq_nx (start x r rfl h),seq_nx (w1_no (dx x r rfl) (by omega) h1),seq_nx (w2_no h2),seq_nx (w3_no hc),seq_nx (inner x r rfl hq h),
    seq_nx (ρ':=ρw rl (th x r) hd x none none (some (.fls ((partsL (th x r)).map fun v=>.int (wv G rl hd v))))) (h':=h) (by simp![w5,eqB_str,h3])]
   simp![w6,sumW,seqOf,getL,e2,addW,addI]
 have osh:=o.1
 have osp:=o.1.split
 cases osh with
 | number i=>exact leaf _ _ rfl (by decide +kernel)
 | name v=>exact leaf _ _ rfl (by decide +kernel)
 | read v=>exact leaf _ _ rfl (by decide +kernel)
 | ask=>exact leaf _ _ rfl (by decide +kernel)
 | doo v=>
  obtain⟨u,hu⟩:=valW_ok (k:=.inr v) q
  refine⟨u,fun h=>?_⟩
  rw[w_row,seq_nx (start _ _ rfl h),seq_nx (w1_no (dx _ _ rfl) (by omega) (by decide +kernel))]
  refine seq_ret ?_
  simp![w2,eqB_str,eDget2,getDi,ix1,keyOf,hu]
 | write v a=>
  rcases osp with hp | ⟨_,_,_,_,_,_,e,_,_⟩
  .exact other _ _ rfl (by decide +kernel) (by decide +kernel) (by decide +kernel) hp
  .cases e
 | say a=>
  rcases osp with hp | ⟨_,_,_,_,_,_,e,_,_⟩
  .exact other _ _ rfl (by decide +kernel) (by decide +kernel) (by decide +kernel) hp
  .cases e
 | lett v a b=>
  rcases osp with hp | ⟨_,_,_,_,_,_,e,_,_⟩
  .exact other _ _ rfl (by decide +kernel) (by decide +kernel) (by decide +kernel) hp
  .cases e
 | own v a b=>
  rcases osp with hp | ⟨_,_,_,_,_,_,e,_,_⟩
  .exact other _ _ rfl (by decide +kernel) (by decide +kernel) (by decide +kernel) hp
  .cases e
 | add a b=>
  rcases osp with hp | ⟨_,_,_,_,_,_,e,_,_⟩
  .exact other _ _ rfl (by decide +kernel) (by decide +kernel) (by decide +kernel) hp
  .cases e
 | less a b=>
  rcases osp with hp | ⟨_,_,_,_,_,_,e,_,_⟩
  .exact other _ _ rfl (by decide +kernel) (by decide +kernel) (by decide +kernel) hp
  .cases e
 | thenn a b=>
  rcases osp with hp | ⟨_,_,_,_,_,_,e,_,_⟩
  .exact other _ _ rfl (by decide +kernel) (by decide +kernel) (by decide +kernel) hp
  .cases e
 | iff a b c=>
  rcases osp with hp | ⟨_,_,_,_,_,_,e,_,_⟩
  .exact other _ _ rfl (by decide +kernel) (by decide +kernel) (by decide +kernel) hp
  .cases e
 | loop a b=>
  have ep:partsL (th "loop" [.tup a,.tup b])=[.tup a,.tup b]:=by
   simp[partsL,show(("loop":Str)=="call")=false by decide +kernel,show fm "loop" = some (3,1) by decide +kernel]
  refine⟨1+wv G rl hd (.tup a)+3*wv G rl hd (.tup b),fun h=>?_⟩
  have hin:=inner _ _ rfl (by rw[ep]; simp[tyB]) h
  rw[ep] at hin
  rw[w_row,seq_nx (start _ _ rfl h),seq_nx (w1_no (dx _ _ rfl) (by omega) (by decide +kernel)),seq_nx (w2_no (by decide +kernel)),seq_nx (w3_no (by decide +kernel)),seq_nx hin]
  refine seq_ret ?_
  have sm:(small 3||small (wv G rl hd (.tup b)))=true:=by rw[show small 3=true by decide]; rfl
  simp![w5,eqB_str,ixf0,ixf1,addW,addI,mulW,sm]
 | call i a b hi ns hs body e=>
  obtain⟨ns',hs',body',e',db,ob,hl4⟩:=hr.g i (by omega)
  have eb:hs=hs'∧body=body':=by
   rw[e] at e'
   injection e' with e'
   injection e' with e'
   simp only[List.cons.injEq,W.tup.injEq,and_true] at e'
   refine⟨?_,e'.2.2⟩
   have:=e'.2.1
   exact strsW_inj this
  obtain⟨rfl,rfl⟩:=eb
  obtain⟨m,em,hl,hd'⟩:=dt_tup d
  cases em
  obtain⟨m1,e1,la,da⟩:=dt_tup (hd' (.tup a) (by simp))
  obtain⟨m2,e2,lb,dbb⟩:=dt_tup (hd' (.tup b) (by simp))
  rw[partsL_call] at dp
  have op:=o.2
  rw[partsL_call] at op
  have ei:∀h,ixW (.tup rl) (.int (i:Int)) h=some (.tup [.tup ns,.tup (strsW hs),body],h):=fun h=>ixn (by omega) (by omega) (by simpa using e)
  have ok2:HdOk (mergeW [] ((hs.zip b).map fun p=>(Sum.inr p.1,W.int (wv G rl hd p.2)))):=by
   refine mergeW_ok (fun p hp=>by simp at hp) fun p hp=>?_
   obtain⟨z,_,rfl⟩:=List.mem_map.mp hp
   exact⟨_,rfl⟩
  refine⟨1+sumL (a.map fun v=>wv G rl hd v)+wv G rl (mergeW [] ((hs.zip b).map fun p=>(Sum.inr p.1,W.int (wv G rl hd p.2)))) body,fun h=>?_⟩
  have c2:(2:Nat)≤cap:=by decide
  have hzl:(hs.zip b).length≤4:=by rw[List.length_zip]; omega
  have cz:=comp2 (mi:=iZip [(eOp ixW (eOp ixW (eVar 0) (eOp ixW (eVar 1) (eC (.int 1)))) (eC (.int 1))),(eOp ixW (eVar 1) (eC (.int 3)))]) (ks:=[0,2]) (t:=tTrue) (m:=eArgs tupW [(eVar 0),(eArgs G.f_law_weight [(eVar 2),(eVar 1),(eVar 3)])]) (ρ:=ρw rl (th "call" [.int i,.tup a,.tup b]) hd "call" none none none) (h:=h) (l:=(hs.zip b).map fun p=>(W.str p.1,p.2)) (fun _ _=>true) (fun x y=>.tup [x,.int (wv G rl hd y)])
   (by simp![iZip,ix0,ix1,ix3,ei,zipW,sndOf,zip_strs])
   (fun v hv H'=>rfl)
   (fun v hv _ H'=>by
    obtain⟨p,hp,rfl⟩:=List.mem_map.mp hv
    have hb:p.2∈b:=(List.of_mem_zip (show(p.1,p.2)∈hs.zip b from hp)).2
    have hb':p.2∈a++b:=List.mem_append.mpr (.inr hb)
    simp![H.at (op _ hb') (dp _ hb') q H',tupW,c2])
   (fun v hv _=>by
    obtain⟨p,hp,rfl⟩:=List.mem_map.mp hv
    simp[low,lows])
   (by rw[List.length_map]; exact Nat.le_trans hzl (by decide))
  rw[filter_true,List.map_map] at cz
  have cs:=comp1 (mi:=iSeq (eOp ixW (eVar 1) (eC (.int 2)))) (ks:=[0,2]) (t:=tTrue) (m:=eArgs G.f_law_weight [(eVar 1),(eVar 0),(eVar 2)]) (ρ:=ρw rl (th "call" [.int i,.tup a,.tup b]) hd "call" (some (.fdc (mergeW [] ((hs.zip b).map fun p=>(Sum.inr p.1,W.int (wv G rl hd p.2)))))) none none) (h:=h) (l:=a) (fun _=>true) (fun v=>.int (wv G rl hd v))
   (by simp![iSeq,ix2,srcOf])
   (fun v hv H'=>rfl)
   (fun v hv _ H'=>by
    have hb':v∈a++b:=List.mem_append.mpr (.inl hv)
    simp![H.at (op _ hb') (dp _ hb') q H'])
   (fun v hv _=>by unfold low; rfl)
   (Nat.le_trans la (by decide))
  rw[filter_true] at cs
  have e3:=ints_map a fun v=>wv G rl hd v
  have pm:=pairs_map (hs.zip b) fun v=>wv G rl hd v
  have km:=keys_map (hs.zip b) fun v=>wv G rl hd v
  have body_ok:=(HB i hi).at (hd:=mergeW [] ((hs.zip b).map fun p=>(Sum.inr p.1,W.int (wv G rl hd p.2)))) ob db ok2 h
  have hz1000:(hs.zip b).length≤1000:=by omega
  rw[w_row,seq_nx (start _ _ rfl h),seq_nx (w1_no (dx _ _ rfl) (by omega) (by decide +kernel)),seq_nx (w2_no (by decide +kernel))]
  refine seq_ret ?_
  have s1:(sAsg (eArgs dictW [(eComp (iZip [(eOp ixW (eOp ixW (eVar 0) (eOp ixW (eVar 1) (eC (.int 1)))) (eC (.int 1))),(eOp ixW (eVar 1) (eC (.int 3)))]) 2 [0,2] (gTp [(gNm 0),(gNm 1)]) tTrue (eArgs tupW [(eVar 0),(eArgs G.f_law_weight [(eVar 2),(eVar 1),(eVar 3)])]))]) (gNm 4)) (ρw rl (th "call" [.int i,.tup a,.tup b]) hd "call" none none none) h=some (.nx (ρw rl (th "call" [.int i,.tup a,.tup b]) hd "call" (some (.fdc (mergeW [] ((hs.zip b).map fun p=>(Sum.inr p.1,W.int (wv G rl hd p.2)))))) none none),h):=by
   refine asg_of ((args1_of cz).trans ?_) rfl
   have:(List.map ((fun w:W×W=>W.tup [w.fst,W.int (wv G rl hd w.snd)])∘fun p:Str×W=>(W.str p.fst,p.snd)) (hs.zip b))=(hs.zip b).map fun p=>.tup [.str p.1,.int (wv G rl hd p.2)]:=rfl
   rw[this]
   simp only[dictW,getDi,getL,pm,km]
   rw[List.length_map,if_pos hz1000]
  have s2:(sAsg (eArgs sumW [(eComp (iSeq (eOp ixW (eVar 1) (eC (.int 2)))) 1 [0,2] (gNm 0) tTrue (eArgs G.f_law_weight [(eVar 1),(eVar 0),(eVar 2)]))]) (gNm 5)) (ρw rl (th "call" [.int i,.tup a,.tup b]) hd "call" (some (.fdc (mergeW [] ((hs.zip b).map fun p=>(Sum.inr p.1,W.int (wv G rl hd p.2)))))) none none) h=some (.nx (ρw rl (th "call" [.int i,.tup a,.tup b]) hd "call" (some (.fdc (mergeW [] ((hs.zip b).map fun p=>(Sum.inr p.1,W.int (wv G rl hd p.2)))))) (some (.int (sumL (a.map fun v=>wv G rl hd v)))) none),h):=by
   refine asg_of ((args1_of cs).trans ?_) rfl
   simp only[sumW,seqOf,getL,e3]
  have t:tVal (eOp (eqW false) (eVar 3) (eC (.str "call"))) (ρw rl (th "call" [.int i,.tup a,.tup b]) hd "call" none none none) h=some (true,h):=by simp![eqB_str]
  unfold w3 sIf
  simp only[t,if_true]
  rw[seq_nx s1,seq_nx s2]
  simp![ix0,ix1,ix2,ei,body_ok,addW,addI]
theorem weight_all{rl:List W}(hr:RulesGood rl)(F:Fs):∀(m k n:Nat),3*k+n≤m→n≤3→k≤rl.length→WOk (up m F) rl k n
 | m,k,0,_,_,_=>by intro w hd o; cases o
 | 0,k,n+1,h,_,_=>by omega
 | m+1,k,n+1,h,hn,hk=>weight_step hr hk (weight_all hr F m k n (by omega) (by omega) hk) fun i hi=>weight_all hr F m i 3 (by omega) (by omega) (by omega)
noncomputable def LF0(F:Fs):MS:=(sAsg (eVar 2) (gTp [(gNm 3),(gNm 4),(gNm 5)]))
noncomputable def LF1(F:Fs):MS:=(sAsg (eArgs F.f_law_drawn [(eVar 0),(eVar 1),(eC (.int 8))]) (gNm 6))
noncomputable def LF2(F:Fs):MS:=(sIf (tVal (eOp ltW (eVar 6) (eC (.int 2))))
 (sRet (eArgs tupW [(eC (.str "number")),(eOp ixW (eArgs flsW [(eC (.int 0)),(eC (.int 1)),(eC (.int 2)),(eC (.int 3)),(eC (.int 7)),(eC (.int 1008))]) (eArgs F.f_law_drawn [(eVar 0),(eOp addW (eVar 1) (eC (.int 1))),(eC (.int 6))]))]))
 sNext)
noncomputable def LF3(F:Fs):MS:=(sIf (tAndM (tVal (eOp (eqW false) (eVar 6) (eC (.int 2)))) (tVal (eOp (eqW true) (eVar 3) (eArgs tupW []))))
 (sRet (eArgs tupW [(eC (.str "name")),(eOp ixW (eVar 3) (eArgs F.f_law_drawn [(eVar 0),(eOp addW (eVar 1) (eC (.int 1))),(eArgs lenW [(eVar 3)])]))]))
 sNext)
noncomputable def LF4(F:Fs):MS:=(sIf (tAndM (tVal (eOp (eqW false) (eVar 6) (eC (.int 3)))) (tVal (eOp (eqW true) (eVar 5) (eArgs tupW []))))
 (sRet (eArgs tupW [(eC (.str "do")),(eOp ixW (eVar 5) (eArgs F.f_law_drawn [(eVar 0),(eOp addW (eVar 1) (eC (.int 1))),(eArgs lenW [(eVar 5)])]))]))
 sNext)
noncomputable def LF5(F:Fs):MS:=(sIf (tVal (eOp (eqW false) (eVar 6) (eC (.int 4))))
 (sRet (eArgs tupW [(eC (.str "ask"))]))
 sNext)
noncomputable def LF6(F:Fs):MS:=(sAsg (eOp addW (eArgs tupW [(eC (.str "a")),(eC (.str "b")),(eC (.str "c")),(eC (.str "d"))]) (eOp mulW (eVar 4) (eC (.int 3)))) (gNm 7))
noncomputable def LF7(F:Fs):MS:=(sRet (eArgs tupW [(eC (.str "read")),(eOp ixW (eVar 7) (eArgs F.f_law_drawn [(eVar 0),(eOp addW (eVar 1) (eC (.int 1))),(eArgs lenW [(eVar 7)])]))]))
theorem LF_row(F:Fs):b_f_law_leaf F=sSeq (LF0 F) (sSeq (LF1 F) (sSeq (LF2 F) (sSeq (LF3 F) (sSeq (LF4 F) (sSeq (LF5 F) (sSeq (LF6 F) (LF7 F))))))):=rfl
noncomputable def wd(l:List Str):Prop:=∀v∈l,pl 1 (.str v)=true
noncomputable abbrev kn(N O H:List Str):W:=.tup [.tup (strsW N),.tup (strsW O),.tup (strsW H)]
theorem at_mem{l:List W}{i:Int}(h0:0≤i)(h1:i<l.length):∃v∈l,atI l i=some v:=by
 have hj:i.toNat<l.length:=by omega
 exact⟨l[i.toNat],List.getElem_mem hj,by unfold atI ixN; rw[if_pos h0,if_pos h1]; simp[hj]⟩
theorem ix_fls{l:List W}{i:Int}(h0:0≤i)(h1:i<l.length):∃v∈l,∀h,ixW (.fls l) (.int i) h=some (v,h):=by
 obtain⟨v,hv,e⟩:=at_mem h0 h1
 exact⟨v,hv,fun h=>by simp[ixW,getL,e]⟩
theorem ix_tup{l:List W}{i:Int}(h0:0≤i)(h1:i<l.length):∃v∈l,∀h,ixW (.tup l) (.int i) h=some (v,h):=by
 obtain⟨v,hv,e⟩:=at_mem h0 h1
 exact⟨v,hv,fun h=>by simp[ixW,e]⟩
theorem ix_strs{l:List Str}{i:Int}(h0:0≤i)(h1:i<l.length):∃v∈l,∀h,ixW (.tup (strsW l)) (.int i) h=some (.str v,h):=by
 obtain⟨v,hv,e⟩:=ix_tup (l:=strsW l) h0 (by rw[strsW_len]; exact h1)
 unfold strsW at hv
 obtain⟨x,hx,rfl⟩:=List.mem_map.mp hv
 exact⟨x,hx,e⟩
theorem pl_strs{l:List Str}(h:wd l)(hl:l.length≤4):pl 2 (.tup (strsW l))=true:=by
 refine pl_of (by rw[strsW_len]; exact hl) fun w hw=>?_
 unfold strsW at hw
 obtain⟨x,hx,rfl⟩:=List.mem_map.mp hw
 exact h x hx
theorem dt_strs{l:List Str}(h:wd l)(hl:l.length≤1000):dt 2 (.tup (strsW l))=true:=by
 refine dt_of (by rw[strsW_len]; exact hl) fun w hw=>?_
 unfold strsW at hw
 obtain⟨x,hx,rfl⟩:=List.mem_map.mp hw
 exact pl_dt (h x hx)
theorem isNil_strs(l:List Str):isNil (.tup (strsW l))=l.isEmpty:=by cases l<;>rfl
theorem eq_nil_strs{l:List Str}{h:MH}(hw:wd l)(hl:l.length≤1000):eqB h (.tup (strsW l)) (.tup [])=some l.isEmpty:=by
 rw[eqB_nil (dt_strs hw hl) (by omega),isNil_strs]
theorem pl2{x v:W}(hx:pl 1 x=true)(hv:pl 1 v=true):pl 2 (.tup [x,v])=true:=pl_of (by simp) fun w hw=>by
 simp only[List.mem_cons,List.not_mem_nil,or_false] at hw
 rcases hw with rfl | rfl<;>assumption
theorem partsL_leaf{x:Str}{p:Int×Int}{r:List W}(hc:(x==("call":Str))=false)(hf:fm x=some p)(hr:r.drop (p.2.toNat-1)=[]):partsL (th x r)=[]:=by
 simp[partsL,hc,hf,hr]
noncomputable def shel(O:List Str):List Str:=([("a":Str),"b","c","d"]:List Str)++(O++(O++O))
theorem shel_eq(O:List Str):[W.str "a",.str "b",.str "c",.str "d"]++(List.replicate 3 (strsW O)).flatten=strsW (shel O):=by
 simp[shel,strsW,List.replicate]
theorem shel_wd{O:List Str}(h:wd O):wd (shel O):=by
 intro v hv
 unfold shel at hv
 rcases List.mem_append.mp hv with z | z
 .simp only[List.mem_cons,List.not_mem_nil,or_false] at z
  rcases z with rfl | rfl | rfl | rfl<;>decide +kernel
 .rcases List.mem_append.mp z with z | z
  .exact h v z
  .rcases List.mem_append.mp z with z | z<;>exact h v z
theorem shel_len(O:List Str):(shel O).length=4+3*O.length:=by simp[shel]; omega
theorem s_leaf{F:Fs}{ns:List Int}{a:Int}{N O H:List Str}{rl:List W}{k:Nat}(hl:ns.length≤63)(hN:wd N)(hO:wd O)(hH:wd H)(lN:N.length≤100)(lO:O.length≤100)(lH:H.length≤100) :
  ∃w,(∀h,(step (step (step F))).f_law_leaf [scr ns,.int a,kn N O H] h=some (w,h))∧pl 2 w=true∧okd rl k 1 w:=by
 have e:=fun(k many:Int) (h:MH) (hm:0<many)=>s_drawn (F:=F) (k:=k) (many:=many) (h:=h) hl hm
 generalize step (step F)=G at e
 suffices hs:∃w,(∀h,b_f_law_leaf G [some (scr ns),some (.int a),some (kn N O H),none,none,none,none,none] h=some (.ret w,h))∧pl 2 w=true∧okd rl k 1 w by
  obtain⟨w,e,p,o⟩:=hs
  refine⟨w,fun h=>gc_dt (n:=2) ?_ (pl_dt p),p,o⟩
  simp only[fnM,List.length_cons,List.length_nil,if_true,List.map_cons,List.map_nil,List.replicate,List.cons_append,List.nil_append]
  simp only[e h]
 have c1':(1:Nat)≤cap:=by decide
 have c2':(2:Nat)≤cap:=by decide
 have c4':(4:Nat)≤cap:=by decide
 have c6':(6:Nat)≤cap:=by decide
 have s0:∀h,LF0 G [some (scr ns),some (.int a),some (kn N O H),none,none,none,none,none] h=some (.nx [some (scr ns),some (.int a),some (kn N O H),some (.tup (strsW N)),some (.tup (strsW O)),some (.tup (strsW H)),none,none],h):=fun h=>by
  simp![LF0]
 have s1:∀h,LF1 G [some (scr ns),some (.int a),some (kn N O H),some (.tup (strsW N)),some (.tup (strsW O)),some (.tup (strsW H)),none,none] h=some (.nx [some (scr ns),some (.int a),some (kn N O H),some (.tup (strsW N)),some (.tup (strsW O)),some (.tup (strsW H)),some (.int (drawV ns a 8)),none],h):=fun h=>by
  simp![LF1,e a 8 _ (by omega)]
 generalize drawV ns a 8=d at s1
 have row:∀h,b_f_law_leaf G [some (scr ns),some (.int a),some (kn N O H),none,none,none,none,none] h=sSeq (LF2 G) (sSeq (LF3 G) (sSeq (LF4 G) (sSeq (LF5 G) (sSeq (LF6 G) (LF7 G))))) [some (scr ns),some (.int a),some (kn N O H),some (.tup (strsW N)),some (.tup (strsW O)),some (.tup (strsW H)),some (.int d),none] h:=fun h=>by
  rw[LF_row,seq_nx (s0 h),seq_nx (s1 h)]
 by_cases k2:d<2
 .obtain⟨v,hv,ev⟩:=ix_fls (l:=[.int 0,.int 1,.int 2,.int 3,.int 7,.int 1008]) (draw_range (ns:=ns) (k:=a+1) (many:=6) (by omega)).1 (by simpa using (draw_range (ns:=ns) (k:=a+1) (many:=6) (by omega)).2)
  refine⟨th "number" [v],fun h=>?_,?_,?_⟩
  .rw[row]
   refine seq_ret ?_
   simp![LF2,cmpI,k2,flsW,c6',addW,addI,e (a+1) 6 _ (by omega),ev,tupW,c2']
  .refine pl2 (by decide +kernel) ?_
   simp only[List.mem_cons,List.not_mem_nil,or_false] at hv
   rcases hv with rfl | rfl | rfl | rfl | rfl | rfl<;>rfl
  .have:∃i,v=.int i:=by
    simp only[List.mem_cons,List.not_mem_nil,or_false] at hv
    rcases hv with rfl | rfl | rfl | rfl | rfl | rfl<;>exact⟨_,rfl⟩
   obtain⟨i,rfl⟩:=this
   refine⟨.number i,fun p hp=>?_⟩
   rw[partsL_leaf (p:=(2,2)) (by decide +kernel) (by decide +kernel) rfl] at hp
   simp at hp
 have p2:∀h,LF2 G [some (scr ns),some (.int a),some (kn N O H),some (.tup (strsW N)),some (.tup (strsW O)),some (.tup (strsW H)),some (.int d),none] h=some (.nx [some (scr ns),some (.int a),some (kn N O H),some (.tup (strsW N)),some (.tup (strsW O)),some (.tup (strsW H)),some (.int d),none],h):=fun h=>by
  simp![LF2,cmpI,k2]
 have eN:=fun h=>eq_nil_strs (h:=h) hN (by omega)
 have eH:=fun h=>eq_nil_strs (h:=h) hH (by omega)
 have leafS:∀(v:Str),okd rl k 1 (th "read" [.str v]):=fun v=>⟨.read v,fun p hp=>by
  rw[partsL_leaf (p:=(2,2)) (by decide +kernel) (by decide +kernel) rfl] at hp
  simp at hp⟩
 by_cases k3:(d==2)=true∧N.isEmpty=false
 .have hp:(0:Int)<(N.length:Int):=by
   cases N with
   | nil=>simp at k3
   | cons _ _=>simp only[List.length_cons]; omega
  obtain⟨v,hv,ev⟩:=ix_strs (l:=N) (draw_range (ns:=ns) (k:=a+1) (many:=N.length) hp).1 (draw_range (ns:=ns) (k:=a+1) (many:=N.length) hp).2
  refine⟨th "name" [.str v],fun h=>?_,?_,?_⟩
  .rw[row,seq_nx (p2 h)]
   refine seq_ret ?_
   simp![LF3,eqB_int,k3.1,k3.2,eN,tupW,lenW,strsW_len,addW,addI,e (a+1) N.length _ hp,ev,c2']
  .exact pl2 (by decide +kernel) (hN v hv)
  .refine⟨.name v,fun p hp=>?_⟩
   rw[partsL_leaf (p:=(2,2)) (by decide +kernel) (by decide +kernel) rfl] at hp
   simp at hp
 have p3:∀h,LF3 G [some (scr ns),some (.int a),some (kn N O H),some (.tup (strsW N)),some (.tup (strsW O)),some (.tup (strsW H)),some (.int d),none] h=some (.nx [some (scr ns),some (.int a),some (kn N O H),some (.tup (strsW N)),some (.tup (strsW O)),some (.tup (strsW H)),some (.int d),none],h):=fun h=>by
  cases q1:(d==2) with
  | false=>simp![LF3,eqB_int,q1]
  | true=>
   have q2:N.isEmpty=true:=by
    cases q:N.isEmpty with
    | true=>rfl
    | false=>exact absurd ⟨q1,q⟩ k3
   simp![LF3,eqB_int,q1,eN,tupW,q2]
 by_cases k4:(d==3)=true∧H.isEmpty=false
 .have hp:(0:Int)<(H.length:Int):=by
   cases H with
   | nil=>simp at k4
   | cons _ _=>simp only[List.length_cons]; omega
  obtain⟨v,hv,ev⟩:=ix_strs (l:=H) (draw_range (ns:=ns) (k:=a+1) (many:=H.length) hp).1 (draw_range (ns:=ns) (k:=a+1) (many:=H.length) hp).2
  refine⟨th "do" [.str v],fun h=>?_,?_,?_⟩
  .rw[row,seq_nx (p2 h),seq_nx (p3 h)]
   refine seq_ret ?_
   simp![LF4,eqB_int,k4.1,k4.2,eH,tupW,lenW,strsW_len,addW,addI,e (a+1) H.length _ hp,ev,c2']
  .exact pl2 (by decide +kernel) (hH v hv)
  .refine⟨.doo v,fun p hp=>?_⟩
   rw[partsL_leaf (p:=(2,2)) (by decide +kernel) (by decide +kernel) rfl] at hp
   simp at hp
 have p4:∀h,LF4 G [some (scr ns),some (.int a),some (kn N O H),some (.tup (strsW N)),some (.tup (strsW O)),some (.tup (strsW H)),some (.int d),none] h=some (.nx [some (scr ns),some (.int a),some (kn N O H),some (.tup (strsW N)),some (.tup (strsW O)),some (.tup (strsW H)),some (.int d),none],h):=fun h=>by
  cases q1:(d==3) with
  | false=>simp![LF4,eqB_int,q1]
  | true=>
   have q2:H.isEmpty=true:=by
    cases q:H.isEmpty with
    | true=>rfl
    | false=>exact absurd ⟨q1,q⟩ k4
   simp![LF4,eqB_int,q1,eH,tupW,q2]
 cases k5:(d==4) with
 | true=>
  refine⟨th "ask" [],fun h=>?_,by decide +kernel,?_⟩
  .rw[row,seq_nx (p2 h),seq_nx (p3 h),seq_nx (p4 h)]
   refine seq_ret ?_
   simp![LF5,eqB_int,k5,tupW,c1']
  .refine⟨.ask,fun p hp=>?_⟩
   rw[partsL_leaf (p:=(1,1)) (by decide +kernel) (by decide +kernel) rfl] at hp
   simp at hp
 | false=>
  have hp:(0:Int)<((shel O).length:Int):=by rw[shel_len]; omega
  obtain⟨v,hv,ev⟩:=ix_strs (l:=shel O) (draw_range (ns:=ns) (k:=a+1) (many:=(shel O).length) hp).1 (draw_range (ns:=ns) (k:=a+1) (many:=(shel O).length) hp).2
  have c7:4+(List.replicate 3 (strsW O)).flatten.length≤cap:=by
   have:(List.replicate 3 (strsW O)).flatten.length=3*O.length:=by simp[List.replicate,strsW]; omega
   rw[this]
   exact Nat.le_trans (show 4+3*O.length≤400 by omega) (by decide)
  have hs3:(strsW O).length≤1000:=by rw[strsW_len]; omega
  refine⟨th "read" [.str v],fun h=>?_,pl2 (by decide +kernel) (shel_wd hO v hv),leafS v⟩
  have p6:LF6 G [some (scr ns),some (.int a),some (kn N O H),some (.tup (strsW N)),some (.tup (strsW O)),some (.tup (strsW H)),some (.int d),none] h=some (.nx [some (scr ns),some (.int a),some (kn N O H),some (.tup (strsW N)),some (.tup (strsW O)),some (.tup (strsW H)),some (.int d),some (.tup (strsW (shel O)))],h):=by
   rw[←shel_eq]
   have m:∀h,mulW (.tup (strsW O)) (.int 3) h=some (.tup (List.replicate 3 (strsW O)).flatten,h):=fun h=>by
    simp only[mulW]
    rw[if_pos ⟨by omega,by omega,hs3⟩]
    rfl
   have ad:∀h,addW (.tup [.str "a",.str "b",.str "c",.str "d"]) (.tup (List.replicate 3 (strsW O)).flatten) h=some (.tup ([.str "a",.str "b",.str "c",.str "d"]++(List.replicate 3 (strsW O)).flatten),h):=fun h=>by
    simp only[addW,addI,List.length_cons,List.length_nil]
    rw[if_pos c7]
   generalize (List.replicate 3 (strsW O)).flatten=Z at m ad
   simp![LF6,tupW,c4',m,ad]
  rw[row,seq_nx (p2 h),seq_nx (p3 h),seq_nx (p4 h),seq_nx (ρ':=[some (scr ns),some (.int a),some (kn N O H),some (.tup (strsW N)),some (.tup (strsW O)),some (.tup (strsW H)),some (.int d),none]) (h':=h) (by simp![LF5,eqB_int,k5]),seq_nx p6]
  simp![LF7,lenW,strsW_len,addW,addI,e (a+1) (shel O).length _ hp,ev,tupW,c2']
noncomputable def DS0(F:Fs):MS:=(sAsg (eArgs F.f_law_drawn [(eVar 0),(eVar 1),(eC (.int 15))]) (gNm 5))
noncomputable def DS1(F:Fs):MS:=(sIf (tOrM (tVal (eOp (eqW false) (eVar 2) (eC (.int 0)))) (tVal (eOp ltW (eVar 5) (eC (.int 2)))))
 (sRet (eArgs F.f_law_leaf [(eVar 0),(eOp addW (eVar 1) (eC (.int 1))),(eVar 3)]))
 sNext)
noncomputable def DS2(F:Fs):MS:=(sIf (tAndM (tVal (eOp ltW (eVar 5) (eC (.int 4)))) (tVal (eOp (eqW true) (eVar 4) (eArgs tupW []))))
 (sRet (eArgs F.f_law_call [(eVar 0),(eVar 1),(eVar 2),(eVar 3),(eVar 4)]))
 sNext)
noncomputable def DS3(F:Fs):MS:=(sAsg (eArgs F.f_law_deed [(eVar 0),(eOp addW (eOp mulW (eVar 1) (eC (.int 3))) (eC (.int 7))),(eOp subW (eVar 2) (eC (.int 1))),(eVar 3),(eVar 4)]) (gNm 6))
noncomputable def DS4(F:Fs):MS:=(sIf (tVal (eOp ltW (eVar 5) (eC (.int 6))))
 (sSeq (sAsg (eOp addW (eArgs tupW [(eC (.str "a")),(eC (.str "b")),(eC (.str "c")),(eC (.str "d"))]) (eOp mulW (eOp ixW (eVar 3) (eC (.int 1))) (eC (.int 3)))) (gNm 7))
 (sRet (eArgs tupW [(eC (.str "write")),(eOp ixW (eVar 7) (eArgs F.f_law_drawn [(eVar 0),(eOp addW (eVar 1) (eC (.int 3))),(eArgs lenW [(eVar 7)])])),(eVar 6)])))
 sNext)
noncomputable def DS5(F:Fs):MS:=(sIf (tVal (eOp (eqW false) (eVar 5) (eC (.int 6))))
 (sRet (eArgs tupW [(eC (.str "say")),(eVar 6)]))
 sNext)
noncomputable def DS6(F:Fs):MS:=(sIf (tVal (eOp (eqW false) (eVar 5) (eC (.int 7))))
 (sSeq (sAsg (eOp ixW (eArgs flsW [(eC (.str "x")),(eC (.str "y")),(eC (.str "x1"))]) (eArgs F.f_law_drawn [(eVar 0),(eOp addW (eVar 1) (eC (.int 3))),(eC (.int 3))])) (gNm 8))
 (sRet (eArgs tupW [(eC (.str "let")),(eVar 8),(eVar 6),(eArgs F.f_law_deed [(eVar 0),(eOp addW (eOp mulW (eVar 1) (eC (.int 3))) (eC (.int 23))),(eOp subW (eVar 2) (eC (.int 1))),(eOp addW (eArgs tupW [(eOp addW (eOp ixW (eVar 3) (eC (.int 0))) (eArgs tupW [(eVar 8)]))]) (eSl (eVar 3) (some (eC (.int 1))) none)),(eVar 4)])])))
 sNext)
noncomputable def DS7(F:Fs):MS:=(sIf (tVal (eOp (eqW false) (eVar 5) (eC (.int 8))))
 (sSeq (sAsg (eOp ixW (eArgs flsW [(eC (.str "p")),(eC (.str "q"))]) (eArgs F.f_law_drawn [(eVar 0),(eOp addW (eVar 1) (eC (.int 3))),(eC (.int 2))])) (gNm 8))
 (sSeq (sAsg (eArgs tupW [(eOp ixW (eVar 3) (eC (.int 0))),(eOp addW (eOp ixW (eVar 3) (eC (.int 1))) (eArgs tupW [(eVar 8)])),(eOp ixW (eVar 3) (eC (.int 2)))]) (gNm 9))
 (sRet (eArgs tupW [(eC (.str "own")),(eVar 8),(eVar 6),(eArgs F.f_law_deed [(eVar 0),(eOp addW (eOp mulW (eVar 1) (eC (.int 3))) (eC (.int 23))),(eOp subW (eVar 2) (eC (.int 1))),(eVar 9),(eVar 4)])]))))
 sNext)
noncomputable def DS8(F:Fs):MS:=(sAsg (eArgs F.f_law_deed [(eVar 0),(eOp addW (eOp mulW (eVar 1) (eC (.int 3))) (eC (.int 41))),(eOp subW (eVar 2) (eC (.int 1))),(eVar 3),(eVar 4)]) (gNm 10))
noncomputable def DS9(F:Fs):MS:=(sIf (tVal (eOp (eqW false) (eVar 5) (eC (.int 9))))
 (sRet (eArgs tupW [(eC (.str "if")),(eVar 6),(eVar 10),(eArgs F.f_law_deed [(eVar 0),(eOp addW (eOp mulW (eVar 1) (eC (.int 3))) (eC (.int 61))),(eOp subW (eVar 2) (eC (.int 1))),(eVar 3),(eVar 4)])]))
 sNext)
noncomputable def DS10(F:Fs):MS:=(sRet (eOp addW (eOp ixW (eArgs flsW [(eArgs tupW [(eC (.str "then"))]),(eArgs tupW [(eC (.str "add"))]),(eArgs tupW [(eC (.str "less"))]),(eArgs tupW [(eC (.str "loop"))]),(eArgs tupW [(eC (.str "then"))])]) (eOp subW (eVar 5) (eC (.int 10)))) (eArgs tupW [(eVar 6),(eVar 10)])))
theorem DS_row(F:Fs):b_f_law_deed F=sSeq (DS0 F) (sSeq (DS1 F) (sSeq (DS2 F) (sSeq (DS3 F) (sSeq (DS4 F) (sSeq (DS5 F) (sSeq (DS6 F) (sSeq (DS7 F) (sSeq (DS8 F) (sSeq (DS9 F) (DS10 F)))))))))):=rfl
noncomputable def DeedOk(G:Fs)(ns:List Int)(rl:List W)(d:Nat):Prop:=∀(a:Int) (N O H:List Str),wd N→wd O→wd H→N.length+d≤20→O.length+d≤20→H.length≤20→
 ∃w,(∀h,G.f_law_deed [scr ns,.int a,.int (d:Int),kn N O H,.tup rl] h=some (w,h))∧pl (2+2*d) w=true∧okd rl rl.length (d+1) w
noncomputable def CallOk(G:Fs)(ns:List Int)(rl:List W)(d:Nat):Prop:=∀(a:Int) (N O H:List Str),wd N→wd O→wd H→N.length+d≤20→O.length+d≤20→H.length≤20→
 ∃w,(∀h,G.f_law_call [scr ns,.int a,.int ((d:Int)+1),kn N O H,.tup rl] h=some (w,h))∧pl (2+2*(d+1)) w=true∧okd rl rl.length (d+2) w
theorem Sh.tup{rl:List W}{k:Nat}{w:W}(h:Sh rl k w):∃l,w=.tup l:=by cases h<;>exact⟨_,rfl⟩
theorem okd.tup{rl:List W}{k n:Nat}{w:W}(h:okd rl k n w):∃l,w=.tup l:=by
 cases n with
 | zero=>cases h
 | succ n=>exact h.1.tup
theorem okd_mk{rl:List W}{k n:Nat}{x:Str}{p:Int×Int}{r:List W}(sh:Sh rl k (th x r))(hc:(x==("call":Str))=false)(hf:fm x=some p)(hr:∀q∈r.drop (p.2.toNat-1),okd rl k n q):okd rl k (n+1) (th x r):=by
 refine⟨sh,fun q hq=>hr q ?_⟩
 have e:partsL (th x r)=r.drop (p.2.toNat-1):=by simp[partsL,hc,hf]
 rw[←e]
 exact hq
theorem wd_snoc{l:List Str}{v:Str}(h:wd l)(hv:pl 1 (.str v)=true):wd (l++[v]):=by
 intro u hu
 rcases List.mem_append.mp hu with z | z
 .exact h u z
 .simp at z; subst z; exact hv
theorem strsW_snoc(l:List Str)(v:Str):strsW l++[.str v]=strsW (l++[v]):=by simp[strsW]
theorem seq_if_ret{t:MT}{A b:MS}{ρ:En}{h h':MH}{w:W}(e:t ρ h=some (true,h))(eA:A ρ h=some (.ret w,h')):sSeq (sIf t A sNext) b ρ h=some (.ret w,h'):=by
 refine seq_ret ?_
 unfold sIf; rw[e]; simp only[if_true]; exact eA
theorem seq_if_no{t:MT}{A b:MS}{ρ:En}{h:MH}(e:t ρ h=some (false,h)):sSeq (sIf t A sNext) b ρ h=b ρ h:=by
 refine seq_nx ?_
 unfold sIf; rw[e]; rfl
theorem if_yes{t:MT}{A:MS}{ρ:En}{h h':MH}{f:Fl}(e:t ρ h=some (true,h))(eA:A ρ h=some (f,h')):sIf t A sNext ρ h=some (f,h'):=by
 unfold sIf; rw[e]; simp only[if_true]; exact eA
theorem if_no{t:MT}{A:MS}{ρ:En}{h:MH}(e:t ρ h=some (false,h)):sIf t A sNext ρ h=some (.nx ρ,h):=by
 unfold sIf; rw[e]; rfl
noncomputable abbrev ρD(ns:List Int)(a:Int)(d:Int)(K:W)(rl:List W)(o5 o6 o7 o8 o9 o10:Option W):En:=[some (scr ns),some (.int a),some (.int d),some K,some (.tup rl),o5,o6,o7,o8,o9,o10]
theorem t_lt{i j:Nat}{ρ:En}{h:MH}{d:Int}{m:Int}(e:ρ[i]?=some (some (.int d))):tVal (eOp ltW (eVar i) (eC (.int m))) ρ h=some (decide (d<m),h):=by simp![e,cmpI]
theorem t_eq{i:Nat}{ρ:En}{h:MH}{d:Int}{m:Int}(e:ρ[i]?=some (some (.int d))):tVal (eOp (eqW false) (eVar i) (eC (.int m))) ρ h=some (d==m,h):=by simp![e,eqB_int]
theorem m3{a:Int}{h:MH}:mulW (.int a) (.int 3) h=some (.int (a*3),h):=by
 have:(small a||small 3)=true:=by rw[show small 3=true by decide]; simp
 simp only[mulW,this,if_true]
theorem deed_step{F:Fs}{ns:List Int}{rl:List W}{d:Nat}(hl:ns.length≤63)(hrl:dt 20 (.tup rl)=true)(hd:d+1≤5)(HD:DeedOk (step (step (step F))) ns rl d)(HC:rl≠[]→CallOk (step (step (step F))) ns rl d):DeedOk (step (step (step (step F)))) ns rl (d+1):=by
 intro a N O H hN hO hH lN lO lH
 have e:=fun(k many:Int) (h:MH) (hm:0<many)=>s_drawn (F:=step F) (k:=k) (many:=many) (h:=h) hl hm
 have eL:=fun(a:Int)=>s_leaf (F:=F) (ns:=ns) (a:=a) (N:=N) (O:=O) (H:=H) (rl:=rl) (k:=rl.length) hl hN hO hH (by omega) (by omega) (by omega)
 generalize step (step (step F))=G at e HD HC eL
 have ed:((d+1:Nat):Int)=(d:Int)+1:=by omega
 rw[ed]
 suffices hs:∃w,(∀h,b_f_law_deed G (ρD ns a ((d:Int)+1) (kn N O H) rl none none none none none none) h=some (.ret w,h))∧pl (2+2*(d+1)) w=true∧okd rl rl.length (d+1+1) w by
  obtain⟨w,e,p,o⟩:=hs
  refine⟨w,fun h=>gc_dt (n:=2+2*(d+1)) ?_ (pl_dt p),p,o⟩
  simp only[fnM,List.length_cons,List.length_nil,if_true,List.map_cons,List.map_nil,List.replicate,List.cons_append,List.nil_append]
  have:=e h
  simp only[ρD] at this
  simp only[this]
 have c1:(1:Nat)≤cap:=by decide
 have c2:(2:Nat)≤cap:=by decide
 have c3:(3:Nat)≤cap:=by decide
 have c4:(4:Nat)≤cap:=by decide
 have c5:(5:Nat)≤cap:=by decide
 have s0:∀h,DS0 G (ρD ns a ((d:Int)+1) (kn N O H) rl none none none none none none) h=some (.nx (ρD ns a ((d:Int)+1) (kn N O H) rl (some (.int (drawV ns a 15))) none none none none none),h):=fun h=>by
  simp![DS0,e a 15 _ (by omega)]
 have rg:=draw_range (ns:=ns) (k:=a) (many:=15) (by omega)
 generalize drawV ns a 15=y at s0 rg
 have row:∀h,b_f_law_deed G (ρD ns a ((d:Int)+1) (kn N O H) rl none none none none none none) h=sSeq (DS1 G) (sSeq (DS2 G) (sSeq (DS3 G) (sSeq (DS4 G) (sSeq (DS5 G) (sSeq (DS6 G) (sSeq (DS7 G) (sSeq (DS8 G) (sSeq (DS9 G) (DS10 G))))))))) (ρD ns a ((d:Int)+1) (kn N O H) rl (some (.int y)) none none none none none) h:=fun h=>by
  rw[DS_row,seq_nx (s0 h)]
 have dz:(((d:Int)+1)==0)=false:=by rw[beq_eq_false_iff_ne]; omega
 by_cases k1:y<2
 .obtain⟨w,ew,p,o⟩:=eL (a+1)
  refine⟨w,fun h=>?_,pl_mono p (by omega),okd_mono o (by omega)⟩
  rw[row]
  refine seq_ret ?_
  simp![DS1,eqB_int,dz,cmpI,k1,addW,addI,ew]
 have p1:∀h,DS1 G (ρD ns a ((d:Int)+1) (kn N O H) rl (some (.int y)) none none none none none) h=some (.nx (ρD ns a ((d:Int)+1) (kn N O H) rl (some (.int y)) none none none none none),h):=fun h=>by
  simp![DS1,eqB_int,dz,cmpI,k1]
 have eR:=fun h=>eqB_nil (h:=h) hrl (by omega)
 have iR:isNil (.tup rl)=rl.isEmpty:=by cases rl<;>rfl
 by_cases k2:y<4∧rl≠[]
 .obtain⟨w,ew,p,o⟩:=HC k2.2 a N O H hN hO hH (by omega) (by omega) lH
  refine⟨w,fun h=>?_,p,o⟩
  have q:rl.isEmpty=false:=by
   cases rl with
   | nil=>exact absurd rfl k2.2
   | cons _ _=>rfl
  rw[row,seq_nx (p1 h)]
  refine seq_ret ?_
  simp![DS2,cmpI,k2.1,eR,iR,q,tupW,ew]
 have p2:∀h,DS2 G (ρD ns a ((d:Int)+1) (kn N O H) rl (some (.int y)) none none none none none) h=some (.nx (ρD ns a ((d:Int)+1) (kn N O H) rl (some (.int y)) none none none none none),h):=fun h=>by
  by_cases q1:y<4
  .have q:rl.isEmpty=true:=by
    cases rl with
    | nil=>rfl
    | cons _ _=>exact absurd ⟨q1,by simp⟩ k2
   simp![DS2,cmpI,q1,eR,iR,q,tupW]
  .simp![DS2,cmpI,q1]
 obtain⟨w1,e1,pl1,o1⟩:=HD (a*3+7) N O H hN hO hH (by omega) (by omega) lH
 have p3:∀h,DS3 G (ρD ns a ((d:Int)+1) (kn N O H) rl (some (.int y)) none none none none none) h=some (.nx (ρD ns a ((d:Int)+1) (kn N O H) rl (some (.int y)) (some w1) none none none none),h):=fun h=>by
  simp![DS3,m3,addW,addI,subW,e1]
 have row3:∀h,b_f_law_deed G (ρD ns a ((d:Int)+1) (kn N O H) rl none none none none none none) h=sSeq (DS4 G) (sSeq (DS5 G) (sSeq (DS6 G) (sSeq (DS7 G) (sSeq (DS8 G) (sSeq (DS9 G) (DS10 G)))))) (ρD ns a ((d:Int)+1) (kn N O H) rl (some (.int y)) (some w1) none none none none) h:=fun h=>by
  rw[row,seq_nx (p1 h),seq_nx (p2 h),seq_nx (p3 h)]
 obtain⟨l1,rfl⟩:=o1.tup
 have pS:∀{n:Nat} {v:Str},pl 1 (.str v)=true→pl (n+1) (.str v)=true:=fun h=>h
 by_cases k4:y<6
 .have hp:(0:Int)<((shel O).length:Int):=by rw[shel_len]; omega
  obtain⟨v,hv,ev⟩:=ix_strs (l:=shel O) (draw_range (ns:=ns) (k:=a+3) (many:=(shel O).length) hp).1 (draw_range (ns:=ns) (k:=a+3) (many:=(shel O).length) hp).2
  have c7:4+(List.replicate 3 (strsW O)).flatten.length≤cap:=by
   have:(List.replicate 3 (strsW O)).flatten.length=3*O.length:=by simp[List.replicate,strsW]; omega
   rw[this]
   exact Nat.le_trans (show 4+3*O.length≤400 by omega) (by decide)
  have hs3:(strsW O).length≤1000:=by rw[strsW_len]; omega
  refine⟨th "write" [.str v,.tup l1],fun h=>?_,?_,?_⟩
  .rw[row3]
   refine seq_ret ?_
   have m:∀h,mulW (.tup (strsW O)) (.int 3) h=some (.tup (List.replicate 3 (strsW O)).flatten,h):=fun h=>by
    simp only[mulW]
    rw[if_pos ⟨by omega,by omega,hs3⟩]
    rfl
   have ad:∀h,addW (.tup [.str "a",.str "b",.str "c",.str "d"]) (.tup (List.replicate 3 (strsW O)).flatten) h=some (.tup ([.str "a",.str "b",.str "c",.str "d"]++(List.replicate 3 (strsW O)).flatten),h):=fun h=>by
    simp only[addW,addI,List.length_cons,List.length_nil]
    rw[if_pos c7]
   rw[shel_eq] at ad
   generalize (List.replicate 3 (strsW O)).flatten=Z at m ad
   have a3:∀h,addW (.int a) (.int 3) h=some (.int (a+3),h):=fun h=>by simp[addW,addI]
   unfold DS4
   refine if_yes ((t_lt (j:=0) rfl).trans (by simp[k4])) ?_
   rw[seq_nx (ρ':=ρD ns a ((d:Int)+1) (kn N O H) rl (some (.int y)) (some (.tup l1)) (some (.tup (strsW (shel O)))) none none none) (h':=h) (by simp![tupW,c4,ix1,m,ad])]
   simp![lenW,strsW_len,a3,e (a+3) (shel O).length _ hp,ev,tupW,c3]
  .rw[show 2+2*(d+1)=(2*d+3)+1 by omega]
   refine pl_of (by simp) fun w hw=>?_
   simp only[List.mem_cons,List.not_mem_nil,or_false] at hw
   rcases hw with rfl | rfl | rfl
   .exact pS (by decide +kernel)
   .exact pS (shel_wd hO v hv)
   .exact pl_mono pl1 (by omega)
  .refine okd_mk (p:=(3,2)) (.write v l1) (by decide +kernel) (by decide +kernel) fun q hq=>?_
   simp at hq; subst hq; exact o1
 have p4:∀h,DS4 G (ρD ns a ((d:Int)+1) (kn N O H) rl (some (.int y)) (some (.tup l1)) none none none none) h=some (.nx (ρD ns a ((d:Int)+1) (kn N O H) rl (some (.int y)) (some (.tup l1)) none none none none),h):=fun h=>
  if_no ((t_lt (j:=0) rfl).trans (by simp[k4]))
 cases k5:(y==6) with
 | true=>
  refine⟨th "say" [.tup l1],fun h=>?_,?_,?_⟩
  .rw[row3,seq_nx (p4 h)]
   refine seq_if_ret ((t_eq rfl).trans (by rw[k5])) ?_
   simp![tupW,c2]
  .rw[show 2+2*(d+1)=(2*d+3)+1 by omega]
   refine pl_of (by simp) fun w hw=>?_
   simp only[List.mem_cons,List.not_mem_nil,or_false] at hw
   rcases hw with rfl | rfl
   .exact pS (by decide +kernel)
   .exact pl_mono pl1 (by omega)
  .refine okd_mk (p:=(2,1)) (.say l1) (by decide +kernel) (by decide +kernel) fun q hq=>?_
   simp at hq; subst hq; exact o1
 | false=>
 have p5:∀h,DS5 G (ρD ns a ((d:Int)+1) (kn N O H) rl (some (.int y)) (some (.tup l1)) none none none none) h=some (.nx (ρD ns a ((d:Int)+1) (kn N O H) rl (some (.int y)) (some (.tup l1)) none none none none),h):=fun h=>
  if_no ((t_eq rfl).trans (by rw[k5]))
 have a3:∀h,addW (.int a) (.int 3) h=some (.int (a+3),h):=fun h=>by simp[addW,addI]
 cases k6:(y==7) with
 | true=>
  obtain⟨v',hv,ev⟩:=ix_fls (l:=[.str "x",.str "y",.str "x1"]) (draw_range (ns:=ns) (k:=a+3) (many:=3) (by omega)).1 (by simpa using (draw_range (ns:=ns) (k:=a+3) (many:=3) (by omega)).2)
  have:∃v:Str,v'=.str v∧pl 1 (.str v)=true:=by
   simp only[List.mem_cons,List.not_mem_nil,or_false] at hv
   rcases hv with rfl | rfl | rfl<;>exact⟨_,rfl,by decide +kernel⟩
  obtain⟨v,rfl,pv⟩:=this
  obtain⟨w2,e2,pl2',o2⟩:=HD (a*3+23) (N++[v]) O H (wd_snoc hN pv) hO hH (by simp; omega) (by omega) lH
  obtain⟨l2,rfl⟩:=o2.tup
  have a4:∀h,addW (.tup (strsW N)) (.tup [.str v]) h=some (.tup (strsW (N++[v])),h):=fun h=>by
   rw[←strsW_snoc]
   simp only[addW,addI,List.length_cons,List.length_nil,strsW_len]
   rw[if_pos (Nat.le_trans (show N.length+(0+1)≤100 by omega) (by decide))]
  have a5:∀h,slW (kn N O H) (some 1) none h=some (.tup [.tup (strsW O),.tup (strsW H)],h):=fun h=>by simp[slW,drop1]
  have a6:∀h,addW (.tup [.tup (strsW (N++[v]))]) (.tup [.tup (strsW O),.tup (strsW H)]) h=some (kn (N++[v]) O H,h):=fun h=>by
   simp only[addW,addI,List.length_cons,List.length_nil]
   rw[if_pos (by decide)]
   rfl
  have a7:∀h,addW (.int (a*3)) (.int 23) h=some (.int (a*3+23),h):=fun h=>by simp[addW,addI]
  refine⟨th "let" [.str v,.tup l1,.tup l2],fun h=>?_,?_,?_⟩
  .rw[row3,seq_nx (p4 h),seq_nx (p5 h)]
   refine seq_if_ret ((t_eq rfl).trans (by rw[k6])) ?_
   rw[seq_nx (ρ':=ρD ns a ((d:Int)+1) (kn N O H) rl (some (.int y)) (some (.tup l1)) none (some (.str v)) none none) (h':=h) (by simp![flsW,c3,a3,e (a+3) 3 _ (by omega),ev])]
   simp![m3,a7,subW,ix0,tupW,c1,c4,a4,eSl,mPart,a5,a6,e2]
  .rw[show 2+2*(d+1)=(2*d+3)+1 by omega]
   refine pl_of (by simp) fun w hw=>?_
   simp only[List.mem_cons,List.not_mem_nil,or_false] at hw
   rcases hw with rfl | rfl | rfl | rfl
   .exact pS (by decide +kernel)
   .exact pS pv
   .exact pl_mono pl1 (by omega)
   .exact pl_mono pl2' (by omega)
  .refine okd_mk (p:=(4,2)) (.lett v l1 l2) (by decide +kernel) (by decide +kernel) fun q hq=>?_
   simp at hq; rcases hq with rfl | rfl
   .exact o1
   .exact o2
 | false=>
 have p6:∀h,DS6 G (ρD ns a ((d:Int)+1) (kn N O H) rl (some (.int y)) (some (.tup l1)) none none none none) h=some (.nx (ρD ns a ((d:Int)+1) (kn N O H) rl (some (.int y)) (some (.tup l1)) none none none none),h):=fun h=>
  if_no ((t_eq rfl).trans (by rw[k6]))
 cases k7:(y==8) with
 | true=>
  obtain⟨v',hv,ev⟩:=ix_fls (l:=[.str "p",.str "q"]) (draw_range (ns:=ns) (k:=a+3) (many:=2) (by omega)).1 (by simpa using (draw_range (ns:=ns) (k:=a+3) (many:=2) (by omega)).2)
  have:∃v:Str,v'=.str v∧pl 1 (.str v)=true:=by
   simp only[List.mem_cons,List.not_mem_nil,or_false] at hv
   rcases hv with rfl | rfl<;>exact⟨_,rfl,by decide +kernel⟩
  obtain⟨v,rfl,pv⟩:=this
  obtain⟨w2,e2,pl2',o2⟩:=HD (a*3+23) N (O++[v]) H hN (wd_snoc hO pv) hH (by omega) (by simp; omega) lH
  obtain⟨l2,rfl⟩:=o2.tup
  have a4:∀h,addW (.tup (strsW O)) (.tup [.str v]) h=some (.tup (strsW (O++[v])),h):=fun h=>by
   rw[←strsW_snoc]
   simp only[addW,addI,List.length_cons,List.length_nil,strsW_len]
   rw[if_pos (Nat.le_trans (show O.length+(0+1)≤100 by omega) (by decide))]
  have a7:∀h,addW (.int (a*3)) (.int 23) h=some (.int (a*3+23),h):=fun h=>by simp[addW,addI]
  refine⟨th "own" [.str v,.tup l1,.tup l2],fun h=>?_,?_,?_⟩
  .rw[row3,seq_nx (p4 h),seq_nx (p5 h),seq_nx (p6 h)]
   refine seq_if_ret ((t_eq rfl).trans (by rw[k7])) ?_
   rw[seq_nx (ρ':=ρD ns a ((d:Int)+1) (kn N O H) rl (some (.int y)) (some (.tup l1)) none (some (.str v)) none none) (h':=h) (by simp![flsW,c2,a3,e (a+3) 2 _ (by omega),ev])]
   rw[seq_nx (ρ':=ρD ns a ((d:Int)+1) (kn N O H) rl (some (.int y)) (some (.tup l1)) none (some (.str v)) (some (kn N (O++[v]) H)) none) (h':=h) (by simp![tupW,c1,c3,ix0,ix1,ix2,a4])]
   simp![m3,a7,subW,tupW,c4,e2]
  .rw[show 2+2*(d+1)=(2*d+3)+1 by omega]
   refine pl_of (by simp) fun w hw=>?_
   simp only[List.mem_cons,List.not_mem_nil,or_false] at hw
   rcases hw with rfl | rfl | rfl | rfl
   .exact pS (by decide +kernel)
   .exact pS pv
   .exact pl_mono pl1 (by omega)
   .exact pl_mono pl2' (by omega)
  .refine okd_mk (p:=(4,2)) (.own v l1 l2) (by decide +kernel) (by decide +kernel) fun q hq=>?_
   simp at hq; rcases hq with rfl | rfl
   .exact o1
   .exact o2
 | false=>
 have p7:∀h,DS7 G (ρD ns a ((d:Int)+1) (kn N O H) rl (some (.int y)) (some (.tup l1)) none none none none) h=some (.nx (ρD ns a ((d:Int)+1) (kn N O H) rl (some (.int y)) (some (.tup l1)) none none none none),h):=fun h=>
  if_no ((t_eq rfl).trans (by rw[k7]))
 obtain⟨w2,e2,pl2',o2⟩:=HD (a*3+41) N O H hN hO hH (by omega) (by omega) lH
 obtain⟨l2,rfl⟩:=o2.tup
 have a8:∀h,addW (.int (a*3)) (.int 41) h=some (.int (a*3+41),h):=fun h=>by simp[addW,addI]
 have p8:∀h,DS8 G (ρD ns a ((d:Int)+1) (kn N O H) rl (some (.int y)) (some (.tup l1)) none none none none) h=some (.nx (ρD ns a ((d:Int)+1) (kn N O H) rl (some (.int y)) (some (.tup l1)) none none none (some (.tup l2))),h):=fun h=>by
  simp![DS8,m3,a8,subW,e2]
 have row8:∀h,b_f_law_deed G (ρD ns a ((d:Int)+1) (kn N O H) rl none none none none none none) h=sSeq (DS9 G) (DS10 G) (ρD ns a ((d:Int)+1) (kn N O H) rl (some (.int y)) (some (.tup l1)) none none none (some (.tup l2))) h:=fun h=>by
  rw[row3,seq_nx (p4 h),seq_nx (p5 h),seq_nx (p6 h),seq_nx (p7 h),seq_nx (p8 h)]
 cases k9:(y==9) with
 | true=>
  obtain⟨w3,e3,pl3,o3⟩:=HD (a*3+61) N O H hN hO hH (by omega) (by omega) lH
  obtain⟨l3,rfl⟩:=o3.tup
  have a9:∀h,addW (.int (a*3)) (.int 61) h=some (.int (a*3+61),h):=fun h=>by simp[addW,addI]
  refine⟨th "if" [.tup l1,.tup l2,.tup l3],fun h=>?_,?_,?_⟩
  .rw[row8]
   refine seq_if_ret ((t_eq rfl).trans (by rw[k9])) ?_
   simp![m3,a9,subW,tupW,c4,e3]
  .rw[show 2+2*(d+1)=(2*d+3)+1 by omega]
   refine pl_of (by simp) fun w hw=>?_
   simp only[List.mem_cons,List.not_mem_nil,or_false] at hw
   rcases hw with rfl | rfl | rfl | rfl
   .exact pS (by decide +kernel)
   .exact pl_mono pl1 (by omega)
   .exact pl_mono pl2' (by omega)
   .exact pl_mono pl3 (by omega)
  .refine okd_mk (p:=(4,1)) (.iff l1 l2 l3) (by decide +kernel) (by decide +kernel) fun q hq=>?_
   simp at hq; rcases hq with rfl | rfl | rfl
   .exact o1
   .exact o2
   .exact o3
 | false=>
 have g10:0≤y-10∧y-10<5:=by
  rw[beq_eq_false_iff_ne] at k5 k6 k7 k9
  omega
 obtain⟨v',hv,ev⟩:=ix_fls (l:=[.tup [.str "then"],.tup [.str "add"],.tup [.str "less"],.tup [.str "loop"],.tup [.str "then"]]) (i:=y-10) g10.1 (by simpa using g10.2)
 have:∃x:Str,v'=.tup [.str x]∧pl 1 (.str x)=true∧(x==("call":Str))=false∧fm x=some (3,1)∧Sh rl rl.length (th x [.tup l1,.tup l2]):=by
  simp only[List.mem_cons,List.not_mem_nil,or_false] at hv
  rcases hv with rfl | rfl | rfl | rfl | rfl
  .exact⟨_,rfl,by decide +kernel,by decide +kernel,by decide +kernel,.thenn l1 l2⟩
  .exact⟨_,rfl,by decide +kernel,by decide +kernel,by decide +kernel,.add l1 l2⟩
  .exact⟨_,rfl,by decide +kernel,by decide +kernel,by decide +kernel,.less l1 l2⟩
  .exact⟨_,rfl,by decide +kernel,by decide +kernel,by decide +kernel,.loop l1 l2⟩
  .exact⟨_,rfl,by decide +kernel,by decide +kernel,by decide +kernel,.thenn l1 l2⟩
 obtain⟨x,rfl,px,hc,hf,sh⟩:=this
 refine⟨th x [.tup l1,.tup l2],fun h=>?_,?_,?_⟩
 .rw[row8]
  unfold DS9
  rw[seq_if_no ((t_eq rfl).trans (by rw[k9]))]
  have a10:∀h,addW (.tup [.str x]) (.tup [.tup l1,.tup l2]) h=some (th x [.tup l1,.tup l2],h):=fun h=>by
   simp only[addW,addI,List.length_cons,List.length_nil]
   rw[if_pos (by decide)]
   rfl
  simp![DS10,tupW,flsW,c1,c2,c5,subW,ev,a10]
 .rw[show 2+2*(d+1)=(2*d+3)+1 by omega]
  refine pl_of (by simp) fun w hw=>?_
  simp only[List.mem_cons,List.not_mem_nil,or_false] at hw
  rcases hw with rfl | rfl | rfl
  .exact pS px
  .exact pl_mono pl1 (by omega)
  .exact pl_mono pl2' (by omega)
 .refine okd_mk (p:=(3,1)) sh hc hf fun q hq=>?_
  simp at hq; rcases hq with rfl | rfl
  .exact o1
  .exact o2
theorem deed_zero{F:Fs}{ns:List Int}{rl:List W}(hl:ns.length≤63):DeedOk (step (step (step (step F)))) ns rl 0:=by
 intro a N O H hN hO hH lN lO lH
 have e:=fun(k many:Int) (h:MH) (hm:0<many)=>s_drawn (F:=step F) (k:=k) (many:=many) (h:=h) hl hm
 obtain⟨w,ew,p,o⟩:=s_leaf (F:=F) (ns:=ns) (a:=a+1) (N:=N) (O:=O) (H:=H) (rl:=rl) (k:=rl.length) hl hN hO hH (by omega) (by omega) (by omega)
 generalize step (step (step F))=G at e ew
 refine⟨w,fun h=>gc_dt (n:=2) ?_ (pl_dt p),p,o⟩
 simp![b_f_law_deed,e a 15 _ (by omega),eqB_int,addW,addI,ew]
noncomputable def CL0(F:Fs):MS:=(sAsg (eArgs F.f_law_drawn [(eVar 0),(eOp addW (eVar 1) (eC (.int 3))),(eArgs lenW [(eVar 4)])]) (gNm 5))
noncomputable def CL1(F:Fs):MS:=(sAsg (eArgs lenW [(eOp ixW (eOp ixW (eVar 4) (eVar 5)) (eC (.int 0)))]) (gNm 6))
noncomputable def CL2(F:Fs):MS:=(sAsg (eArgs lstW []) (gNm 7))
noncomputable def CL3(F:Fs):MS:=(sFor (iRng [(eOp addW (eVar 6) (eArgs lenW [(eOp ixW (eOp ixW (eVar 4) (eVar 5)) (eC (.int 1)))]))]) (gNm 8)
 (sExpr (eMethL appendM (eVar 7) [(eArgs F.f_law_deed [(eVar 0),(eOp addW (eOp addW (eOp mulW (eVar 1) (eC (.int 3))) (eC (.int 7))) (eOp mulW (eC (.int 5)) (eVar 8))),(eOp subW (eVar 2) (eC (.int 1))),(eVar 3),(eVar 4)])])))
noncomputable def CL4(F:Fs):MS:=(sRet (eArgs tupW [(eC (.str "call")),(eVar 5),(eArgs tupleW [(eSl (eVar 7) none (some (eVar 6)))]),(eArgs tupleW [(eSl (eVar 7) (some (eVar 6)) none)])]))
theorem CL_row(F:Fs):b_f_law_call F=sSeq (CL0 F) (sSeq (CL1 F) (sSeq (CL2 F) (sSeq (CL3 F) (CL4 F)))):=rfl
noncomputable def RU0(F:Fs):MS:=(sAsg (eArgs tupW []) (gNm 2))
noncomputable def RU1(F:Fs):MS:=(sFor (iRng [(eArgs F.f_law_drawn [(eVar 0),(eVar 1),(eC (.int 3))])]) (gNm 3)
 (sSeq (sAsg (eOp ixW (eArgs flsW [(eArgs tupW []),(eArgs tupW [(eC (.str "x"))]),(eArgs tupW [(eC (.str "y")),(eC (.str "x"))])]) (eArgs F.f_law_drawn [(eVar 0),(eOp addW (eOp addW (eVar 1) (eC (.int 1))) (eOp mulW (eC (.int 5)) (eVar 3))),(eC (.int 3))])) (gNm 4))
 (sSeq (sAsg (eOp ixW (eArgs flsW [(eArgs tupW []),(eArgs tupW [(eC (.str "f"))]),(eArgs tupW [(eC (.str "f")),(eC (.str "g1"))])]) (eArgs F.f_law_drawn [(eVar 0),(eOp addW (eOp addW (eVar 1) (eC (.int 2))) (eOp mulW (eC (.int 5)) (eVar 3))),(eC (.int 3))])) (gNm 5))
 (sSeq (sAsg (eArgs F.f_law_deed [(eVar 0),(eOp addW (eOp addW (eVar 1) (eC (.int 20))) (eOp mulW (eC (.int 7)) (eVar 3))),(eC (.int 2)),(eArgs tupW [(eVar 4),(eArgs tupW []),(eVar 5)]),(eVar 2)]) (gNm 6))
 (sAsg (eOp addW (eVar 2) (eArgs tupW [(eArgs tupW [(eVar 4),(eVar 5),(eVar 6)])])) (gNm 2))))))
noncomputable def RU2(F:Fs):MS:=(sRet (eVar 2))
theorem RU_row(F:Fs):b_f_law_rules F=sSeq (RU0 F) (sSeq (RU1 F) (RU2 F)):=rfl
structure RG(rl:List W):Prop where
 l:rl.length≤4
 g:∀i,i<rl.length→∃(N hs:List Str) (body:W),rl[i]?=some (.tup [.tup (strsW N),.tup (strsW hs),body])∧N.length≤2∧hs.length≤2∧wd N∧wd hs∧pl 6 body=true∧okd rl i 3 body
theorem RG.pl{rl:List W}(h:RG rl):pl 8 (.tup rl)=true:=by
 refine pl_of h.l fun w hw=>?_
 obtain⟨i,hi,rfl⟩:=List.mem_iff_getElem.mp hw
 obtain⟨N,hs,body,e,l1,l2,w1,w2,p,o⟩:=h.g i hi
 rw[List.getElem?_eq_getElem hi] at e
 injection e with e
 rw[e]
 refine pl_of (by simp) fun v hv=>?_
 simp only[List.mem_cons,List.not_mem_nil,or_false] at hv
 rcases hv with rfl | rfl | rfl
 .exact pl_mono (pl_strs w1 (by omega)) (by omega)
 .exact pl_mono (pl_strs w2 (by omega)) (by omega)
 .exact p
theorem RG.good{rl:List W}(h:RG rl):RulesGood rl:=⟨fun i hi=>by
 obtain⟨N,hs,body,e,l1,l2,w1,w2,p,o⟩:=h.g i hi
 exact⟨strsW N,hs,body,e,dt_mono (pl_dt p) (by omega),o,by omega⟩⟩
theorem RG.ok{rl:List W}(h:RG rl):RulesOk rl:=by
 intro r hr
 obtain⟨i,hi,rfl⟩:=List.mem_iff_getElem.mp hr
 obtain⟨N,hs,body,e,l1,l2,w1,w2,p,o⟩:=h.g i hi
 rw[List.getElem?_eq_getElem hi] at e
 injection e with e
 exact⟨strsW N,strsW hs,body,e,by rw[strsW_len]; omega,by rw[strsW_len]; omega⟩
theorem Sh.more{rl:List W}{k:Nat}{w r:W}(h:Sh rl k w):Sh (rl++[r]) k w:=by
 cases h with
 | call i a b hi ns hs body e=>exact .call i a b hi ns hs body (by rw[List.getElem?_append_left (List.getElem?_eq_some_iff.mp e).1]; exact e)
 | number i=>exact .number i
 | name v=>exact .name v
 | read v=>exact .read v
 | doo v=>exact .doo v
 | ask=>exact .ask
 | write v a=>exact .write v a
 | say a=>exact .say a
 | lett v a b=>exact .lett v a b
 | own v a b=>exact .own v a b
 | add a b=>exact .add a b
 | less a b=>exact .less a b
 | thenn a b=>exact .thenn a b
 | loop a b=>exact .loop a b
 | iff a b c=>exact .iff a b c
theorem okd_more{rl:List W}{k:Nat}{r:W}:∀{n:Nat} {w:W},okd rl k n w→okd (rl++[r]) k n w
 | 0,_,h=>by cases h
 | n+1,w,h=>⟨h.1.more,fun p hp=>okd_more (h.2 p hp)⟩
theorem RG.snoc{rl:List W}(h:RG rl)(hl:rl.length≤3){N hs:List Str}{body:W}(l1:N.length≤2)(l2:hs.length≤2)(w1:wd N)(w2:wd hs)(p:K1.pl 6 body=true)(o:okd rl rl.length 3 body):RG (rl++[.tup [.tup (strsW N),.tup (strsW hs),body]]):=by
 refine⟨by simp; omega,fun i hi=>?_⟩
 by_cases c:i<rl.length
 .obtain⟨N',hs',body',e,a1,a2,a3,a4,a5,a6⟩:=h.g i c
  exact⟨N',hs',body',by rw[List.getElem?_append_left c]; exact e,a1,a2,a3,a4,a5,okd_more a6⟩
 .have:i=rl.length:=by simp at hi; omega
  subst this
  exact⟨N,hs,body,by simp,l1,l2,w1,w2,p,okd_more o⟩
theorem m5{a:Int}{h:MH}:mulW (.int 5) (.int a) h=some (.int (5*a),h):=by
 have:(small 5||small a)=true:=by rw[show small 5=true by decide]; rfl
 simp only[mulW,this,if_true]
theorem m7{a:Int}{h:MH}:mulW (.int 7) (.int a) h=some (.int (7*a),h):=by
 have:(small 7||small a)=true:=by rw[show small 7=true by decide]; rfl
 simp only[mulW,this,if_true]
noncomputable abbrev ρC(ns:List Int)(a d:Int)(K:W)(rl:List W)(o5 o6 o7 o8:Option W):En:=[some (scr ns),some (.int a),some (.int d),some K,some (.tup rl),o5,o6,o7,o8]
theorem call_loop{G:Fs}{ns:List Int}{a:Int}{rl:List W}{d:Nat}{N O H:List Str}(HD:DeedOk G ns rl d)(hN:wd N)(hO:wd O)(hH:wd H)(lN:N.length+d≤20)(lO:O.length+d≤20)(lH:H.length≤20) :
  ∀is:List Int,∃ws:List W,ws.length=is.length∧(∀w∈ws,pl (2+2*d) w=true∧okd rl rl.length (d+1) w)∧∀(h0:MH) (acc:List W) (o5 o6 o8:Option W),acc.length+is.length≤1000→
   ∃o,forL (gNm 8) (sExpr (eMethL appendM (eVar 7) [(eArgs G.f_law_deed [(eVar 0),(eOp addW (eOp addW (eOp mulW (eVar 1) (eC (.int 3))) (eC (.int 7))) (eOp mulW (eC (.int 5)) (eVar 8))),(eOp subW (eVar 2) (eC (.int 1))),(eVar 3),(eVar 4)])])) (is.map W.int) (ρC ns a ((d:Int)+1) (kn N O H) rl o5 o6 (some (.ref h0.length)) o8) (h0++[.lst acc]) =
    some (.nx (ρC ns a ((d:Int)+1) (kn N O H) rl o5 o6 (some (.ref h0.length)) o),h0++[.lst (acc++ws)])
 | []=>⟨[],rfl,fun w hw=>by simp at hw,fun h0 acc o5 o6 o8 _=>⟨o8,by simp[forL]⟩⟩
 | i::is=>by
  obtain⟨ws,h1,h2,h3⟩:=call_loop (a:=a) HD hN hO hH lN lO lH is
  obtain⟨w,ew,p,o⟩:=HD (a*3+7+5*i) N O H hN hO hH lN lO lH
  refine⟨w::ws,by simp[h1],fun v hv=>?_,fun h0 acc o5 o6 o8 hc=>?_⟩
  .rcases List.mem_cons.mp hv with rfl | z
   .exact⟨p,o⟩
   .exact h2 v z
  .simp only[List.length_cons] at hc
   obtain⟨o',e⟩:=h3 h0 (acc++[w]) o5 o6 (some (.int i)) (by simp; omega)
   refine⟨o',?_⟩
   simp only[List.map_cons]
   unfold forL
   have g:gNm 8 (.int i) (ρC ns a ((d:Int)+1) (kn N O H) rl o5 o6 (some (.ref h0.length)) o8) (h0++[.lst acc])=some (ρC ns a ((d:Int)+1) (kn N O H) rl o5 o6 (some (.ref h0.length)) (some (.int i)),h0++[.lst acc]):=by simp[gNm]
   rw[g]
   have hcap:acc.length<cap:=Nat.lt_of_lt_of_le (show acc.length<1000 by omega) (by decide)
   have b:(sExpr (eMethL appendM (eVar 7) [(eArgs G.f_law_deed [(eVar 0),(eOp addW (eOp addW (eOp mulW (eVar 1) (eC (.int 3))) (eC (.int 7))) (eOp mulW (eC (.int 5)) (eVar 8))),(eOp subW (eVar 2) (eC (.int 1))),(eVar 3),(eVar 4)])])) (ρC ns a ((d:Int)+1) (kn N O H) rl o5 o6 (some (.ref h0.length)) (some (.int i))) (h0++[.lst acc])=some (.nx (ρC ns a ((d:Int)+1) (kn N O H) rl o5 o6 (some (.ref h0.length)) (some (.int i))),h0++[.lst (acc++[w])]):=by
    simp![eMethL,getL,at0,appendM,set0,m3,m5,addW,addI,subW,ew,hcap]
   simp only[b]
   rw[e]
   simp
theorem upto_ints(n:Nat):upto n=((_root_.List.range n).map fun(i:Nat)=>(i:Int)).map W.int:=by simp[upto]
theorem call_step{F:Fs}{ns:List Int}{rl:List W}{d:Nat}(hl:ns.length≤63)(hrg:RG rl)(hne:rl≠[])(HD:DeedOk (step (step F)) ns rl d):CallOk (step (step (step F))) ns rl d:=by
 intro a N O H hN hO hH lN lO lH
 have e:=fun(k many:Int) (h:MH) (hm:0<many)=>s_drawn (F:=F) (k:=k) (many:=many) (h:=h) hl hm
 generalize step (step F)=G at e HD
 have hp:(0:Int)<(rl.length:Int):=by
  cases rl with
  | nil=>exact absurd rfl hne
  | cons _ _=>simp only[List.length_cons]; omega
 have rg:=draw_range (ns:=ns) (k:=a+3) (many:=rl.length) hp
 have er:=fun h=>e (a+3) rl.length h hp
 obtain⟨j,hj⟩:=Int.eq_ofNat_of_zero_le rg.1
 rw[hj] at rg er
 have hjl:j<rl.length:=by omega
 obtain⟨N',hs',body',eb,b1,b2,b3,b4,b5,b6⟩:=hrg.g j hjl
 have ei:∀h,ixW (.tup rl) (.int (j:Int)) h=some (.tup [.tup (strsW N'),.tup (strsW hs'),body'],h):=fun h=>ixn (by omega) (by omega) (by simpa using eb)
 obtain⟨ws,h1,h2,h3⟩:=call_loop (a:=a) HD hN hO hH lN lO lH ((_root_.List.range (N'.length+hs'.length)).map fun(i:Nat)=>(i:Int))
 simp only[List.length_map,List.length_range] at h1 h3
 refine⟨th "call" [.int (j:Int),.tup (ws.take N'.length),.tup (ws.drop N'.length)],fun h=>?_,?_,?_⟩
 .have pw:dt (2+2*(d+1)) (th "call" [.int (j:Int),.tup (ws.take N'.length),.tup (ws.drop N'.length)])=true:=by
   rw[show 2+2*(d+1)=(2*d+3)+1 by omega]
   refine dt_of (by simp) fun v hv=>?_
   simp only[List.mem_cons,List.not_mem_nil,or_false] at hv
   rcases hv with rfl | rfl | rfl | rfl
   .have:dt 1 (.str "call")=true:=by decide +kernel
    exact dt_mono this (by omega)
   .rfl
   .exact dt_of (by simp; omega) fun u hu=>dt_mono (pl_dt (h2 u (List.mem_of_mem_take hu)).1) (by omega)
   .exact dt_of (by simp; omega) fun u hu=>dt_mono (pl_dt (h2 u (List.mem_of_mem_drop hu)).1) (by omega)
  refine gc_dt' (t:=[.lst ws]) ?_ pw
  obtain⟨o,e3⟩:=h3 h [] (some (.int (j:Int))) (some (.int (N'.length:Int))) none (by simp; omega)
  rw[List.nil_append] at e3
  suffices hs:b_f_law_call G (ρC ns a ((d:Int)+1) (kn N O H) rl none none none none) h=some (.ret (th "call" [.int (j:Int),.tup (ws.take N'.length),.tup (ws.drop N'.length)]),h++[.lst ws]) by
   simp only[fnM,List.length_cons,List.length_nil,if_true,List.map_cons,List.map_nil,List.replicate,List.cons_append,List.nil_append]
   simp only[ρC] at hs
   simp only[hs]
  have c0:(0:Nat)≤cap:=by decide
  have c4:(4:Nat)≤cap:=by decide
  have s0:CL0 G (ρC ns a ((d:Int)+1) (kn N O H) rl none none none none) h=some (.nx (ρC ns a ((d:Int)+1) (kn N O H) rl (some (.int (j:Int))) none none none),h):=by
   simp![CL0,addW,addI,lenW,er]
  have s1:CL1 G (ρC ns a ((d:Int)+1) (kn N O H) rl (some (.int (j:Int))) none none none) h=some (.nx (ρC ns a ((d:Int)+1) (kn N O H) rl (some (.int (j:Int))) (some (.int (N'.length:Int))) none none),h):=by
   simp![CL1,ei,ix0,lenW,strsW_len]
  have s2:CL2 G (ρC ns a ((d:Int)+1) (kn N O H) rl (some (.int (j:Int))) (some (.int (N'.length:Int))) none none) h=some (.nx (ρC ns a ((d:Int)+1) (kn N O H) rl (some (.int (j:Int))) (some (.int (N'.length:Int))) (some (.ref h.length)) none),h++[.lst []]):=by
   simp![CL2,lstW,c0]
  have s3:CL3 G (ρC ns a ((d:Int)+1) (kn N O H) rl (some (.int (j:Int))) (some (.int (N'.length:Int))) (some (.ref h.length)) none) (h++[.lst []])=some (.nx (ρC ns a ((d:Int)+1) (kn N O H) rl (some (.int (j:Int))) (some (.int (N'.length:Int))) (some (.ref h.length)) o),h++[.lst ws]):=by
   rw[←e3]
   have ir:(iRng [(eOp addW (eVar 6) (eArgs lenW [(eOp ixW (eOp ixW (eVar 4) (eVar 5)) (eC (.int 1)))]))]) (ρC ns a ((d:Int)+1) (kn N O H) rl (some (.int (j:Int))) (some (.int (N'.length:Int))) (some (.ref h.length)) none) (h++[.lst []])=some (.items (upto (N'.length+hs'.length)),h++[.lst []]):=by
    have q:-(2 ^ 62:Int)≤(N'.length:Int)+(hs'.length:Int)∧(N'.length:Int)+(hs'.length:Int)<2 ^ 62:=by omega
    have q2:((N'.length:Int)+(hs'.length:Int)).toNat=N'.length+hs'.length:=by omega
    have lw:∀h,lenW [.tup (strsW hs')] h=some (.int (hs'.length:Int),h):=fun h=>by simp[lenW,strsW_len]
    have ad:∀h,addW (.int (N'.length:Int)) (.int (hs'.length:Int)) h=some (.int ((N'.length:Int)+(hs'.length:Int)),h):=fun h=>by simp[addW,addI]
    have rw1:∀h,rngW [.int ((N'.length:Int)+(hs'.length:Int))] h=some (.items (upto (N'.length+hs'.length)),h):=fun h=>by
     unfold rngW
     simp only
     rw[if_pos q,q2]
    simp![iRng,ei,ix1,lw,ad,rw1]
   unfold CL3 sFor
   rw[ir]
   simp only
   rw[upto_ints]
  have s4:CL4 G (ρC ns a ((d:Int)+1) (kn N O H) rl (some (.int (j:Int))) (some (.int (N'.length:Int))) (some (.ref h.length)) o) (h++[.lst ws])=some (.ret (th "call" [.int (j:Int),.tup (ws.take N'.length),.tup (ws.drop N'.length)]),h++[.lst ws]):=by
   have t1:=cut_to (l:=ws) (k:=N'.length) (by omega)
   have t2:=cut_from (l:=ws) (k:=N'.length)
   simp![CL4,eSl,mPart,slW,getL,at0,tupleW,tupW,c4,t1,t2]
  rw[CL_row,seq_nx s0,seq_nx s1,seq_nx s2,seq_nx s3,s4]
 .rw[show 2+2*(d+1)=(2*d+3)+1 by omega]
  refine pl_of (by simp) fun v hv=>?_
  simp only[List.mem_cons,List.not_mem_nil,or_false] at hv
  have hl4:=hrg.l
  rcases hv with rfl | rfl | rfl | rfl
  .have:pl 1 (.str "call")=true:=by decide +kernel
   exact pl_mono this (by omega)
  .have:pl 1 (.int (j:Int))=true:=by
    unfold pl
    rw[Bool.and_eq_true]
    exact⟨decide_eq_true (by omega),decide_eq_true (by omega)⟩
   exact pl_mono this (by omega)
  .exact pl_of (by simp; omega) fun u hu=>pl_mono (h2 u (List.mem_of_mem_take hu)).1 (by omega)
  .exact pl_of (by simp; omega) fun u hu=>pl_mono (h2 u (List.mem_of_mem_drop hu)).1 (by omega)
 .refine⟨.call j _ _ hjl (strsW N') hs' body' eb,fun p hp=>?_⟩
  rw[partsL_call,List.take_append_drop] at hp
  exact(h2 p hp).2
theorem deed_all{ns:List Int}{rl:List W}(hl:ns.length≤63)(hrg:RG rl)(F:Fs):∀(d:Nat),d≤4→∀m,4+2*d≤m→DeedOk (up m F) ns rl d
 | 0,_,m,hm=>by
  obtain⟨m',rfl⟩:∃m',m=m'+4:=⟨m-4,by omega⟩
  exact deed_zero hl
 | d+1,hd,m,hm=>by
  obtain⟨m',rfl⟩:∃m',m=m'+4:=⟨m-4,by omega⟩
  have i1:=deed_all hl hrg F d (by omega) (m'+3) (by omega)
  have i2:=deed_all hl hrg F d (by omega) (m'+2) (by omega)
  exact deed_step hl (dt_mono (pl_dt hrg.pl) (by omega)) (by omega) i1 fun hne=>call_step hl hrg hne i2
noncomputable abbrev ρR(ns:List Int)(a:Int)(rl:List W)(o3 o4 o5 o6:Option W):En:=[some (scr ns),some (.int a),some (.tup rl),o3,o4,o5,o6]
noncomputable def RUb(F:Fs):MS:=(sSeq (sAsg (eOp ixW (eArgs flsW [(eArgs tupW []),(eArgs tupW [(eC (.str "x"))]),(eArgs tupW [(eC (.str "y")),(eC (.str "x"))])]) (eArgs F.f_law_drawn [(eVar 0),(eOp addW (eOp addW (eVar 1) (eC (.int 1))) (eOp mulW (eC (.int 5)) (eVar 3))),(eC (.int 3))])) (gNm 4))
 (sSeq (sAsg (eOp ixW (eArgs flsW [(eArgs tupW []),(eArgs tupW [(eC (.str "f"))]),(eArgs tupW [(eC (.str "f")),(eC (.str "g1"))])]) (eArgs F.f_law_drawn [(eVar 0),(eOp addW (eOp addW (eVar 1) (eC (.int 2))) (eOp mulW (eC (.int 5)) (eVar 3))),(eC (.int 3))])) (gNm 5))
 (sSeq (sAsg (eArgs F.f_law_deed [(eVar 0),(eOp addW (eOp addW (eVar 1) (eC (.int 20))) (eOp mulW (eC (.int 7)) (eVar 3))),(eC (.int 2)),(eArgs tupW [(eVar 4),(eArgs tupW []),(eVar 5)]),(eVar 2)]) (gNm 6))
 (sAsg (eOp addW (eVar 2) (eArgs tupW [(eArgs tupW [(eVar 4),(eVar 5),(eVar 6)])])) (gNm 2)))))
theorem drawn_loop{G:Fs}{ns:List Int}{a:Int}(e:∀(k many:Int) (h:MH),0<many→G.f_law_drawn [scr ns,.int k,.int many] h=some (.int (drawV ns k many),h))(HD:∀rl,RG rl→DeedOk G ns rl 2) :
  ∀(is:List Int) (rl:List W),RG rl→rl.length+is.length≤4→∃rl',RG rl'∧rl'.length=rl.length+is.length∧∀(h:MH) (o3 o4 o5 o6:Option W),∃p3 p4 p5 p6,forL (gNm 3) (RUb G) (is.map W.int) (ρR ns a rl o3 o4 o5 o6) h=some (.nx (ρR ns a rl' p3 p4 p5 p6),h)
 | [],rl,hr,_=>⟨rl,hr,by simp,fun h o3 o4 o5 o6=>⟨o3,o4,o5,o6,by simp[forL]⟩⟩
 | i::is,rl,hr,hl=>by
  simp only[List.length_cons] at hl
  have c0:(0:Nat)≤cap:=by decide
  have c1:(1:Nat)≤cap:=by decide
  have c2:(2:Nat)≤cap:=by decide
  have c3:(3:Nat)≤cap:=by decide
  obtain⟨v1,hv1,ev1⟩:=ix_fls (l:=[.tup [],.tup [.str "x"],.tup [.str "y",.str "x"]]) (draw_range (ns:=ns) (k:=a+1+5*i) (many:=3) (by omega)).1 (by simpa using (draw_range (ns:=ns) (k:=a+1+5*i) (many:=3) (by omega)).2)
  have:∃N:List Str,v1=.tup (strsW N)∧N.length≤2∧wd N:=by
   simp only[List.mem_cons,List.not_mem_nil,or_false] at hv1
   rcases hv1 with rfl | rfl | rfl
   .exact⟨[],rfl,by simp,fun v hv=>by simp at hv⟩
   .exact⟨["x"],rfl,by simp,fun v hv=>by simp only[List.mem_cons,List.not_mem_nil,or_false] at hv; subst hv; decide +kernel⟩
   .exact⟨["y","x"],rfl,by simp,fun v hv=>by simp only[List.mem_cons,List.not_mem_nil,or_false] at hv; rcases hv with rfl | rfl<;>decide +kernel⟩
  obtain⟨N,rfl,lN,wN⟩:=this
  obtain⟨v2,hv2,ev2⟩:=ix_fls (l:=[.tup [],.tup [.str "f"],.tup [.str "f",.str "g1"]]) (draw_range (ns:=ns) (k:=a+2+5*i) (many:=3) (by omega)).1 (by simpa using (draw_range (ns:=ns) (k:=a+2+5*i) (many:=3) (by omega)).2)
  have:∃N:List Str,v2=.tup (strsW N)∧N.length≤2∧wd N:=by
   simp only[List.mem_cons,List.not_mem_nil,or_false] at hv2
   rcases hv2 with rfl | rfl | rfl
   .exact⟨[],rfl,by simp,fun v hv=>by simp at hv⟩
   .exact⟨["f"],rfl,by simp,fun v hv=>by simp only[List.mem_cons,List.not_mem_nil,or_false] at hv; subst hv; decide +kernel⟩
   .exact⟨["f","g1"],rfl,by simp,fun v hv=>by simp only[List.mem_cons,List.not_mem_nil,or_false] at hv; rcases hv with rfl | rfl<;>decide +kernel⟩
  obtain⟨H,rfl,lH,wH⟩:=this
  obtain⟨w,ew,pw,ow⟩:=HD rl hr (a+20+7*i) N [] H wN (fun v hv=>by simp at hv) wH (by omega) (by simp) (by omega)
  obtain⟨rl',hr',hl',ih⟩:=drawn_loop (a:=a) e HD is (rl++[.tup [.tup (strsW N),.tup (strsW H),w]]) (hr.snoc (by omega) lN lH wN wH pw ow) (by simp; omega)
  refine⟨rl',hr',by rw[hl']; simp; omega,fun h o3 o4 o5 o6=>?_⟩
  obtain⟨p3,p4,p5,p6,e6⟩:=ih h (some (.int i)) (some (.tup (strsW N))) (some (.tup (strsW H))) (some w)
  refine⟨p3,p4,p5,p6,?_⟩
  simp only[List.map_cons]
  unfold forL
  have g:gNm 3 (.int i) (ρR ns a rl o3 o4 o5 o6) h=some (ρR ns a rl (some (.int i)) o4 o5 o6,h):=by simp[gNm]
  rw[g]
  have cr:rl.length+1≤cap:=Nat.le_trans (show rl.length+1≤10 by omega) (by decide)
  have a1:∀x y:Int,∀h,addW (.int x) (.int y) h=some (.int (x+y),h):=fun x y h=>by simp[addW,addI]
  have a2:∀w h,addW (.tup rl) (.tup [w]) h=some (.tup (rl++[w]),h):=fun w h=>by
   simp only[addW,addI,List.length_cons,List.length_nil]
   rw[if_pos (by simpa using cr)]
  have ew':∀h,G.f_law_deed [scr ns,.int (a+20+7*i),.int 2,.tup [.tup (strsW N),.tup [],.tup (strsW H)],.tup rl] h=some (w,h):=fun h=>ew h
  have b:RUb G (ρR ns a rl (some (.int i)) o4 o5 o6) h=some (.nx (ρR ns a (rl++[.tup [.tup (strsW N),.tup (strsW H),w]]) (some (.int i)) (some (.tup (strsW N))) (some (.tup (strsW H))) (some w)),h):=by
   unfold RUb
   rw[seq_nx (ρ':=ρR ns a rl (some (.int i)) (some (.tup (strsW N))) o5 o6) (h':=h) (by simp![tupW,flsW,c0,c1,c2,c3,a1,m5,e (a+1+5*i) 3 _ (by omega),ev1])]
   rw[seq_nx (ρ':=ρR ns a rl (some (.int i)) (some (.tup (strsW N))) (some (.tup (strsW H))) o6) (h':=h) (by simp![tupW,flsW,c0,c1,c2,c3,a1,m5,e (a+2+5*i) 3 _ (by omega),ev2])]
   rw[seq_nx (ρ':=ρR ns a rl (some (.int i)) (some (.tup (strsW N))) (some (.tup (strsW H))) (some w)) (h':=h) (by simp![tupW,c0,c3,a1,m7,ew'])]
   simp![tupW,c1,c3,a2]
  simp only[b]
  rw[e6]
theorem s_rules{F:Fs}{ns:List Int}{m:Nat}(hl:ns.length≤63)(hm:8≤m):∃rl,RG rl∧∀h,(step (up m F)).f_law_rules [scr ns,.int 1] h=some (.tup rl,h):=by
 have HD:=fun rl (hr:RG rl)=>deed_all hl hr F 2 (by omega) m (by omega)
 have e:∀(k many:Int) (h:MH),0<many→(up m F).f_law_drawn [scr ns,.int k,.int many] h=some (.int (drawV ns k many),h):=by
  obtain⟨m',rfl⟩:∃m',m=m'+2:=⟨m-2,by omega⟩
  exact fun k many h hm=>s_drawn (F:=up m' F) hl hm
 generalize up m F=G at e HD
 have rg:=draw_range (ns:=ns) (k:=1) (many:=3) (by omega)
 have e1:=fun h=>e 1 3 h (by omega)
 obtain⟨j,hj⟩:=Int.eq_ofNat_of_zero_le rg.1
 rw[hj] at rg e1
 obtain⟨rl',hr',hl',ih⟩:=drawn_loop (a:=1) e HD ((_root_.List.range j).map fun(i:Nat)=>(i:Int)) [] ⟨by simp,fun i hi=>by simp at hi⟩ (by simp; omega)
 refine⟨rl',hr',fun h=>gc_dt (n:=8) ?_ (pl_dt hr'.pl)⟩
 obtain⟨p3,p4,p5,p6,e6⟩:=ih h none none none none
 have c0:(0:Nat)≤cap:=by decide
 have s0:RU0 G [some (scr ns),some (.int 1),none,none,none,none,none] h=some (.nx (ρR ns 1 [] none none none none),h):=by
  simp![RU0,tupW,c0]
 have s1:RU1 G (ρR ns 1 [] none none none none) h=some (.nx (ρR ns 1 rl' p3 p4 p5 p6),h):=by
  rw[←e6]
  have ir:(iRng [(eArgs G.f_law_drawn [(eVar 0),(eVar 1),(eC (.int 3))])]) (ρR ns 1 [] none none none none) h=some (.items (upto j),h):=by
   have q:-(2 ^ 62:Int)≤(j:Int)∧(j:Int)<2 ^ 62:=by omega
   have rw1:∀h,rngW [.int (j:Int)] h=some (.items (upto j),h):=fun h=>by
    unfold rngW
    simp only
    rw[if_pos q,Int.toNat_natCast]
   simp![iRng,e1,rw1]
  show(sFor _ _ (RUb G)) _ _=_
  unfold sFor
  rw[ir]
  simp only
  rw[upto_ints]
 have hs:b_f_law_rules G [some (scr ns),some (.int 1),none,none,none,none,none] h=some (.ret (.tup rl'),h):=by
  rw[RU_row,seq_nx s0,seq_nx s1]
  simp![RU2]
 simp only[fnM,List.length_cons,List.length_nil,if_true,List.map_cons,List.map_nil,List.replicate,List.cons_append,List.nil_append]
 simp only[hs]
theorem s_light{F:Fs}{ns:List Int}{m:Nat}{rl:List W}{a:Int}(hl:ns.length≤63)(hm:15≤m)(hr:RG rl):∃w,pl 6 w=true∧okd rl rl.length 3 w∧∀h,(step (up m F)).f_law_light [scr ns,.int a,.int 2,.tup rl] h=some (w,h):=by
 obtain⟨w,ew,p,o⟩:=deed_all hl hr F 2 (by omega) m (by omega) a [] [] [] (fun v hv=>by simp at hv) (fun v hv=>by simp at hv) (fun v hv=>by simp at hv) (by simp) (by simp) (by simp)
 obtain⟨v,ev⟩:=weight_all hr.good F m rl.length 3 (by have:=hr.l; omega) (by omega) (by omega) w [] o (dt_mono (pl_dt p) (by omega)) (fun p hp=>by simp at hp)
 have e:∀(k many:Int) (h:MH),0<many→(up m F).f_law_drawn [scr ns,.int k,.int many] h=some (.int (drawV ns k many),h):=by
  obtain⟨m',rfl⟩:∃m',m=m'+2:=⟨m-2,by omega⟩
  exact fun k many h hm=>s_drawn (F:=up m' F) hl hm
 generalize up m F=G at e ew ev
 have c0:(0:Nat)≤cap:=by decide
 have c2:(2:Nat)≤cap:=by decide
 have c3:(3:Nat)≤cap:=by decide
 have ew':∀h,G.f_law_deed [scr ns,.int a,.int 2,.tup [.tup [],.tup [],.tup []],.tup rl] h=some (w,h):=fun h=>ew h
 by_cases k:80<v
 .have rg:=draw_range (ns:=ns) (k:=a) (many:=4) (by omega)
  have e1:=fun h=>e a 4 h (by omega)
  generalize drawV ns a 4=y at rg e1
  have:∃c:Str,pl 1 (.str c)=true∧∀h,ixW (.str "abcd") (.int y) h=some (.str c,h):=by
   have hy:y=0∨y=1∨y=2∨y=3:=by omega
   have hc:(("abcd":Str).length≤cap):=by decide +kernel
   have hx:("abcd":Str).cps.toList=[97,98,99,100]:=by decide +kernel
   rcases hy with rfl | rfl | rfl | rfl
   .exact⟨⟨#[97]⟩,by decide +kernel,fun h=>by simp[ixW,hc,hx,atI,ixN]⟩
   .exact⟨⟨#[98]⟩,by decide +kernel,fun h=>by simp[ixW,hc,hx,atI,ixN]⟩
   .exact⟨⟨#[99]⟩,by decide +kernel,fun h=>by simp[ixW,hc,hx,atI,ixN]⟩
   .exact⟨⟨#[100]⟩,by decide +kernel,fun h=>by simp[ixW,hc,hx,atI,ixN]⟩
  obtain⟨c,pc,ec⟩:=this
  have pr:pl 2 (th "read" [.str c])=true:=pl2 (by decide +kernel) pc
  refine⟨th "read" [.str c],pl_mono pr (by omega),⟨.read c,fun q hq=>?_⟩,fun h=>gc_dt (n:=2) ?_ (pl_dt pr)⟩
  .rw[partsL_leaf (p:=(2,2)) (by decide +kernel) (by decide +kernel) rfl] at hq
   simp at hq
  .simp![b_f_law_light,tupW,c0,c2,c3,ew',ev,cmpI,k,e1,ec]
 .refine⟨w,p,o,fun h=>gc_dt (n:=6) ?_ (pl_dt p)⟩
  simp![b_f_law_light,tupW,c0,c2,c3,ew',ev,cmpI,k]
noncomputable def OD0(F:Fs):MS:=(sAsg (eArgs lstW [(eUn negW (eC (.int 1))),(eC (.int 0)),(eC (.int 1)),(eC (.int 1008)),(eC (.int 1009)),(eC (.bl true)),(eC .non),(eC (.str "")),(eC (.str "a")),(eC (.str "x")),(eC (.str "p")),(eC (.str "f")),(eC (.str "x1")),(eC (.str "x1234")),(eC (.str "read")),(eArgs tupW []),(eArgs flsW []),(eArgs tupW [(eC (.str "ask"))])]) (gNm 1))
noncomputable def OD1(F:Fs):MS:=(sAsg (eOp addM (eVar 1) (eArgs flsW [(eArgs tupW [(eC (.str "name")),(eC (.str "x"))]),(eArgs tupW [(eC (.str "read")),(eC (.str "a"))]),(eArgs tupW [(eC (.str "do")),(eC (.str "f"))]),(eArgs tupW [(eC (.str "call")),(eC (.int 0)),(eArgs tupW []),(eArgs tupW [])]),(eArgs tupW [(eC (.str "number")),(eC (.bl true))]),(eArgs tupW [(eC (.str "ask")),(eC (.int 1))]),(eC (.int 2))])) (gNm 1))
noncomputable def OD2(F:Fs):MS:=(sExpr (eMethL appendM (eVar 1) [(eArgs tupW [(eC (.str "number")),(eC (.int 0))])]))
noncomputable def OD3(F:Fs):MS:=(sRet (eOp ixW (eVar 1) (eOp modW (eVar 0) (eC (.int 26)))))
theorem OD_row(F:Fs):b_f_law_odd F=sSeq (OD0 F) (sSeq (OD1 F) (sSeq (OD2 F) (OD3 F))):=rfl
noncomputable def SP0(F:Fs):MS:=(sIf (tAndM (tVal (eOp gtW (eVar 2) (eC (.int 0)))) (tAndM (tVal (eUn (isW .tuple) (eVar 0))) (tAndM (tVal (eOp gtW (eArgs lenW [(eVar 0)]) (eC (.int 0)))) (tVal (eOp gtW (eOp modW (eVar 1) (eC (.int 7))) (eC (.int 0)))))))
 (sSeq (sAsg (eOp modW (eOp divW (eVar 1) (eC (.int 7))) (eArgs lenW [(eVar 0)])) (gNm 3))
 (sSeq (sAsg (eArgs F.f_law_spoilt [(eOp ixW (eVar 0) (eVar 3)),(eOp divW (eVar 1) (eC (.int 91))),(eOp subW (eVar 2) (eC (.int 1)))]) (gNm 4))
 (sRet (eOp addW (eOp addW (eSl (eVar 0) none (some (eVar 3))) (eArgs tupW [(eVar 4)])) (eSl (eVar 0) (some (eOp addW (eVar 3) (eC (.int 1)))) none)))))
 sNext)
noncomputable def SP1(F:Fs):MS:=(sIf (tAndM (tVal (eUn (isW .tuple) (eVar 0))) (tAndM (tVal (eOp gtW (eArgs lenW [(eVar 0)]) (eC (.int 0)))) (tVal (eOp (eqW false) (eOp modW (eOp divW (eVar 1) (eC (.int 7))) (eC (.int 2))) (eC (.int 0))))))
 (sRet (eOp ixW (eArgs flsW [(eArgs listW [(eVar 0)]),(eSl (eVar 0) none (some (eUn negW (eC (.int 1))))),(eOp addW (eVar 0) (eSl (eVar 0) (some (eUn negW (eC (.int 1)))) none)),(eSl (eVar 0) (some (eC (.int 1))) none),(eUn revW (eVar 0)),(eOp mulW (eVar 0) (eC (.int 2)))]) (eOp modW (eOp divW (eVar 1) (eC (.int 14))) (eC (.int 6)))))
 sNext)
noncomputable def SP2(F:Fs):MS:=(sIf (tAndM (tVal (eUn (isW .int) (eVar 0))) (tVal (eOp (eqW false) (eOp modW (eOp divW (eVar 1) (eC (.int 7))) (eC (.int 2))) (eC (.int 0)))))
 (sRet (eOp ixW (eArgs flsW [(eArgs strW [(eVar 0)]),(eOp subW (eC (.int 0)) (eVar 0)),(eOp addW (eVar 0) (eC (.int 1))),(eOp (eqW false) (eVar 0) (eC (.int 1))),(eOp subW (eVar 0) (eC (.int 1))),(eOp addW (eVar 0) (eC (.int 9)))]) (eOp modW (eOp divW (eVar 1) (eC (.int 14))) (eC (.int 6)))))
 sNext)
noncomputable def SP3(F:Fs):MS:=(sRet (eArgs F.f_law_odd [(eOp divW (eVar 1) (eC (.int 7)))]))
theorem SP_row(F:Fs):b_f_law_spoilt F=sSeq (SP0 F) (sSeq (SP1 F) (sSeq (SP2 F) (SP3 F))):=rfl
noncomputable def odd18:List W:=[.int (-1),.int 0,.int 1,.int 1008,.int 1009,.bl true,.non,.str "",.str "a",.str "x",.str "p",.str "f",.str "x1",.str "x1234",.str "read",.tup [],.fls [],.tup [.str "ask"]]
noncomputable def odd7:List W:=[.tup [.str "name",.str "x"],.tup [.str "read",.str "a"],.tup [.str "do",.str "f"],.tup [.str "call",.int 0,.tup [],.tup []],.tup [.str "number",.bl true],.tup [.str "ask",.int 1],.int 2]
noncomputable def odd26:List W:=odd18++odd7++[.tup [.str "number",.int 0]]
theorem odd_dt:odd26.all (dt 3)=true:=by decide +kernel
theorem s_odd{F:Fs}(n:Int):∃v,dt 3 v=true∧∀h,(step F).f_law_odd [.int n] h=some (v,h):=by
 have rg:0≤n%26∧n%26<26:=⟨Int.emod_nonneg _ (by omega),Int.emod_lt_of_pos _ (by omega)⟩
 have hv:∃v∈odd26,atI odd26 (n%26)=some v:=at_mem rg.1 (by have:odd26.length=26:=rfl; rw[this]; exact rg.2)
 obtain⟨v,hv,ev⟩:=hv
 have dv:dt 3 v=true:=List.all_eq_true.mp odd_dt v hv
 refine⟨v,dv,fun h=>gc_dt' (t:=[.lst odd18,.lst odd26]) ?_ dv⟩
 have c0:(0:Nat)≤cap:=by decide
 have c1:(1:Nat)≤cap:=by decide
 have c2:(2:Nat)≤cap:=by decide
 have c4:(4:Nat)≤cap:=by decide
 have c7:(7:Nat)≤cap:=by decide
 have c18:(18:Nat)≤cap:=by decide
 have c25:18+7≤cap:=by decide
 have c25':25<cap:=by decide
 have s0:OD0 F [some (.int n),none] h=some (.nx [some (.int n),some (.ref h.length)],h++[.lst odd18]):=by
  simp![OD0,lstW,negW,tupW,flsW,c0,c1,c18,odd18]
 have s1:OD1 F [some (.int n),some (.ref h.length)] (h++[.lst odd18])=some (.nx [some (.int n),some (.ref (h.length+1))],h++[.lst odd18,.lst (odd18++odd7)]):=by
  have ad:addM (.ref h.length) (.fls odd7) (h++[.lst odd18])=some (.ref (h.length+1),h++[.lst odd18,.lst (odd18++odd7)]):=by
   simp only[addM,getL,at0]
   rw[if_pos (by decide)]
   simp
  unfold odd7 at ad
  simp![OD1,tupW,flsW,c0,c2,c4,c7,ad]
  rfl
 have s2:OD2 F [some (.int n),some (.ref (h.length+1))] (h++[.lst odd18,.lst (odd18++odd7)])=some (.nx [some (.int n),some (.ref (h.length+1))],h++[.lst odd18,.lst odd26]):=by
  have e1:(h++[.lst odd18,.lst (odd18++odd7)])[h.length+1]?=some (MO.lst (odd18++odd7)):=by
   rw[List.getElem?_append_right (by omega)]
   simp
  have e2:∀l,(h++([MO.lst odd18,MO.lst (odd18++odd7)]:MH)).set (h.length+1) (MO.lst l)=h++[.lst odd18,.lst l]:=fun l=>by
   rw[List.set_append_right _ _ (by omega)]
   simp
  have ap:appendM (.ref (h.length+1)) [.tup [.str "number",.int 0]] (h++[.lst odd18,.lst (odd18++odd7)])=some (.non,h++[.lst odd18,.lst odd26]):=by
   simp only[appendM,e1]
   rw[if_pos (by decide),e2]
   rfl
  have gl:getL (h++[.lst odd18,.lst (odd18++odd7)]) (.ref (h.length+1))=some (odd18++odd7):=by simp only[getL,e1]
  simp![OD2,eMethL,gl,tupW,c2,ap]
 have s3:OD3 F [some (.int n),some (.ref (h.length+1))] (h++[.lst odd18,.lst odd26])=some (.ret v,h++[.lst odd18,.lst odd26]):=by
  have e1:(h++[.lst odd18,.lst odd26])[h.length+1]?=some (MO.lst odd26):=by
   rw[List.getElem?_append_right (by omega)]
   simp
  have ix:ixW (.ref (h.length+1)) (.int (n%26)) (h++[.lst odd18,.lst odd26])=some (v,h++[.lst odd18,.lst odd26]):=by
   simp only[ixW,getL,e1,ev]
  simp![OD3,modW,ix]
 have hs:b_f_law_odd F [some (.int n),none] h=some (.ret v,h++[.lst odd18,.lst odd26]):=by
  rw[OD_row,seq_nx s0,seq_nx s1,seq_nx s2,s3]
 simp only[fnM,List.length_cons,List.length_nil,if_true,List.map_cons,List.map_nil,List.replicate,List.cons_append,List.nil_append]
 simp only[hs]
theorem cut_mem{l:List W}{lo hi:Option Int}{v:W}(h:v∈cutW l lo hi):v∈l:=List.mem_of_mem_drop (List.mem_of_mem_take h)
theorem cut_len(l:List W)(lo hi:Option Int):(cutW l lo hi).length≤l.length:=by
 unfold cutW
 rw[List.length_take,List.length_drop]
 omega
theorem str_all:((_root_.List.range 1009).all fun n=>decide (n.log2<1920)&&dt 1 (.str (toString (n:Int))))=true:=by decide +kernel
theorem str_ok{i:Int}(h0:0≤i)(h1:i≤1008):dt 1 (.str (toString i))=true∧∀h,strW [.int i] h=some (.str (toString i),h):=by
 obtain⟨n,rfl⟩:=Int.eq_ofNat_of_zero_le h0
 have:=List.all_eq_true.mp str_all n (List.mem_range.mpr (by omega))
 rw[Bool.and_eq_true] at this
 refine⟨this.2,fun h=>?_⟩
 have q:((n:Int)).natAbs.log2<1920:=by simpa using this.1
 simp only[strW]
 rw[if_pos q]
theorem dt_sub{n:Nat}{l l':List W}(hd:∀v∈l,dt n v=true)(hl:l'.length≤1000)(h:∀v∈l',v∈l):dt (n+1) (.tup l')=true:=dt_of hl fun v hv=>hd v (h v hv)
noncomputable abbrev ρS(w:W)(num deep:Int)(o3 o4:Option W):En:=[some w,some (.int num),some (.int deep),o3,o4]
theorem and3{t1 t2 t3:MT}{ρ:En}{h:MH}{b1 b2 b3:Bool}(e1:t1 ρ h=some (b1,h))(e2:t2 ρ h=some (b2,h))(e3:t3 ρ h=some (b3,h)):tAndM t1 (tAndM t2 t3) ρ h=some (b1&&(b2&&b3),h):=by
 cases b1<;>cases b2<;>simp![e1,e2,e3]
theorem and2{t1 t2:MT}{ρ:En}{h:MH}{b1 b2:Bool}(e1:t1 ρ h=some (b1,h))(e2:t2 ρ h=some (b2,h)):tAndM t1 t2 ρ h=some (b1&&b2,h):=by
 cases b1<;>simp![e1,e2]
theorem half{num deep:Int}{w:W}{o3 o4:Option W}{h:MH}:tVal (eOp (eqW false) (eOp modW (eOp divW (eVar 1) (eC (.int 7))) (eC (.int 2))) (eC (.int 0))) (ρS w num deep o3 o4) h=some (num/7%2==0,h):=by
 simp![divW,modW,eqB_int]
theorem spoilt_odd{G:Fs}{w:W}{num deep:Int}{n:Nat}(eO:∃v,dt 3 v=true∧∀h,G.f_law_odd [.int (num/7)] h=some (v,h))(e:∀h,sSeq (SP0 G) (sSeq (SP1 G) (sSeq (SP2 G) (SP3 G))) (ρS w num deep none none) h=SP3 G (ρS w num deep none none) h) :
  ∃v,dt (n+3) v=true∧∀h,b_f_law_spoilt G (ρS w num deep none none) h=some (.ret v,h):=by
 obtain⟨v,dv,ev⟩:=eO
 refine⟨v,dt_mono dv (by omega),fun h=>?_⟩
 rw[SP_row,e]
 simp![SP3,divW,ev]
theorem s_spoilt{F:Fs}:∀(n:Nat) (w:W) (num deep:Int),pl n w=true→∃v,dt (n+3) v=true∧∀h,(up (n+1) F).f_law_spoilt [w,.int num,.int deep] h=some (v,h)
 | 0,_,_,_,p=>by cases p
 | n+1,w,num,deep,p=>by
  have ih:=fun(w:W) (num deep:Int) (p:pl n w=true)=>s_spoilt (F:=F) n w num deep p
  have eO:=s_odd (F:=up n F) (num/7)
  show ∃v,dt (n+1+3) v=true∧∀h,gc (fnM 3 2 (b_f_law_spoilt (up (n+1) F))) [w,.int num,.int deep] h=some (v,h)
  rw[show step (up n F)=up (n+1) F from rfl] at eO
  generalize up (n+1) F=G at ih eO
  suffices hs:∃v,dt (n+1+3) v=true∧∀h,b_f_law_spoilt G (ρS w num deep none none) h=some (.ret v,h) by
   obtain⟨v,dv,ev⟩:=hs
   refine⟨v,dv,fun h=>gc_dt ?_ dv⟩
   simp only[fnM,List.length_cons,List.length_nil,if_true,List.map_cons,List.map_nil,List.replicate,List.cons_append,List.nil_append]
   have:=ev h
   simp only[ρS] at this
   simp only[this]
  have d:=pl_dt p
  have tT:∀h,tVal (eUn (isW .tuple) (eVar 0)) (ρS w num deep none none) h=some (tyB .tuple w,h):=fun h=>by simp![isW_dt d]
  have tI:∀h,tVal (eUn (isW .int) (eVar 0)) (ρS w num deep none none) h=some (tyB .int w,h):=fun h=>by simp![isW_dt d]
  have c6:(6:Nat)≤cap:=by decide
  have r6:0≤num/14%6∧num/14%6<6:=⟨Int.emod_nonneg _ (by omega),Int.emod_lt_of_pos _ (by omega)⟩
  cases w with
  | non=>cases p
  | bl b=>cases p
  | fls l=>cases p
  | ref l=>cases p
  | fdc l=>cases p
  | fn l=>cases p
  | str x=>
   refine spoilt_odd eO fun h=>?_
   have z0:SP0 G (ρS (.str x) num deep none none) h=some (.nx (ρS (.str x) num deep none none),h):=by
    by_cases k:0<deep<;>simp![SP0,cmpI,isW_dt d,tyB,k]
   rw[seq_nx z0,seq_nx (ρ':=ρS (.str x) num deep none none) (h':=h) (by simp![SP1,isW_dt d,tyB]),seq_nx (ρ':=ρS (.str x) num deep none none) (h':=h) (by simp![SP2,isW_dt d,tyB])]
  | int i=>
   have z0:∀h,SP0 G (ρS (.int i) num deep none none) h=some (.nx (ρS (.int i) num deep none none),h):=fun h=>by
    by_cases k:0<deep<;>simp![SP0,cmpI,isW_dt d,tyB,k]
   have z1:∀h,SP1 G (ρS (.int i) num deep none none) h=some (.nx (ρS (.int i) num deep none none),h):=fun h=>by
    simp![SP1,isW_dt d,tyB]
   have hi:0≤i∧i≤1008:=by
    unfold pl at p
    rw[Bool.and_eq_true] at p
    exact⟨of_decide_eq_true p.1,of_decide_eq_true p.2⟩
   obtain⟨ds,es⟩:=str_ok hi.1 hi.2
   cases k:(num/7%2==0) with
   | false=>
    refine spoilt_odd eO fun h=>?_
    rw[seq_nx (z0 h),seq_nx (z1 h)]
    refine seq_nx ?_
    unfold SP2
    exact if_no ((and2 (tI h) half).trans (by rw[k]; simp))
   | true=>
    obtain⟨v,hv,ev⟩:=ix_fls (l:=[.str (toString i),.int (0-i),.int (i+1),.bl (i==1),.int (i-1),.int (i+9)]) (i:=num/14%6) r6.1 (by simpa using r6.2)
    have dv:dt (n+1+3) v=true:=by
     simp only[List.mem_cons,List.not_mem_nil,or_false] at hv
     rcases hv with rfl | rfl | rfl | rfl | rfl | rfl
     .exact dt_mono ds (by omega)
     all_goals rfl
    refine⟨v,dv,fun h=>?_⟩
    rw[SP_row,seq_nx (z0 h),seq_nx (z1 h)]
    refine seq_if_ret ((and2 (tI h) half).trans (by rw[k]; rfl)) ?_
    have sb:∀h,subW (.int 0) (.int i) h=some (.int (0-i),h):=fun h=>rfl
    have sb1:∀h,subW (.int i) (.int 1) h=some (.int (i-1),h):=fun h=>rfl
    have ad1:∀h,addW (.int i) (.int 1) h=some (.int (i+1),h):=fun h=>rfl
    have ad9:∀h,addW (.int i) (.int 9) h=some (.int (i+9),h):=fun h=>rfl
    have eb:∀h,eqB h (.int i) (.int 1)=some (i==1):=fun h=>rfl
    have dm:∀h,divW (.int num) (.int 14) h=some (.int (num/14),h):=fun h=>rfl
    have mm:∀h,modW (.int (num/14)) (.int 6) h=some (.int (num/14%6),h):=fun h=>rfl
    generalize W.str (toString i)=i0 at ev es
    generalize 0-i=i1 at ev sb
    generalize i-1=i2 at ev sb1
    generalize i+1=i3 at ev ad1
    generalize i+9=i4 at ev ad9
    generalize (i==1)=i5 at ev eb
    generalize num/14%6=i6 at ev mm
    simp![es,sb,sb1,ad1,ad9,eb,flsW,c6,dm,mm,ev]
  | tup l=>
   obtain⟨m,e,hl,hd⟩:=pl_tup p
   cases e
   have hdd:∀v∈l,dt n v=true:=fun v hv=>pl_dt (hd v hv)
   have tL:∀h,tVal (eOp gtW (eArgs lenW [(eVar 0)]) (eC (.int 0))) (ρS (.tup l) num deep none none) h=some (decide (0<(l.length:Int)),h):=fun h=>by simp![lenW,cmpI]
   have tD:∀h,tVal (eOp gtW (eVar 2) (eC (.int 0))) (ρS (.tup l) num deep none none) h=some (decide (0<deep),h):=fun h=>by simp![cmpI]
   have t7:∀h,tVal (eOp gtW (eOp modW (eVar 1) (eC (.int 7))) (eC (.int 0))) (ρS (.tup l) num deep none none) h=some (decide (0<num%7),h):=fun h=>by simp![modW,cmpI]
   have tA:∀h,(tAndM (tVal (eOp gtW (eVar 2) (eC (.int 0)))) (tAndM (tVal (eUn (isW .tuple) (eVar 0))) (tAndM (tVal (eOp gtW (eArgs lenW [(eVar 0)]) (eC (.int 0)))) (tVal (eOp gtW (eOp modW (eVar 1) (eC (.int 7))) (eC (.int 0))))))) (ρS (.tup l) num deep none none) h=some (decide (0<deep)&&(tyB .tuple (.tup l)&&(decide (0<(l.length:Int))&&decide (0<num%7))),h):=fun h=>and3 (tD h) (tT h) (and2 (tL h) (t7 h))
   cases k:(decide (0<deep)&&(tyB .tuple (.tup l)&&(decide (0<(l.length:Int))&&decide (0<num%7)))) with
   | true=>
    have k0:=k
    rw[Bool.and_eq_true,Bool.and_eq_true,Bool.and_eq_true] at k
    have hp:(0:Int)<(l.length:Int):=of_decide_eq_true k.2.2.1
    have rg:0≤num/7%(l.length:Int)∧num/7%(l.length:Int)<(l.length:Int):=⟨Int.emod_nonneg _ (by omega),Int.emod_lt_of_pos _ hp⟩
    have lt:∀h,lenW [.tup l] h=some (.int (l.length:Int),h):=fun h=>rfl
    have md:∀h,modW (.int (num/7)) (.int (l.length:Int)) h=some (.int (num/7%(l.length:Int)),h):=fun h=>by simp only[modW]; rw[if_pos hp]
    obtain⟨j,hj⟩:=Int.eq_ofNat_of_zero_le rg.1
    rw[hj] at rg md
    obtain⟨u,hu,eu⟩:=ix_tup (l:=l) rg.1 rg.2
    obtain⟨v,dv,ev⟩:=ih u (num/91) (deep-1) (hd u hu)
    have t1:=cut_to (l:=l) (k:=j) (by omega)
    have t2:=cut_from (l:=l) (k:=j+1)
    have s1:∀h,slW (.tup l) none (some (j:Int)) h=some (.tup (l.take j),h):=fun h=>by simp only[slW,t1]
    have s2:∀h,slW (.tup l) (some ((j:Int)+1)) none h=some (.tup (l.drop (j+1)),h):=fun h=>by
     simp only[slW]
     have:((j+1:Nat):Int)=(j:Int)+1:=by omega
     rw[←this,t2]
    have a1:∀h,addW (.tup (l.take j)) (.tup [v]) h=some (.tup (l.take j++[v]),h):=fun h=>by
     simp only[addW,addI,List.length_cons,List.length_nil,List.length_take]
     rw[if_pos (Nat.le_trans (show min j l.length+(0+1)≤10 by omega) (by decide))]
    have a2:∀h,addW (.tup (l.take j++[v])) (.tup (l.drop (j+1))) h=some (.tup (l.take j++[v]++l.drop (j+1)),h):=fun h=>by
     simp only[addW,addI,List.length_append,List.length_cons,List.length_nil,List.length_take,List.length_drop]
     rw[if_pos (Nat.le_trans (show min j l.length+(0+1)+(l.length-(j+1))≤20 by omega) (by decide))]
    have a3:∀h,addW (.int (j:Int)) (.int 1) h=some (.int ((j:Int)+1),h):=fun h=>rfl
    have c1:(1:Nat)≤cap:=by decide
    refine⟨.tup (l.take j++[v]++l.drop (j+1)),?_,fun h=>?_⟩
    .refine dt_of (n:=n+3) ?_ fun z hz=>?_
     .simp only[List.length_append,List.length_cons,List.length_nil,List.length_take,List.length_drop]; omega
     .rcases List.mem_append.mp hz with y | y
      .rcases List.mem_append.mp y with y | y
       .exact dt_mono (hdd z (List.mem_of_mem_take y)) (by omega)
       .simp at y; subst y; exact dv
      .exact dt_mono (hdd z (List.mem_of_mem_drop y)) (by omega)
    .rw[SP_row]
     refine seq_if_ret ((tA h).trans (by rw[k0])) ?_
     rw[seq_nx (ρ':=ρS (.tup l) num deep (some (.int (j:Int))) none) (h':=h) (by simp![divW,lt,md])]
     rw[seq_nx (ρ':=ρS (.tup l) num deep (some (.int (j:Int))) (some v)) (h':=h) (by simp![eu,divW,subW,ev])]
     simp![eSl,mPart,s1,s2,a1,a2,a3,tupW,c1]
   | false=>
    have z0:∀h,SP0 G (ρS (.tup l) num deep none none) h=some (.nx (ρS (.tup l) num deep none none),h):=fun h=>if_no ((tA h).trans (by rw[k]))
    have tB:∀h,(tAndM (tVal (eUn (isW .tuple) (eVar 0))) (tAndM (tVal (eOp gtW (eArgs lenW [(eVar 0)]) (eC (.int 0)))) (tVal (eOp (eqW false) (eOp modW (eOp divW (eVar 1) (eC (.int 7))) (eC (.int 2))) (eC (.int 0)))))) (ρS (.tup l) num deep none none) h=some (tyB .tuple (.tup l)&&(decide (0<(l.length:Int))&&(num/7%2==0)),h):=fun h=>and3 (tT h) (tL h) half
    cases k2:(tyB .tuple (.tup l)&&(decide (0<(l.length:Int))&&(num/7%2==0))) with
    | false=>
     refine spoilt_odd eO fun h=>?_
     have z1:SP1 G (ρS (.tup l) num deep none none) h=some (.nx (ρS (.tup l) num deep none none),h):=if_no ((tB h).trans (by rw[k2]))
     rw[seq_nx (z0 h),seq_nx z1,seq_nx (ρ':=ρS (.tup l) num deep none none) (h':=h) (by simp![SP2,isW_dt d,tyB])]
    | true=>
     obtain⟨v,hv,ev⟩:=ix_fls (l:=[.fls l,.tup (cutW l none (some (-1))),.tup (l++cutW l (some (-1)) none),.tup (cutW l (some 1) none),.tup l.reverse,.tup (List.replicate 2 l).flatten]) (i:=num/14%6) r6.1 (by simpa using r6.2)
     have q1:=cut_len l none (some (-1))
     have q2:=cut_len l (some (-1)) none
     have q3:=cut_len l (some 1) none
     have dv:dt (n+1) v=true:=by
      simp only[List.mem_cons,List.not_mem_nil,or_false] at hv
      rcases hv with rfl | rfl | rfl | rfl | rfl | rfl
      .exact dt_fls (by omega) hdd
      .exact dt_sub hdd (by omega) fun v hv=>cut_mem hv
      .exact dt_sub hdd (by simp; omega) fun v hv=>by
        rcases List.mem_append.mp hv with z | z
        .exact z
        .exact cut_mem z
      .exact dt_sub hdd (by omega) fun v hv=>cut_mem hv
      .exact dt_sub hdd (by simp; omega) fun v hv=>List.mem_reverse.mp hv
      .exact dt_sub hdd (by simp[List.replicate]; omega) fun v hv=>by
        simp[List.replicate] at hv; exact hv
     refine⟨v,dt_mono dv (by omega),fun h=>?_⟩
     have ad:∀h,addW (.tup l) (.tup (cutW l (some (-1)) none)) h=some (.tup (l++cutW l (some (-1)) none),h):=fun h=>by
      simp only[addW,addI]
      rw[if_pos (Nat.le_trans (show l.length+(cutW l (some (-1)) none).length≤10 by omega) (by decide))]
     have mu:∀h,mulW (.tup l) (.int 2) h=some (.tup (List.replicate 2 l).flatten,h):=fun h=>by
      simp only[mulW]
      rw[if_pos ⟨by omega,by omega,by omega⟩]
      rfl
     have sl:∀lo hi h,slW (.tup l) lo hi h=some (.tup (cutW l lo hi),h):=fun lo hi h=>rfl
     have dm:∀h,divW (.int num) (.int 14) h=some (.int (num/14),h):=fun h=>rfl
     have mm:∀h,modW (.int (num/14)) (.int 6) h=some (.int (num/14%6),h):=fun h=>rfl
     generalize num/14%6=i6 at ev mm
     have s1:=sl none (some (-1))
     have s2:=sl (some (-1)) none
     have s3:=sl (some 1) none
     have rv:∀h,revW (.tup l) h=some (.tup l.reverse,h):=fun h=>rfl
     have lw:∀h,listW [.tup l] h=some (.fls l,h):=fun h=>rfl
     have ng:∀h,negW (.int 1) h=some (.int (-1),h):=fun h=>rfl
     generalize (List.replicate 2 l).flatten=Z at ev mu
     generalize cutW l (some (-1)) none=Y1 at ev ad s2
     generalize cutW l none (some (-1))=Y2 at ev s1
     generalize cutW l (some 1) none=Y3 at ev s3
     generalize l++Y1=Y4 at ev ad
     generalize l.reverse=Y5 at ev rv
     rw[SP_row,seq_nx (z0 h)]
     refine seq_if_ret ((tB h).trans (by rw[k2])) ?_
     simp![eSl,mPart,s1,s2,s3,rv,lw,ng,ad,mu,flsW,c6,dm,mm,ev]
noncomputable def EA0(F:Fs):MS:=(sIf (tVal (eUn (isW .int) (eVar 0)))
 (sRet (eArgs flsW [(eC .non),(eC (.bl true)),(eOp subW (eVar 0) (eC (.int 1))),(eOp addW (eVar 0) (eC (.int 1))),(eC (.int 1000))]))
 sNext)
noncomputable def EA1(F:Fs):MS:=(sIf (tNotM (tVal (eUn (isW .tuple) (eVar 0))))
 (sRet (eArgs flsW [(eC .non),(eC (.str "")),(eC (.str "A")),(eC (.str "then"))]))
 sNext)
noncomputable def EA2(F:Fs):MS:=(sAsg (eArgs flsW [(eC .non),(eArgs listW [(eVar 0)]),(eOp addW (eVar 0) (eSl (eVar 0) (some (eUn negW (eC (.int 1)))) none)),(eSl (eVar 0) (some (eC (.int 1))) none)]) (gNm 1))
noncomputable def EA3(F:Fs):MS:=(sFor (iRng [(eArgs lenW [(eVar 0)])]) (gNm 2)
 (sAsg (eOp addW (eVar 1) (eComp (iSeq (eArgs F.f_law_each [(eOp ixW (eVar 0) (eVar 2))])) 1 [0,2] (gNm 0) tTrue (eOp addW (eOp addW (eSl (eVar 1) none (some (eVar 2))) (eArgs tupW [(eVar 0)])) (eSl (eVar 1) (some (eOp addW (eVar 2) (eC (.int 1)))) none)))) (gNm 1)))
noncomputable def EA4(F:Fs):MS:=(sRet (eVar 1))
theorem EA_row(F:Fs):b_f_law_each F=sSeq (EA0 F) (sSeq (EA1 F) (sSeq (EA2 F) (sSeq (EA3 F) (EA4 F)))):=rfl
noncomputable def EAb(F:Fs):MS:=(sAsg (eOp addW (eVar 1) (eComp (iSeq (eArgs F.f_law_each [(eOp ixW (eVar 0) (eVar 2))])) 1 [0,2] (gNm 0) tTrue (eOp addW (eOp addW (eSl (eVar 1) none (some (eVar 2))) (eArgs tupW [(eVar 0)])) (eSl (eVar 1) (some (eOp addW (eVar 2) (eC (.int 1)))) none)))) (gNm 1))
noncomputable def EachOk(G:Fs)(n:Nat):Prop:=∀w,pl n w=true→∃l:List W,(∀v∈l,dt (n+2) v=true)∧l.length≤9 ^ n∧∀h,G.f_law_each [w] h=some (.fls l,h)
theorem op_of{f:W→W→M W}{a b:ME}{ρ:En}{h h1 h2:MH}{x y:W}(e1:a ρ h=some (x,h1))(e2:b ρ h1=some (y,h2)):eOp f a b ρ h=f x y h2:=by simp[eOp,bnd,e1,e2]
theorem each_loop{G:Fs}{n:Nat}{l:List W}(H:EachOk G n)(hl:l.length≤4)(hd:∀w∈l,pl n w=true):∀(is:List Nat),(∀j∈is,j<l.length)→∃l',(∀v∈l',dt (n+3) v=true)∧l'.length≤is.length*9 ^ n∧∀(h:MH) (acc:List W) (o2:Option W),acc.length+is.length*9 ^ n≤cap→
  ∃o,forL (gNm 2) (EAb G) (is.map fun j=>.int ((j:Nat):Int)) [some (.tup l),some (.fls acc),o2] h=some (.nx [some (.tup l),some (.fls (acc++l')),o],h)
 | [],_=>⟨[],fun v hv=>by simp at hv,by simp,fun h acc o2 _=>⟨o2,by simp[forL]⟩⟩
 | j::is,hj=>by
  obtain⟨l',d',b',ih⟩:=each_loop H hl hd is fun i hi=>hj i (List.mem_cons_of_mem _ hi)
  have hjl:=hj j List.mem_cons_self
  obtain⟨le,de,be,ee⟩:=H l[j] (hd _ (List.getElem_mem hjl))
  refine⟨le.map (fun v=>.tup (l.take j++[v]++l.drop (j+1)))++l',fun v hv=>?_,?_,fun h acc o2 hc=>?_⟩
  .rcases List.mem_append.mp hv with z | z
   .obtain⟨u,hu,rfl⟩:=List.mem_map.mp z
    refine dt_of (n:=n+2) ?_ fun y hy=>?_
    .simp only[List.length_append,List.length_cons,List.length_nil,List.length_take,List.length_drop]; omega
    .rcases List.mem_append.mp hy with y' | y'
     .rcases List.mem_append.mp y' with y' | y'
      .exact dt_mono (pl_dt (hd _ (List.mem_of_mem_take y'))) (by omega)
      .simp at y'; subst y'; exact de _ hu
     .exact dt_mono (pl_dt (hd _ (List.mem_of_mem_drop y'))) (by omega)
   .exact d' v z
  .rw[List.length_append,List.length_map,List.length_cons,Nat.add_mul]
   omega
  .rw[List.length_cons,Nat.add_mul] at hc
   obtain⟨o,e⟩:=ih h (acc++le.map fun v=>.tup (l.take j++[v]++l.drop (j+1))) (some (.int ((j:Nat):Int))) (by rw[List.length_append,List.length_map]; omega)
   refine⟨o,?_⟩
   simp only[List.map_cons]
   unfold forL
   have g:gNm 2 (.int ((j:Nat):Int)) [some (.tup l),some (.fls acc),o2] h=some ([some (.tup l),some (.fls acc),some (.int ((j:Nat):Int))],h):=by simp[gNm]
   rw[g]
   have ei:∀h,ixW (.tup l) (.int ((j:Nat):Int)) h=some (l[j],h):=fun h=>ixn (by omega) (by omega) (by simp[hjl])
   have t1:=cut_to (l:=l) (k:=j) (by omega)
   have t2:=cut_from (l:=l) (k:=j+1)
   have s1:∀h,slW (.tup l) none (some (j:Int)) h=some (.tup (l.take j),h):=fun h=>by simp only[slW,t1]
   have s2:∀h,slW (.tup l) (some ((j:Int)+1)) none h=some (.tup (l.drop (j+1)),h):=fun h=>by
    simp only[slW]
    have:((j+1:Nat):Int)=(j:Int)+1:=by omega
    rw[←this,t2]
   have a1:∀v h,addW (.tup (l.take j)) (.tup [v]) h=some (.tup (l.take j++[v]),h):=fun v h=>by
    simp only[addW,addI,List.length_cons,List.length_nil,List.length_take]
    rw[if_pos (Nat.le_trans (show min j l.length+(0+1)≤10 by omega) (by decide))]
   have a2:∀v h,addW (.tup (l.take j++[v])) (.tup (l.drop (j+1))) h=some (.tup (l.take j++[v]++l.drop (j+1)),h):=fun v h=>by
    simp only[addW,addI,List.length_append,List.length_cons,List.length_nil,List.length_take,List.length_drop]
    rw[if_pos (Nat.le_trans (show min j l.length+(0+1)+(l.length-(j+1))≤20 by omega) (by decide))]
   have a3:∀h,addW (.int (j:Int)) (.int 1) h=some (.int ((j:Int)+1),h):=fun h=>rfl
   have c1:(1:Nat)≤cap:=by decide
   have c:=comp1 (mi:=iSeq (eArgs G.f_law_each [(eOp ixW (eVar 0) (eVar 2))])) (ks:=[0,2]) (t:=tTrue) (m:=eOp addW (eOp addW (eSl (eVar 1) none (some (eVar 2))) (eArgs tupW [(eVar 0)])) (eSl (eVar 1) (some (eOp addW (eVar 2) (eC (.int 1)))) none)) (ρ:=[some (.tup l),some (.fls acc),some (.int ((j:Nat):Int))]) (h:=h) (l:=le) (fun _=>true) (fun v=>.tup (l.take j++[v]++l.drop (j+1)))
    (by simp![iSeq,ei,ee,srcOf])
    (fun v hv H'=>rfl)
    (fun v hv _ H'=>by
     have:=a2 v
     generalize l.take j++[v]++l.drop (j+1)=Z at this
     have a1':=a1 v
     generalize l.take j++[v]=Z1 at this a1'
     simp![eSl,mPart,s1,s2,a1',this,a3,tupW,c1])
    (fun v hv _=>by
     refine dt_low (n:=n+3) (dt_of ?_ fun y hy=>?_)
     .simp only[List.length_append,List.length_cons,List.length_nil,List.length_take,List.length_drop]; omega
     .rcases List.mem_append.mp hy with y' | y'
      .rcases List.mem_append.mp y' with y' | y'
       .exact dt_mono (pl_dt (hd _ (List.mem_of_mem_take y'))) (by omega)
       .simp at y'; subst y'; exact de _ hv
      .exact dt_mono (pl_dt (hd _ (List.mem_of_mem_drop y'))) (by omega))
    (by omega)
   rw[filter_true] at c
   have ad:addW (.fls acc) (.fls (le.map fun v=>.tup (l.take j++[v]++l.drop (j+1)))) h=some (.fls (acc++le.map fun v=>.tup (l.take j++[v]++l.drop (j+1))),h):=by
    simp only[addW,addI,getL]
    rw[if_pos (by rw[List.length_map]; omega)]
   have b:EAb G [some (.tup l),some (.fls acc),some (.int ((j:Nat):Int))] h=some (.nx [some (.tup l),some (.fls (acc++le.map fun v=>.tup (l.take j++[v]++l.drop (j+1)))),some (.int ((j:Nat):Int))],h):=by
    unfold EAb
    exact asg_of ((op_of (show eVar 1 _ h=some (.fls acc,h) from rfl) c).trans ad) rfl
   simp only[b]
   rw[e]
   simp
theorem upto_nat(n:Nat):upto n=(_root_.List.range n).map fun(i:Nat)=>W.int (i:Int):=rfl
theorem rng_len{l:List W}{o1 o2:Option W}{h:MH}(hl:l.length≤1000):(iRng [(eArgs lenW [(eVar 0)])]) [some (.tup l),o1,o2] h=some (.items (upto l.length),h):=by
 have e:mArgs [(eArgs lenW [(eVar 0)])] [some (.tup l),o1,o2] h=some ([.int (l.length:Int)],h):=by
  simp[mArgs,bnd,eArgs,eVar,lenW]
 unfold iRng
 rw[bnd_some e]
 unfold rngW
 simp only
 rw[if_pos (by omega),Int.toNat_natCast]
theorem for_items{mi:MI}{g:MG}{b:MS}{ρ:En}{h h1:MH}{l:List W}(e:mi ρ h=some (.items l,h1)):sFor mi g b ρ h=forL g b l ρ h1:=by
 unfold sFor; rw[e]
theorem EA3_eq(G:Fs):EA3 G=sFor (iRng [(eArgs lenW [(eVar 0)])]) (gNm 2) (EAb G):=rfl
theorem each_step{G:Fs}{n:Nat}(hn:n≤4)(H:EachOk G n):EachOk (step G) (n+1):=by
  intro w p
  show ∃l:List W,_∧_∧∀h,gc (fnM 1 2 (b_f_law_each G)) [w] h=some (.fls l,h)
  have hp9:1≤9 ^ n:=Nat.pos_of_ne_zero (by simp)
  have d:=pl_dt p
  have e9:9 ^ (n+1)=9 ^ n*9:=Nat.pow_succ ..
  suffices hs:∃l:List W,(∀v∈l,dt (n+1+2) v=true)∧l.length≤9 ^ (n+1)∧∀h,b_f_law_each G [some w,none,none] h=some (.ret (.fls l),h) by
   obtain⟨l,a1,a2,a3⟩:=hs
   refine⟨l,a1,a2,fun h=>?_⟩
   refine gc_pure (h':=h) ?_ ?_ (List.prefix_refl _)
   .simp only[fnM,List.length_cons,List.length_nil,if_true,List.map_cons,List.map_nil,List.replicate,List.cons_append,List.nil_append]
    simp only[a3 h]
   .unfold low
    exact lows_of fun v hv=>dt_low (a1 v hv)
  have c4:(4:Nat)≤cap:=by decide
  have c5:(5:Nat)≤cap:=by decide
  cases w with
  | non=>cases p
  | bl b=>cases p
  | fls l=>cases p
  | ref l=>cases p
  | fdc l=>cases p
  | fn l=>cases p
  | int i=>
   refine⟨[.non,.bl true,.int (i-1),.int (i+1),.int 1000],fun v hv=>?_,by simp only[List.length_cons,List.length_nil]; omega,fun h=>?_⟩
   .simp only[List.mem_cons,List.not_mem_nil,or_false] at hv
    rcases hv with rfl | rfl | rfl | rfl | rfl<;>rfl
   .rw[EA_row]
    refine seq_ret ?_
    simp![EA0,isW_dt d,tyB,flsW,c5,subW,addW,addI]
  | str x=>
   refine⟨[.non,.str "",.str "A",.str "then"],fun v hv=>?_,by simp only[List.length_cons,List.length_nil]; omega,fun h=>?_⟩
   .simp only[List.mem_cons,List.not_mem_nil,or_false] at hv
    have q:dt 1 (.str "")=true∧dt 1 (.str "A")=true∧dt 1 (.str "then")=true:=by decide +kernel
    rcases hv with rfl | rfl | rfl | rfl
    .rfl
    .exact q.1
    .exact q.2.1
    .exact q.2.2
   .rw[EA_row,seq_nx (ρ':=[some (.str x),none,none]) (h':=h) (by simp![EA0,isW_dt d,tyB])]
    refine seq_ret ?_
    simp![EA1,isW_dt d,tyB,flsW,c4]
  | tup l=>
   obtain⟨m,e,hl,hd⟩:=pl_tup p
   cases e
   have hdd:∀v∈l,dt n v=true:=fun v hv=>pl_dt (hd v hv)
   obtain⟨l',d',b',ih⟩:=each_loop H hl hd (_root_.List.range l.length) fun j hj=>List.mem_range.mp hj
   rw[List.length_range] at b' ih
   have q2:=cut_len l (some (-1)) none
   have q3:=cut_len l (some 1) none
   have mul4:l.length*9 ^ n≤4*9 ^ n:=Nat.mul_le_mul_right _ hl
   have cap9:4+4*9 ^ n≤cap:=by
    have:9 ^ n≤9 ^ 4:=Nat.pow_le_pow_right (by omega) hn
    have e4:9 ^ 4=6561:=rfl
    rw[e4] at this
    exact Nat.le_trans (show 4+4*9 ^ n≤30000 by omega) (by decide)
   refine⟨[.non,.fls l,.tup (l++cutW l (some (-1)) none),.tup (cutW l (some 1) none)]++l',fun v hv=>?_,?_,fun h=>?_⟩
   .rcases List.mem_append.mp hv with z | z
    .simp only[List.mem_cons,List.not_mem_nil,or_false] at z
     rcases z with rfl | rfl | rfl | rfl
     .rfl
     .exact dt_mono (dt_fls (by omega) hdd) (by omega)
     .exact dt_mono (dt_sub hdd (by simp; omega) fun v hv=>by
       rcases List.mem_append.mp hv with z | z
       .exact z
       .exact cut_mem z) (by omega)
     .exact dt_mono (dt_sub hdd (by omega) fun v hv=>cut_mem hv) (by omega)
    .exact d' v z
   .rw[List.length_append]
    simp only[List.length_cons,List.length_nil]
    omega
   .have ad:∀h,addW (.tup l) (.tup (cutW l (some (-1)) none)) h=some (.tup (l++cutW l (some (-1)) none),h):=fun h=>by
     simp only[addW,addI]
     rw[if_pos (Nat.le_trans (show l.length+(cutW l (some (-1)) none).length≤10 by omega) (by decide))]
    have sl:∀lo hi h,slW (.tup l) lo hi h=some (.tup (cutW l lo hi),h):=fun lo hi h=>rfl
    have s2:=sl (some (-1)) none
    have s3:=sl (some 1) none
    have lw:∀h,listW [.tup l] h=some (.fls l,h):=fun h=>rfl
    have ng:∀h,negW (.int 1) h=some (.int (-1),h):=fun h=>rfl
    have z0:EA0 G [some (.tup l),none,none] h=some (.nx [some (.tup l),none,none],h):=by simp![EA0,isW_dt d,tyB]
    have z1:EA1 G [some (.tup l),none,none] h=some (.nx [some (.tup l),none,none],h):=by simp![EA1,isW_dt d,tyB]
    have z2:EA2 G [some (.tup l),none,none] h=some (.nx [some (.tup l),some (.fls [.non,.fls l,.tup (l++cutW l (some (-1)) none),.tup (cutW l (some 1) none)]),none],h):=by
     generalize cutW l (some (-1)) none=Y1 at ad s2
     generalize cutW l (some 1) none=Y3 at s3
     generalize l++Y1=Y4 at ad
     simp![EA2,eSl,mPart,s2,s3,ad,lw,ng,flsW,c4]
    obtain⟨o,e3⟩:=ih h [.non,.fls l,.tup (l++cutW l (some (-1)) none),.tup (cutW l (some 1) none)] none (by simp only[List.length_cons,List.length_nil]; omega)
    have z3:EA3 G [some (.tup l),some (.fls [.non,.fls l,.tup (l++cutW l (some (-1)) none),.tup (cutW l (some 1) none)]),none] h=some (.nx [some (.tup l),some (.fls ([.non,.fls l,.tup (l++cutW l (some (-1)) none),.tup (cutW l (some 1) none)]++l')),o],h):=by
     rw[←e3]
     generalize W.fls [.non,.fls l,.tup (l++cutW l (some (-1)) none),.tup (cutW l (some 1) none)]=Z
     rw[EA3_eq,for_items (rng_len (by omega)),upto_nat]
    rw[EA_row,seq_nx z0,seq_nx z1,seq_nx z2,seq_nx z3]
    generalize W.fls ([.non,.fls l,.tup (l++cutW l (some (-1)) none),.tup (cutW l (some 1) none)]++l')=Z
    simp![EA4]
theorem s_each{F:Fs}:∀n,n≤5→EachOk (up n F) n
 | 0,_=>by intro w p; cases p
 | n+1,hn=>each_step (by omega) (s_each n (by omega))
noncomputable def KO0(F:Fs):MS:=(sAsg (eArgs tupW [(eArgs tupW [(eArgs tupW [(eC (.str "x"))]),(eArgs tupW [(eC (.str "f"))]),(eArgs tupW [(eC (.str "add")),(eArgs tupW [(eC (.str "name")),(eC (.str "x"))]),(eArgs tupW [(eC (.str "do")),(eC (.str "f"))])])])]) (gNm 0))
noncomputable def KO1(F:Fs):MS:=(sIf (tVal (eOp (eqW true) (eComp (iSeq (eOp addW (eArgs flsW [(eVar 0)]) (eArgs F.f_law_each [(eVar 0)]))) 1 [] (gNm 0) (tVal (eOp (eqW true) (eArgs F.f_is_rules [(eVar 0)]) (eArgs F.f_law_is_rules [(eVar 0)]))) (eVar 0)) (eArgs flsW [])))
 (sRet (eC (.bl false)))
 sNext)
noncomputable def KO2(F:Fs):MS:=(sAsg (eArgs tupW [(eC (.str "call")),(eC (.int 0)),(eArgs tupW [(eArgs tupW [(eC (.str "number")),(eC (.int 1))])]),(eArgs tupW [(eArgs tupW [(eC (.str "write")),(eC (.str "a")),(eArgs tupW [(eC (.str "read")),(eC (.str "b"))])])])]) (gNm 1))
noncomputable def KO3(F:Fs):MS:=(sAsg (eOp addM (eOp addW (eArgs flsW [(eVar 1)]) (eArgs F.f_law_each [(eVar 1)])) (eComp (iSeq (eArgs tupW [(eC (.str "x123")),(eC (.str "x1234")),(eC (.str "y0"))])) 1 [] (gNm 0) tTrue (eArgs tupW [(eC (.str "let")),(eVar 0),(eArgs tupW [(eC (.str "ask"))]),(eArgs tupW [(eC (.str "name")),(eVar 0)])]))) (gNm 2))
noncomputable def KO4(F:Fs):MS:=(sAsg (eArgs tupW [(eC (.str "ask"))]) (gNm 3))
noncomputable def KO5(F:Fs):MS:=(sFor (iRng [(eC (.int 29))]) (gNm 4)
 (sAsg (eArgs tupW [(eC (.str "then")),(eArgs tupW [(eC (.str "ask"))]),(eVar 3)]) (gNm 3)))
noncomputable def KO6(F:Fs):MS:=(sAsg (eOp addM (eVar 2) (eArgs flsW [(eVar 3),(eArgs tupW [(eC (.str "say")),(eVar 3)]),(eArgs tupW [(eC (.str "then")),(eArgs tupW [(eC (.str "ask"))]),(eVar 3)]),(eArgs tupW [(eC (.str "name")),(eC (.str "x"))]),(eArgs tupW [(eC (.str "do")),(eC (.str "f"))]),(eArgs tupW [(eC (.str "read")),(eC (.str "p"))])])) (gNm 2))
noncomputable def KO7(F:Fs):MS:=(sAsg (eOp addM (eVar 2) (eArgs flsW [(eArgs tupW [(eC (.str "write")),(eC (.str "q")),(eArgs tupW [(eC (.str "ask"))])]),(eArgs tupW [(eC (.str "let")),(eC (.str "x")),(eArgs tupW [(eC (.str "name")),(eC (.str "x"))]),(eArgs tupW [(eC (.str "ask"))])])])) (gNm 2))
noncomputable def KO8(F:Fs):MS:=(sExpr (eMethL appendM (eVar 2) [(eArgs tupW [(eC (.str "own")),(eC (.str "p")),(eArgs tupW [(eC (.str "read")),(eC (.str "p"))]),(eArgs tupW [(eC (.str "ask"))])])]))
noncomputable def KO9(F:Fs):MS:=(sAsg (eOp addM (eVar 2) (eArgs flsW [(eArgs tupW [(eC (.str "own")),(eC (.str "p")),(eArgs tupW [(eC (.str "ask"))]),(eArgs tupW [(eC (.str "write")),(eC (.str "p")),(eArgs tupW [(eC (.str "read")),(eC (.str "p"))])])]),(eArgs tupW [(eC (.str "let")),(eC (.str "x")),(eArgs tupW [(eC (.str "ask"))]),(eArgs tupW [(eC (.str "name")),(eC (.str "y"))])])])) (gNm 2))
noncomputable def KO10(F:Fs):MS:=(sFor (iSeq (eVar 2)) (gNm 5)
 (sIf (tVal (eOp (eqW true) (eArgs F.f_is_deed [(eVar 0),(eVar 5)]) (eOp geW (eArgs F.f_law_left [(eVar 0),(eArgs lenW [(eVar 0)]),(eVar 5),(eArgs flsW []),(eC (.int 60))]) (eC (.int 0)))))
 (sRet (eC (.bl false)))
 sNext))
noncomputable def KO11(F:Fs):MS:=(sRet (eC (.bl true)))
theorem KO_row(F:Fs):b_f_law_known_ones F=sSeq (KO0 F) (sSeq (KO1 F) (sSeq (KO2 F) (sSeq (KO3 F) (sSeq (KO4 F) (sSeq (KO5 F) (sSeq (KO6 F) (sSeq (KO7 F) (sSeq (KO8 F) (sSeq (KO9 F) (sSeq (KO10 F) (KO11 F))))))))))):=rfl
theorem up_add:∀(a b:Nat) (F:Fs),up (a+b) F=up a (up b F)
 | 0,b,F=>by rw[Nat.zero_add]; rfl
 | a+1,b,F=>by rw[show a+1+b=(a+b)+1 by omega]; show step (up (a+b) F)=step (up a (up b F)); rw[up_add a b F]
theorem a_is_rules{F:Fs}{m:Nat}{w:W}{h:MH}(hm:8≤m)(d:dt 61 w=true):(up m F).f_is_rules [w] h=some (.bl (isRules w),h):=by
 obtain⟨m',rfl⟩:∃m',m=m'+8:=⟨m-8,by omega⟩
 exact s_is_rules d
theorem a_law_is_rules{F:Fs}{m:Nat}{w:W}{h:MH}(hm:181≤m)(d:dt 61 w=true):(up m F).f_law_is_rules [w] h=some (.bl (isRules w),h):=by
 obtain⟨m',rfl⟩:∃m',m=181+m':=⟨m-181,by omega⟩
 rw[up_add]
 exact s_law_is_rules d
theorem a_is_deed{F:Fs}{m:Nat}{rl:List W}{w:W}{h:MH}(hm:7≤m)(hr:RulesOk rl)(d:dt 60 w=true):(up m F).f_is_deed [.tup rl,w] h=some (.bl (fits 60 (nodes rl 60 (w,[]))),h):=by
 obtain⟨m',rfl⟩:∃m',m=m'+7:=⟨m-7,by omega⟩
 exact s_is_deed d hr
theorem a_left{F:Fs}{m:Nat}{rl:List W}{w:W}{h:MH}(hm:180≤m)(hr:RulesOk rl)(d:dt 60 w=true):(up m F).f_law_left [.tup rl,.int (rl.length:Int),w,.fls [],.int 60] h=some (.int (leftV (nodes rl 60 (w,[])) 60),h):=by
 obtain⟨m',rfl⟩:∃m',m=180+m':=⟨m-180,by omega⟩
 rw[up_add]
 have:=left_all (al:=rl) (k:=rl.length) (Nat.le_refl _) (by rw[List.take_length]; exact hr) 60 (by omega) (up m' F) w [] 60 h d rfl (by simp) (by omega)
 rw[List.take_length] at this
 exact this
theorem left_ge(o:Option Nat):decide (0≤leftV o 60)=fits 60 o:=by
 have:=fits_left o
 have q:decide (0≤leftV o 60) = !decide (leftV o 60<0):=by
  by_cases c:leftV o 60<0
  .rw[decide_eq_true c,decide_eq_false (by omega)]; rfl
  .rw[decide_eq_false c,decide_eq_true (by omega)]; rfl
 rw[q,this,Bool.not_not]
theorem forL_nx{g:MG}{b:MS}{h:MH}(Q:En→Prop):∀(l:List W),(∀w∈l,∀ρ,Q ρ→∃ρ1 ρ2,g w ρ h=some (ρ1,h)∧b ρ1 h=some (.nx ρ2,h)∧Q ρ2)→∀ρ,Q ρ→∃ρ',Q ρ'∧forL g b l ρ h=some (.nx ρ',h)
 | [],_,ρ,q=>⟨ρ,q,by simp[forL]⟩
 | w::r,hs,ρ,q=>by
  obtain⟨ρ1,ρ2,e1,e2,q2⟩:=hs w List.mem_cons_self ρ q
  obtain⟨ρ',q',e3⟩:=forL_nx Q r (fun v hv=>hs v (List.mem_cons_of_mem _ hv)) ρ2 q2
  refine⟨ρ',q',?_⟩
  unfold forL
  rw[e1]
  simp only[e2]
  exact e3
theorem forN_live{g:MG}{b:MS}{h:MH}{n:Nat}{l:List W}(hn:h[n]?=some (.lst l))(Q:En→Prop)(hs:∀w∈l,∀ρ,Q ρ→∃ρ1 ρ2,g w ρ h=some (ρ1,h)∧b ρ1 h=some (.nx ρ2,h)∧Q ρ2) :
  ∀(k i:Nat) (ρ:En),Q ρ→l.length+1≤i+k→i≤l.length→∃ρ',Q ρ'∧forN (.live n) g b k i ρ h=some (.nx ρ',h)
 | 0,i,ρ,q,h1,h2=>by omega
 | k+1,i,ρ,q,h1,h2=>by
  have es:srcAt (.live n) i h=some l[i]?:=by simp only[srcAt,hn]
  by_cases c:i<l.length
  .obtain⟨ρ1,ρ2,e1,e2,q2⟩:=hs l[i] (List.getElem_mem c) ρ q
   obtain⟨ρ',q',e3⟩:=forN_live hn Q hs k (i+1) ρ2 q2 (by omega) (by omega)
   refine⟨ρ',q',?_⟩
   unfold forN
   rw[es,List.getElem?_eq_getElem c]
   simp only[e1,e2]
   exact e3
  .refine⟨ρ,q,?_⟩
   unfold forN
   rw[es,List.getElem?_eq_none (by omega)]
theorem for_live{mi:MI}{g:MG}{b:MS}{ρ:En}{h h1:MH}{n:Nat}{l:List W}(e:mi ρ h=some (.live n,h1))(hn:h1[n]?=some (.lst l))(Q:En→Prop)(hs:∀w∈l,∀ρ,Q ρ→∃ρ1 ρ2,g w ρ h1=some (ρ1,h1)∧b ρ1 h1=some (.nx ρ2,h1)∧Q ρ2)(q:Q ρ):∃ρ',Q ρ'∧sFor mi g b ρ h=some (.nx ρ',h1):=by
 obtain⟨ρ',q',e3⟩:=forN_live hn Q hs (srcLen (.live n) h1+1) 0 ρ q (by simp only[srcLen,hn]; omega) (by omega)
 refine⟨ρ',q',?_⟩
 unfold sFor
 rw[e]
 exact e3
noncomputable def rl0:List W:=[.tup [.tup [.str "x"],.tup [.str "f"],th "add" [th "name" [.str "x"],th "do" [.str "f"]]]]
noncomputable def de0:W:=th "call" [.int 0,.tup [th "number" [.int 1]],.tup [th "write" [.str "a",th "read" [.str "b"]]]]
theorem rl0_pl:pl 5 (.tup rl0)=true:=by decide +kernel
theorem de0_pl:pl 5 de0=true:=by decide +kernel
theorem rl0_ok:RulesOk rl0:=by
 intro r hr
 unfold rl0 at hr
 simp only[List.mem_cons,List.not_mem_nil,or_false] at hr
 subst hr
 exact⟨_,_,_,rfl,by simp,by simp⟩
noncomputable def gr:Nat→W
 | 0=>th "ask" []
 | n+1=>th "then" [th "ask" [],gr n]
theorem ask_dt{n:Nat}:dt (n+2) (th "ask" [])=true:=by
 have:dt 2 (th "ask" [])=true:=by decide +kernel
 exact dt_mono this (by omega)
theorem str_dt{n:Nat}{x:Str}(h:dt 1 (.str x)=true):dt (n+1) (.str x)=true:=h
theorem gr_dt:∀n,dt (n+2) (gr n)=true
 | 0=>ask_dt
 | n+1=>by
  refine dt_of (n:=n+2) (by simp) fun v hv=>?_
  simp only[List.mem_cons,List.not_mem_nil,or_false] at hv
  rcases hv with rfl | rfl | rfl
  .exact str_dt (by decide +kernel)
  .exact ask_dt
  .exact gr_dt n
theorem gr_loop{o0 o1 o2:Option W}{o5:Option W}{h:MH}:∀(is:List W) (n:Nat) (o4:Option W),∃o,forL (gNm 4) (sAsg (eArgs tupW [(eC (.str "then")),(eArgs tupW [(eC (.str "ask"))]),(eVar 3)]) (gNm 3)) is [o0,o1,o2,some (gr n),o4,o5] h=some (.nx [o0,o1,o2,some (gr (n+is.length)),o,o5],h)
 | [],n,o4=>⟨o4,by simp[forL]⟩
 | w::r,n,o4=>by
  obtain⟨o,e⟩:=gr_loop r (n+1) (some w)
  refine⟨o,?_⟩
  have c1:(1:Nat)≤cap:=by decide
  have c3:(3:Nat)≤cap:=by decide
  have g:gNm 4 w [o0,o1,o2,some (gr n),o4,o5] h=some ([o0,o1,o2,some (gr n),some w,o5],h):=by simp[gNm]
  have b:(sAsg (eArgs tupW [(eC (.str "then")),(eArgs tupW [(eC (.str "ask"))]),(eVar 3)]) (gNm 3)) [o0,o1,o2,some (gr n),some w,o5] h=some (.nx [o0,o1,o2,some (gr (n+1)),some w,o5],h):=by
   simp![tupW,c1,c3,gr]
  unfold forL
  rw[g]
  simp only[b]
  rw[e]
  rw[show n+1+r.length=n+(w::r).length by simp; omega]
theorem addM_of{h:MH}{n:Nat}{l l':List W}(hn:h[n]?=some (.lst l))(hl:l.length+l'.length≤cap):addM (.ref n) (.fls l') h=some (.ref h.length,h++[.lst (l++l')]):=by
 simp only[addM,getL,hn]
 rw[if_pos hl]
theorem addM_fls{h:MH}{l l':List W}(hl:l.length+l'.length≤cap):addM (.fls l) (.fls l') h=some (.ref h.length,h++[.lst (l++l')]):=by
 simp only[addM,getL]
 rw[if_pos hl]
noncomputable def six0:List W:=[gr 29,th "say" [gr 29],th "then" [th "ask" [],gr 29],th "name" [.str "x"],th "do" [.str "f"],th "read" [.str "p"]]
noncomputable def two0:List W:=[th "write" [.str "q",th "ask" []],th "let" [.str "x",th "name" [.str "x"],th "ask" []]]
noncomputable def one0:W:=th "own" [.str "p",th "read" [.str "p"],th "ask" []]
noncomputable def two1:List W:=[th "own" [.str "p",th "ask" [],th "write" [.str "p",th "read" [.str "p"]]],th "let" [.str "x",th "ask" [],th "name" [.str "y"]]]
noncomputable def lets0:List W:=([("x123":Str),"x1234","y0"]:List Str).map fun v=>th "let" [.str v,th "ask" [],th "name" [.str v]]
theorem small_dt:(two0++[one0]++two1++lets0).all (dt 5)=true:=by decide +kernel
theorem six_dt:∀v∈six0,dt 60 v=true:=by
 intro v hv
 unfold six0 at hv
 have g:=gr_dt 29
 have q:dt 2 (th "name" [.str "x"])=true∧dt 2 (th "do" [.str "f"])=true∧dt 2 (th "read" [.str "p"])=true:=by decide +kernel
 simp only[List.mem_cons,List.not_mem_nil,or_false] at hv
 rcases hv with rfl | rfl | rfl | rfl | rfl | rfl
 .exact dt_mono g (by omega)
 .refine dt_of (n:=59) (by simp) fun v hv=>?_
  simp only[List.mem_cons,List.not_mem_nil,or_false] at hv
  rcases hv with rfl | rfl
  .exact str_dt (by decide +kernel)
  .exact dt_mono g (by omega)
 .refine dt_of (n:=59) (by simp) fun v hv=>?_
  simp only[List.mem_cons,List.not_mem_nil,or_false] at hv
  rcases hv with rfl | rfl | rfl
  .exact str_dt (by decide +kernel)
  .exact ask_dt
  .exact dt_mono g (by omega)
 .exact dt_mono q.1 (by omega)
 .exact dt_mono q.2.1 (by omega)
 .exact dt_mono q.2.2 (by omega)
theorem tVal_of{a:ME}{ρ:En}{h h':MH}{b:Bool}(e:a ρ h=some (.bl b,h')):tVal a ρ h=some (b,h'):=by
 unfold tVal; rw[bnd_some e]; rfl
theorem s_known{F:Fs}{m:Nat}{h:MH}(hm:181≤m):(step (up m F)).f_law_known_ones [] h=some (.bl true,h):=by
 have eR:=fun(w:W) (h:MH) (d:dt 61 w=true)=>a_is_rules (F:=F) (m:=m) (h:=h) (by omega) d
 have eL:=fun(w:W) (h:MH) (d:dt 61 w=true)=>a_law_is_rules (F:=F) (m:=m) (h:=h) hm d
 have eD:=fun(w:W) (h:MH) (d:dt 60 w=true)=>a_is_deed (F:=F) (m:=m) (h:=h) (by omega) rl0_ok d
 have eF:=fun(w:W) (h:MH) (d:dt 60 w=true)=>a_left (F:=F) (m:=m) (h:=h) (by omega) rl0_ok d
 have eE:∀n,n≤5→EachOk (up m F) n:=by
  intro n hn
  obtain⟨m',rfl⟩:∃m',m=n+m':=⟨m-n,by omega⟩
  rw[up_add]
  exact s_each n hn
 show gc (fnM 0 6 (b_f_law_known_ones (up m F))) [] h=_
 generalize up m F=G at eR eL eD eF eE
 obtain⟨l1,d1,b1,e1⟩:=eE 5 (by omega) (.tup rl0) rl0_pl
 obtain⟨l2,d2,b2,e2⟩:=eE 5 (by omega) de0 de0_pl
 have b9:9 ^ 5=59049:=rfl
 rw[b9] at b1 b2
 have c0:(0:Nat)≤cap:=by decide
 have c1:(1:Nat)≤cap:=by decide
 have c2:(2:Nat)≤cap:=by decide
 have c3:(3:Nat)≤cap:=by decide
 have c4:(4:Nat)≤cap:=by decide
 have c6:(6:Nat)≤cap:=by decide
 have big:100000≤cap:=by decide
 have z0:KO0 G [none,none,none,none,none,none] h=some (.nx [some (.tup rl0),none,none,none,none,none],h):=by
  simp![KO0,tupW,c1,c2,c3,rl0]
 have z1:KO1 G [some (.tup rl0),none,none,none,none,none] h=some (.nx [some (.tup rl0),none,none,none,none,none],h):=by
  have ad:∀h,addW (.fls [.tup rl0]) (.fls l1) h=some (.fls ([.tup rl0]++l1),h):=fun h=>by
   simp only[addW,addI,getL,List.length_cons,List.length_nil]
   rw[if_pos (by omega)]
  have dd:∀v∈[.tup rl0]++l1,dt 61 v=true:=by
   intro v hv
   rcases List.mem_append.mp hv with z | z
   .simp only[List.mem_cons,List.not_mem_nil,or_false] at z
    subst z
    exact dt_mono (pl_dt rl0_pl) (by omega)
   .exact dt_mono (d1 v z) (by omega)
  generalize [.tup rl0]++l1=L at ad dd
  have hL:L.length≤cap:=by
   have:=ad []
   simp only[addW,addI,getL] at this
   split at this
   .injection this with this
    injection this with this
    injection this with this
    rw[←this,List.length_append]
    assumption
   .cases this
  have c:=comp1 (mi:=iSeq (eOp addW (eArgs flsW [(eVar 0)]) (eArgs G.f_law_each [(eVar 0)]))) (ks:=[]) (t:=tVal (eOp (eqW true) (eArgs G.f_is_rules [(eVar 0)]) (eArgs G.f_law_is_rules [(eVar 0)]))) (m:=eVar 0) (ρ:=[some (.tup rl0),none,none,none,none,none]) (h:=h) (l:=L) (fun _=>false) id
   (by simp![iSeq,flsW,c1,e1,ad,srcOf])
   (fun v hv H'=>by simp![eR v H' (dd v hv),eL v H' (dd v hv),eqB_bl])
   (fun v hv hf=>by cases hf)
   (fun v hv hf=>by cases hf)
   hL
  have en:(L.filter fun _=>false).map id=[]:=by simp
  rw[en] at c
  have eq:=eqB_fnil (h:=h) (l:=[]) (n:=1) rfl (by omega)
  unfold KO1
  refine if_no ?_
  have c0':eArgs flsW [] [some (.tup rl0),none,none,none,none,none] h=some (.fls [],h):=by simp![flsW,c0]
  have q:eqW true (.fls []) (.fls []) h=some (.bl false,h):=by simp only[eqW,eq]; rfl
  exact tVal_of ((op_of c c0').trans q)
 have z2:KO2 G [some (.tup rl0),none,none,none,none,none] h=some (.nx [some (.tup rl0),some de0,none,none,none,none],h):=by
  simp![KO2,tupW,c1,c2,c3,c4,de0]
 have z3:KO3 G [some (.tup rl0),some de0,none,none,none,none] h=some (.nx [some (.tup rl0),some de0,some (.ref h.length),none,none,none],h++[.lst ([de0]++l2++lets0)]):=by
  have ad:∀h,addW (.fls [de0]) (.fls l2) h=some (.fls ([de0]++l2),h):=fun h=>by
   simp only[addW,addI,getL,List.length_cons,List.length_nil]
   rw[if_pos (by omega)]
  have c:=comp1 (mi:=iSeq (eArgs tupW [(eC (.str "x123")),(eC (.str "x1234")),(eC (.str "y0"))])) (ks:=[]) (t:=tTrue) (m:=eArgs tupW [(eC (.str "let")),(eVar 0),(eArgs tupW [(eC (.str "ask"))]),(eArgs tupW [(eC (.str "name")),(eVar 0)])]) (ρ:=[some (.tup rl0),some de0,none,none,none,none]) (h:=h) (l:=strsW [("x123":Str),"x1234","y0"]) (fun _=>true) (fun v=>th "let" [v,th "ask" [],th "name" [v]])
   (by simp![iSeq,tupW,c3,srcOf,strsW])
   (fun v hv H'=>rfl)
   (fun v hv _ H'=>by simp![tupW,c1,c2,c4])
   (fun v hv _=>by
    unfold strsW at hv
    obtain⟨x,_,rfl⟩:=List.mem_map.mp hv
    simp[low,lows])
   (by rw[strsW_len]; exact c3)
  rw[filter_true] at c
  have el:(strsW [("x123":Str),"x1234","y0"]).map (fun v=>th "let" [v,th "ask" [],th "name" [v]])=lets0:=rfl
  rw[el] at c
  have l3:lets0.length=3:=rfl
  have a1:(eOp addW (eArgs flsW [(eVar 1)]) (eArgs G.f_law_each [(eVar 1)])) [some (.tup rl0),some de0,none,none,none,none] h=some (.fls ([de0]++l2),h):=by
   simp![flsW,c1,e2]
   exact ad h
  unfold KO3
  exact asg_of ((op_of a1 c).trans (addM_fls (by rw[List.length_append,l3]; simp only[List.length_cons,List.length_nil]; omega))) rfl
 generalize hL0:[de0]++l2++lets0=L0 at z3
 have dL0:∀v∈L0,dt 60 v=true:=by
  intro v hv
  rw[←hL0] at hv
  rcases List.mem_append.mp hv with z | z
  .rcases List.mem_append.mp z with z | z
   .simp only[List.mem_cons,List.not_mem_nil,or_false] at z
    subst z
    exact dt_mono (pl_dt de0_pl) (by omega)
   .exact dt_mono (d2 v z) (by omega)
  .exact dt_mono (List.all_eq_true.mp small_dt v (List.mem_append.mpr (.inr z))) (by omega)
 have lL0:L0.length≤60000:=by
  have l3:lets0.length=3:=rfl
  rw[←hL0,List.length_append,List.length_append,l3]
  simp only[List.length_cons,List.length_nil]
  omega
 have z4:∀h' n,KO4 G [some (.tup rl0),some de0,some (.ref n),none,none,none] h'=some (.nx [some (.tup rl0),some de0,some (.ref n),some (gr 0),none,none],h'):=fun h' n=>by
  simp![KO4,tupW,c1,gr]
 have z5:∀h' n,∃o,KO5 G [some (.tup rl0),some de0,some (.ref n),some (gr 0),none,none] h'=some (.nx [some (.tup rl0),some de0,some (.ref n),some (gr 29),o,none],h'):=fun h' n=>by
  obtain⟨o,e⟩:=gr_loop (o0:=some (.tup rl0)) (o1:=some de0) (o2:=some (.ref n)) (o5:=none) (h:=h') (upto 29) 0 none
  refine⟨o,?_⟩
  have ir:(iRng [(eC (.int 29))]) [some (.tup rl0),some de0,some (.ref n),some (gr 0),none,none] h'=some (.items (upto 29),h'):=by
   unfold iRng
   rw[bnd_some (a:=[.int 29]) (h':=h') (by simp[mArgs,bnd,eC])]
   unfold rngW
   simp only
   rw[if_pos (by omega)]
   rfl
  unfold KO5
  rw[for_items ir,e]
  have:(upto 29).length=29:=by simp[upto]
  rw[this]
 obtain⟨o4,z5⟩:=z5 (h++[.lst L0]) h.length
 have z6:KO6 G [some (.tup rl0),some de0,some (.ref h.length),some (gr 29),o4,none] (h++[.lst L0])=some (.nx [some (.tup rl0),some de0,some (.ref (h++[MO.lst L0]).length),some (gr 29),o4,none],(h++[.lst L0])++[.lst (L0++six0)]):=by
  have a:=addM_of (l':=six0) (at0 h (MO.lst L0)) (by have:six0.length=6:=rfl; omega)
  have es:(eArgs flsW [(eVar 3),(eArgs tupW [(eC (.str "say")),(eVar 3)]),(eArgs tupW [(eC (.str "then")),(eArgs tupW [(eC (.str "ask"))]),(eVar 3)]),(eArgs tupW [(eC (.str "name")),(eC (.str "x"))]),(eArgs tupW [(eC (.str "do")),(eC (.str "f"))]),(eArgs tupW [(eC (.str "read")),(eC (.str "p"))])]) [some (.tup rl0),some de0,some (.ref h.length),some (gr 29),o4,none] (h++[.lst L0])=some (.fls six0,h++[.lst L0]):=by
   unfold six0
   generalize gr 29=gg
   simp![flsW,tupW,c1,c2,c3,c6]
  unfold KO6
  exact asg_of ((op_of (show eVar 2 _ _=some (.ref h.length,h++[.lst L0]) from rfl) es).trans a) rfl
 have p1:h<+:h++[MO.lst L0]:=List.prefix_append _ _
 generalize h++[MO.lst L0]=X1 at z3 z5 z6 p1
 have l6:six0.length=6:=rfl
 have dL1:∀v∈L0++six0,dt 60 v=true:=fun v hv=>by
  rcases List.mem_append.mp hv with z | z
  .exact dL0 v z
  .exact six_dt v z
 have lL1:(L0++six0).length≤60006:=by rw[List.length_append,l6]; omega
 generalize L0++six0=L1 at z6 dL1 lL1
 have sm:=List.all_eq_true.mp small_dt
 have z7:KO7 G [some (.tup rl0),some de0,some (.ref X1.length),some (gr 29),o4,none] (X1++[.lst L1])=some (.nx [some (.tup rl0),some de0,some (.ref (X1++[MO.lst L1]).length),some (gr 29),o4,none],(X1++[.lst L1])++[.lst (L1++two0)]):=by
  have a:=addM_of (l':=two0) (at0 X1 (MO.lst L1)) (by have:two0.length=2:=rfl; omega)
  have es:(eArgs flsW [(eArgs tupW [(eC (.str "write")),(eC (.str "q")),(eArgs tupW [(eC (.str "ask"))])]),(eArgs tupW [(eC (.str "let")),(eC (.str "x")),(eArgs tupW [(eC (.str "name")),(eC (.str "x"))]),(eArgs tupW [(eC (.str "ask"))])])]) [some (.tup rl0),some de0,some (.ref X1.length),some (gr 29),o4,none] (X1++[.lst L1])=some (.fls two0,X1++[.lst L1]):=by
   unfold two0
   simp![flsW,tupW,c1,c2,c3,c4]
  unfold KO7
  exact asg_of ((op_of (show eVar 2 _ _=some (.ref X1.length,X1++[.lst L1]) from rfl) es).trans a) rfl
 have p2:h<+:X1++[MO.lst L1]:=p1.trans (List.prefix_append _ _)
 generalize X1++[MO.lst L1]=X2 at z6 z7 p2
 have lt0:two0.length=2:=rfl
 have dL2:∀v∈L1++two0,dt 60 v=true:=fun v hv=>by
  rcases List.mem_append.mp hv with z | z
  .exact dL1 v z
  .exact dt_mono (sm v (by simp[z])) (by omega)
 have lL2:(L1++two0).length≤60008:=by rw[List.length_append,lt0]; omega
 generalize L1++two0=L2 at z7 dL2 lL2
 have z8:KO8 G [some (.tup rl0),some de0,some (.ref X2.length),some (gr 29),o4,none] (X2++[.lst L2])=some (.nx [some (.tup rl0),some de0,some (.ref X2.length),some (gr 29),o4,none],X2++[.lst (L2++[one0])]):=by
  have hc:L2.length<cap:=by omega
  unfold one0
  simp![KO8,eMethL,getL,at0,tupW,c1,c2,c4,appendM,hc,set0]
 have dL3:∀v∈L2++[one0],dt 60 v=true:=fun v hv=>by
  rcases List.mem_append.mp hv with z | z
  .exact dL2 v z
  .exact dt_mono (sm v (by simp at z; simp[z])) (by omega)
 have lL3:(L2++[one0]).length≤60009:=by rw[List.length_append]; simp only[List.length_cons,List.length_nil]; omega
 generalize L2++[one0]=L3 at z8 dL3 lL3
 have z9:KO9 G [some (.tup rl0),some de0,some (.ref X2.length),some (gr 29),o4,none] (X2++[.lst L3])=some (.nx [some (.tup rl0),some de0,some (.ref (X2++[MO.lst L3]).length),some (gr 29),o4,none],(X2++[.lst L3])++[.lst (L3++two1)]):=by
  have a:=addM_of (l':=two1) (at0 X2 (MO.lst L3)) (by have:two1.length=2:=rfl; omega)
  have es:(eArgs flsW [(eArgs tupW [(eC (.str "own")),(eC (.str "p")),(eArgs tupW [(eC (.str "ask"))]),(eArgs tupW [(eC (.str "write")),(eC (.str "p")),(eArgs tupW [(eC (.str "read")),(eC (.str "p"))])])]),(eArgs tupW [(eC (.str "let")),(eC (.str "x")),(eArgs tupW [(eC (.str "ask"))]),(eArgs tupW [(eC (.str "name")),(eC (.str "y"))])])]) [some (.tup rl0),some de0,some (.ref X2.length),some (gr 29),o4,none] (X2++[.lst L3])=some (.fls two1,X2++[.lst L3]):=by
   unfold two1
   simp![flsW,tupW,c1,c2,c3,c4]
  unfold KO9
  exact asg_of ((op_of (show eVar 2 _ _=some (.ref X2.length,X2++[.lst L3]) from rfl) es).trans a) rfl
 have p3:h<+:X2++[MO.lst L3]:=p2.trans (List.prefix_append _ _)
 generalize X2++[MO.lst L3]=X3 at z8 z9 p3
 have dL4:∀v∈L3++two1,dt 60 v=true:=fun v hv=>by
  rcases List.mem_append.mp hv with z | z
  .exact dL3 v z
  .exact dt_mono (sm v (by simp[z])) (by omega)
 generalize L3++two1=L4 at z9 dL4
 have p4:h<+:X3++[MO.lst L4]:=p3.trans (List.prefix_append _ _)
 have z10:∃ρ',KO10 G [some (.tup rl0),some de0,some (.ref X3.length),some (gr 29),o4,none] (X3++[.lst L4])=some (.nx ρ',X3++[.lst L4]):=by
  have hx:=at0 X3 (MO.lst L4)
  generalize X3++[MO.lst L4]=X4 at hx
  obtain⟨ρ',_,e⟩:=for_live (mi:=iSeq (eVar 2)) (g:=gNm 5) (b:=(sIf (tVal (eOp (eqW true) (eArgs G.f_is_deed [(eVar 0),(eVar 5)]) (eOp geW (eArgs G.f_law_left [(eVar 0),(eArgs lenW [(eVar 0)]),(eVar 5),(eArgs flsW []),(eC (.int 60))]) (eC (.int 0))))) (sRet (eC (.bl false))) sNext)) (ρ:=[some (.tup rl0),some de0,some (.ref X3.length),some (gr 29),o4,none]) (h:=X4) (h1:=X4) (n:=X3.length) (l:=L4)
   (by simp![iSeq,srcOf,hx]) hx (fun ρ=>∃o5,ρ=[some (.tup rl0),some de0,some (.ref X3.length),some (gr 29),o4,o5])
   (fun w hw ρ hq=>by
    obtain⟨o5,rfl⟩:=hq
    refine⟨[some (.tup rl0),some de0,some (.ref X3.length),some (gr 29),o4,some w],[some (.tup rl0),some de0,some (.ref X3.length),some (gr 29),o4,some w],by simp[gNm],?_,⟨some w,rfl⟩⟩
    have f1:=eD w X4 (dL4 w hw)
    have f2:=eF w X4 (dL4 w hw)
    have f3:=left_ge (nodes rl0 60 (w,[]))
    have lw:∀h,lenW [.tup rl0] h=some (.int (rl0.length:Int),h):=fun h=>rfl
    generalize nodes rl0 60 (w,[])=nn at f1 f2 f3
    generalize (rl0.length:Int)=ln at f2 lw
    simp![f1,flsW,c0,lw,f2,cmpI,f3,eqB_bl])
   ⟨none,rfl⟩
  exact⟨ρ',e⟩
 obtain⟨ρ',z10⟩:=z10
 have hs:b_f_law_known_ones G [none,none,none,none,none,none] h=some (.ret (.bl true),X3++[.lst L4]):=by
  rw[KO_row,seq_nx z0,seq_nx z1,seq_nx z2,seq_nx z3,seq_nx (z4 _ _),seq_nx z5,seq_nx z6,seq_nx z7,seq_nx z8,seq_nx z9,seq_nx z10]
  rfl
 refine gc_pure (h':=X3++[.lst L4]) ?_ (by unfold low; rfl) p4
 simp only[fnM,List.length_nil,if_true,List.map_nil,List.replicate,List.nil_append]
 simp only[hs]
noncomputable def LW0(F:Fs):MS:=(sAsg (eArgs F.f_law_rules [(eVar 0),(eC (.int 1))]) (gNm 1))
noncomputable def LW1(F:Fs):MS:=(sAsg (eArgs F.f_law_light [(eVar 0),(eC (.int 90)),(eC (.int 2)),(eVar 1)]) (gNm 2))
noncomputable def LW2(F:Fs):MS:=(sAsg (eArgs F.f_law_spoilt [(eVar 1),(eArgs F.f_law_drawn [(eVar 0),(eC (.int 80)),(eOp powW (eC (.int 10)) (eC (.int 7)))]),(eArgs F.f_law_drawn [(eVar 0),(eC (.int 81)),(eC (.int 6))])]) (gNm 3))
noncomputable def LW3(F:Fs):MS:=(sFor (iSeq (eArgs tupW [(eVar 1),(eVar 3),(eOp mulW (eVar 1) (eC (.int 2))),(eUn revW (eVar 1)),(eArgs tupW [(eArgs tupW [(eArgs tupW []),(eArgs tupW []),(eArgs tupW [(eC (.str "call")),(eC (.int 0)),(eArgs tupW []),(eArgs tupW [])])])]),(eArgs tupW [(eC (.int 5)),(eVar 1)])])) (gNm 4)
 (sSeq (sAsg (eArgs F.f_is_rules [(eVar 4)]) (gNm 5))
 (sIf (tOrM (tNotM (tVal (eUn (isW .bool) (eVar 5)))) (tVal (eOp (eqW true) (eVar 5) (eArgs F.f_law_is_rules [(eVar 4)]))))
 (sRet (eC (.bl false)))
 sNext)))
noncomputable def LW4(F:Fs):MS:=(sAsg (eArgs F.f_law_spoilt [(eVar 2),(eArgs F.f_law_drawn [(eVar 0),(eC (.int 82)),(eOp powW (eC (.int 10)) (eC (.int 7)))]),(eArgs F.f_law_drawn [(eVar 0),(eC (.int 83)),(eC (.int 5))])]) (gNm 6))
noncomputable def LW5(F:Fs):MS:=(sAsg (eVar 2) (gNm 7))
noncomputable def LW6(F:Fs):MS:=(sFor (iRng [(eArgs F.f_law_drawn [(eVar 0),(eC (.int 84)),(eC (.int 5))])]) (gNm 8)
 (sAsg (eArgs tupW [(eC (.str "then")),(eVar 7),(eVar 7)]) (gNm 7)))
noncomputable def LW7(F:Fs):MS:=(sAsg (eArgs flsW [(eVar 2),(eVar 6),(eVar 7),(eArgs tupW [(eC (.str "let")),(eC (.str "x")),(eVar 2),(eArgs tupW [(eC (.str "read")),(eC (.str "x"))])]),(eArgs tupW [(eC (.str "own")),(eC (.str "p")),(eVar 2),(eArgs tupW [(eC (.str "name")),(eC (.str "p"))])])]) (gNm 9))
noncomputable def LW8(F:Fs):MS:=(sFor (iSeq (eOp addW (eVar 9) (eArgs flsW [(eArgs flsW [(eVar 2)])]))) (gNm 4)
 (sSeq (sAsg (eArgs F.f_is_deed [(eVar 1),(eVar 4)]) (gNm 5))
 (sIf (tOrM (tNotM (tVal (eUn (isW .bool) (eVar 5)))) (tVal (eOp (eqW true) (eVar 5) (eOp geW (eArgs F.f_law_left [(eVar 1),(eArgs lenW [(eVar 1)]),(eVar 4),(eArgs flsW []),(eC (.int 60))]) (eC (.int 0))))))
 (sRet (eC (.bl false)))
 sNext)))
noncomputable def LW9(F:Fs):MS:=(sRet (eAnd (eOp (eqW false) (eArgs F.f_size_of [(eVar 7)]) (eArgs F.f_law_size [(eVar 7)])) (eArgs F.f_law_known_ones [])))
theorem LW_row(F:Fs):b_f_law F=sSeq (LW0 F) (sSeq (LW1 F) (sSeq (LW2 F) (sSeq (LW3 F) (sSeq (LW4 F) (sSeq (LW5 F) (sSeq (LW6 F) (sSeq (LW7 F) (sSeq (LW8 F) (LW9 F))))))))):=rfl
theorem a_drawn{F:Fs}{m:Nat}{ns:List Int}{k many:Int}{h:MH}(hl:ns.length≤63)(h2:2≤m)(hm:0<many):(up m F).f_law_drawn [scr ns,.int k,.int many] h=some (.int (drawV ns k many),h):=by
 obtain⟨m',rfl⟩:∃m',m=m'+2:=⟨m-2,by omega⟩
 exact s_drawn hl hm
theorem a_spoilt{F:Fs}{m n:Nat}{w:W}{num deep:Int}(hm:n+1≤m)(p:pl n w=true):∃v,dt (n+3) v=true∧∀h,(up m F).f_law_spoilt [w,.int num,.int deep] h=some (v,h):=by
 obtain⟨m',rfl⟩:∃m',m=n+1+m':=⟨m-(n+1),by omega⟩
 rw[up_add]
 exact s_spoilt n w num deep p
theorem a_known{F:Fs}{m:Nat}{h:MH}(hm:182≤m):(up m F).f_law_known_ones [] h=some (.bl true,h):=by
 obtain⟨m',rfl⟩:∃m',m=m'+1:=⟨m-1,by omega⟩
 exact s_known (by omega)
theorem a_size_of{F:Fs}{m n k:Nat}{rl:List W}{w:W}{h:MH}(hm:2≤m)(d:dt 60 w=true)(o:okd rl k n w)(hb:cnt n w≤100000):(up m F).f_size_of [w] h=some (.int (cnt n w),h):=by
 obtain⟨m',rfl⟩:∃m',m=m'+2:=⟨m-2,by omega⟩
 exact s_size_of d o hb
theorem a_law_size{F:Fs}{m n k:Nat}{rl:List W}{w:W}{h:MH}(hm:n≤m)(d:dt 60 w=true)(o:okd rl k n w):(up m F).f_law_size [w] h=some (.int (cnt n w),h):=by
 obtain⟨m',rfl⟩:∃m',m=n+m':=⟨m-n,by omega⟩
 rw[up_add]
 exact s_law_size n _ w h d o
theorem pow7{h:MH}:powW (.int 10) (.int 7) h=some (.int 10000000,h):=rfl
theorem parts_pl{n:Nat}{w:W}(p:pl (n+1) w=true):(partsL w).length≤8∧∀v∈partsL w,pl n v=true:=by
 unfold partsL
 split
 .rename_i x r
  obtain⟨m,e,hl,hd⟩:=pl_tup p
  have:m=n:=by omega
  subst this
  simp only[List.length_cons] at hl
  split
  .split
   .rename_i z a b
    have pa:=hd (.tup a) (by simp)
    have pb:=hd (.tup b) (by simp)
    obtain⟨m1,e1,l1,d1⟩:=pl_tup pa
    obtain⟨m2,e2,l2,d2⟩:=pl_tup pb
    refine⟨by rw[List.length_append]; omega,fun v hv=>?_⟩
    rcases List.mem_append.mp hv with z | z
    .exact pl_mono (d1 v z) (by omega)
    .exact pl_mono (d2 v z) (by omega)
   .exact⟨by simp,fun v hv=>by simp at hv⟩
  .split
   .rename_i q _
    exact⟨by rw[List.length_drop]; omega,fun v hv=>hd v (List.mem_cons_of_mem _ (List.mem_of_mem_drop hv))⟩
   .exact⟨by simp,fun v hv=>by simp at hv⟩
 .exact⟨by simp,fun v hv=>by simp at hv⟩
theorem pl_pos{n:Nat}{w:W}(p:pl n w=true):∃m,n=m+1:=by
 cases n with
 | zero=>cases p
 | succ m=>exact⟨m,rfl⟩
theorem cnt_nine:∀(n N:Nat) (w:W),pl N w=true→cnt n w≤9 ^ n
 | 0,N,w,p=>by simp[cnt]
 | n+1,N,w,p=>by
  obtain⟨m,rfl⟩:=pl_pos p
  obtain⟨h1,h2⟩:=parts_pl p
  have:=cnt_le (n:=n) h1 fun v hv=>cnt_nine n m v (h2 v hv)
  have h3:1≤9 ^ n:=Nat.pos_of_ne_zero (by simp)
  rw[Nat.pow_succ]
  omega
noncomputable def gt(w:W):Nat→W
 | 0=>w
 | n+1=>th "then" [gt w n,gt w n]
theorem parts_then(a b:W):partsL (th "then" [a,b])=[a,b]:=by
 have hc:(("then":Str)==("call":Str))=false:=by decide +kernel
 have hf:fm "then" = some (3,1):=by decide +kernel
 simp[partsL,hc,hf]
theorem then_dt{n:Nat}{a b:W}(d1:dt (n+1) a=true)(d2:dt (n+1) b=true):dt (n+2) (th "then" [a,b])=true:=by
 refine dt_of (n:=n+1) (by simp) fun v hv=>?_
 simp only[List.mem_cons,List.not_mem_nil,or_false] at hv
 rcases hv with rfl | rfl | rfl
 .exact str_dt (by decide +kernel)
 .exact d1
 .exact d2
theorem gt_dt{a:Nat}{w:W}(d:dt (a+1) w=true):∀n,dt (a+n+1) (gt w n)=true
 | 0=>d
 | n+1=>then_dt (gt_dt d n) (gt_dt d n)
theorem okd_tup{rl:List W}{k n:Nat}{w:W}(o:okd rl k n w):∃l,w=.tup l:=by
 cases n with
 | zero=>cases o
 | succ n=>cases o.1<;>exact⟨_,rfl⟩
theorem gt_okd{rl:List W}{k a:Nat}{w:W}(o:okd rl k a w):∀n,okd rl k (a+n) (gt w n)
 | 0=>o
 | n+1=>by
  have ih:=gt_okd o n
  obtain⟨l,e⟩:=okd_tup ih
  refine⟨?_,fun p hp=>?_⟩
  .show Sh rl k (th "then" [gt w n,gt w n])
   rw[e]
   exact .thenn l l
  .rw[show gt w (n+1)=th "then" [gt w n,gt w n] from rfl,parts_then] at hp
   simp only[List.mem_cons,List.not_mem_nil,or_false,or_self] at hp
   subst hp
   exact ih
theorem gt_cnt{a B:Nat}{w:W}(hb:cnt a w+1≤B):∀n,cnt (a+n) (gt w n)+1≤2 ^ n*B
 | 0=>by simpa[gt] using hb
 | n+1=>by
  have ih:=gt_cnt hb n
  have:cnt (a+n+1) (gt w (n+1))=1+(cnt (a+n) (gt w n)+cnt (a+n) (gt w n)):=by
   show 1+((partsL (th "then" [gt w n,gt w n])).map (cnt (a+n))).sum=_
   rw[parts_then]
   simp only[List.map_cons,List.map_nil,List.sum_cons,List.sum_nil,Nat.add_zero]
  have e2:2 ^ (n+1)*B=2*(2 ^ n*B):=by rw[Nat.pow_succ,Nat.mul_comm (2 ^ n) 2,Nat.mul_assoc]
  rw[show a+(n+1)=a+n+1 by omega,this,e2]
  generalize 2 ^ n*B=z at ih
  omega
theorem gt_loop{o0 o1 o2 o3 o4 o5 o6 o9:Option W}{w:W}{h:MH}:∀(is:List W) (n:Nat) (o8:Option W),∃o,forL (gNm 8) (sAsg (eArgs tupW [(eC (.str "then")),(eVar 7),(eVar 7)]) (gNm 7)) is [o0,o1,o2,o3,o4,o5,o6,some (gt w n),o8,o9] h=some (.nx [o0,o1,o2,o3,o4,o5,o6,some (gt w (n+is.length)),o,o9],h)
 | [],n,o8=>⟨o8,by simp[forL]⟩
 | v::r,n,o8=>by
  obtain⟨o,e⟩:=gt_loop (o0:=o0) (o1:=o1) (o2:=o2) (o3:=o3) (o4:=o4) (o5:=o5) (o6:=o6) (o9:=o9) (w:=w) (h:=h) r (n+1) (some v)
  refine⟨o,?_⟩
  unfold forL
  have c3:(3:Nat)≤cap:=by decide
  have g:gNm 8 v [o0,o1,o2,o3,o4,o5,o6,some (gt w n),o8,o9] h=some ([o0,o1,o2,o3,o4,o5,o6,some (gt w n),some v,o9],h):=by simp[gNm]
  rw[g]
  have b:(sAsg (eArgs tupW [(eC (.str "then")),(eVar 7),(eVar 7)]) (gNm 7)) [o0,o1,o2,o3,o4,o5,o6,some (gt w n),some v,o9] h=some (.nx [o0,o1,o2,o3,o4,o5,o6,some (gt w (n+1)),some v,o9],h):=by
   simp![tupW,c3,gt]
  simp only[b]
  rw[e,List.length_cons,show n+1+r.length=n+(r.length+1) by omega]
noncomputable abbrev rLW(ns:List Int)(o1 o2 o3 o4 o5 o6 o7 o8 o9:Option W):En:=[some (scr ns),o1,o2,o3,o4,o5,o6,o7,o8,o9]
theorem s_law{F:Fs}{ns:List Int}{m:Nat}{h:MH}(hl:ns.length≤63)(hm:182≤m):(step (up m F)).f_law [scr ns] h=some (.bl true,h):=by
 obtain⟨rl,hr,eR⟩:∃rl,RG rl∧∀h,(up m F).f_law_rules [scr ns,.int 1] h=some (.tup rl,h):=by
  obtain⟨m',rfl⟩:∃m',m=m'+1:=⟨m-1,by omega⟩
  exact s_rules hl (by omega)
 obtain⟨w,pw,ow,eW⟩:∃w,pl 6 w=true∧okd rl rl.length 3 w∧∀h,(up m F).f_law_light [scr ns,.int 90,.int 2,.tup rl] h=some (w,h):=by
  obtain⟨m',rfl⟩:∃m',m=m'+1:=⟨m-1,by omega⟩
  exact s_light hl (by omega) hr
 have eD:=fun(k many:Int) (h:MH) (q:0<many)=>a_drawn (F:=F) (m:=m) (ns:=ns) (k:=k) (many:=many) (h:=h) hl (by omega) q
 obtain⟨sr,dsr,eSR⟩:=a_spoilt (F:=F) (m:=m) (num:=drawV ns 80 10000000) (deep:=drawV ns 81 6) (by omega) hr.pl
 obtain⟨sd,dsd,eSD⟩:=a_spoilt (F:=F) (m:=m) (num:=drawV ns 82 10000000) (deep:=drawV ns 83 5) (by omega) pw
 have eIR:=fun(w:W) (h:MH) (d:dt 61 w=true)=>a_is_rules (F:=F) (m:=m) (h:=h) (by omega) d
 have eLR:=fun(w:W) (h:MH) (d:dt 61 w=true)=>a_law_is_rules (F:=F) (m:=m) (h:=h) (by omega) d
 have eID:=fun(w:W) (h:MH) (d:dt 60 w=true)=>a_is_deed (F:=F) (m:=m) (h:=h) (by omega) hr.ok d
 have eLL:=fun(w:W) (h:MH) (d:dt 60 w=true)=>a_left (F:=F) (m:=m) (h:=h) (by omega) hr.ok d
 have eK:=fun(h:MH)=>a_known (F:=F) (m:=m) (h:=h) hm
 have eS:=fun(n:Nat) (w:W) (h:MH) (d:dt 60 w=true) (o:okd rl rl.length n w) (q:cnt n w≤100000)=>a_size_of (F:=F) (m:=m) (h:=h) (by omega) d o q
 have eLS:=fun(n:Nat) (w:W) (h:MH) (hn:n≤10) (d:dt 60 w=true) (o:okd rl rl.length n w)=>a_law_size (F:=F) (m:=m) (h:=h) (by omega) d o
 show gc (fnM 1 9 (b_f_law (up m F))) [scr ns] h=_
 generalize up m F=G at *
 have c0:(0:Nat)≤cap:=by decide
 have c1:(1:Nat)≤cap:=by decide
 have c2:(2:Nat)≤cap:=by decide
 have c3:(3:Nat)≤cap:=by decide
 have c4:(4:Nat)≤cap:=by decide
 have c5:(5:Nat)≤cap:=by decide
 have c6:(6:Nat)≤cap:=by decide
 have z0:LW0 G (rLW ns none none none none none none none none none) h=some (.nx (rLW ns (some (.tup rl)) none none none none none none none none),h):=by
  simp![LW0,eR]
 have z1:LW1 G (rLW ns (some (.tup rl)) none none none none none none none none) h=some (.nx (rLW ns (some (.tup rl)) (some w) none none none none none none none),h):=by
  simp![LW1,eW]
 have z2:LW2 G (rLW ns (some (.tup rl)) (some w) none none none none none none none) h=some (.nx (rLW ns (some (.tup rl)) (some w) (some sr) none none none none none none),h):=by
  simp![LW2,pow7,eD 80 10000000 _ (by omega),eD 81 6 _ (by omega),eSR]
 have drl:dt 12 (.tup rl)=true:=dt_mono (pl_dt hr.pl) (by omega)
 have dmem:∀v∈rl,dt 11 v=true:=by
  obtain⟨mm,e,_,hd⟩:=dt_tup drl
  have:mm=11:=by omega
  subst this
  exact hd
 have z3:∃o4 o5,LW3 G (rLW ns (some (.tup rl)) (some w) (some sr) none none none none none none) h=some (.nx (rLW ns (some (.tup rl)) (some w) (some sr) o4 o5 none none none none),h):=by
  have hl4:=hr.l
  have mu:∀h,mulW (.tup rl) (.int 2) h=some (.tup (rl++rl),h):=fun h=>by
   simp only[mulW]
   rw[if_pos ⟨by omega,by omega,by omega⟩]
   simp[List.replicate]
  have rv:∀h,revW (.tup rl) h=some (.tup rl.reverse,h):=fun h=>rfl
  have cw:W.tup [.tup [.tup [],.tup [],.tup [.str "call",.int 0,.tup [],.tup []]]]=W.tup [.tup [.tup [],.tup [],.tup [.str "call",.int 0,.tup [],.tup []]]]:=rfl
  have it:(iSeq (eArgs tupW [(eVar 1),(eVar 3),(eOp mulW (eVar 1) (eC (.int 2))),(eUn revW (eVar 1)),(eArgs tupW [(eArgs tupW [(eArgs tupW []),(eArgs tupW []),(eArgs tupW [(eC (.str "call")),(eC (.int 0)),(eArgs tupW []),(eArgs tupW [])])])]),(eArgs tupW [(eC (.int 5)),(eVar 1)])])) (rLW ns (some (.tup rl)) (some w) (some sr) none none none none none none) h
    = some (.items [.tup rl,sr,.tup (rl++rl),.tup rl.reverse,.tup [.tup [.tup [],.tup [],.tup [.str "call",.int 0,.tup [],.tup []]]],.tup [.int 5,.tup rl]],h):=by
   simp![iSeq,tupW,c0,c1,c2,c3,c4,c6,mu,rv,srcOf]
  have dd:∀v∈[.tup rl,sr,.tup (rl++rl),.tup rl.reverse,.tup [.tup [.tup [],.tup [],.tup [.str "call",.int 0,.tup [],.tup []]]],.tup [.int 5,.tup rl]],dt 61 v=true:=by
   intro v hv
   simp only[List.mem_cons,List.not_mem_nil,or_false] at hv
   rcases hv with rfl | rfl | rfl | rfl | rfl | rfl
   .exact dt_mono drl (by omega)
   .exact dt_mono dsr (by omega)
   .exact dt_mono (dt_of (n:=11) (by rw[List.length_append]; omega) fun v hv=>by rcases List.mem_append.mp hv with z | z<;>exact dmem v z) (by omega)
   .exact dt_mono (dt_of (n:=11) (by rw[List.length_reverse]; omega) fun v hv=>dmem v (List.mem_reverse.mp hv)) (by omega)
   .have:dt 5 (W.tup [.tup [.tup [],.tup [],.tup [.str "call",.int 0,.tup [],.tup []]]])=true:=by decide +kernel
    exact dt_mono this (by omega)
   .refine dt_mono (dt_of (n:=12) (by simp) fun v hv=>?_) (show 13≤61 by omega)
    simp only[List.mem_cons,List.not_mem_nil,or_false] at hv
    rcases hv with rfl | rfl
    .exact dt_mono (dt_int 5) (by omega)
    .exact drl
  unfold LW3
  rw[for_items it]
  generalize [W.tup rl,sr,.tup (rl++rl),.tup rl.reverse,.tup [.tup [.tup [],.tup [],.tup [.str "call",.int 0,.tup [],.tup []]]],.tup [.int 5,.tup rl]]=L at dd
  obtain⟨ρ',⟨o4,o5,rfl⟩,e⟩:=forL_nx (g:=gNm 4) (b:=(sSeq (sAsg (eArgs G.f_is_rules [(eVar 4)]) (gNm 5)) (sIf (tOrM (tNotM (tVal (eUn (isW .bool) (eVar 5)))) (tVal (eOp (eqW true) (eVar 5) (eArgs G.f_law_is_rules [(eVar 4)])))) (sRet (eC (.bl false))) sNext))) (h:=h)
   (fun ρ=>∃o4 o5,ρ=rLW ns (some (.tup rl)) (some w) (some sr) o4 o5 none none none none) L
   (fun v hv ρ hq=>by
    obtain⟨o4,o5,rfl⟩:=hq
    refine⟨rLW ns (some (.tup rl)) (some w) (some sr) (some v) o5 none none none none,rLW ns (some (.tup rl)) (some w) (some sr) (some v) (some (.bl (isRules v))) none none none none,by simp[gNm],?_,⟨_,_,rfl⟩⟩
    have f1:=eIR v h (dd v hv)
    have f2:=eLR v h (dd v hv)
    have f3:isW .bool (.bl (isRules v)) h=some (.bl true,h):=isW_dt (n:=1) rfl
    simp![f1,f2,f3,eqB_bl])
   _ ⟨none,none,rfl⟩
  exact⟨o4,o5,e⟩
 obtain⟨o4,o5,z3⟩:=z3
 have z4:LW4 G (rLW ns (some (.tup rl)) (some w) (some sr) o4 o5 none none none none) h=some (.nx (rLW ns (some (.tup rl)) (some w) (some sr) o4 o5 (some sd) none none none),h):=by
  simp![LW4,pow7,eD 82 10000000 _ (by omega),eD 83 5 _ (by omega),eSD]
 have z5:LW5 G (rLW ns (some (.tup rl)) (some w) (some sr) o4 o5 (some sd) none none none) h=some (.nx (rLW ns (some (.tup rl)) (some w) (some sr) o4 o5 (some sd) (some w) none none),h):=by
  simp![LW5]
 have rg:=draw_range (ns:=ns) (k:=84) (many:=5) (by omega)
 have e84:=fun h=>eD 84 5 h (by omega)
 obtain⟨j,hj⟩:=Int.eq_ofNat_of_zero_le rg.1
 rw[hj] at rg e84
 have hj5:j≤4:=by omega
 have z6:∃o8,LW6 G (rLW ns (some (.tup rl)) (some w) (some sr) o4 o5 (some sd) (some w) none none) h=some (.nx (rLW ns (some (.tup rl)) (some w) (some sr) o4 o5 (some sd) (some (gt w j)) o8 none),h):=by
  have ir:(iRng [(eArgs G.f_law_drawn [(eVar 0),(eC (.int 84)),(eC (.int 5))])]) (rLW ns (some (.tup rl)) (some w) (some sr) o4 o5 (some sd) (some w) none none) h=some (.items (upto j),h):=by
   have q:-(2 ^ 62:Int)≤(j:Int)∧(j:Int)<2 ^ 62:=by omega
   have rw1:∀h,rngW [.int (j:Int)] h=some (.items (upto j),h):=fun h=>by
    unfold rngW
    simp only
    rw[if_pos q,Int.toNat_natCast]
   simp![iRng,e84,rw1]
  obtain⟨o,e⟩:=gt_loop (o0:=some (scr ns)) (o1:=some (.tup rl)) (o2:=some w) (o3:=some sr) (o4:=o4) (o5:=o5) (o6:=some sd) (o9:=none) (w:=w) (h:=h) (upto j) 0 none
  refine⟨o,?_⟩
  unfold LW6
  rw[for_items ir]
  have:(upto j).length=j:=by simp[upto]
  rw[this,Nat.zero_add] at e
  exact e
 obtain⟨o8,z6⟩:=z6
 have dw:dt 6 w=true:=pl_dt pw
 have dgt:dt (5+j+1) (gt w j)=true:=gt_dt dw j
 have okg:=gt_okd ow j
 have cg:cnt (3+j) (gt w j)≤100000:=by
  have h1:=cnt_nine 3 6 w pw
  have h2:=gt_cnt (B:=730) (show cnt 3 w+1≤730 by omega) j
  have h3:2 ^ j≤2 ^ 4:=Nat.pow_le_pow_right (by omega) hj5
  have h4:2 ^ j*730≤2 ^ 4*730:=Nat.mul_le_mul_right _ h3
  omega
 generalize gt w j=gw at *
 have z7:LW7 G (rLW ns (some (.tup rl)) (some w) (some sr) o4 o5 (some sd) (some gw) o8 none) h=some (.nx (rLW ns (some (.tup rl)) (some w) (some sr) o4 o5 (some sd) (some gw) o8 (some (.fls [w,sd,gw,th "let" [.str "x",w,th "read" [.str "x"]],th "own" [.str "p",w,th "name" [.str "p"]]]))),h):=by
  simp![LW7,tupW,flsW,c2,c4,c5]
 have d6:∀v∈[w,sd,gw,th "let" [.str "x",w,th "read" [.str "x"]],th "own" [.str "p",w,th "name" [.str "p"]]]++[.fls [w]],dt 60 v=true:=by
  have n1:dt 2 (th "read" [.str "x"])=true:=by decide +kernel
  have n2:dt 2 (th "name" [.str "p"])=true:=by decide +kernel
  intro v hv
  simp only[List.cons_append,List.nil_append,List.mem_cons,List.not_mem_nil,or_false] at hv
  rcases hv with rfl | rfl | rfl | rfl | rfl | rfl
  .exact dt_mono dw (by omega)
  .exact dt_mono dsd (by omega)
  .exact dt_mono dgt (by omega)
  .refine dt_mono (dt_of (n:=6) (by simp) fun v hv=>?_) (show 7≤60 by omega)
   simp only[List.mem_cons,List.not_mem_nil,or_false] at hv
   rcases hv with rfl | rfl | rfl | rfl
   .exact str_dt (by decide +kernel)
   .exact str_dt (by decide +kernel)
   .exact dw
   .exact dt_mono n1 (by omega)
  .refine dt_mono (dt_of (n:=6) (by simp) fun v hv=>?_) (show 7≤60 by omega)
   simp only[List.mem_cons,List.not_mem_nil,or_false] at hv
   rcases hv with rfl | rfl | rfl | rfl
   .exact str_dt (by decide +kernel)
   .exact str_dt (by decide +kernel)
   .exact dw
   .exact dt_mono n2 (by omega)
  .refine dt_mono (dt_fls (n:=6) (by simp) fun v hv=>?_) (show 7≤60 by omega)
   simp only[List.mem_cons,List.not_mem_nil,or_false] at hv
   subst hv
   exact dw
 have z8:∃p4 p5,LW8 G (rLW ns (some (.tup rl)) (some w) (some sr) o4 o5 (some sd) (some gw) o8 (some (.fls [w,sd,gw,th "let" [.str "x",w,th "read" [.str "x"]],th "own" [.str "p",w,th "name" [.str "p"]]]))) h=some (.nx (rLW ns (some (.tup rl)) (some w) (some sr) p4 p5 (some sd) (some gw) o8 (some (.fls [w,sd,gw,th "let" [.str "x",w,th "read" [.str "x"]],th "own" [.str "p",w,th "name" [.str "p"]]]))),h):=by
  have ad:∀h,addW (.fls [w,sd,gw,th "let" [.str "x",w,th "read" [.str "x"]],th "own" [.str "p",w,th "name" [.str "p"]]]) (.fls [.fls [w]]) h=some (.fls ([w,sd,gw,th "let" [.str "x",w,th "read" [.str "x"]],th "own" [.str "p",w,th "name" [.str "p"]]]++[.fls [w]]),h):=fun h=>by
   simp only[addW,addI,getL,List.length_cons,List.length_nil]
   rw[if_pos (by decide)]
  generalize [w,sd,gw,th "let" [.str "x",w,th "read" [.str "x"]],th "own" [.str "p",w,th "name" [.str "p"]]]++[.fls [w]]=L at d6 ad
  generalize W.fls [w,sd,gw,th "let" [.str "x",w,th "read" [.str "x"]],th "own" [.str "p",w,th "name" [.str "p"]]]=L9 at ad
  have it:(iSeq (eOp addW (eVar 9) (eArgs flsW [(eArgs flsW [(eVar 2)])]))) (rLW ns (some (.tup rl)) (some w) (some sr) o4 o5 (some sd) (some gw) o8 (some L9)) h=some (.items L,h):=by
   simp![iSeq,flsW,c1,ad,srcOf]
  unfold LW8
  rw[for_items it]
  obtain⟨ρ',⟨p4,p5,rfl⟩,e⟩:=forL_nx (g:=gNm 4) (b:=(sSeq (sAsg (eArgs G.f_is_deed [(eVar 1),(eVar 4)]) (gNm 5)) (sIf (tOrM (tNotM (tVal (eUn (isW .bool) (eVar 5)))) (tVal (eOp (eqW true) (eVar 5) (eOp geW (eArgs G.f_law_left [(eVar 1),(eArgs lenW [(eVar 1)]),(eVar 4),(eArgs flsW []),(eC (.int 60))]) (eC (.int 0)))))) (sRet (eC (.bl false))) sNext))) (h:=h)
   (fun ρ=>∃o4 o5,ρ=rLW ns (some (.tup rl)) (some w) (some sr) o4 o5 (some sd) (some gw) o8 (some L9)) L
   (fun v hv ρ hq=>by
    obtain⟨q4,q5,rfl⟩:=hq
    have f1:=eID v h (d6 v hv)
    have f2:=eLL v h (d6 v hv)
    have f3:=left_ge (nodes rl 60 (v,[]))
    have lw:∀h,lenW [.tup rl] h=some (.int (rl.length:Int),h):=fun h=>rfl
    generalize nodes rl 60 (v,[])=nn at f1 f2 f3
    generalize (rl.length:Int)=ln at f2 lw
    refine⟨rLW ns (some (.tup rl)) (some w) (some sr) (some v) q5 (some sd) (some gw) o8 (some L9),rLW ns (some (.tup rl)) (some w) (some sr) (some v) (some (.bl (fits 60 nn))) (some sd) (some gw) o8 (some L9),by simp[gNm],?_,⟨_,_,rfl⟩⟩
    have f4:isW .bool (.bl (fits 60 nn)) h=some (.bl true,h):=isW_dt (n:=1) rfl
    simp![f1,flsW,c0,lw,f2,cmpI,f3,f4,eqB_bl])
   _ ⟨o4,o5,rfl⟩
  exact⟨p4,p5,e⟩
 obtain⟨p4,p5,z8⟩:=z8
 have z9:∀o9,LW9 G (rLW ns (some (.tup rl)) (some w) (some sr) p4 p5 (some sd) (some gw) o8 o9) h=some (.ret (.bl true),h):=by
  intro o9
  have f1:=eS (3+j) gw h (dt_mono dgt (by omega)) okg cg
  have f2:=eLS (3+j) gw h (by omega) (dt_mono dgt (by omega)) okg
  simp![LW9,f1,f2,eqB_int,eK]
 refine gc_dt (n:=1) ?_ rfl
 have hs:b_f_law G (rLW ns none none none none none none none none none) h=some (.ret (.bl true),h):=by
  rw[LW_row,seq_nx z0,seq_nx z1,seq_nx z2,seq_nx z3,seq_nx z4,seq_nx z5,seq_nx z6,seq_nx z7,seq_nx z8,z9]
 simp only[fnM,List.length_cons,List.length_nil,if_true,List.map_cons,List.map_nil,List.replicate,List.cons_append,List.nil_append]
 simp only[hs]
theorem lv_up:∀n,lv n=up n Fs.bot
 | 0=>rfl
 | n+1=>by show step (lv n)=step (up n Fs.bot); rw[lv_up n]
theorem main(ns:List Int)(hl:ns.length≤63):∃h',(lv 200).f_law [.fls (ns.map W.int)] []=some (.bl true,h'):=by
 refine⟨[],?_⟩
 rw[lv_up]
 exact s_law (m:=199) hl (by omega)
end K1
namespace K1
open PySem PySem.W PyProof.Rows ML
set_option maxHeartbeats 0 in
theorem txt {XP : (Str → Option Value) → Heap → Prop} {w : World} {s₀ : Shared} {mg mb : Str → Option Value} {h : Heap} (G : Ground q ["FORMS"] [] XP w s₀ mg mb h) : AllD (TxtAt (Kw h) mg) defs :=
  ⟨txtG G (d := d_f_has_form) (by kernel_rfl) (ML.hb1 fun _ _ _ _ _ _ _ => by kernel_rfl) rfl,
   txtG G (d := d_f_parts_of) (by kernel_rfl) (ML.hb1 fun _ _ _ _ _ _ _ => by kernel_rfl) rfl,
   txtG G (d := d_f_is_whole) (by kernel_rfl) (ML.hb1 fun _ _ _ _ _ _ _ => by kernel_rfl) rfl,
   txtG G (d := d_f_is_worth) (by kernel_rfl) (ML.hb1 fun _ _ _ _ _ _ _ => by kernel_rfl) rfl,
   txtG G (d := d_f_is_figures) (by kernel_rfl) (ML.hb1 fun _ _ _ _ _ _ _ => by kernel_rfl) rfl,
   txtG G (d := d_f_is_lettered) (by kernel_rfl) (ML.hb2 fun _ _ _ _ _ _ _ _ => by kernel_rfl) rfl,
   txtG G (d := d_f_is_name) (by kernel_rfl) (ML.hb1 fun _ _ _ _ _ _ _ => by kernel_rfl) rfl,
   txtG G (d := d_f_is_own_shelf) (by kernel_rfl) (ML.hb1 fun _ _ _ _ _ _ _ => by kernel_rfl) rfl,
   txtG G (d := d_f_is_handed_name) (by kernel_rfl) (ML.hb1 fun _ _ _ _ _ _ _ => by kernel_rfl) rfl,
   txtG G (d := d_f_is_shelf) (by kernel_rfl) (ML.hb2 fun _ _ _ _ _ _ _ _ => by kernel_rfl) rfl,
   txtG G (d := d_f_is_call) (by kernel_rfl) (ML.hb2 fun _ _ _ _ _ _ _ _ => by kernel_rfl) rfl,
   txtG G (d := d_f_is_deed_outside) (by kernel_rfl) (ML.hb3 fun _ _ _ _ _ _ _ _ _ => by kernel_rfl) rfl,
   txtG G (d := d_f_parts_with_known) (by kernel_rfl) (ML.hb2 fun _ _ _ _ _ _ _ _ => by kernel_rfl) rfl,
   txtG G (d := d_f_is_deed_where) (by kernel_rfl) (ML.hb3 fun _ _ _ _ _ _ _ _ _ => by kernel_rfl) rfl,
   txtG G (d := d_f_are_unlike) (by kernel_rfl) (ML.hb1 fun _ _ _ _ _ _ _ => by kernel_rfl) rfl,
   txtG G (d := d_f_is_head) (by kernel_rfl) (ML.hb2 fun _ _ _ _ _ _ _ _ => by kernel_rfl) rfl,
   txtG G (d := d_f_is_rule) (by kernel_rfl) (ML.hb2 fun _ _ _ _ _ _ _ _ => by kernel_rfl) rfl,
   txtG G (d := d_f_is_rules) (by kernel_rfl) (ML.hb1 fun _ _ _ _ _ _ _ => by kernel_rfl) rfl,
   txtG G (d := d_f_is_deed) (by kernel_rfl) (ML.hb2 fun _ _ _ _ _ _ _ _ => by kernel_rfl) rfl,
   txtG G (d := d_f_size_of) (by kernel_rfl) (ML.hb1 fun _ _ _ _ _ _ _ => by kernel_rfl) rfl,
   txtG G (d := d_f_law_cell) (by kernel_rfl) (ML.hb2 fun _ _ _ _ _ _ _ _ => by kernel_rfl) rfl,
   txtG G (d := d_f_law_drawn) (by kernel_rfl) (ML.hb3 fun _ _ _ _ _ _ _ _ _ => by kernel_rfl) rfl,
   txtG G (d := d_f_law_leaf) (by kernel_rfl) (ML.hb3 fun _ _ _ _ _ _ _ _ _ => by kernel_rfl) rfl,
   txtG G (d := d_f_law_deed) (by kernel_rfl) (ML.hb5 fun _ _ _ _ _ _ _ _ _ _ _ => by kernel_rfl) rfl,
   txtG G (d := d_f_law_call) (by kernel_rfl) (ML.hb5 fun _ _ _ _ _ _ _ _ _ _ _ => by kernel_rfl) rfl,
   txtG G (d := d_f_law_rules) (by kernel_rfl) (ML.hb2 fun _ _ _ _ _ _ _ _ => by kernel_rfl) rfl,
   txtG G (d := d_f_law_odd) (by kernel_rfl) (ML.hb1 fun _ _ _ _ _ _ _ => by kernel_rfl) rfl,
   txtG G (d := d_f_law_spoilt) (by kernel_rfl) (ML.hb3 fun _ _ _ _ _ _ _ _ _ => by kernel_rfl) rfl,
   txtG G (d := d_f_law_is_word) (by kernel_rfl) (ML.hb2 fun _ _ _ _ _ _ _ _ => by kernel_rfl) rfl,
   txtG G (d := d_f_law_left) (by kernel_rfl) (ML.hb5 fun _ _ _ _ _ _ _ _ _ _ _ => by kernel_rfl) rfl,
   txtG G (d := d_f_law_left_of_all) (by kernel_rfl) (ML.hb5 fun _ _ _ _ _ _ _ _ _ _ _ => by kernel_rfl) rfl,
   txtG G (d := d_f_law_left_of_call) (by kernel_rfl) (ML.hb5 fun _ _ _ _ _ _ _ _ _ _ _ => by kernel_rfl) rfl,
   txtG G (d := d_f_law_is_rules) (by kernel_rfl) (ML.hb1 fun _ _ _ _ _ _ _ => by kernel_rfl) rfl,
   txtG G (d := d_f_law_size) (by kernel_rfl) (ML.hb1 fun _ _ _ _ _ _ _ => by kernel_rfl) rfl,
   txtG G (d := d_f_law_weight) (by kernel_rfl) (ML.hb3 fun _ _ _ _ _ _ _ _ _ => by kernel_rfl) rfl,
   txtG G (d := d_f_law_light) (by kernel_rfl) (ML.hb4 fun _ _ _ _ _ _ _ _ _ _ => by kernel_rfl) rfl,
   txtG G (d := d_f_law_each) (by kernel_rfl) (ML.hb1 fun _ _ _ _ _ _ _ => by kernel_rfl) rfl,
   txtG G (d := d_f_law_known_ones) (by kernel_rfl) (ML.hb0 fun _ _ _ _ _ _  => by kernel_rfl) rfl,
   txtG G (d := d_f_law) (by kernel_rfl) (ML.hb1 fun _ _ _ _ _ _ _ => by kernel_rfl) rfl, trivial⟩
end K1
open PySem PySem.W PyProof.Rows ML
set_option maxRecDepth 100000 in
set_option maxHeartbeats 0 in
theorem PySem.Challenge.cw_shelfwork_k01_known_holds : PySem.Challenge.rw_shelfwork_k01_known.Holds := by
 refine holds_law K1.said fun said=>?_
 refine holds_open (q:=K1.q) (loose:=["FORMS"]) (Xt:=fun s=>xlAt K1.q [] s&&recOk [] s) (XP:=XL K1.q []) (Yf:=K1.H.obs) (Ya:=K1.H.val) (YP:=K1.H.says) (N:=3400) K1.left (Hook.of K1.H) (Hook.keeps K1.H) (fun s e=>xl_of s (Bool.and_eq_true_iff.mp e).1) XL.keeps rfl rfl rfl (fun s e=>recFacts_of (Bool.and_eq_true_iff.mp e).2) rfl said (by decide +kernel) ⟨rfl,rfl,rfl,rfl,rfl,by decide +kernel⟩ ?hw ?hc
 case hw=>w_witness2
 case hc=>
  exact ML.walk_lawE (l:=PySem.Challenge.rw_shelfwork_k01_known) (D:=K1.d_f_law) (g:=(K1.lv 200).f_law) (b:=K1.b_f_law (K1.lv 199)) (Γ:=K1.rc (K1.lv 199)) (ds:=K1.defs) (y:="_law_script") (room:=199) (cons:=K1.consC) (tabs:=K1.tabsC) (by kernel_rfl) (by kernel_rfl) rfl rfl ⟨rfl,by decide,by decide⟩ rfl rfl (ML.hb1 fun _ _ _ _ _ _ _=>by kernel_rfl) (by kernel_rfl) rfl (by kernel_rfl) rfl K1.main (fun w K mg base T c t z=>K1.lvl T c t z 199) fun w s₀ mg mb h G=>⟨(K1.txt G).2.2.2.2.2.2.2.2.2.2.2.2.2.2.2.2.2.2.2.2.2.2.2.2.2.2.2.2.2.2.2.2.2.2.2.2.2.2.1,K1.txt G⟩

import PyProof.Rows.All
import Wide.All
import OpenK.AllK
import Wide.FinOn
import Lean
import PyProof.EqAt
import PyProof.EqKinds
import PyProof.TupleCall
import PySem.Challenge.RW_shelfwork_k80_written
import PyProof.Walks
import PyProof.ListMulAny
import KE.KIntText
import PyProof.CallStr
import PyProof.StrCalls2
import PyProof.StrCalls3
import KE.KRevIter
import KE.KDictList
import PyProof.StrLawsTight
import PyProof.Rows.StrItems
set_option Elab.async false
set_option linter.all false
set_option maxRecDepth 100000
set_option maxHeartbeats 1000000
def za:=@PySem.wpAny_bind
def zb:=@PySem.Heap.get?_push_of_some
def zf:=@Option.map_eq_some_iff
def zg:=@Bool.and_eq_true
def zj:=@Option.bind_eq_some_iff
def zm:=@List.not_mem_nil
def zp:=@List.mem_cons
def zq:=@List.mem_cons_of_mem
def zr:=@List.length_cons
def zu:=@PySem.wpAny_pure
def zx:=@List.mem_cons_self
def zy:=@PySem.Heap.lt_size
def zz:=@List.map_cons
def zA:=@List.size_toArray
def zF:=@Nat.le_refl
def zG:=@Nat.le_trans
def zH:=@PySem.Heap.get?_push_size
def zJ:=@List.getElem?_eq_some_iff
def zK:=@Nat.lt_of_lt_of_le
def zL:=@Bool.false_ne_true
def zM:=@List.length_append
def zN:=@Option.some.inj
def zO:=@Nat.ne_of_lt
def zP:=@List.mem_append
def zQ:=@List.getElem?_append_left
def zR:=@List.nil_append
def zT:=@or_false
def zU:=@List.length_nil
def zV:=@List.all_eq_true
def zW:=@if_pos
def zX:=@List.getElem?_append_right
def zY:=@List.cons_append
def zZ:=@PySem.W.kia_one
def z9:=@List.getElem?_eq_getElem
def kh:=@List.mem_append_right
def kj:=@Ne.symm
def kE:=@List.length_map
def kI:=@List.getElem?_set_ne
def kJ:=@List.prefix_refl
def kO:=@if_neg
def kW:=@List.getElem?_map
def kY:=@List.mem_map
def kZ:=@PySem.wpAny_holding
def jb:=@if_true
def jc:=@PyProof.Rows.slot_tuple_getitem
def jd:=@List.reverse_cons
def je:=@List.flatMap_cons
def jf:=@Bool.not_eq_true'
def jh:=@PySem.wpAny_newObj_type
def ji:=@List.getElem?_set_self
def jj:=@List.nodup_cons
def jk:=@List.getElem?_eq_none_iff
def jl:=@List.find?_cons
def jn:=@decide_eq_true_eq
def jq:=@List.append_assoc
def jr:=@PyProof.Rows.callWith_type1
def jt:=@List.all_cons
def ju:=@Bool.and_eq_true_iff
def jx:=@List.map_nil
def jy:=@PySem.wpAny_field
def jz:=@PySem.wpAny_callSpecial?_slot
def jA:=@PySem.wpAny_truthy_bool
def jB:=@List.prefix_append
def jC:=@Bool.false_eq_true
def jD:=@List.lookup_cons
def jE:=@PySem.wpAny_Call_Name_kw
def jF:=@decide_eq_false
def jG:=@beq_eq_false_iff_ne
def jH:=@List.replicate_succ
def jJ:=@List.append_nil
def jK:=@PySem.wpAny_seqItems
def jL:=@Nat.lt_irrefl
def jM:=@List.set_append_right
def jN:=@decide_eq_true
def jO:=@PySem.wpAny_call_entry
def jP:=@PySem.Heap.get?_update_self
def jQ:=@PySem.Heap.size_push
def jR:=@List.getElem?_replicate
def jT:=@List.flatMap_append
def jU:=@PySem.wpAny_mono
def jV:=@Nat.lt_succ_self
def jW:=@List.length_replicate
def jX:=@List.getElem?_eq_none
def jY:=@PySem.call_meets
def jZ:=@of_decide_eq_true
def j4:=@List.flatten_cons
def j5:=@PySem.Heap.get?_update_other
def j6:=@PySem.wpAny_setField_rec
def j7:=@List.mem_of_mem_drop
def j8:=@PySem.wpAny_typeOf
def j9:=@PySem.wpAny_passesOwn
def qb:=@List.length_drop
def qd:=@PySem.mem_of_lookup
def qe:=@Int.toNat_of_nonneg
def qg:=@Option.isSome_iff_exists
def qi:=@Nat.ne_of_gt
def qj:=@PySem.F.slot_tuple_iterator_next
def ql:=@congrArg
def qm:=@List.mem_filter
def qp:=@List.any_cons
def qt:=@Int.eq_ofNat_of_zero_le
def qu:=@Int.emod_lt_of_pos
def qw:=@Bool.or_false
def qx:=@Bool.eq_iff_iff
def qy:=@PySem.wpAny_rule
def qz:=@beq_iff_eq
def qC:=@if_false
def qD:=@PySem.Calls.spliced_cons
def qF:=@List.flatMap_nil
def qG:=@List.mem_of_getElem?
def qH:=@List.mem_append_left
def qI:=@PySem.Calls.callWith_builtin
def qJ:=@PySem.wpAny_pyIter_list
def qK:=@PySem.sizeLine_eq
def qL:=@PySem.builtinLookup_eq_fast
def qM:=@Nat.le_succ
def qN:=@List.length_reverse
def qO:=@Int.emod_nonneg
def qP:=@Bool.or_eq_true_iff
def qQ:=@Array.length_toList
def qR:=@PySem.wpAny_isInstance
def qT:=@PySem.F.slot_tuple_mul
def qU:=@PySem.AutoSeq1.idx_int
def qW:=@Nat.lt_of_le_of_lt
def qX:=@List.mem_singleton
def qY:=@Array.find?_toList
def qZ:=@Option.isNone_iff_eq_none
def q8:=@List.drop_eq_getElem_cons
def q9:=@PySem.wpAny_updateSeq
def vd:=@PySem.W.kitx_list
def vf:=@PySem.F.args_tuple_add_2
def vg:=@Nat.lt_succ_of_lt
def vh:=@PySem.F.plainAttrs_list
def vm:=@PySem.F.entry_tuple_add
def vo:=@List.length_take
def vp:=@List.getElem_inj
def vq:=@List.filter_cons
def vA:=@PySem.F.slot_tuple_add
def vC:=@PySem.typeIs_str
def vD:=@PySem.F.slot_dict_get
def vG:=@List.of_mem_zip
def vH:=@List.mem_iff_getElem?
def vI:=@List.forIn_cons
def vJ:=@List.cons.injEq
def vK:=@PySem.F.slot_list_getattribute
def vL:=@PySem.Calls.spliced_nil
def vM:=@PySem.wpAny_attempt
def vN:=@ne_true_of_eq_false
def vO:=@Nat.zero_le
def vP:=@List.filterMap_cons
def vQ:=@PySem.wpAny_execs_nil
def vR:=@PySem.typeLookup_type
def vU:=@not_or
def vV:=@PySem.PassesOwn.never
def vW:=@PySem.F.slot_zip_next
def vX:=@PySem.F.slot_int_rmul
def vY:=@Bool.beq_comm
def vZ:=@PySem.wpAny_updateSeq_pair
def v6:=@PySem.W.kitx_dict
def v7:=@Int.toNat_natCast
def v8:=@PySem.Heap.get?_none_of_le
def v9:=@PySem.Calls.evalArgs_plain
def wg:=@PyProof.Rows.tupleItemsOf_
def wj:=@Nat.mul_comm
def wu:=@Nat.le_of_lt
def ww:=@Nat.add_comm
def wz:=@PySem.wpAny_of_eq
def wA:=@beq_self_eq_true
def wC:=@Option.bind_some
def wD:=@List.mem_reverse
def wF:=@List.drop_length
def wG:=@PySem.Heap.SameBut.update
def wI:=@PySem.wpAny_standAt
def wJ:=@PySem.wpAny_pyIter_tuple
def wK:=@PySem.wpAny_onRaise
def wL:=@PySem.plainId_quiet
def wM:=@PySem.F.args_tuple_mul_2
def wO:=@PySem.F.args_str_split_2
def wQ:=@PySem.typeIs_int
def wR:=@PySem.strKind_is
def wU:=@PySem.F.plain_extend_loop
def wV:=@List.mem_range
def wW:=@List.drop_zero
def wX:=@PySem.F.entry_tuple_mul
def wY:=@PySem.F.entry_str_split
def wZ:=@PySem.concat_meets
def yc:=@PySem.noFill_tuple_add
def yd:=@PySem.F.args_dict_get_3
def ye:=@List.getElem?_cons_zero
def yf:=@PySem.F.slot_str_split
def yg:=@PySem.W.cellsFrom_some
def yh:=@PySem.F.entry_dict_get
def yj:=@List.take_of_length_le
def ym:=@PySem.F.args_tuple_iterator_next_1
def yo:=@PySem.wpAny_throw
def yp:=@PySem.wpAny_letGo
def yq:=@Nat.lt_trans
def yr:=@List.length_singleton
def yt:=@PySem.F.entry_tuple_iterator_next
def yu:=@Array.getElem?_toList
def yw:=@Nat.pow_le_pow_right
def yx:=@List.mem_of_mem_take
def yz:=@List.mem_iff_getElem
def yC:=@PySem.Calls.Name_function_global
def yD:=@PySem.wpAny_binaryOp_repeat_ref
def yE:=@List.filter_eq_self
def yF:=@PySem.Walks.list
def yG:=@PySem.W.kitx_tuple
def yH:=@List.mem_filterMap
def yI:=@PySem.AutoSeq1.sub_tuple_tuple
local macro_rules|`(⋯)=>`(by decide +kernel)
local macro_rules|`(∅)=>`(by omega)
namespace ML
open PySem PySem.W PyProof.Rows
inductive Cn where
 | int (i:Int) | str (x:Str) | tup (l:List Cn)
noncomputable def zdr(h:Heap)(v:Value):Option (Array Value):=match v with
 | .ref a=>(h.get? a).bind λo=>match o.cls with
  | .type t=>if t="tuple" then (match o.data with | .seq its _=>if o.dict.isNone then some its else none | _=>none) else none
  | _=>none
 | _=>none
noncomputable def isI(i:Int)(v:Value):Bool:=match v with | .int j _=>i==j | _=>false
noncomputable def isS(x:Str)(v:Value):Bool:=match v with | .str y _=>x==y | _=>false
noncomputable def zaN{α β:Type}(p:α->β->Bool):List α->List β->Bool
 | [],[]=>true
 | a::l,b::r=>p a b&&zaN p l r
 | _,_=>false
noncomputable def zaS(h:Heap):Nat->Cn->Value->Bool
 | 0,_,_=>false
 | n+1,w,v=>match w with
  | .int i=>isI i v
  | .str x=>isS x v
  | .tup l=>(zdr h v).any λits=>decide (its.size<=sizeLine)&&zaN (zaS h n) l its.toList
noncomputable def dictAt(h:Heap)(v:Value):Option (Array DictEntry):=match v with
 | .ref a=>(h.get? a).bind λo=>match o.cls with
  | .type t=>if t="dict" then (match o.data with | .dict es _=>if o.dict.isNone&&o.slots.isEmpty&&a != sysModules then some es else none | _=>none) else none
  | _=>none
 | _=>none
noncomputable def tabB(h:Heap)(l:List (Str×Cn))(v:Option Value):Bool×List Int:=match v.bind (dictAt h) with
 | some es=>(zaN (λp (e:DictEntry)=>isS p.1 e.key&&zaS h 9 p.2 e.val) l es.toList,es.toList.map (·.hash))
 | none=>(false,[])
noncomputable def seeB(cons:List (Str×Cn))(bins:List Str)(h:Heap):Bool:=h.isNs mainGlobals&&cons.all (λp=>(h.nsMap mainGlobals p.1).any λv=>zaS h 9 p.2 v)&&bins.all λx=>(h.nsMap mainGlobals x).isNone
noncomputable def seeT(tabs:List (Str×List (Str×Cn)))(h:Heap):List (Bool×List Int):=tabs.map λp=>tabB h p.2 (h.nsMap mainGlobals p.1)
noncomputable def zfh(tabs:List (Str×List (Str×Cn)))(w:World):List (Bool×List Int):=tabs.map λp=>(true,p.2.map λk=>PyData.keyHash w.params k.1)
noncomputable def zfO(cons:List (Str×Cn))(tabs:List (Str×List (Str×Cn)))(bins:List Str):PySem.W.Hook:=
 ⟨Bool×List (Bool×List Int),λs=>(seeB cons bins s.heap,seeT tabs s.heap),λw=>(true,zfh tabs w),
  λw h=>∃h₀:Heap,(∀b o,h₀.get? b=some o->h.get? b=some o)/\seeB cons bins h₀=true/\seeT tabs h₀=zfh tabs w,
  λw s e=>⟨s.heap,λ_ _ z=>z,ql Prod.fst e,ql Prod.snd e⟩,λw h h' ⟨h₀,a,b⟩ k=>⟨h₀,λ_ _ z=>k _ _ (a _ _ z),b⟩⟩
def ziY{p q:Program}{loose:List Str}{Xt:Shared->Bool}{α:Type}{Yf:Shared->α}{Ya:World->α}{N:Nat}{g0:Bool}(row:String)
  (hf:∀w:World,(openEnds treeTable p (w.withFollow row false) N).map (λs=>(openSeen q loose (importedModules p.main.body) Xt g0 s,Yf s))=some (openGood q loose,Ya (w.withFollow row false)))
  (ht:∀w:World,(openEnds treeTable p (w.withFollow row true) N).map (λs=>(openSeen q loose (importedModules p.main.body) Xt g0 s,Yf s))=some (openGood q loose,Ya (w.withFollow row true))):LeftO p q loose Xt Yf Ya N g0:=
 byRow2 row (P:=λw=>(openEnds treeTable p w N).map (λs=>(openSeen q loose (importedModules p.main.body) Xt g0 s,Yf s))=some (openGood q loose,Ya w)) hf ht
end ML
namespace K80
open PySem PySem.W PyProof.Rows ML
def pw:Program:=PySem.Challenge.pw_shelfwork_k80_written
def isNm(x:String):Expr->Bool | .Name y ..=>y==x | _=>false
def drops:Stmt->Bool
 | .Assign [t] ..=>isNm "FORMS" t||isNm "__name__" t
 | _=>false
def q:Program:={ pw with main:={ pw.main with body:=pw.main.body.filter λs=>!drops s } }
def consC:List (Str×Cn):=[("SHELVES",(.tup [.str "a",.str "b",.str "c",.str "d"])),("MOST_WORTH",(.int 1008)),("MOST_FIGURES_names",(.int 3)),("MOST_DEEDS",(.int 60)),("MOST_FIGURES_texts",(.int 4))]
def tabsC:List (Str×List (Str×Cn)):=[("FORMS",[("number",(.tup [.int 2,.int 2])),("name",(.tup [.int 2,.int 2])),("read",(.tup [.int 2,.int 2])),("write",(.tup [.int 3,.int 2])),("add",(.tup [.int 3,.int 1])),("less",(.tup [.int 3,.int 1])),("then",(.tup [.int 3,.int 1])),("if",(.tup [.int 4,.int 1])),("loop",(.tup [.int 3,.int 1])),("let",(.tup [.int 4,.int 2])),("own",(.tup [.int 4,.int 2])),("say",(.tup [.int 2,.int 1])),("ask",(.tup [.int 1,.int 1])),("do",(.tup [.int 2,.int 2])),("call",(.tup [.int 4,.int 2]))])]
def zlW:List Str:=["all","bool","dict","int","isinstance","len","list","range","reversed","str","sum","tuple","zip"]
noncomputable def H:Hook:=zfO consC tabsC zlW
set_option maxHeartbeats 0 in
theorem said:PySem.Challenge.rw_shelfwork_k80_written.wellSaid=true:=by kernel_rfl
set_option maxHeartbeats 0 in
theorem leftF(w:World):(openEnds treeTable pw (w.withFollow "special-get-raises" false) 6000).map (λs=>(openSeen q ["FORMS"] (importedModules pw.main.body) (λs=>xlAt q [] s&&recOk [] s) true s,H.obs s))=some (openGood q ["FORMS"],H.val (w.withFollow "special-get-raises" false)):=by kernel_rfl
set_option maxHeartbeats 0 in
theorem leftT(w:World):(openEnds treeTable pw (w.withFollow "special-get-raises" true) 6000).map (λs=>(openSeen q ["FORMS"] (importedModules pw.main.body) (λs=>xlAt q [] s&&recOk [] s) true s,H.obs s))=some (openGood q ["FORMS"],H.val (w.withFollow "special-get-raises" true)):=by kernel_rfl
def left:LeftO pw q ["FORMS"] (λs=>xlAt q [] s&&recOk [] s) H.obs H.val 6000:=ziY "special-get-raises" leftF leftT
end K80
section
namespace L2
open PySem PySem.Spec PyProof.Rows
abbrev Key:=Sum Int Str
def zbr:Key->Value->Bool
 | .inl k,v=>Value.isInt k v
 | .inr x,v=>Value.isStrOf x v
def keyH(w:World):Key->Int
 | .inl k=>hashInt k
 | .inr x=>hashStr w x
def xT:∀{k:Key} {v:Value},zbr k v=true->(∃i t,k=Sum.inl i/\v=Value.int i t)\/(∃x t,k=Sum.inr x/\v=Value.str x t)
 | .inl i,v,h=>by
  obtain⟨t,e⟩:=Value.isInt_shape (k:=i) (v:=v) h;exact .inl ⟨i,t,rfl,e⟩
 | .inr x,v,h=>by
  obtain⟨t,e⟩:=Value.isStrOf_shape (x:=x) (v:=v) h;exact .inr ⟨x,t,rfl,e⟩
def zfV(i:Int)(t:Tok):zbr (.inl i) (.int i t)=true:=by simp[zbr,Value.isInt]
def zhd(x:Str)(t:Tok):zbr (.inr x) (.str x t)=true:=by simp[zbr,Value.isStrOf]
def zkS(a b:Int):decide ((Sum.inl a:Key)=Sum.inl b)=(a==b):=by
 by_cases e:a=b
 .subst e; simp
 .have h:¬(Sum.inl a:Key)=Sum.inl b:=λq=>e (Sum.inl.inj q)
  rw[jF h];exact(jG.mpr e).symm
def zk6(a b:Str):decide ((Sum.inr a:Key)=Sum.inr b)=decide (a=b):=by
 by_cases e:a=b
 .subst e; simp
 .have h:¬(Sum.inr a:Key)=Sum.inr b:=λq=>e (Sum.inr.inj q)
  rw[jF h,jF e]
def zkB(a:Int)(b:Str):decide ((Sum.inl a:Key)=Sum.inr b)=false:=jF (λq=>nomatch q)
def zks(a:Str)(b:Int):decide ((Sum.inr a:Key)=Sum.inl b)=false:=jF (λq=>nomatch q)
def xK(prog:Program)(w:World):PySem.KeyKind prog w Key where
 is:=zbr
 hash:=keyH w
 inj:=λv a b ha hb=>by
  rcases xT ha with ⟨i,t,rfl,rfl⟩ | ⟨x,t,rfl,rfl⟩
  .rcases xT hb with ⟨j,u,rfl,e⟩ | ⟨y,u,rfl,e⟩
   .injection e with e1 _; rw[e1]
   .exact nomatch e
  .rcases xT hb with ⟨j,u,rfl,e⟩ | ⟨y,u,rfl,e⟩
   .exact nomatch e
   .injection e with e1 _; rw[e1]
 byValue:=λk v h=>by
  rcases xT h with ⟨i,t,rfl,rfl⟩ | ⟨x,t,rfl,rfl⟩<;>rfl
 pyHash:=λhv h=>by
  rcases xT hv with ⟨i,t,rfl,rfl⟩ | ⟨x,t,rfl,rfl⟩
  .exact wpAny_pyHash_int h
  .exact wpAny_pyHash_str h
 eqBool:=λhu hv h=>by
  rcases xT hu with ⟨i,t,rfl,rfl⟩ | ⟨x,t,rfl,rfl⟩
  .rcases xT hv with ⟨j,u,rfl,rfl⟩ | ⟨y,u,rfl,rfl⟩
   .rw[zkS] at h; exact wpAny_eqBool_int h
   .rw[zkB] at h; exact SeqAt.EqAt.int_str i t y u _ _ _ _ h
  .rcases xT hv with ⟨j,u,rfl,rfl⟩ | ⟨y,u,rfl,rfl⟩
   .rw[zks] at h; exact SeqAt.EqAt.str_int x t j u _ _ _ _ h
   .rw[zk6] at h; exact wpAny_eqBool_str h
 «strs»:=λk x t v h=>by
  rcases xT h with ⟨i,u,rfl,e⟩ | ⟨y,u,rfl,e⟩
  .exact nomatch e
  .injection e with e1 _
   subst e1;cases v<;>rfl
def zew(prog:Program)(w:World)(i:Int)(t:Tok):(xK prog w).is (.inl i) (.int i t)=true:=zfV i t
def zet(prog:Program)(w:World)(x:Str)(t:Tok):(xK prog w).is (.inr x) (.str x t)=true:=zhd x t
end L2
namespace L2
open PySem PySem.Spec PyProof.Rows
inductive V where
 | non | bl (b:Bool) | int (i:Int) | str (x:Str) | byt (b:Array UInt8) | flt (b:UInt64) | ref (a:Addr) | ty (n:String)
 deriving DecidableEq
def RelV:V->Value->Prop
 | .non,u=>u=Value.none
 | .bl b,u=>u=Value.bool b
 | .int i,u=>∃t,u=Value.int i t
 | .str x,u=>∃t,u=Value.str x t
 | .byt b,u=>∃t,u=Value.bytes b t
 | .flt b,u=>∃t,u=Value.float b t
 | .ref a,u=>u=Value.ref a
 | .ty n,u=>u=Value.type n
abbrev Vals:List V->List Value->Prop:=Paired RelV
theorem Vals.length{xs:List V}{us:List Value}(r:Vals xs us):xs.length=us.length:=Paired.length r
theorem Vals.get:∀{xs:List V} {us:List Value} {i:Nat} {x:V},Vals xs us->xs[i]?=some x->∃u,us[i]?=some u/\RelV x u
 | _,_,_,_,.nil,e=>by simp at e
 | _,_,0,_,.cons r _,e=>by simp at e; subst e; exact⟨_,rfl,r⟩
 | _,_,i+1,x,.cons _ t,e=>by
  obtain⟨u,h1,h2⟩:=Vals.get (i:=i) (x:=x) t (by simpa using e);exact⟨u,by simpa using h1,h2⟩
theorem Vals.set{x:V}{u:Value}(r:RelV x u):∀{xs:List V} {us:List Value} (i:Nat),Vals xs us->Vals (xs.set i x) (us.set i u)
 | _,_,_,.nil=>.nil
 | _,_,0,.cons _ t=>.cons r t
 | _,_,i+1,.cons q t=>.cons q (Vals.set r i t)
theorem Vals.append:∀{xs ys:List V} {us ws:List Value},Vals xs us->Vals ys ws->Vals (xs++ys) (us++ws)
 | _,_,_,_,.nil,s=>s
 | _,_,_,_,.cons r t,s=>.cons r (Vals.append t s)
theorem Vals.take:∀{xs:List V} {us:List Value} (n:Nat),Vals xs us->Vals (xs.take n) (us.take n)
 | _,_,0,_=>.nil
 | _,_,_+1,.nil=>.nil
 | _,_,n+1,.cons r t=>.cons r (Vals.take n t)
theorem Vals.drop:∀{xs:List V} {us:List Value} (n:Nat),Vals xs us->Vals (xs.drop n) (us.drop n)
 | _,_,0,r=>r
 | _,_,_+1,.nil=>.nil
 | _,_,n+1,.cons _ t=>Vals.drop n t
def RelO:Option V->Option Value->Prop
 | some v,some u=>RelV v u
 | none,none=>True
 | _,_=>False
def KV{κ:Type}:List (κ×V)->List (κ×Value)->Prop:=Paired λ(p:κ×V) (q:κ×Value)=>p.1=q.1/\RelV p.2 q.2
def kV:Key->V
 | .inl i=>.int i
 | .inr x=>.str x
inductive HO where
 | lst (xs:List V)
 | tup (xs:List V)
 | dK (kvs:List (Key×V)) | dT (kvs:List (List Key×V))
 | set (S:Int->Bool) (n:Nat)
 | ins (C dx:Addr) (fs:List (Str×V))
 | own (x:Addr)
 | xd (fs:List (Str×V))
 | met (f x:Addr)
 | rng (lo hi:Int)
 | frz (o:Obj) (u:HO)
 | tbl (ps:Array Value)
 | ext (φ:Heap->Prop)
abbrev Hp:=Addr->Option HO
def upd(H:Hp)(a:Addr)(o:HO):Hp:=λb=>if b=a then some o else H b
def xJ{H:Hp}{a:Addr}{o:HO}:upd H a o a=some o:=by unfold upd; rw[zW rfl]
def yU{H:Hp}{a b:Addr}{o:HO}(h:b≠a):upd H a o b=H b:=by unfold upd; rw[kO h]
def zl4{H:Hp}{a b:Addr}{o u:HO}(h:H a=some o)(h':H b=some u)(d:o≠u):a≠b:=by
 intro e; subst e; rw[h] at h'; exact d (zN h')
def xu{H:Hp}{a b:Addr}{o:HO}(h:H a=some o)(h':H b=none):a≠b:=by
 intro e; subst e; rw[h] at h'; cases h'
def NoDi(h:Heap)(a:Addr):Prop:=∃o,h.get? a=some o/\o.dict=none
def NoDi.new(h:Heap)(o:Obj)(n:o.dict=none:=by rfl)(f:o.isFreed=false:=by rfl):NoDi (h.push o) h.objs.size:=⟨o,zH _ f,n⟩
section
variable(P:Program)(w:World)
def ObjOk(H:Hp)(h:Heap)(a:Addr):HO->Prop
 | .lst xs=>xs.length<=sizeLine/\∃(its:List Value) (n:Nat),Vals xs its/\h.get? a=some { cls:=.type "list",data:=.seq its.toArray n }
 | .tup xs=>xs.length<=sizeLine/\∃its:List Value,Vals xs its/\IsTup h a its.toArray/\NoDi h a
 | .dK kvs=>kvs.length<=sizeLine/\(a==sysModules)=false/\∃vs,KV kvs vs/\h.DictOf (xK P w) a vs
 | .dT kvs=>kvs.length<=sizeLine/\(a==sysModules)=false/\∃xs:List (List Key×Addr×Value),
   Paired (λ(p:List Key×V) (q:List Key×Addr×Value)=>p.1=q.1/\H q.2.1=some (.tup (p.1.map kV))/\RelV p.2 q.2.2) kvs xs /\
   ∃o es ep,h.get? a=some o/\o.ExactDict/\o.data=.dict es ep/\es.toList=xs.map (entryOfKey (tupleKind (xK P w)))/\(xs.map (·.1)).Nodup
 | .set S n=>h.SetOf (intKind P w) a S n
 | .ins C dx fs=>H dx=some (.own a)/\fs.length<=1000/\dx≠a/\h.get? a=some (PySem.W.instObj C dx) /\
   ∃mA,h.Ns1 dx mA/\(∀f,RelO (fs.lookup f) (mA f))/\PySem.Within mA (fs.map (·.1))
 | .own _=>∃o,h.get? a=some o
 | .xd fs=>∃mA,h.Ns1 a mA/\∀f,RelO (fs.lookup f) (mA f)
 | .rng lo hi=>∃t u v,h.get? a=some { cls:=.type "range",data:=.fields #[.int lo t,.int hi u,.int 1 v] }
 | .frz o u=>h.get? a=some o/\ObjOk H h a u
 | .tbl ps=>h.get? a=some { cls:=.none,data:=.fields ps }
 | .met f x=>h.get? a=some (PySem.W.methodObj (.ref f) (.ref x))
 | .ext φ=>φ h/\(∃o,h.get? a=some o)/\∀h1 h2:Heap,φ h1->(∀o,h1.get? a=some o->h2.get? a=some o)->φ h2
def HOk(H:Hp)(h:Heap):Prop:=∀a o,H a=some o->ObjOk P w H h a o
end
section
variable{P:Program}{w:World}{H H':Hp}{h h':Heap}{a:Addr}{o:HO}
theorem ObjOk.lt(x:ObjOk P w H h a o):a<h.objs.size:=by
 cases o with
 | lst xs=>obtain⟨_,_,_,_,e⟩:=x; exact zy e
 | tup xs=>obtain⟨_,_,_,p,_⟩:=x; exact p.lt
 | dK kvs=>obtain⟨_,_,_,_,o,_,_,e,_⟩:=x; exact zy e
 | dT kvs=>obtain⟨_,_,_,_,o,_,_,e,_⟩:=x; exact zy e
 | set S n=>obtain⟨o,_,_,_,e,_⟩:=x; exact zy e
 | ins C dx fs=>obtain⟨_,_,_,e,_⟩:=x; exact zy e
 | own y=>obtain⟨_,e⟩:=x; exact zy e
 | xd fs=>obtain⟨_,⟨_,_,_,e,_⟩,_⟩:=x; exact zy e
 | rng lo hi=>obtain⟨_,_,_,e⟩:=x; exact zy e
 | frz ob u=>obtain⟨e,_⟩:=x; exact zy e
 | tbl ps=>exact zy (show h.get? a=some _ from x)
 | met f y=>exact zy (show h.get? a=some _ from x)
 | ext φ=>obtain⟨_,⟨_,e⟩,_⟩:=x; exact zy e
theorem Paired.mapP{α β:Type}{F G:α->β->Prop}:∀{l₁:List α} {l₂:List β},Paired F l₁ l₂->(∀a b,F a b->G a b)->Paired G l₁ l₂
 | _,_,.nil,_=>.nil
 | _,_,.cons r t,f=>.cons (f _ _ r) (Paired.mapP t f)
def ObjOk.stay(x:ObjOk P w H h a o)(k:∀b u,(b=a\/H b=some (.own a))->h.get? b=some u->h'.get? b=some u)
  (ho:∀b,H b=some (.own a)->H' b=some (.own a)) (ht:∀b xs,H b=some (.tup xs)->H' b=some (.tup xs)):ObjOk P w H' h' a o:=by
 induction o with
 | lst xs=>obtain⟨z,its,n,r,e⟩:=x; exact⟨z,its,n,r,k _ _ (.inl rfl) e⟩
 | tup xs=>obtain⟨z,its,r,⟨ob,e,c⟩,o2,e2,d2⟩:=x; exact⟨z,its,r,⟨ob,k _ _ (.inl rfl) e,c⟩,o2,k _ _ (.inl rfl) e2,d2⟩
 | dK kvs=>obtain⟨z,y,vs,r,ob,es,ep,e,c⟩:=x; exact⟨z,y,vs,r,ob,es,ep,k _ _ (.inl rfl) e,c⟩
 | dT kvs=>
  obtain⟨z,y,xs,r,ob,es,ep,e,c⟩:=x;exact⟨z,y,xs,Paired.mapP r λp q z=>⟨z.1,ht _ _ z.2.1,z.2.2⟩,ob,es,ep,k _ _ (.inl rfl) e,c⟩
 | set S n=>obtain⟨ob,es,ep,t,e,c⟩:=x; exact⟨ob,es,ep,t,k _ _ (.inl rfl) e,c⟩
 | ins C dx fs=>
  obtain⟨d,z,ne,e,mA,⟨od,es,ep,e2,c⟩,r⟩:=x;exact⟨ho _ d,z,ne,k _ _ (.inl rfl) e,mA,⟨od,es,ep,k _ _ (.inr d) e2,c⟩,r⟩
 | own y=>obtain⟨ob,e⟩:=x; exact⟨ob,k _ _ (.inl rfl) e⟩
 | xd fs=>obtain⟨mA,⟨od,es,ep,e,c⟩,r⟩:=x; exact⟨mA,⟨od,es,ep,k _ _ (.inl rfl) e,c⟩,r⟩
 | rng lo hi=>obtain⟨t,u,v,e⟩:=x; exact⟨t,u,v,k _ _ (.inl rfl) e⟩
 | frz ob u ih=>obtain⟨e,q⟩:=x; exact⟨k _ _ (.inl rfl) e,ih q⟩
 | tbl ps=>
  have e:h.get? a=some { cls:=.none,data:=.fields ps }:=x;show h'.get? a=some { cls:=.none,data:=.fields ps }
  exact k a _ (.inl rfl) e
 | met f y=>
  have e:h.get? a=some (PySem.W.methodObj (.ref f) (.ref y)):=x;show h'.get? a=some (PySem.W.methodObj (.ref f) (.ref y))
  exact k a _ (.inl rfl) e
 | ext φ=>obtain⟨p,⟨o,e⟩,st⟩:=x; exact⟨st _ _ p λo q=>k _ _ (.inl rfl) q,⟨o,k _ _ (.inl rfl) e⟩,st⟩
theorem HOk.lt(x:HOk P w H h)(e:H a=some o):a<h.objs.size:=(x a o e).lt
def HOk.fresh(x:HOk P w H h)(e:h.objs.size<=a):H a=none:=by
 cases q:H a with
 | none=>rfl
 | some u=>exact absurd (zK (x.lt q) e) (jL _)
def HOk.kept(x:HOk P w H h)(k:∀b u,h.get? b=some u->h'.get? b=some u):HOk P w H h':=λa o e=>
 (x a o e).stay (λb u _ q=>k b u q) (λ_ q=>q) λ_ _ q=>q
def HOk.laid(x:HOk P w H h)(k:∀b u,h.get? b=some u->h'.get? b=some u)(hp:h.objs.size<=a)(new:ObjOk P w (upd H a o) h' a o):HOk P w (upd H a o) h':=λb u e=>by
 have hn:=x.fresh hp;by_cases hb:b=a
 .subst hb; rw[xJ] at e; cases e; exact new
 .rw[yU hb] at e
  exact(x b u e).stay (λc v _ q=>k c v q) (λc q=>by rw[yU (xu q hn)]; exact q) λc xs q=>by rw[yU (xu q hn)]; exact q
end
def Rd(H:Hp)(a:Addr)(u:HO):Prop:=H a=some u\/∃o,H a=some (.frz o u)
def Rd.ok{P:Program}{w:World}{H:Hp}{h:Heap}{a:Addr}{u:HO}(r:Rd H a u)(x:HOk P w H h):ObjOk P w H h a u:=by
 rcases r with r | ⟨o,r⟩
 .exact x a u r
 .obtain⟨_,q⟩:=x a _ r
  exact q
def Mut:Option HO->Prop
 | some (.lst _)=>True
 | some (.dK _)=>True
 | some (.dT _)=>True
 | some (.set _ _)=>True
 | some (.ins _ _ _)=>True
 | some (.ext _)=>True
 | _=>False
section
variable{P:Program}{w:World}{H:Hp}{h h':Heap}{x e:Addr}{o':HO}
theorem HOk.write(ok:HOk P w H h)(mu:Mut (H x))(he:e=x\/H e=some (.own x))(k:∀b u,b≠e->h.get? b=some u->h'.get? b=some u)(heo:∃u,h'.get? e=some u)
  (new:ObjOk P w (upd H x o') h' x o'):HOk P w (upd H x o') h':=λb u q=>by
 have nown:∀c y,H c=some (.own y)->c≠x:=λc y r z=>by subst z; rw[r] at mu; exact mu
 have ntup:∀c xs,H c=some (.tup xs)->c≠x:=λc xs r z=>by subst z; rw[r] at mu; exact mu
 by_cases hb:b=x
 .subst hb; rw[xJ] at q; cases q; exact new
 .rw[yU hb] at q
  by_cases hbe:b=e
  .have q':H b=some (.own x):=by
    rcases he with z | z
    .exact absurd (hbe.trans z) hb
    .rw[hbe]; exact z
   rw[q] at q'; cases q';obtain⟨v,hv⟩:=heo;exact⟨v,by rw[hbe]; exact hv⟩
  .refine(ok b u q).stay (λc v hc r=>k c v ?_ r) (λc r=>by rw[yU (nown c b r)]; exact r) λc xs r=>by rw[yU (ntup c xs r)]; exact r
   rcases hc with rfl | hc
   .exact hbe
   .rintro rfl
    rcases he with z | z
    .exact nown c b hc z
    .rw[hc] at z; cases z; exact hb rfl
end
structure Un(fs ex:List Addr)(H H':Hp)(h h':Heap):Prop where
 keep:∀b o,h.get? b=some o->H b=none->b∉fs->b∉ex->h'.get? b=some o
 slot:∀b o,h.get? b=some o->H b=none->b∈fs->b∉ex->∃sl,h'.get? b=some { o with slots:=sl }
 free:∀b o,h.get? b=some o->H b=none->b∉ex->H' b=none
 there:∀b o,h.get? b=some o->b∉ex->∃o',h'.get? b=some o'
 tups:∀b xs,H b=some (.tup xs)->H' b=some (.tup xs)
 frzs:∀b o u,H b=some (.frz o u)->H' b=some (.frz o u)
 tbls:∀b ps,H b=some (.tbl ps)->∃more,H' b=some (.tbl (ps++more))
section
variable{fs fs' ex ex':List Addr}{H H1 H2:Hp}{h h1 h2 h':Heap}{a x e:Addr}{o:HO}
def Un.any(u:Un fs ex H H1 h h1){b:Addr}{ob:Obj}(q:h.get? b=some ob)(n:H b=none)(hx:b∉ex):∃sl,h1.get? b=some { ob with slots:=sl }:=by
 by_cases hb:b∈fs
 .exact u.slot b ob q n hb hx
 .exact⟨ob.slots,u.keep b ob q n hb hx⟩
def Un.kept(k:∀b u,h.get? b=some u->h'.get? b=some u):Un fs ex H H h h':=
 ⟨λb ob q _ _ _=>k b ob q,λb ob q _ _ _=>⟨ob.slots,k b ob q⟩,λ_ _ _ n _=>n,λb ob q _=>⟨ob,k b ob q⟩,λ_ _ q=>q,λ_ _ _ q=>q,λ_ ps q=>⟨#[],by rw[q]; simp⟩⟩
def Un.refl:Un fs ex H H h h:=Un.kept λ_ _ q=>q
def Un.laid(k:∀b u,h.get? b=some u->h'.get? b=some u)(hp:h.objs.size<=a)(hn:H a=none):Un fs ex H (upd H a o) h h' where
 keep:=λb u q _ _ _=>k b u q
 slot:=λb u q _ _ _=>⟨u.slots,k b u q⟩
 free:=λb u q n _=>by rw[yU (zO (zK (zy q) hp))]; exact n
 there:=λb u q _=>⟨u,k b u q⟩
 tups:=λb xs q=>by rw[yU (xu q hn)]; exact q
 frzs:=λb u xs q=>by rw[yU (xu q hn)]; exact q
 tbls:=λb ps q=>⟨#[],by rw[yU (xu q hn),q]; simp⟩
def Un.write(mu:Mut (H x))(he:e=x\/H e=some (.own x))(k:∀b u,b≠e->h.get? b=some u->h'.get? b=some u)(heo:∃u,h'.get? e=some u):Un fs ex H (upd H x o) h h':=by
 have hx:∀b,H b=none->b≠x:=λb n z=>by subst z; rw[n] at mu; exact mu
 have hb:∀b,H b=none->b≠e:=λb n z=>by
  subst z;rcases he with r | r
  .exact hx b n r
  .rw[n] at r; cases r
 have hm:∀b u,H b=some u->¬Mut (some u)->b≠x:=λb u q nm z=>by subst z; rw[q] at mu; exact nm mu
 refine⟨λb u q n _ _=>k b u (hb b n) q,λb u q n _ _=>⟨u.slots,k b u (hb b n) q⟩,λb u q n _=>by rw[yU (hx b n)]; exact n,λb u q _=>?_,
  λb xs q=>by rw[yU (hm b _ q λz=>z)]; exact q,λb u xs q=>by rw[yU (hm b _ q λz=>z)]; exact q,λb ps q=>⟨#[],by rw[yU (hm b _ q λz=>z),q]; simp⟩⟩
 by_cases hbe:b=e
 .subst hbe; exact heo
 .exact⟨u,k b u hbe q⟩
end
def trk(h:Heap)(H:Hp):List Addr:=(List.range h.objs.size).filter λa=>(H a).isSome
def hidT(h:Heap)(H:Hp):Heap:=PySem.W.hideAll h (trk h H)
def zha(h:Heap)(H:Hp):(hidT h H).objs.size=h.objs.size:=PySem.W.hideAll_size _ _
def zhY{h:Heap}{H:Hp}{b:Addr}{o:Obj}(e:h.get? b=some o)(n:H b=none):(hidT h H).get? b=some o:=
 PySem.W.hideAll_get _ e λhm=>by
  have q:(H b).isSome=true:=(qm.mp hm).2;rw[n] at q; simp at q
def zjr{h:Heap}{H:Hp}{b:Addr}{o:Obj}(e:(hidT h H).get? b=some o):h.get? b=some o/\H b=none:=by
 have e':h.get? b=some o:=PySem.W.of_hideAll (trk h H) e;refine⟨e',?_⟩;cases q:H b with
 | none=>rfl
 | some x=>
  have hm:b∈trk h H:=qm.mpr ⟨wV.mpr (zy e'),by simp[q]⟩;have z:(hidT h H).get? b=none:=PySem.W.hideAll_none (trk h H) hm;rw[z] at e; cases e
end L2
namespace L2
open PySem PySem.Spec PyProof.Rows
structure Mod(K:PySem.W.Frag)(mg:Str->Option Value)(base:Heap):Prop where
 kin:K.In base
 glob:base.Ns mainGlobals mg
 blt:∃mb,base.Ns builtinsNs mb/\∀x:Str,x≠"__name__"->mb x=bootBuiltins x
 nolimit:base.NoLimit
structure Cx where
 prog:Program
 w:World
 K:PySem.W.Frag
 mg:Str->Option Value
 base:Heap
 A:Around
 N:List Str
 s₀:Shared
 H₀:Hp
 env:Env
 outer:List Env
 stack:List Env
 ex:List Addr
 fn:Str->Bool
 calm:Bool
 pn:List (Addr×Obj)
 xe:Value->Shared->Prop
def frs(l:List Env):List Addr:=l.filterMap (·.frame)
abbrev Cx.fs(X:Cx):List Addr:=frs X.outer
def Vis(sc:Scope)(x:Str):Prop:=sc.names.lookup x=some .local\/sc.names.lookup x=some .cell\/sc.names.lookup x=some .free
def Loc(sc:Scope)(x:Str):Prop:=sc.names.lookup x=some .local\/sc.names.lookup x=some .cell
def Look(env:Env)(h:Heap)(m:Str->Option Value)(x:Str)(u:Value):Prop:=
 (env.kindOf x=some .local/\m x=some u)\/((env.kindOf x=some .cell\/env.kindOf x=some .free)/\∃c,env.cells.lookup x=some c/\h.IsCell c (some u))
structure Cx.Ok(X:Cx):Prop where
 mod:Mod X.K X.mg X.base
 kind:X.env.scope.kind=.function
 glob:X.env.globals=mainGlobals
 blt:X.env.builtins=builtinsNs
 above:X.s₀.heap.objs.size<=X.env.locals
 inj:∀x y c,X.env.cells.lookup x=some c->X.env.cells.lookup y=some c->x=y
 has:∀x,(X.env.kindOf x=some .cell\/X.env.kindOf x=some .free)->∃c,X.env.cells.lookup x=some c
 cab:∀x c,X.fn x=true->X.env.cells.lookup x=some c->X.s₀.heap.objs.size<=c
 hd:X.calm=true->X.A.handled=none
 frames:X.A.frames=some X.stack
 stk:X.stack=X.outer\/(X.stack=X.env::X.outer/\X.env.frame=some X.env.locals)
 exf:∀b∈X.ex,b≠X.env.locals/\∀x c,X.env.cells.lookup x=some c->c≠b
 bs:∀b o,X.base.get? b=some o->X.s₀.heap.get? b=some o/\X.H₀ b=none
 bsz:X.base.objs.size<=X.s₀.heap.objs.size
 noex:∀b o,X.base.get? b=some o->b∉X.ex
 exfs:∀b∈X.ex,b∉X.fs
 funs:X.s₀.heap.FunFrames X.base X.outer
 frf:∀b∈X.fs,X.H₀ b=none
structure Inv(X:Cx)(pins:List (Addr×Obj))(σ:List (Option V))(H:Hp)(s:Shared):Prop where
 ok:X.Ok
 os:s.os=X.s₀.os
 bare:AllBare s.gens
 base:Un X.fs X.ex X.H₀ H X.s₀.heap s.heap
 loc:∃m,s.heap.Ns X.env.locals m/\∀(i:Nat) (x:Str) (v:V),X.N[i]?=some x->σ[i]?=some (some v)->Vis X.env.scope x->∃u,RelV v u/\Look X.env s.heap m x u
 cell:∀x c,X.env.cells.lookup x=some c->∃v,s.heap.IsCell c v
 free:H X.env.locals=none
 freeC:∀x c,X.env.cells.lookup x=some c->H c=none
 pin:∀p∈X.pn++pins,s.heap.get? p.1=some p.2/\H p.1=none/\p.1≠X.env.locals/\p.1∉X.fs/\∀v,p.2.data≠.cell v
 hok:HOk X.prog X.w H s.heap
 len:σ.length=X.N.length
section
variable{X:Cx}{pins:List (Addr×Obj)}{σ:List (Option V)}{H H':Hp}{s:Shared}{h':Heap}
def Cx.Ok.nofr(ok:X.Ok){b:Addr}{o:Obj}(e:X.base.get? b=some o):b∉X.fs:=λhb=>by
 have:=(ok.funs.mem hb).1;rw[e] at this; cases this
theorem Inv.bs(I:Inv X pins σ H s):∀b o,X.base.get? b=some o->s.heap.get? b=some o/\H b=none:=λb o e=>
 ⟨I.base.keep b o (I.ok.bs b o e).1 (I.ok.bs b o e).2 (I.ok.nofr e) (I.ok.noex b o e),I.base.free b o (I.ok.bs b o e).1 (I.ok.bs b o e).2 (I.ok.noex b o e)⟩
def Inv.bk(I:Inv X pins σ H s):∀b o,X.base.get? b=some o->s.heap.get? b=some o:=λb o e=>(I.bs b o e).1
theorem Inv.mod(I:Inv X pins σ H s):Mod X.K X.mg X.base:=I.ok.mod
def Inv.kIn(I:Inv X pins σ H s):X.K.In s.heap:=I.ok.mod.kin.keeps I.bk
theorem Inv.lt(I:Inv X pins σ H s):X.env.locals<s.heap.objs.size:=let ⟨_,hn,_⟩:=I.loc; hn.lt
def Inv.sz(I:Inv X pins σ H s):X.s₀.heap.objs.size<=s.heap.objs.size:=zG I.ok.above (wu I.lt)
def Inv.nofs(I:Inv X pins σ H s){a:Addr}(h:s.heap.objs.size<=a):a∉X.fs:=λhb=>by
 obtain⟨_,o,ho,_⟩:=I.ok.funs.mem hb;exact absurd (zK (zy ho) (zG I.sz h)) (jL _)
def Inv.cne(I:Inv X pins σ H s):∀x c,X.env.cells.lookup x=some c->c≠X.env.locals:=λx c e z=>by
 obtain⟨v,o,ho,hd⟩:=I.cell x c e;obtain⟨m,⟨o',es,ep,ho',hd',_⟩,_⟩:=I.loc;rw[z,ho'] at ho; cases ho; rw[hd'] at hd; cases hd
theorem Inv.funs(I:Inv X pins σ H s):s.heap.FunFrames X.base X.outer:=by
 have all:∀(l:List Env),(∀b∈frs l,b∈X.fs)->X.s₀.heap.FunFrames X.base l->s.heap.FunFrames X.base l:=by
  intro l;induction l with
  | nil=>intro _ _; trivial
  | cons env r ih=>
   intro hs hl;obtain⟨hk,⟨L,o,hf,hn,ho,hd⟩,hr⟩:=hl;have hL:L∈X.fs:=hs L (by unfold frs; rw[vP,hf]; exact zx);obtain⟨sl,e⟩:=I.base.slot L o ho (I.ok.frf L hL) hL λz=>I.ok.exfs L z hL
   exact⟨hk,⟨L,_,hf,hn,e,hd⟩,ih (λb hb=>hs b (by unfold frs; rw[vP,hf]; exact zq _ hb)) hr⟩
 exact all X.outer (λ_ hb=>hb) I.ok.funs
theorem Inv.stack(I:Inv X pins σ H s):s.heap.FunFrames X.base X.stack:=by
 rcases I.ok.stk with e | ⟨e,hf⟩
 .rw[e]; exact I.funs
 .rw[e]
  obtain⟨m,hn,_⟩:=I.loc;refine .cons (by rw[I.ok.kind]; decide) hf hn ?_ I.funs;exact v8 (zG I.ok.bsz I.ok.above)
def Inv.stkSub(I:Inv X pins σ H s):∀b∈frs X.stack,b∈X.env.locals::X.fs:=λb hb=>by
 rcases I.ok.stk with e | ⟨e,hf⟩
 .rw[e] at hb; exact zq _ hb
 .rw[e] at hb
  unfold frs at hb;rw[vP,hf] at hb;exact hb
def Inv.stkFree(I:Inv X pins σ H s):∀b∈frs X.stack,H b=none:=λb hb=>by
 rcases zp.mp (I.stkSub b hb) with e | hb
 .rw[e]; exact I.free
 .obtain⟨_,o,ho,_⟩:=I.ok.funs.mem hb
  exact I.base.free b o ho (I.ok.frf b hb) λz=>I.ok.exfs b z hb
def Inv.step{g':Array GenState}{t':Nat}{d':Drawn}{ch:List Addr}(I:Inv X pins σ H s)
  (hch:∀b∈ch,(b∈X.ex\/X.s₀.heap.objs.size<=b)/\b≠X.env.locals/\(∀x c,X.env.cells.lookup x=some c->c≠b)/\∀p∈X.pn++pins,p.1≠b)
  (keep:∀b o,b≠X.env.locals->b∉X.fs->b∉ch->s.heap.get? b=some o->H b=none->h'.get? b=some o)
  (slot:∀b o,b≠X.env.locals->b∈X.fs->b∉ch->s.heap.get? b=some o->H b=none->∃sl,h'.get? b=some { o with slots:=sl }) (free:∀b o,b∉ch->s.heap.get? b=some o->H b=none->H' b=none)
  (there:∀b o,b∉ch->s.heap.get? b=some o->∃o',h'.get? b=some o')
  (tups:∀b xs,H b=some (.tup xs)->H' b=some (.tup xs)) (frzs:∀b o u,H b=some (.frz o u)->H' b=some (.frz o u)) (tbls:∀b ps,H b=some (.tbl ps)->∃more,H' b=some (.tbl (ps++more)))
  (ns:∀m,s.heap.Ns X.env.locals m->h'.Ns X.env.locals m) (hok:HOk X.prog X.w H' h') (hg:AllBare g') :
  Inv X pins σ H' { s with heap:=h',gens:=g',drawn:=d',toks:=t' }:=by
 have neL:∀b o,X.s₀.heap.get? b=some o->b≠X.env.locals:=λb o e=>zO (zK (zy e) I.ok.above)
 have neC:∀b o,X.s₀.heap.get? b=some o->b∉X.ex->b∉ch:=λb o e hx hb=>by
  rcases(hch b hb).1 with z | z
  .exact hx z
  .exact absurd (zK (zy e) z) (jL _)
 have cellK:∀x c,X.env.cells.lookup x=some c->∀v,s.heap.IsCell c v->h'.IsCell c v:=λx c e v ⟨o,ho,hd⟩=>by
  have nch:c∉ch:=λz=>(hch c z).2.2.1 x c e rfl
  by_cases hc:c∈X.fs
  .obtain⟨sl,q⟩:=slot c o (I.cne x c e) hc nch ho (I.freeC x c e)
   exact⟨_,q,hd⟩
  .exact⟨o,keep c o (I.cne x c e) hc nch ho (I.freeC x c e),hd⟩
 refine⟨I.ok,I.os,hg,⟨λb o e n hb hx=>?_,λb o e n hb hx=>?_,λb o e n hx=>?_,λb o e hx=>?_,λb xs e=>tups b xs (I.base.tups b xs e),λb o xs e=>frzs b o xs (I.base.frzs b o xs e),λb ps e=>?_⟩,?_,λx c e=>?_,?_,λx c e=>?_,λp hp=>?_,hok,I.len⟩
 .exact keep b o (neL b o e) hb (neC b o e hx) (I.base.keep b o e n hb hx) (I.base.free b o e n hx)
 .obtain⟨sl,e1⟩:=I.base.slot b o e n hb hx
  obtain⟨sl',e2⟩:=slot b _ (neL b o e) hb (neC b o e hx) e1 (I.base.free b o e n hx);exact⟨sl',e2⟩
 .obtain⟨o',e1⟩:=I.base.there b o e hx
  exact free b o' (neC b o e hx) e1 (I.base.free b o e n hx)
 .obtain⟨o',e1⟩:=I.base.there b o e hx
  exact there b o' (neC b o e hx) e1
 .obtain⟨m1,e1⟩:=I.base.tbls b ps e
  obtain⟨m2,e2⟩:=tbls b _ e1;exact⟨m1++m2,by rw[e2,Array.append_assoc]⟩
 .obtain⟨m,hn,hl⟩:=I.loc
  refine⟨m,ns m hn,λi x v e1 e2 e3=>?_⟩;obtain⟨u,r,l⟩:=hl i x v e1 e2 e3;refine⟨u,r,?_⟩;rcases l with l | ⟨k,c,e,z⟩
  .exact .inl l
  .exact .inr ⟨k,c,e,cellK x c e _ z⟩
 .obtain⟨v,z⟩:=I.cell x c e
  exact⟨v,cellK x c e v z⟩
 .obtain⟨m,⟨o,_,_,ho,_⟩,_⟩:=I.loc
  exact free _ o (λz=>(hch _ z).2.1 rfl) ho I.free
 .obtain⟨v,o,ho,hd⟩:=I.cell x c e
  exact free c o (λz=>(hch c z).2.2.1 x c e rfl) ho (I.freeC x c e)
 .obtain⟨e,n,ne,nf,d⟩:=I.pin p hp
  have nch:p.1∉ch:=λz=>(hch p.1 z).2.2.2 p hp rfl
  exact⟨keep p.1 p.2 ne nf nch e n,free p.1 p.2 nch e n,ne,nf,d⟩
def Inv.un{t':Nat}(I:Inv X pins σ H s)(u:Un X.fs [] H H' s.heap h')(hok:HOk X.prog X.w H' h'):Inv X pins σ H' { s with heap:=h',toks:=t' }:=by
 obtain⟨m,⟨o,es,ep,ho,r⟩,_⟩:=id I.loc;obtain⟨sl,hL⟩:=u.any ho I.free (by simp)
 exact I.step (g':=s.gens) (d':=s.drawn) (ch:=[]) (λ_ z=>nomatch z) (λb o _ hb _ e n=>u.keep b o e n hb (by simp)) (λb o _ hb _ e n=>u.slot b o e n hb (by simp)) (λb o _ e n=>u.free b o e n (by simp)) (λb o _ e=>u.there b o e (by simp)) u.tups u.frzs u.tbls (λm' hm=>by
  obtain⟨o',es',ep',ho',r'⟩:=hm;rw[ho] at ho'; cases ho'
  exact⟨_,es',ep',hL,r'⟩) hok I.bare
def Inv.call{g':Array GenState}{t':Nat}{d':Drawn}{ch:List Addr}(I:Inv X pins σ H s)(u:Un (frs X.stack) ch H H' s.heap h')(hok:HOk X.prog X.w H' h')(hg:AllBare g')
  (hch:∀b∈ch,(b∈X.ex\/X.s₀.heap.objs.size<=b)/\b≠X.env.locals/\(∀x c,X.env.cells.lookup x=some c->c≠b)/\∀p∈X.pn++pins,p.1≠b) :
  Inv X pins σ H' { s with heap:=h',gens:=g',drawn:=d',toks:=t' }:=by
 obtain⟨m,⟨o,es,ep,ho,r⟩,_⟩:=id I.loc;obtain⟨sl,hL⟩:=u.any ho I.free λz=>(hch _ z).2.1 rfl
 exact I.step (ch:=ch) hch (λb o hL hb hc e n=>u.keep b o e n (λz=>(zp.mp (I.stkSub b z)).elim hL hb) hc) (λb o _ _ hc e n=>u.any e n hc) (λb o hc e n=>u.free b o e n hc) (λb o hc e=>u.there b o e hc) u.tups u.frzs u.tbls (λm' hm=>by
  obtain⟨o',es',ep',ho',r'⟩:=hm;rw[ho] at ho'; cases ho'
  exact⟨_,es',ep',hL,r'⟩) hok hg
def Inv.turned{t':Nat}{it:Addr}(I:Inv X pins σ H s)(k:∀b o,b≠it->s.heap.get? b=some o->h'.get? b=some o)(hn:H it=none)(hL:it≠X.env.locals)
  (h1:it∈X.ex\/X.s₀.heap.objs.size<=it) (h2:∀x c,X.env.cells.lookup x=some c->c≠it) (h3:∀p∈X.pn++pins,p.1≠it):Inv X pins σ H { s with heap:=h',toks:=t' }:=by
 have nit:∀b u,H b=some u->b≠it:=λb u e z=>by rw[z,hn] at e; cases e
 refine I.step (g':=s.gens) (d':=s.drawn) (ch:=[it]) (λb hb=>?_) (λb o _ _ hc e _=>k b o (λz=>hc (by simp[z])) e) (λb o _ _ hc e _=>⟨o.slots,k b o (λz=>hc (by simp[z])) e⟩) (λ_ _ _ _ n=>n)
  (λb o hc e=>⟨o,k b o (λz=>hc (by simp[z])) e⟩) (λ_ _ e=>e) (λ_ _ _ e=>e) (λb ps e=>⟨#[],by rw[e]; simp⟩) (λm hm=>?_) (λb u e=>?_) I.bare
 .have e:b=it:=by simpa using hb
  subst e;exact⟨h1,hL,h2,h3⟩
 .obtain⟨o,es,ep,ho,r⟩:=hm
  exact⟨o,es,ep,k _ o (kj hL) ho,r⟩
 .refine(I.hok b u e).stay (λc v hc q=>k c v ?_ q) (λ_ q=>q) λ_ _ q=>q
  rcases hc with z | z
  .rw[z]; exact nit b u e
  .exact nit c _ z
def Inv.tok(I:Inv X pins σ H s)(t:Nat):Inv X pins σ H { s with toks:=t }:=I.un (h':=s.heap) (t':=t) Un.refl I.hok
theorem Inv.kept{t':Nat}(I:Inv X pins σ H s)(k:∀b u,s.heap.get? b=some u->h'.get? b=some u):Inv X pins σ H { s with heap:=h',toks:=t' }:=I.un (Un.kept k) (I.hok.kept k)
theorem Inv.laid{a:Addr}{o:HO}{t':Nat}(I:Inv X pins σ H s)(k:∀b u,s.heap.get? b=some u->h'.get? b=some u)(hp:s.heap.objs.size<=a)(new:ObjOk X.prog X.w (upd H a o) h' a o) :
  Inv X pins σ (upd H a o) { s with heap:=h',toks:=t' }:=I.un (Un.laid k hp (I.hok.fresh hp)) (I.hok.laid k hp new)
theorem Inv.write{x e:Addr}{o:HO}{t':Nat}(I:Inv X pins σ H s)(mu:Mut (H x))(he:e=x\/H e=some (.own x))(k:∀b u,b≠e->s.heap.get? b=some u->h'.get? b=some u)(heo:∃u,h'.get? e=some u)
  (new:ObjOk X.prog X.w (upd H x o) h' x o):Inv X pins σ (upd H x o) { s with heap:=h',toks:=t' }:=I.un (Un.write mu he k heo) (I.hok.write mu he k heo new)
def Inv.pins_of{pins':List (Addr×Obj)}(I:Inv X pins σ H s)(h:∀p∈pins',s.heap.get? p.1=some p.2/\H p.1=none/\p.1≠X.env.locals/\p.1∉X.fs/\∀v,p.2.data≠.cell v):Inv X pins' σ H s:=
 ⟨I.ok,I.os,I.bare,I.base,I.loc,I.cell,I.free,I.freeC,λp hp=>(zP.mp hp).elim (λz=>I.pin p (qH _ z)) (h p),I.hok,I.len⟩
def zen{N:List Str}(hN:N.Nodup){i j:Nat}{x:Str}(a:N[i]?=some x)(b:N[j]?=some x):i=j:=by
 obtain⟨h1,e1⟩:=zJ.mp a;obtain⟨h2,e2⟩:=zJ.mp b;exact(vp hN).mp (e1.trans e2.symm)
def zcU{M:Model}{A:Around}{E:Value->Shared->Prop}{i:Nat}{x:Str}{v:V}{u:Value}{Q:Unit->Shared->Prop}(I:Inv X pins σ H s)(hN:X.N.Nodup)(hi:X.N[i]?=some x)(hx:Loc X.env.scope x)(r:RelV v u)
  (h:∀s',Inv X pins (σ.set i (some v)) H s'->(∃a,Heap.SameBut a s.heap s'.heap/\(a=X.env.locals\/X.env.cells.lookup x=some a))->Q () s') (hf:X.fn x=true\/X.env.scope.names.lookup x=some .local:=by first | exact .inl rfl | exact .inr rfl | assumption):wpAny M A (storeName X.env x u) Q E s:=by
 obtain⟨m,hn,hl⟩:=id I.loc;have hcls:(X.env.scope.kind==.class||(X.env.scope.kind==.module&&X.env.locals != X.env.globals))=false:=by rw[I.ok.kind]; rfl
 have hiσ:i<σ.length:=by rw[I.len]; exact(zJ.mp hi).1
 have cne:=I.cne;have tracked:∀{a:Addr} {h':Heap},(∃o,s.heap.get? a=some o/\H a=none)->Heap.SameBut a s.heap h'->HOk X.prog X.w H h':=λ{a h'} ha hs b ob e=>by
  obtain⟨_,_,hfree⟩:=ha;refine(I.hok b ob e).stay (λc w' hc q=>(hs.2 c ?_).trans q) (λ_ q=>q) λ_ _ q=>q
  rintro rfl;rcases hc with rfl | hc
  .rw[hfree] at e; cases e
  .rw[hfree] at hc; cases hc
 rcases hx with hk | hk
 .refine wpAny_storeName_local hk hn (λh' hn' hs=>?_) hcls
  obtain⟨oL,_,_,hoL,_⟩:=id hn;refine h _ ⟨I.ok,I.os,I.bare,⟨λb o e n hb hx=>?_,λb o e n hb hx=>?_,I.base.free,λb o e hx=>?_,I.base.tups,I.base.frzs,I.base.tbls⟩,⟨_,hn',λj y v' e1 e2 e3=>?_⟩,λy c e=>?_,I.free,I.freeC,λp hp=>?_,tracked ⟨oL,hoL,I.free⟩ hs,by simpa using I.len⟩ ⟨_,hs,.inl rfl⟩
  .exact(hs.2 b (zO (zK (zy e) I.ok.above))).trans (I.base.keep b o e n hb hx)
  .obtain⟨sl,e1⟩:=I.base.slot b o e n hb hx
   exact⟨sl,(hs.2 b (zO (zK (zy e) I.ok.above))).trans e1⟩
  .obtain⟨o',e1⟩:=I.base.there b o e hx
   exact⟨o',(hs.2 b (zO (zK (zy e) I.ok.above))).trans e1⟩
  .by_cases hj:j=i
   .subst hj
    rw[hi] at e1; cases e1;rw[ji hiσ] at e2;cases e2;exact⟨u,r,.inl ⟨hk,by simp⟩⟩
   .rw[kI (kj hj)] at e2
    obtain⟨u',r',q⟩:=hl j y v' e1 e2 e3;refine⟨u',r',?_⟩;rcases q with ⟨k,e⟩ | ⟨k,c,e,z⟩
    .refine .inl ⟨k,?_⟩
     have:y≠x:=λe=>hj (zen hN e1 (e▸hi))
     simp[this,e]
    .exact .inr ⟨k,c,e,z.sameBut hs (cne y c e)⟩
  .obtain⟨w',z⟩:=I.cell y c e
   exact⟨w',z.sameBut hs (cne y c e)⟩
  .obtain⟨e,n,ne,nf,d⟩:=I.pin p hp
   exact⟨(hs.2 p.1 ne).trans e,n,ne,nf,d⟩
 .have hfn:X.fn x=true:=by
   rcases hf with z | z
   .exact z
   .rw[z] at hk; cases hk
  obtain⟨c,hc⟩:=I.ok.has x (.inl hk);obtain⟨w',z⟩:=I.cell x c hc;refine wpAny_storeName_cell I.ok.kind hk hc z (λh' hc' hs=>?_);obtain⟨oc,hoc,hocd⟩:=id z;refine h { s with heap:=h' } ⟨I.ok,I.os,I.bare,⟨λb o e n hb hx=>?_,λb o e n hb hx=>?_,I.base.free,λb o e hx=>?_,I.base.tups,I.base.frzs,I.base.tbls⟩,⟨m,hn.sameBut hs (kj (cne x c hc)),λj y v' e1 e2 e3=>?_⟩,λy c' e=>?_,I.free,I.freeC,λp hp=>?_,tracked ⟨oc,hoc,I.freeC x c hc⟩ hs,by simpa using I.len⟩ ⟨c,hs,.inr hc⟩
  .exact(hs.2 b (zO (zK (zy e) (I.ok.cab x c hfn hc)))).trans (I.base.keep b o e n hb hx)
  .obtain⟨sl,e1⟩:=I.base.slot b o e n hb hx
   exact⟨sl,(hs.2 b (zO (zK (zy e) (I.ok.cab x c hfn hc)))).trans e1⟩
  .obtain⟨o',e1⟩:=I.base.there b o e hx
   exact⟨o',(hs.2 b (zO (zK (zy e) (I.ok.cab x c hfn hc)))).trans e1⟩
  .by_cases hj:j=i
   .subst hj
    rw[hi] at e1; cases e1;rw[ji hiσ] at e2;cases e2;exact⟨u,r,.inr ⟨.inl hk,c,hc,hc'⟩⟩
   .rw[kI (kj hj)] at e2
    obtain⟨u',r',q⟩:=hl j y v' e1 e2 e3;refine⟨u',r',?_⟩;rcases q with q | ⟨k,c',e,z'⟩
    .exact .inl q
    .refine .inr ⟨k,c',e,z'.sameBut hs ?_⟩
     rintro rfl;exact hj (zen hN e1 (I.ok.inj _ _ _ e hc▸hi))
  .by_cases hcc:c'=c
   .subst hcc; exact⟨_,hc'⟩
   .obtain⟨w2,z2⟩:=I.cell y c' e
    exact⟨w2,z2.sameBut hs hcc⟩
  .obtain⟨e,n,ne,nf,d⟩:=I.pin p hp
   refine⟨(hs.2 p.1 ?_).trans e,n,ne,nf,d⟩;intro q;rw[q,hoc] at e;have q':oc=p.2:=zN e;exact d w' (by rw[<-q']; exact hocd)
def zbP{M:Model}{A:Around}{E:Value->Shared->Prop}{i:Nat}{x:Str}{v:V}{u:Value}{Q:Unit->Shared->Prop}(I:Inv X pins σ H s)(hN:X.N.Nodup)(hi:X.N[i]?=some x)(hx:Loc X.env.scope x)(r:RelV v u)
  (h:∀s',Inv X pins (σ.set i (some v)) H s'->Q () s') (hf:X.fn x=true\/X.env.scope.names.lookup x=some .local:=by first | exact .inl rfl | exact .inr rfl | assumption):wpAny M A (storeName X.env x u) Q E s:=
 zcU I hN hi hx r (λs' I' _=>h s' I') hf
def Inv.call'{s':Shared}{ch:List Addr}(I:Inv X pins σ H s)(ho:s'.os=s.os)(u:Un (frs X.stack) ch H H' s.heap s'.heap)(hok:HOk X.prog X.w H' s'.heap)(hg:AllBare s'.gens)
  (hch:∀b∈ch,(b∈X.ex\/X.s₀.heap.objs.size<=b)/\b≠X.env.locals/\(∀x c,X.env.cells.lookup x=some c->c≠b)/\∀p∈X.pn++pins,p.1≠b):Inv X pins σ H' s':=by
 obtain⟨h',g',d',t',o'⟩:=s';have e:o'=s.os:=ho;subst e;exact I.call (g':=g') (t':=t') (d':=d') u hok hg hch
end
abbrev XK:=Value->Option Addr->Hp->Prop
abbrev St:=List (Option V)
abbrev VK:=V->Hp->Prop
abbrev TE:=St->Hp->VK->Prop
abbrev TT:=St->Hp->(Bool->Hp->Prop)->Prop
abbrev TA:=St->Hp->(List V->Hp->Prop)->Prop
structure Ends where
 nx:St->Hp->Prop
 rt:VK
 bk:St->Hp->Prop:=λ_ _=>False
 ct:St->Hp->Prop:=λ_ _=>False
abbrev TS:=Ends->St->Hp->Prop
def EP(X:Cx)(pins:List (Addr×Obj))(σ:St)(Q:VK)(u:Value)(s':Shared):Prop:=∃v H',Inv X pins σ H' s'/\RelV v u/\Q v H'
def TP(X:Cx)(pins:List (Addr×Obj))(σ:St)(Q:Bool->Hp->Prop)(b:Bool)(s':Shared):Prop:=∃H',Inv X pins σ H' s'/\Q b H'
def AP(X:Cx)(pins:List (Addr×Obj))(σ:St)(Q:List V->Hp->Prop)(us:List Value)(s':Shared):Prop:=∃vs H',Inv X pins σ H' s'/\Vals vs us/\Q vs H'
def SP(X:Cx)(pins:List (Addr×Obj))(D:Ends)(f:Flow)(s':Shared):Prop:=
 match f with
 | .next=>∃σ' H',Inv X pins σ' H' s'/\D.nx σ' H'
 | .brk=>∃σ' H',Inv X pins σ' H' s'/\D.bk σ' H'
 | .cont=>∃σ' H',Inv X pins σ' H' s'/\D.ct σ' H'
 | .ret u=>∃v σ' H',Inv X pins σ' H' s'/\RelV v u/\D.rt v H'
def PE(X:Cx)(e:Expr)(t:TE):Prop:=
 ∀(pins:List (Addr×Obj)) (s:Shared) (σ:St) (H:Hp) (Q:VK),Inv X pins σ H s->t σ H Q->wpAny (model X.prog X.w) X.A (eval e X.env) (EP X pins σ Q) X.xe s
def PT(X:Cx)(e:Expr)(t:TT):Prop:=
 ∀(pins:List (Addr×Obj)) (s:Shared) (σ:St) (H:Hp) (Q:Bool->Hp->Prop),Inv X pins σ H s->t σ H Q->wpAny (model X.prog X.w) X.A (isTrue e X.env (eval e X.env)) (TP X pins σ Q) X.xe s
def PW(X:Cx)(e:Expr)(t:TT):Prop:=
 ∀(whole:Sem Value) (pins:List (Addr×Obj)) (s:Shared) (σ:St) (H:Hp) (Q:Bool->Hp->Prop),Inv X pins σ H s->t σ H Q->wpAny (model X.prog X.w) X.A (isTrue e X.env whole) (TP X pins σ Q) X.xe s
def PW.pt{X:Cx}{e:Expr}{t:TT}(h:PW X e t):PT X e t:=h _
def PA(X:Cx)(es:List Expr)(t:TA):Prop:=
 ∀(pos:Pos) (pins:List (Addr×Obj)) (s:Shared) (σ:St) (H:Hp) (Q:List V->Hp->Prop),Inv X pins σ H s->t σ H Q->wpAny (model X.prog X.w) X.A (spliced (backTo pos (starEach es X.env))) (AP X pins σ Q) X.xe s
def PS(X:Cx)(st:Stmt)(t:TS):Prop:=
 ∀(pins:List (Addr×Obj)) (s:Shared) (σ:St) (H:Hp) (D:Ends),Inv X pins σ H s->t D σ H->wpAny (model X.prog X.w) X.A (exec st X.env) (SP X pins D) X.xe s
def PSs(X:Cx)(st:List Stmt)(t:TS):Prop:=
 ∀(pins:List (Addr×Obj)) (s:Shared) (σ:St) (H:Hp) (D:Ends),Inv X pins σ H s->t D σ H->wpAny (model X.prog X.w) X.A (execs st X.env) (SP X pins D) X.xe s
def thn{α:Type}{t:Sem α}{Q Q':α->Shared->Prop}{M:Model}{A:Around}{E:Value->Shared->Prop}{s:Shared}(h:wpAny M A t Q E s)(hQ:∀a s,Q a s->Q' a s):wpAny M A t Q' E s:=jU h hQ λ_ _ x=>x
end L2
namespace L2
open PySem PySem.Spec PyProof.Rows
section
variable{X:Cx}
def tVar(i:Nat):TE:=λσ H Q=>∃v,σ[i]?=some (some v)/\Q v H
def tC(v:V):TE:=λ_ H Q=>Q v H
def zkc{i:Nat}{x:Str}{pos:Pos}(hN:X.N[i]?=some x)(hv:Vis X.env.scope x)(hd:(x==("__debug__":Str))=false:=by decide)(hcd:(x==("__classdict__":Str))=false:=by decide):PE X (.Name x pos) (tVar i):=by
 intro pins s σ H Q I h;obtain⟨v,e,h⟩:=h;obtain⟨m,hn,hl⟩:=I.loc;obtain⟨u,r,l⟩:=hl i x v hN e hv;have fin:EP X pins σ Q u s:=⟨v,H,I,r,h⟩;rcases l with ⟨hk,hm⟩ | ⟨hk,c,hc,hcell⟩
 .exact wpAny_Name (wpAny_loadName_local I.ok.kind hk hn hm fin) hd
 .rcases hk with hk | hk
  .exact wpAny_Name (wpAny_loadName_cell I.ok.kind hk hc hcell fin) hd
  .exact wpAny_Name (wpAny_loadName_free I.ok.kind hk hc hcell fin hcd) hd
def zkM{i j pos}:PE X (.Constant (.int i) j pos) (tC (.int i)):=λ_ _ _ H _ I h=>wpAny_Constant_int ⟨.int i,H,I.tok _,⟨_,rfl⟩,h⟩
def zl6{b j pos}:PE X (.Constant (.bool b) j pos) (tC (.bl b)):=λ_ _ _ H _ I h=>Constant_bool ⟨.bl b,H,I,rfl,h⟩
def zly{j pos}:PE X (.Constant .none j pos) (tC .non):=λ_ _ _ H _ I h=>Constant_none ⟨.non,H,I,rfl,h⟩
def zkf{x j pos}:PE X (.Constant (.str x) j pos) (tC (.str x)):=λ_ _ _ H _ I h=>Calls.Constant_str ⟨.str x,H,I.tok _,⟨_,rfl⟩,h⟩
def Gl(X:Cx)(x:Str):Prop:=X.env.kindOf x=some .globalImplicit
def zcH{E:Value->Shared->Prop}{pins:List (Addr×Obj)}{s:Shared}{σ:St}{H:Hp}{x:Str}{u:Value}{pos:Pos}{Q:Value->Shared->Prop}(I:Inv X pins σ H s)(hg:Gl X x)(hm:X.mg x=some u)(h:Q u s)
  (hd:(x==("__debug__":Str))=false:=by decide):wpAny (model X.prog X.w) X.A (eval (.Name x pos) X.env) Q E s:=
 yC I.ok.kind hg (Calls.loadGlobal_global (by rw[I.ok.glob]; exact I.mod.glob.keeps I.bk) hm h) hd
def zaa{E:Value->Shared->Prop}{pins:List (Addr×Obj)}{s:Shared}{σ:St}{H:Hp}{x:Str}{u:Value}{pos:Pos}{Q:Value->Shared->Prop}(I:Inv X pins σ H s)(hg:Gl X x)(hm:X.mg x=none)(hv:bootBuiltins x=some u)(h:Q u s)
  (hn:x≠"__name__":=by decide) (hd:(x==("__debug__":Str))=false:=by decide):wpAny (model X.prog X.w) X.A (eval (.Name x pos) X.env) Q E s:=by
 obtain⟨mb,h1,h2⟩:=I.mod.blt;exact yC I.ok.kind hg (Calls.loadGlobal_builtin (by rw[I.ok.glob]; exact I.mod.glob.keeps I.bk) hm (by rw[I.ok.blt]; exact h1.keeps I.bk) ((h2 x hn).trans hv) h) hd
def zbz{x:Str}{v:V}{u:Value}{pos:Pos}(hg:Gl X x)(hm:X.mg x=some u)(r:RelV v u)(hd:(x==("__debug__":Str))=false:=by decide):PE X (.Name x pos) (tC v):=
 λ_ _ _ H _ I h=>zcH I hg hm ⟨v,H,I,r,h⟩ hd
def ziW{x:Str}{v:V}{u:Value}{pos:Pos}(hg:Gl X x)(hm:X.mg x=none)(hv:bootBuiltins x=some u)(r:RelV v u)(hn:x≠"__name__":=by decide)(hd:(x==("__debug__":Str))=false:=by decide):PE X (.Name x pos) (tC v):=
 λ_ _ _ H _ I h=>zaa I hg hm hv ⟨v,H,I,r,h⟩ hn hd
variable{a b:Expr}{ta tb:TE}{pos:Pos}
def tB(t:TE):TT:=λσ H Q=>t σ H λx H1=>∃c,x=.bl c/\Q c H1
def zk8{e:Expr}{t:TE}(h:PE X e t)(he:∀whole,isTrue e X.env whole=(do let v <-whole; standAt e.pos; holding [v] (truthy v)):=by intro _; rfl):PT X e (tB t):=by
 intro pins s σ H Q I hw;refine isTrue_plain (thn (h pins s σ H _ I hw) λv s1 ⟨x,H1,I1,r1,q1⟩=>?_) (he _);obtain⟨d,rfl,q⟩:=q1;cases r1;exact jA ⟨H1,I1,q⟩
variable{tA tB':TT}{rest:List Expr}
def tAnd(t u:TT):TT:=λσ H Q=>t σ H λc H1=>if c=true then u σ H1 Q else Q false H1
def tOr(t u:TT):TT:=λσ H Q=>t σ H λc H1=>if c=true then Q true H1 else u σ H1 Q
def tNot(t:TT):TT:=λσ H Q=>t σ H λc H1=>Q (!c) H1
def pw_and1(ha:PT X a tA):PW X (.BoolOp .And [a] pos) tA:=by
 intro wh pins s σ H Q I h;refine isTrue_and (thn (ha pins s σ H Q I h) λc s1 e=>?_);cases c with
 | true=>exact isTrue_and_nil e
 | false=>exact e
def pw_or1(ha:PT X a tA):PW X (.BoolOp .Or [a] pos) tA:=by
 intro wh pins s σ H Q I h;refine isTrue_or (thn (ha pins s σ H Q I h) λc s1 e=>?_);cases c with
 | false=>exact isTrue_or_nil e
 | true=>exact e
def pw_and(ha:PT X a tA)(hb:PW X (.BoolOp .And (b::rest) pos) tB'):PW X (.BoolOp .And (a::b::rest) pos) (tAnd tA tB'):=by
 intro wh pins s σ H Q I h;refine isTrue_and (thn (ha pins s σ H _ I h) λc s1 ⟨H1,I1,q1⟩=>?_);cases c with
 | true=>exact hb wh pins s1 σ H1 Q I1 q1
 | false=>exact⟨H1,I1,q1⟩
def pw_or(ha:PT X a tA)(hb:PW X (.BoolOp .Or (b::rest) pos) tB'):PW X (.BoolOp .Or (a::b::rest) pos) (tOr tA tB'):=by
 intro wh pins s σ H Q I h;refine isTrue_or (thn (ha pins s σ H _ I h) λc s1 ⟨H1,I1,q1⟩=>?_);cases c with
 | true=>exact⟨H1,I1,q1⟩
 | false=>exact hb wh pins s1 σ H1 Q I1 q1
def zkt(ha:PT X a tA):PT X (.UnaryOp .Not a pos) (tNot tA):=by
 intro pins s σ H Q I h;exact isTrue_not (ha pins s σ H (λc H1=>Q (!c) H1) I h)
def zml(ta tb:TE):TE:=λσ H Q=>ta σ H λx H1=>∃c,x=.bl c/\if c=true then tb σ H1 Q else Q (.bl false) H1
def tOrV(ta tb:TE):TE:=λσ H Q=>ta σ H λx H1=>∃c,x=.bl c/\if c=true then Q (.bl true) H1 else tb σ H1 Q
def zmk(ta:TE):TE:=λσ H Q=>ta σ H λx H1=>∃c,x=.bl c/\Q (.bl (!c)) H1
def zlh{op}{t:TE}(h:PE X a t):PE X (.BoolOp op [a] pos) t:=λpins s σ H Q I hw=>BoolOp_one (h pins s σ H Q I hw)
def zkR(ha:PE X a ta)(hb:PE X (.BoolOp .And (b::rest) pos) tb):PE X (.BoolOp .And (a::b::rest) pos) (zml ta tb):=by
 intro pins s σ H Q I h;refine BoolOp_and (thn (ha pins s σ H _ I h) λv s1 ⟨x,H1,I1,r1,q1⟩=>?_);obtain⟨c,rfl,q1⟩:=q1;cases r1;refine jA ?_;cases c with
 | true=>exact hb pins s1 σ H1 Q I1 q1
 | false=>exact⟨.bl false,H1,I1,rfl,q1⟩
def zmv(ha:PE X a ta)(hb:PE X (.BoolOp .Or (b::rest) pos) tb):PE X (.BoolOp .Or (a::b::rest) pos) (tOrV ta tb):=by
 intro pins s σ H Q I h;refine BoolOp_or (thn (ha pins s σ H _ I h) λv s1 ⟨x,H1,I1,r1,q1⟩=>?_);obtain⟨c,rfl,q1⟩:=q1;cases r1;refine jA ?_;cases c with
 | false=>exact hb pins s1 σ H1 Q I1 q1
 | true=>exact⟨.bl true,H1,I1,rfl,q1⟩
def zld(ha:PE X a ta):PE X (.UnaryOp .Not a pos) (zmk ta):=by
 intro pins s σ H Q I h;refine UnaryOp_ (thn (ha pins s σ H _ I h) λv s1 ⟨x,H1,I1,r1,q1⟩=>?_);obtain⟨c,rfl,q1⟩:=q1;cases r1;exact not_of (jA ⟨.bl (!c),H1,I1,rfl,q1⟩)
def tIf(t:TT)(ta tb:TE):TE:=λσ H Q=>t σ H λc H1=>if c=true then ta σ H1 Q else tb σ H1 Q
def zic{c:Expr}(hc:PT X c tA)(ha:PE X a ta)(hb:PE X b tb):PE X (.IfExp c a b pos) (tIf tA ta tb):=by
 intro pins s σ H Q I h;refine wpAny_IfExp (thn (hc pins s σ H _ I h) λd s1 ⟨H1,I1,q1⟩=>?_);cases d with
 | true=>exact ha pins s1 σ H1 Q I1 q1
 | false=>exact hb pins s1 σ H1 Q I1 q1
end
end L2
namespace L2
open PySem PySem.Spec PyProof.Rows
def SqL(K:PySem.W.Frag)(H:Hp)(a:Addr)(xs:List V):Prop:=
 Rd H a (.lst xs) \/
  ∃(o:Obj) (its:Array Value) (n:Nat),K.lookup a=some o/\o.cls=.type "list" /\ o.dict=none/\o.data=.seq its n/\its.size<=sizeLine/\Vals xs its.toList
def SqT(K:PySem.W.Frag)(H:Hp)(a:Addr)(xs:List V):Prop:=
 Rd H a (.tup xs) \/
  ∃(o:Obj) (its:Array Value) (n:Nat),K.lookup a=some o/\(o.cls=.type "tuple" /\ o.dict=none)/\o.data=.seq its n/\its.size<=sizeLine/\Vals xs its.toList
def absV:Value->Option V
 | .none=>some .non
 | .bool b=>some (.bl b)
 | .int i _=>some (.int i)
 | .str x _=>some (.str x)
 | .bytes b _=>some (.byt b)
 | .float b _=>some (.flt b)
 | .ref a=>some (.ref a)
 | .type n=>some (.ty n)
 | _=>none
theorem RelV.abs{x:V}{u:Value}(r:RelV x u):absV u=some x:=by
 cases x with
 | non=>cases r; rfl
 | bl _=>cases r; rfl
 | int _=>obtain⟨t,rfl⟩:=r; rfl
 | str _=>obtain⟨t,rfl⟩:=r; rfl
 | byt _=>obtain⟨t,rfl⟩:=r; rfl
 | flt _=>obtain⟨t,rfl⟩:=r; rfl
 | ref _=>cases r; rfl
 | ty _=>cases r; rfl
theorem RelV.inj{x y:V}{u:Value}(r:RelV x u)(q:RelV y u):x=y:=zN (r.abs.symm.trans q.abs)
theorem Vals.inj:∀{xs ys:List V} {us:List Value},Vals xs us->Vals ys us->xs=ys
 | _,_,_,.nil,.nil=>rfl
 | _,_,_,.cons r t,.cons r' t'=>by rw[r.inj r',Vals.inj t t']
section
variable{X:Cx}{pins:List (Addr×Obj)}{σ:St}{H:Hp}{s:Shared}{a:Addr}{xs ys:List V}
def SqL.of{K:PySem.W.Frag}(h:H a=some (.lst xs)):SqL K H a xs:=.inl (.inl h)
def SqT.of{K:PySem.W.Frag}(h:H a=some (.tup xs)):SqT K H a xs:=.inl (.inl h)
def Inv.list(I:Inv X pins σ H s)(h:SqL X.K H a xs):∃its:List Value,Vals xs its/\PlainL s.heap a its.toArray/\xs.length<=sizeLine:=by
 rcases h with h | ⟨o,its,n,hk,hc,hd,hs,hz,r⟩
 .obtain⟨z,its,n,r,e⟩:=h.ok I.hok
  exact⟨its,r,⟨_,n,e,rfl,rfl,rfl⟩,z⟩
 .refine⟨its.toList,r,⟨o,n,I.kIn a o hk,hc,hd,by simpa using hs⟩,?_⟩
  have e:=r.length;simp only[qQ] at e;omega
def Inv.tuple(I:Inv X pins σ H s)(h:SqT X.K H a xs):∃its:List Value,Vals xs its/\IsTup s.heap a its.toArray/\xs.length<=sizeLine:=by
 rcases h with h | ⟨o,its,n,hk,⟨hc,_⟩,hs,hz,r⟩
 .obtain⟨z,its,r,p,_⟩:=h.ok I.hok
  exact⟨its,r,p,z⟩
 .refine⟨its.toList,r,⟨o,I.kIn a o hk,hc,n,by simpa using hs⟩,?_⟩
  have e:=r.length;simp only[qQ] at e;omega
def Inv.list_inj(I:Inv X pins σ H s)(h:SqL X.K H a xs)(h':SqL X.K H a ys):xs=ys:=by
 obtain⟨its,r,⟨o,n,e,_,_,d⟩,_⟩:=I.list h;obtain⟨its',r',⟨o',n',e',_,_,d'⟩,_⟩:=I.list h';rw[e] at e'; cases e';rw[d] at d';injection d' with d1 _;have:its=its':=by simpa using ql Array.toList d1
 subst this;exact r.inj r'
def Inv.tuple_inj(I:Inv X pins σ H s)(h:SqT X.K H a xs)(h':SqT X.K H a ys):xs=ys:=by
 obtain⟨its,r,⟨o,e,_,n,d⟩,_⟩:=I.tuple h;obtain⟨its',r',⟨o',e',_,n',d'⟩,_⟩:=I.tuple h';rw[e] at e'; cases e';rw[d] at d';injection d' with d1 _;have:its=its':=by simpa using ql Array.toList d1
 subst this;exact r.inj r'
end
abbrev Cx.wish(X:Cx)(E:Value->Shared->Prop):Cx:={ X with xe:=E }
abbrev Cx.nox(X:Cx):Cx:=X.wish λ_ _=>False
theorem Cx.Ok.wish{X:Cx}(ok:X.Ok)(E:Value->Shared->Prop):(X.wish E).Ok:=
 ⟨ok.mod,ok.kind,ok.glob,ok.blt,ok.above,ok.inj,ok.has,ok.cab,ok.hd,ok.frames,ok.stk,ok.exf,ok.bs,ok.bsz,ok.noex,ok.exfs,ok.funs,ok.frf⟩
def Cx.Ok.unwish{X:Cx}{E:Value->Shared->Prop}(ok:(X.wish E).Ok):X.Ok:=
 ⟨ok.mod,ok.kind,ok.glob,ok.blt,ok.above,ok.inj,ok.has,ok.cab,ok.hd,ok.frames,ok.stk,ok.exf,ok.bs,ok.bsz,ok.noex,ok.exfs,ok.funs,ok.frf⟩
section
variable{X:Cx}{pins:List (Addr×Obj)}{σ:St}{H:Hp}{s:Shared}{E:Value->Shared->Prop}
theorem Inv.wish(I:Inv X pins σ H s)(E:Value->Shared->Prop):Inv (X.wish E) pins σ H s:=⟨I.ok.wish E,I.os,I.bare,I.base,I.loc,I.cell,I.free,I.freeC,I.pin,I.hok,I.len⟩
theorem Inv.unwish(I:Inv (X.wish E) pins σ H s):Inv X pins σ H s:=⟨I.ok.unwish,I.os,I.bare,I.base,I.loc,I.cell,I.free,I.freeC,I.pin,I.hok,I.len⟩
theorem SP.unwish{D:Ends}{f:Flow}{s':Shared}(h:SP (X.wish E) pins D f s'):SP X pins D f s':=by
 cases f with
 | next=>obtain⟨σ',H',I,q⟩:=h; exact⟨σ',H',I.unwish,q⟩
 | brk=>obtain⟨σ',H',I,q⟩:=h; exact⟨σ',H',I.unwish,q⟩
 | cont=>obtain⟨σ',H',I,q⟩:=h; exact⟨σ',H',I.unwish,q⟩
 | ret u=>obtain⟨v,σ',H',I,r,q⟩:=h; exact⟨v,σ',H',I.unwish,r,q⟩
theorem PSs.nox{st:List Stmt}{t:TS}(h:PSs X.nox st t):PSs X st t:=λpins s σ H D I hw=>
 jU (h pins s σ H D (I.wish _) hw) (λ_ _ q=>q.unwish) λ_ _ z=>False.elim z
end
section
variable{X:Cx}{st:Stmt}{rest:List Stmt}{t u:TS}{e:Expr}{te:TE}{pos:Pos}
def zit:TS:=λD σ H=>D.nx σ H
def tSeq(t u:TS):TS:=λD σ H=>t { D with nx:=u D } σ H
def zjz:PSs X [] zit:=λ_ _ σ H _ I h=>vQ ⟨σ,H,I,h⟩
def zh1(h1:PS X st t)(h2:PSs X rest u):PSs X (st::rest) (tSeq t u):=by
 intro pins s σ H D I h;refine wpAny_execs_cons (thn (h1 pins s σ H { D with nx:=u D } I h) λf s1 q=>?_);cases f with
 | next=>
  obtain⟨σ',H',I',q⟩:=q;exact h2 pins s1 σ' H' D I' q
 | ret v=>exact q
 | brk=>exact q
 | cont=>exact q
def zjX(h1:PS X st t):PSs X [st] t:=by
 intro pins s σ H D I h;refine wpAny_execs_cons (thn (h1 pins s σ H D I h) λf s1 q=>?_);cases f with
 | next=>exact vQ q
 | ret v=>exact q
 | brk=>exact q
 | cont=>exact q
def ziP:PS X (.Pass pos) zit:=λ_ _ σ H _ I h=>wpAny_Pass ⟨σ,H,I,h⟩
def Inv.quiet{pins:List (Addr×Obj)}{σ:St}{H:Hp}{s:Shared}(I:Inv X pins σ H s):interactive X.env=false:=by simp[interactive,I.ok.kind]
def zl5(te:TE):TS:=λD σ H=>te σ H λ_ H1=>D.nx σ H1
def ziO(he:PE X e te)(hs:swapsWith e none pos.line X.env=pure false:=by rfl):PS X (.Expr e pos) (zl5 te):=by
 intro pins s σ H D I h;exact wpAny_Expr_any (thn (he pins s σ H _ I h) λv s1 ⟨x,H1,I1,r1,q1⟩=>⟨σ,H1,I1,q1⟩) I.quiet hs
def tRet(te:TE):TS:=λD σ H=>te σ H D.rt
def zkp(he:PE X e te):PS X (.Return (some e) pos) (tRet te):=by
 intro pins s σ H D I h;exact wpAny_Return_some (thn (he pins s σ H _ I h) λv s1 ⟨x,H1,I1,r1,q1⟩=>⟨x,σ,H1,I1,r1,q1⟩)
def tIfS(c:TT)(t u:TS):TS:=λD σ H=>c σ H λb H1=>if b=true then t D σ H1 else u D σ H1
def zl2{c:Expr}{a b:List Stmt}{tc:TT}(hc:PT X c tc)(ha:PSs X a t)(hb:PSs X b u):PS X (.If c a b pos) (tIfS tc t u):=by
 intro pins s σ H D I h;refine wpAny_If (thn (hc pins s σ H _ I h) λd s1 ⟨H1,I1,q1⟩=>?_);cases d with
 | true=>exact ha pins s1 σ H1 D I1 q1
 | false=>exact hb pins s1 σ H1 D I1 q1
end
abbrev TG:=V->St->Hp->(St->Hp->Prop)->Prop
abbrev TGs:=List V->St->Hp->(St->Hp->Prop)->Prop
def PG(X:Cx)(target:Expr)(t:TG):Prop:=
 ∀(pins:List (Addr×Obj)) (s:Shared) (σ:St) (H:Hp) (v:V) (u:Value) (Q:St->Hp->Prop),Inv X pins σ H s->RelV v u->t v σ H Q->
  wpAny (model X.prog X.w) X.A (assign target X.env u) (λ_ s'=>∃σ' H',Inv X pins σ' H' s'/\Q σ' H') X.xe s
def PGs(X:Cx)(ts:List Expr)(t:TGs):Prop:=
 ∀(pins:List (Addr×Obj)) (s:Shared) (σ:St) (H:Hp) (vs:List V) (us:List Value) (Q:St->Hp->Prop),Inv X pins σ H s->Vals vs us->t vs σ H Q->
  wpAny (model X.prog X.w) X.A (assignInOrder ((assignEach ts X.env).map (·.2)) us) (λ_ s'=>∃σ' H',Inv X pins σ' H' s'/\Q σ' H') X.xe s
abbrev TSet:=V->V->V->Hp->(Hp->Prop)->Prop
def PSet(X:Cx)(t:TSet):Prop:=
 ∀(pins:List (Addr×Obj)) (s:Shared) (σ:St) (H:Hp) (o i v:V) (ov iv u:Value) (Q:Hp->Prop),Inv X pins σ H s->RelV o ov->RelV i iv->RelV v u->t o i v H Q->
  wpAny (model X.prog X.w) X.A (setItem ov iv u) (λ_ s'=>∃H',Inv X pins σ H' s'/\Q H') X.xe s
abbrev TIp:=V->V->Hp->VK->Prop
def PIp(X:Cx)(op:Operator)(t:TIp):Prop:=
 ∀(pins:List (Addr×Obj)) (s:Shared) (σ:St) (H:Hp) (x y:V) (v u:Value) (Q:VK),Inv X pins σ H s->RelV x v->RelV y u->t x y H Q->
  wpAny (model X.prog X.w) X.A (inplaceOp op v u) (EP X pins σ Q) X.xe s
section
variable{X:Cx}{pos:Pos}
def ziE(i:Nat):TG:=λv σ H Q=>Q (σ.set i (some v)) H
def zj0{i:Nat}{x:Str}(hN:X.N.Nodup)(hi:X.N[i]?=some x)(hx:Loc X.env.scope x)(hf:X.fn x=true\/X.env.scope.names.lookup x=some .local:=by first | exact .inl rfl | exact .inr rfl | assumption):PG X (.Name x pos) (ziE i):=by
 intro pins s σ H v u Q I r h;exact wpAny_assign_Name (zbP I hN hi hx r (λs' I'=>⟨_,H,I',h⟩) hf)
def gNil:TGs:=λvs σ H Q=>vs=[]/\Q σ H
def zmj(t:TG)(u:TGs):TGs:=λvs σ H Q=>∃v r,vs=v::r/\t v σ H λσ' H'=>u r σ' H' Q
def zi3:PGs X [] gNil:=by
 intro pins s σ H vs us Q I r h;obtain⟨e,h⟩:=h;subst e;cases r;exact assignInOrder_nil ⟨σ,H,I,h⟩
def zid{e:Expr}{es:List Expr}{t:TG}{u:TGs}(h1:PG X e t)(h2:PGs X es u)
  (hs:(assignEach (e::es) X.env).map (·.2)=assign e X.env::(assignEach es X.env).map (·.2):=by rfl):PGs X (e::es) (zmj t u):=by
 intro pins s σ H vs us Q I r h;obtain⟨v,vr,e1,h⟩:=h;subst e1;cases r with
 | cons r rr=>
  rw[hs];refine assignInOrder_cons (thn (h1 pins s σ H _ _ _ I r h) λ_ s1 ⟨σ1,H1,I1,q1⟩=>?_);exact h2 pins s1 σ1 H1 _ _ Q I1 rr q1
def gTup(K:PySem.W.Frag)(n:Nat)(t:TGs):TG:=λv σ H Q=>∃a xs,v=.ref a/\SqT K H a xs/\xs.length=n/\t xs σ H Q
def zki{es:List Expr}{k:Nat}{t:TGs}{n:Nat}(hc:X.calm=true)(h:PGs X es t)
  (hn:(assignEach es X.env).length=n:=by rfl) (hst:(assignEach es X.env).findIdx? (·.1)=none:=by rfl):PG X (.Tuple es k pos) (gTup X.K n t):=by
 intro pins s σ H v u Q I r hw;obtain⟨a,xs,e1,hq,hl,hw⟩:=hw;subst e1;cases r;obtain⟨its,rv,ht,hz⟩:=I.tuple hq;refine assign_Tuple_tuple (I.ok.hd hc) ht (by simp[hn,<-hl,rv.length]) hst λh' hx=>?_
 have I1:Inv X pins σ H { s with heap:=h' }:=I.kept (t':=s.toks) λb o e=>hx b o (zO (zy e)) e
 exact h pins _ σ H xs _ Q I1 (by simpa using rv) hw
def gSub(to ti:TE)(t:TSet):TG:=λv σ H Q=>to σ H λo H1=>ti σ H1 λi H2=>t o i v H2 λH3=>Q σ H3
def zkz{o i:Expr}{to ti:TE}{t:TSet}(ho:PE X o to)(hi:PE X i ti)(hs:PSet X t)
  (ha:∀v,assign (.Subscript o i pos) X.env v=(do
   let ov <-holding [v] (eval o X.env)
   let iv <-holding [v,ov] (eval i X.env)
   standAt pos
   holding [v,ov,iv] (setItem ov iv v)
   release [v,ov,iv] []):=by intro _; rfl):PG X (.Subscript o i pos) (gSub to ti t):=by
 intro pins s σ H v u Q I r h;rw[ha];refine za (kZ (thn (ho pins s σ H _ I h) λov s1 ⟨x,H1,I1,r1,q1⟩=>?_));refine za (kZ (thn (hi pins s1 σ H1 _ I1 q1) λiv s2 ⟨y,H2,I2,r2,q2⟩=>?_));refine za (wI (za (kZ (thn (hs pins s2 σ H2 x y v ov iv u _ I2 r1 r2 r q2) λ_ s3 ⟨H3,I3,q3⟩=>?_))));exact wpAny_release ⟨σ,H3,I3,q3⟩
def tAsg(te:TE)(g:TG):TS:=λD σ H=>te σ H λx H1=>g x σ H1 D.nx
def zkA{tg e:Expr}{te:TE}{g:TG}(he:PE X e te)(hg:PG X tg g)(hs:swapsWithSole [tg] e pos.line X.env=pure false:=by rfl)(hw:swappedStores [tg] e X.env=pure none:=by rfl)
  (h1:(assignEach [tg] X.env).map (·.2)=[assign tg X.env]:=by rfl):PS X (.Assign [tg] e pos) (tAsg te g):=by
 intro pins s σ H D I h;refine wpAny_Assign_stores (thn (he pins s σ H _ I h) λv s1 ⟨x,H1,I1,r1,q1⟩=>?_) hs hw;rw[h1];exact thn (hg pins s1 σ H1 x v _ I1 r1 q1) λ_ s2 q=>q
def zkY{i:Nat}{x:Str}{e:Expr}{te:TE}{pos':Pos}(hN:X.N.Nodup)(hi:X.N[i]?=some x)(hx:Loc X.env.scope x)(he:PE X e te)(hs:swapsWith e (some (.Name x pos')) pos.line X.env=pure false:=by rfl)(hf:X.fn x=true\/X.env.scope.names.lookup x=some .local:=by first | exact .inl rfl | exact .inr rfl | assumption) :
  PS X (.Assign [.Name x pos'] e pos) (tAsg te (ziE i)):=by
 intro pins s σ H D I h;refine wpAny_Assign_Name (thn (he pins s σ H _ I h) λv s1 ⟨y,H1,I1,r1,q1⟩=>?_) hs;exact zbP I1 hN hi hx r1 (λs2 I2=>⟨_,H1,I2,q1⟩) hf
def tAug(i:Nat)(te:TE)(ti:TIp):TS:=λD σ H=>∃x,σ[i]?=some (some x)/\te σ H λy H1=>ti x y H1 λz H2=>D.nx (σ.set i (some z)) H2
def zlM{i:Nat}{x:Str}{e:Expr}{te:TE}{op:Operator}{ti:TIp}{pos':Pos}(hN:X.N.Nodup)(hi:X.N[i]?=some x)(hx:Loc X.env.scope x)(he:PE X e te)(ho:PIp X op ti)(hf:X.fn x=true\/X.env.scope.names.lookup x=some .local:=by first | exact .inl rfl | exact .inr rfl | assumption) :
  PS X (.AugAssign (.Name x pos') op e pos) (tAug i te ti):=by
 intro pins s σ H D I h;obtain⟨v,e1,h⟩:=h;obtain⟨m,hn,hl⟩:=I.loc;have vis:Vis X.env.scope x:=by rcases hx with k | k; exact .inl k; exact .inr (.inl k)
 obtain⟨u,r,l⟩:=hl i x v hi e1 vis;refine wpAny_AugAssign_Name ?_;have go:wpAny (model X.prog X.w) X.A (eval e X.env) (λw s₂=>wpAny (model X.prog X.w) X.A (inplaceOp op u w) (λr s₃=>wpAny (model X.prog X.w) X.A (storeName X.env x r) (λ_=>SP X pins D .next) X.xe s₃) X.xe s₂) X.xe s:=by
  refine thn (he pins s σ H _ I h) λw s1 ⟨y,H1,I1,r1,q1⟩=>?_
  refine thn (ho pins s1 σ H1 v y u w _ I1 r r1 q1) λz s2 ⟨zv,H2,I2,r2,q2⟩=>?_
  exact zbP I2 hN hi hx r2 (λs3 I3=>⟨_,H2,I3,q2⟩) hf
 rcases l with ⟨hk,hm⟩ | ⟨hk,c,hc,hcell⟩
 .exact wpAny_loadName_local I.ok.kind hk hn hm go
 .rcases hk with hk | hk
  .exact wpAny_loadName_cell I.ok.kind hk hc hcell go
  .rcases hx with k | k
   .have:X.env.scope.names.lookup x=some .free:=hk
    rw[k] at this; cases this
   .have:X.env.scope.names.lookup x=some .free:=hk
    rw[k] at this; cases this
def ipI(f:Int->Int->Int):TIp:=λx y H Q=>∃i j,x=.int i/\y=.int j/\Q (.int (f i j)) H
def zlT:PIp X .Add (ipI λi j=>i+j):=by
 intro pins s σ H x y v u Q I r1 r2 h;obtain⟨i,j,e1,e2,q⟩:=h;subst e1; subst e2;obtain⟨t,rfl⟩:=r1;obtain⟨t',rfl⟩:=r2;exact iadd_int ⟨.int _,H,I.tok _,⟨_,rfl⟩,q⟩
end
section
variable{X:Cx}{pos:Pos}
def zk4(c:TT)(tb:TS):TS:=λD σ H=>∃W:Nat->St->Hp->Prop,(∃m,W m σ H)/\∀m σ H,W m σ H->
 c σ H λb H1=>if b=true then ∃N:St->Hp->Prop,(∀σ' H',N σ' H'->∃m',m'<m/\W m' σ' H')/\tb { D with nx:=N,ct:=N,bk:=D.nx } σ H1 else D.nx σ H1
def zhB{c:Expr}{body:List Stmt}{tc:TT}{tb:TS}(hp:PassesOwn (model X.prog X.w) X.A X.env X.xe)(hc:PT X c tc)(hb:PSs X body tb):PS X (.While c body [] pos) (zk4 tc tb):=by
 intro pins s σ H D I h;obtain⟨W,⟨m0,w0⟩,turn⟩:=h;refine wpAny_While (codeAny_whileLoop (λn s'=>∃σ' H',Inv X pins σ' H' s'/\W n σ' H') ?_ m0 ⟨σ,H,I,w0⟩);rintro n s1 ⟨σ1,H1,I1,w1⟩;refine j9 hp (thn (hc pins s1 σ1 H1 _ I1 (turn n σ1 H1 w1)) λb s2 ⟨H2,I2,q2⟩=>?_);cases b with
 | true=>
  obtain⟨N,hN,q2⟩:=q2;rw[zW rfl];refine j9 hp (thn (hb pins s2 σ1 H2 _ I2 q2) λf s3 q3=>?_);cases f with
  | next=>
   obtain⟨σ3,H3,I3,n3⟩:=q3;obtain⟨m',hm,w3⟩:=hN σ3 H3 n3;exact⟨m',hm,σ3,H3,I3,w3⟩
  | cont=>
   obtain⟨σ3,H3,I3,n3⟩:=q3;obtain⟨m',hm,w3⟩:=hN σ3 H3 n3;exact⟨m',hm,σ3,H3,I3,w3⟩
  | brk=>exact q3
  | ret v=>exact q3
 | false=>
  rw[kO zL];exact vQ ⟨σ1,H2,I2,q2⟩
end
structure It where
 go:Nat->Hp->Prop
 yld:Nat->Hp->V->Hp->Prop
 stop:Nat->Hp->Prop
def FpOk(X:Cx)(pins:List (Addr×Obj))(H:Hp)(b:Addr):Prop:=
 H b=none/\b≠X.env.locals/\b∉X.fs/\(b∈X.ex\/X.s₀.heap.objs.size<=b)/\(∀x c,X.env.cells.lookup x=some c->c≠b)/\∀p∈X.pn++pins,p.1≠b
def Inv.fpOk{X:Cx}{pins:List (Addr×Obj)}{σ:St}{H H':Hp}{s:Shared}{b:Addr}(I:Inv X pins σ H s)(hb:s.heap.objs.size<=b)(hn:H' b=none):FpOk X pins H' b:=by
 refine⟨hn,qi (zK I.lt hb),I.nofs hb,.inr (zG I.sz hb),λx c e z=>?_,λp hp z=>?_⟩
 .obtain⟨v,q⟩:=I.cell x c e
  exact absurd (zK q.lt (by rw[z]; exact hb)) (jL _)
 .exact absurd (zK (zy (I.pin p hp).1) (by rw[z]; exact hb)) (jL _)
structure Turn(P:Program)(w:World)(K:PySem.W.Frag)(tg:Expr)(J:It)(fp:List Addr)(it:Addr)(tn:Nat->Heap->Prop):Prop where
 mem:it∈fp
 obj:∀i h,tn i h->∀b∈fp,∃o,h.get? b=some o/\∀v,o.data≠.cell v
 keep:∀i h h',tn i h->(∀b∈fp,∀o,h.get? b=some o->h'.get? b=some o)->tn i h'
 item:∀(X:Cx),X.prog=P->X.w=w->X.K=K->X.calm=true->∀(i:Nat) (pins:List (Addr×Obj)) (s:Shared) (σ:St) (H:Hp) (E:Value->Shared->Prop),Inv X pins σ H s->(∀b∈fp,FpOk X pins H b)->tn i s.heap->J.go i H->
  wpAny (model P w) X.A (pyNext (.ref it)) (λr s1=>∃u,r=some u /\
   wpAny (model P w) X.A (letOwnedTupleGo tg (.ref it) u) (λ_ s2=>∃x H',Inv X pins σ H' s2/\RelV x u/\J.yld i H x H'/\tn (i+1) s2.heap/\∀b∈fp,H' b=none) E s1) E s
 done:∀(X:Cx),X.prog=P->X.w=w->X.K=K->X.calm=true->∀(i:Nat) (pins:List (Addr×Obj)) (s:Shared) (σ:St) (H:Hp) (E:Value->Shared->Prop),Inv X pins σ H s->(∀b∈fp,FpOk X pins H b)->tn i s.heap->J.stop i H->
  wpAny (model P w) X.A (pyNext (.ref it)) (λr s1=>r=none/\Inv X pins σ H s1) E s
 self:∀(A:Around) (i:Nat) (s:Shared) (Q:Value->Shared->Prop) (E:Value->Shared->Prop),tn i s.heap->Q (.ref it) s->wpAny (model P w) A (pyIter (.ref it)) Q E s
abbrev TI:=St->Hp->(It->Hp->Prop)->Prop
def PIE(X:Cx)(pins:List (Addr×Obj))(σ:St)(tg:Expr)(R:It->Hp->Prop)(itv:Value)(s2:Shared):Prop:=
 ∃(it:Addr) (fp:List Addr) (tn:Nat->Heap->Prop) (J:It) (H':Hp),itv=.ref it/\Inv X pins σ H' s2/\Turn X.prog X.w X.K tg J fp it tn/\tn 0 s2.heap/\(∀b∈fp,FpOk X pins H' b)/\R J H'
def PI(X:Cx)(tg iter:Expr)(wi:TI):Prop:=
 ∀(pins:List (Addr×Obj)) (s:Shared) (σ:St) (H:Hp) (R:It->Hp->Prop),Inv X pins σ H s->wi σ H R->
  wpAny (model X.prog X.w) X.A (eval iter X.env) (λv s1=>wpAny (model X.prog X.w) X.A (pyIter v) (PIE X pins σ tg R) X.xe s1) X.xe s
def zdp {M : Model} {A : Around} {E : Value -> Shared -> Prop} {s : Shared} {tg : Expr} {it : Addr} {u : Value} {o : Obj} {n : String} {vs : Array Value} {Q : Unit -> Shared -> Prop} (ho : s.heap.get? it = some o) (hc : o.cls = .type n) (hd : o.data = .fields vs)
    (hn : ["enumerate", "zip", "dict_itemiterator", "dict_reverseitemiterator", "odict_iterator", "itertools.zip_longest", "itertools.pairwise"].contains n = false) (hQ : Q () s) : wpAny M A (letOwnedTupleGo tg (.ref it) u) Q E s := by
  unfold letOwnedTupleGo;cases tg <;> first
    | exact zu hQ
    | (cases u <;> first
        | exact zu hQ
        | (refine za (wpAny_load ho ?_)
           rw [hc, hd];show wpAny M A (if (["enumerate", "zip", "dict_itemiterator", "dict_reverseitemiterator", "odict_iterator", "itertools.zip_longest", "itertools.pairwise"].contains n && vs[0]? == some (rawInt _)) = true then _ else _) Q E s
           rw [kO (by intro h; rw [hn, Bool.false_and] at h; cases h)]
           exact zu hQ))
def Itl(K:PySem.W.Frag)(a:Addr):It:=
 ⟨λi H=>∃xs x,SqL K H a xs/\xs[i]?=some x,λi H x H'=>H'=H/\∀xs,SqL K H a xs->xs[i]?=some x,λi H=>∃xs,SqL K H a xs/\xs.length<=i⟩
def Itt(K:PySem.W.Frag)(a:Addr):It:=
 ⟨λi H=>∃xs x,SqT K H a xs/\xs[i]?=some x,λi H x H'=>H'=H/\∀xs,SqT K H a xs->xs[i]?=some x,λi H=>∃xs,SqT K H a xs/\xs.length<=i⟩
def Itr(lo:Int)(n:Nat):It:=⟨λi _=>i<n,λi H x H'=>H'=H/\x=.int (lo+i),λi _=>n<=i⟩
def zgY{P:Program}{w:World}{K:PySem.W.Frag}{tg:Expr}(a it:Addr):Turn P w K tg (Itl K a) [it] it (λi h=>h.IsListIter it a i) where
 mem:=by simp
 obj:=λi h st b hb=>by
  have e:b=it:=by simpa using hb
  subst e;obtain⟨o,e,c,d⟩:=st;exact⟨o,e,λv z=>by rw[d] at z; cases z⟩
 keep:=λi h h' st k=>st.at λo e=>k it (by simp) o e
 item:=by
  intro X hP hw hK hc i pins s σ H E I hf st hg;subst hP hw hK;obtain⟨xs,x,hq,hx⟩:=hg;obtain⟨its,rv,p,hz⟩:=I.list hq;obtain⟨u,hu,ru⟩:=rv.get hx;obtain⟨f0,f1,f2,f3,f4,f5⟩:=hf it (by simp);refine wpAny_pyNext_list_item st p.isList (x:=u) (by simpa using hu) λh' st' sb=>?_
  have I1:Inv X pins σ H { s with heap:=h' }:=I.turned (t':=s.toks) (λb o hb e=>(sb.2 b hb).trans e) f0 f1 f3 f4 f5;obtain⟨o,e,c,d⟩:=id st';exact⟨u,rfl,zdp (s:={ s with heap:=h' }) e c d (by decide) ⟨x,H,I1,ru,⟨rfl,λys hy=>by rw[I.list_inj hy hq]; exact hx⟩,st',λb hb=>(hf b hb).1⟩⟩
 done:=by
  intro X hP hw hK hc i pins s σ H E I hf st hg;subst hP hw hK;obtain⟨xs,hq,hx⟩:=hg;obtain⟨its,rv,p,hz⟩:=I.list hq;obtain⟨f0,f1,f2,f3,f4,f5⟩:=hf it (by simp);have hl:=rv.length;exact wpAny_pyNext_list_end (I.ok.hd hc) st p.isList (by simp; omega) λh' eb=>⟨rfl,I.turned (t':=s.toks) (λb o hb e=>eb b o hb e) f0 f1 f3 f4 f5⟩
 self:=λ_ _ _ _ _ st h=>wpAny_pyIter_listiter st h
def zfM{P:Program}{w:World}{K:PySem.W.Frag}{tg:Expr}(a it:Addr):Turn P w K tg (Itt K a) [it] it (λi h=>h.IsTupleIter it a i) where
 mem:=by simp
 obj:=λi h st b hb=>by
  have e:b=it:=by simpa using hb
  subst e;obtain⟨o,e,c,d⟩:=st;exact⟨o,e,λv z=>by rw[d] at z; cases z⟩
 keep:=λi h h' st k=>st.at λo e=>k it (by simp) o e
 item:=by
  intro X hP hw hK hc i pins s σ H E I hf st hg;subst hP hw hK;obtain⟨xs,x,hq,hx⟩:=hg;obtain⟨its,rv,p,hz⟩:=I.tuple hq;obtain⟨u,hu,ru⟩:=rv.get hx;obtain⟨f0,f1,f2,f3,f4,f5⟩:=hf it (by simp);refine wpAny_pyNext_tuple_item st (show s.heap.IsTuple a its.toArray from p) (x:=u) (by simpa using hu) λh' st' sb=>?_
  have I1:Inv X pins σ H { s with heap:=h' }:=I.turned (t':=s.toks) (λb o hb e=>(sb.2 b hb).trans e) f0 f1 f3 f4 f5;obtain⟨o,e,c,d⟩:=id st';exact⟨u,rfl,zdp (s:={ s with heap:=h' }) e c d (by decide) ⟨x,H,I1,ru,⟨rfl,λys hy=>by rw[I.tuple_inj hy hq]; exact hx⟩,st',λb hb=>(hf b hb).1⟩⟩
 done:=by
  intro X hP hw hK hc i pins s σ H E I hf st hg;subst hP hw hK;obtain⟨xs,hq,hx⟩:=hg;obtain⟨its,rv,p,hz⟩:=I.tuple hq;obtain⟨f0,f1,f2,f3,f4,f5⟩:=hf it (by simp);have hl:=rv.length;exact wpAny_pyNext_tuple_end (I.ok.hd hc) st (show s.heap.IsTuple a its.toArray from p) (by simp; omega) λh' eb=>⟨rfl,I.turned (t':=s.toks) (λb o hb e=>eb b o hb e) f0 f1 f3 f4 f5⟩
 self:=λ_ _ _ _ _ st h=>wpAny_pyIter_tupleiter st h
def zfF{P:Program}{w:World}{K:PySem.W.Frag}{tg:Expr}(it:Addr)(lo:Int)(n:Nat):Turn P w K tg (Itr lo n) [it] it (λi h=>IsRangeIter h it (lo+(i:Nat)*1) ((n:Int)-(i:Nat)) 1) where
 mem:=by simp
 obj:=λi h st b hb=>by
  have e:b=it:=by simpa using hb
  subst e
  exact⟨_,st,λv z=>by
   have z':Data.fields _=Data.cell v:=z
   cases z'⟩
 keep:=λi h h' st k=>k it (by simp) _ st
 item:=by
  intro X hP hw hK hc i pins s σ H E I hf st hg;subst hP hw hK;obtain⟨f0,f1,f2,f3,f4,f5⟩:=hf it (by simp);have W:=Walks.range (prog:=X.prog) (w:=X.w) (I.ok.hd hc) it lo 1 n;refine W.item i s _ _ hg st λv h' tk hv st' kk=>?_
  obtain⟨t,rfl⟩:=hv;have I1:Inv X pins σ H { s with heap:=h',toks:=tk }:=I.turned (λb o hb e=>kk b o (by simpa using hb) e) f0 f1 f3 f4 f5;refine⟨_,rfl,zdp (s:={ s with heap:=h',toks:=tk }) (n:="range_iterator") st' rfl rfl (by decide) ⟨.int (lo+i),H,I1,⟨t,?_⟩,⟨rfl,rfl⟩,st',λb hb=>(hf b hb).1⟩⟩;rw[Int.mul_one]
 done:=by
  intro X hP hw hK hc i pins s σ H E I hf st hg;subst hP hw hK;obtain⟨f0,f1,f2,f3,f4,f5⟩:=hf it (by simp);exact wpAny_pyNext_range_end (I.ok.hd hc) st (by have:n<=i:=hg; omega) λh' eb=>⟨rfl,I.turned (t':=s.toks) (λb o hb e=>eb b o hb e) f0 f1 f3 f4 f5⟩
 self:=λ_ _ _ _ _ st h=>wpAny_pyIter_rangeiter st h
end L2
namespace L2
open PySem PySem.Spec PyProof.Rows
section
variable{X:Cx}{tg:Expr}
def zij{pins:List (Addr×Obj)}{σ:St}{H:Hp}{s:Shared}{R:It->Hp->Prop}{E:Value->Shared->Prop}{lo hi:Int}{t u v:Tok}{tk:Nat}(I:Inv X pins σ H s)(h1:-(2 ^ 62)<=lo)(h2:lo<2 ^ 62)(h3:-(2 ^ 62)<=hi)(h4:hi<2 ^ 62)
  (q:R (Itr lo (hi-lo).toNat) H):wpAny (model X.prog X.w) X.A (pyIter (.ref s.heap.objs.size)) (PIE X pins σ tg R) E { s with heap:=s.heap.push { cls:=.type "range",data:=.fields #[.int lo t,.int hi u,.int 1 v] },toks:=tk }:=by
 refine wpAny_pyIter_range (IsRange.new ..) (small_one h1 h2 h3 h4) ?_;have I1:Inv X pins σ H { s with heap:=s.heap.push { cls:=.type "range",data:=.fields #[.int lo t,.int hi u,.int 1 v] },toks:=tk }:=I.kept λb o e=>zb _ e
 refine⟨(s.heap.push { cls:=.type "range",data:=.fields #[.int lo t,.int hi u,.int 1 v] }).objs.size,[(s.heap.push { cls:=.type "range",data:=.fields #[.int lo t,.int hi u,.int 1 v] }).objs.size],_,_,H,rfl,
  I1.kept (t':=tk) λb o e=>zb _ e,zfF _ lo (hi-lo).toNat,?_,λb hb=>?_,q⟩
 .have e1:lo+((0:Nat):Int)*1=lo:=by simp
  have e2:(((hi-lo).toNat:Nat):Int)-((0:Nat):Int)=Builtin.Range.rangeSize lo hi 1:=by rw[rangeSize_one]; split<;>omega
  show IsRangeIter _ _ (lo+((0:Nat):Int)*1) ((((hi-lo).toNat:Nat):Int)-((0:Nat):Int)) 1
  rw[e1,e2];exact zH _ rfl
 .have e:b=(s.heap.push { cls:=.type "range",data:=.fields #[.int lo t,.int hi u,.int 1 v] }).objs.size:=by simpa using hb
  subst e;exact I1.fpOk (zF _) (I1.hok.fresh (zF _))
def zlY(ta:TA):TI:=λσ H R=>ta σ H λvs H1=>∃j:Int,vs=[.int j]/\-(2 ^ 62)<=j/\j<2 ^ 62/\R (Itr 0 j.toNat) H1
def zgA{a:Expr}{ta:TA}{p pos:Pos}(hg:Gl X "range")(hm:X.mg "range" = none)(ha:PA X [a] ta)(hs:starEach [a] X.env=[(false,eval a X.env)]:=by rfl):PI X tg (.Call (.Name "range" p) [a] [] pos) (zlY ta):=by
 intro pins s σ H R I h;refine Call_ (zaa I hg hm boot_range (jr (thn (ha pos pins s σ H _ I h) λus s1 ⟨vs,H1,I1,r1,q1⟩=>?_) hs rfl));obtain⟨j,e,q1,q2,q⟩:=q1;subst e;cases r1 with
 | cons r rr=>
  cases rr;obtain⟨t,rfl⟩:=r;exact call_range_1 (zij I1 ∅ ∅ q1 q2 (by simpa using q))
def tFor(wi:TI)(g:TG)(tb:TS):TS:=λD σ H=>wi σ H λJ H1=>∃W:Nat->Nat->St->Hp->Prop,(∃m,W 0 m σ H1)/\∀i m σ H,W i m σ H->
 (J.stop i H/\D.nx σ H)\/(J.go i H/\∃N:St->Hp->Prop,(∀σ' H',N σ' H'->∃m',m'<m/\W (i+1) m' σ' H')/\∀x H',J.yld i H x H'->g x σ H' λσ2 H2=>tb { D with nx:=N,ct:=N,bk:=D.nx } σ2 H2)
def zba(fp:List Addr)(h:Heap):List (Addr×Obj):=fp.filterMap λb=>(h.get? b).map λo=>(b,o)
def zaf{fp:List Addr}{h:Heap}{b:Addr}{o:Obj}(hb:b∈fp)(e:h.get? b=some o):(b,o)∈zba fp h:=yH.mpr ⟨b,hb,by rw[e]; rfl⟩
def zf5{fp:List Addr}{h:Heap}{p:Addr×Obj}(hp:p∈zba fp h):p.1∈fp/\h.get? p.1=some p.2:=by
 obtain⟨b,hb,e⟩:=yH.mp hp;cases q:h.get? b with
 | none=>rw[q] at e; cases e
 | some o=>
  rw[q] at e;have e':(b,o)=p:=zN e;subst e';exact⟨hb,q⟩
def Inv.pinned{pins:List (Addr×Obj)}{σ:St}{H:Hp}{s:Shared}{fp:List Addr}(I:Inv X pins σ H s)(hf:∀b∈fp,FpOk X pins H b)(ho:∀b∈fp,∃o,s.heap.get? b=some o/\∀v,o.data≠.cell v):Inv X (pins++zba fp s.heap) σ H s:=
 I.pins_of λp hp=>(zP.mp hp).elim (λz=>I.pin p (kh _ z)) λz=>by
  obtain⟨hb,e⟩:=zf5 z;obtain⟨f0,f1,f2,_⟩:=hf p.1 hb;obtain⟨o,e',d⟩:=ho p.1 hb;rw[e] at e'; cases e';exact⟨e,f0,f1,f2,d⟩
def Inv.unpinned{pins pl:List (Addr×Obj)}{σ:St}{H:Hp}{s:Shared}(I:Inv X (pins++pl) σ H s):Inv X pins σ H s:=I.pins_of λp hp=>I.pin p (kh _ (qH _ hp))
def zkr{iter:Expr}{body:List Stmt}{wi:TI}{g:TG}{tb:TS}{pos:Pos}(hp:PassesOwn (model X.prog X.w) X.A X.env X.xe)(hc:X.calm=true)(hi:PI X tg iter wi)(hg:PG X tg g)(hb:PSs X body tb)
  (hs:∀x,foldedSetIterable iter X.env x=pure x:=by intro _; rfl):PS X (.For tg iter body [] pos) (tFor wi g tb):=by
 intro pins s σ H D I h;refine wpAny_For (thn (hi pins s σ H _ I h) λv s1 h1=>thn h1 λitv s2 h2=>?_) hs;obtain⟨it,fp,tn,J,H2,e,I2,T,st2,f2,W,⟨m0,w0⟩,turn⟩:=h2;subst e;have stat:∀{H':Hp},(∀b∈fp,H' b=none)->∀b∈fp,FpOk X pins H' b:=λhn b hb=>⟨hn b hb,(f2 b hb).2⟩
 refine codeAny_forLoop_any (λn s'=>∃i σ' H',Inv X pins σ' H' s'/\tn i s'.heap/\(∀b∈fp,H' b=none)/\W i n σ' H') ?_ m0 ⟨0,σ,H2,I2,st2,λb hb=>(f2 b hb).1,w0⟩;rintro n s3 ⟨i,σ3,H3,I3,st3,fr3,w3⟩;rcases turn i n σ3 H3 w3 with ⟨stop,qn⟩ | ⟨go,N,hN,step⟩
 .refine j9 hp (thn (T.done X rfl rfl rfl hc i pins s3 σ3 H3 X.xe I3 (stat fr3) st3 stop) λr s4 ⟨hr,I4⟩=>?_)
  subst hr;exact vQ ⟨σ3,H3,I4,qn⟩
 .refine j9 hp (thn (T.item X rfl rfl rfl hc i pins s3 σ3 H3 X.xe I3 (stat fr3) st3 go) λr s4 ⟨u,hr,h4⟩=>?_)
  subst hr;refine j9 hp (thn h4 λ_ s5 ⟨x,H5,I5,r5,y5,st5,fr5⟩=>?_);have I5':=I5.pinned (stat fr5) (T.obj _ _ st5);refine j9 hp (thn (hg _ s5 σ3 H5 x u _ I5' r5 (step x H5 y5)) λ_ s6 ⟨σ6,H6,I6,q6⟩=>?_);refine j9 hp (thn (hb _ s6 σ6 H6 _ I6 q6) λf s7 q7=>?_);have again:∀{σ7:St} {H7:Hp},Inv X (pins++zba fp s5.heap) σ7 H7 s7->N σ7 H7->∃m,m<n/\∃i σ' H',Inv X pins σ' H' s7/\tn i s7.heap/\(∀b∈fp,H' b=none)/\W i m σ' H':=λ{σ7 H7} I7 n7=>by
   obtain⟨m',hm,w7⟩:=hN σ7 H7 n7;refine⟨m',hm,i+1,σ7,H7,I7.unpinned,T.keep _ _ _ st5 λb hb o e=>(I7.pin (b,o) (kh _ (kh _ (zaf hb e)))).1,λb hb=>?_,w7⟩;obtain⟨o,e,d⟩:=T.obj _ _ st5 b hb;exact(I7.pin (b,o) (kh _ (kh _ (zaf hb e)))).2.1
  cases f with
  | next=>obtain⟨σ7,H7,I7,n7⟩:=q7; exact again I7 n7
  | cont=>obtain⟨σ7,H7,I7,n7⟩:=q7; exact again I7 n7
  | brk=>obtain⟨σ7,H7,I7,q7⟩:=q7; exact⟨σ7,H7,I7.unpinned,q7⟩
  | ret v=>obtain⟨x7,σ7,H7,I7,r7,q7⟩:=q7; exact⟨x7,σ7,H7,I7.unpinned,r7,q7⟩
end
end L2
namespace L2
open PySem PySem.Spec PyProof.Rows
abbrev R2:=V->V->Hp->VK->Prop
def OpR(X:Cx)(f:Value->Value->Sem Value)(r:R2):Prop:=
 ∀(pins:List (Addr×Obj)) (s:Shared) (σ:St) (H:Hp) (x y:V) (v u:Value) (Q:VK),Inv X pins σ H s->RelV x v->RelV y u->r x y H Q->
  wpAny (model X.prog X.w) X.A (f v u) (EP X pins σ Q) X.xe s
def UnR(X:Cx)(f:Value->Sem Value)(r:V->Hp->VK->Prop):Prop:=
 ∀(pins:List (Addr×Obj)) (s:Shared) (σ:St) (H:Hp) (x:V) (v:Value) (Q:VK),Inv X pins σ H s->RelV x v->r x H Q->
  wpAny (model X.prog X.w) X.A (f v) (EP X pins σ Q) X.xe s
def xN(X:Cx)(f:Value)(r:List V->Hp->VK->Prop):Prop:=
 ∀(pins:List (Addr×Obj)) (s:Shared) (σ:St) (H:Hp) (xs:List V) (us:List Value) (Q:VK),Inv X pins σ H s->Vals xs us->r xs H Q->
  wpAny (model X.prog X.w) X.A (call f us) (EP X pins σ Q) X.xe s
def tOp(r:R2)(ta tb:TE):TE:=λσ H Q=>ta σ H λx H1=>tb σ H1 λy H2=>r x y H2 Q
def tUn(r:V->Hp->VK->Prop)(ta:TE):TE:=λσ H Q=>ta σ H λx H1=>r x H1 Q
def rI(C:Int->Int->Prop)(g:Int->Int->V):R2:=λx y H Q=>∃i j,x=.int i/\y=.int j/\C i j/\Q (g i j) H
def rI0(g:Int->Int->V):R2:=λx y H Q=>∃i j,x=.int i/\y=.int j/\Q (g i j) H
def rU(g:Int->V):V->Hp->VK->Prop:=λx H Q=>∃i,x=.int i/\Q (g i) H
section
variable{X:Cx}{a b c:Expr}{ta tb tc:TE}{pos:Pos}
def binT(ha:PE X a ta)(hb:PE X b tb){pins:List (Addr×Obj)}{s:Shared}{σ:St}{H:Hp}{R:V->V->Hp->Prop}(I:Inv X pins σ H s)
  (h:ta σ H λx H1=>tb σ H1 λy H2=>R x y H2) {Q:Value->Shared->Prop} {f:Value->Value->Sem Value}
  (hf:∀v u s2 x y H2,Inv X pins σ H2 s2->RelV x v->RelV y u->R x y H2->wpAny (model X.prog X.w) X.A (f v u) Q X.xe s2) :
  wpAny (model X.prog X.w) X.A (eval a X.env) (λv s₁=>wpAny (model X.prog X.w) X.A (eval b X.env) (λu s₂=>wpAny (model X.prog X.w) X.A (f v u) Q X.xe s₂) X.xe s₁) X.xe s:=by
 refine thn (ha pins s σ H _ I h) λv s1 ⟨x,H1,I1,r1,q1⟩=>?_
 refine thn (hb pins s1 σ H1 _ I1 q1) λu s2 ⟨y,H2,I2,r2,q2⟩=>?_
 exact hf v u s2 x y H2 I2 r1 r2 q2
def zl9{op:Operator}{r:R2}(ho:OpR X (binaryOp op) r)(ha:PE X a ta)(hb:PE X b tb):PE X (.BinOp a op b pos) (tOp r ta tb):=by
 intro pins s σ H Q I h;exact wpAny_BinOp (binT ha hb I h λv u s2 x y H2 I2 rx ry q=>ho pins s2 σ H2 x y v u Q I2 rx ry q)
def zmg{op:UnaryOp}{r:V->Hp->VK->Prop}(ho:UnR X (unaryOp op) r)(ha:PE X a ta):PE X (.UnaryOp op a pos) (tUn r ta):=by
 intro pins s σ H Q I h;exact UnaryOp_ (thn (ha pins s σ H _ I h) λv s1 ⟨x,H1,I1,r1,q1⟩=>ho pins s1 σ H1 x v Q I1 r1 q1)
def opI{f:Value->Value->Sem Value}{C:Int->Int->Prop}{g:Int->Int->Int}
  (rule:∀(i j:Int) (t u:Tok) (s:Shared) (Q:Value->Shared->Prop) (E:Value->Shared->Prop),C i j->Q (.int (g i j) s.toks) { s with toks:=s.toks+1 }->wpAny (model X.prog X.w) X.A (f (.int i t) (.int j u)) Q E s) :
  OpR X f (rI C λi j=>.int (g i j)):=by
 intro pins s σ H x y v u Q I rx ry h;obtain⟨i,j,rfl,rfl,hc,q⟩:=h;obtain⟨t,rfl⟩:=rx;obtain⟨t',rfl⟩:=ry;exact rule i j t t' s _ _ hc ⟨.int (g i j),H,I.tok _,⟨_,rfl⟩,q⟩
def opI0{f:Value->Value->Sem Value}{g:Int->Int->Int}
  (rule:∀(i j:Int) (t u:Tok) (s:Shared) (Q:Value->Shared->Prop) (E:Value->Shared->Prop),Q (.int (g i j) s.toks) { s with toks:=s.toks+1 }->wpAny (model X.prog X.w) X.A (f (.int i t) (.int j u)) Q E s) :
  OpR X f (rI0 λi j=>.int (g i j)):=by
 intro pins s σ H x y v u Q I rx ry h;obtain⟨i,j,rfl,rfl,q⟩:=h;obtain⟨t,rfl⟩:=rx;obtain⟨t',rfl⟩:=ry;exact rule i j t t' s _ _ ⟨.int (g i j),H,I.tok _,⟨_,rfl⟩,q⟩
def opB0{f:Value->Value->Sem Value}{g:Int->Int->Bool}
  (rule:∀(i j:Int) (t u:Tok) (s:Shared) (Q:Value->Shared->Prop) (E:Value->Shared->Prop),Q (.bool (g i j)) s->wpAny (model X.prog X.w) X.A (f (.int i t) (.int j u)) Q E s) :
  OpR X f (rI0 λi j=>.bl (g i j)):=by
 intro pins s σ H x y v u Q I rx ry h;obtain⟨i,j,rfl,rfl,q⟩:=h;obtain⟨t,rfl⟩:=rx;obtain⟨t',rfl⟩:=ry;exact rule i j t t' s _ _ ⟨.bl (g i j),H,I,rfl,q⟩
def CDiv(i j:Int):Prop:=0<j/\j<1073741824
def CPow(i j:Int):Prop:=0<=j/\j<=1000000/\i.natAbs<2 ^ 64
def CMul(i j:Int):Prop:=(-(2 ^ 64)<i/\i<2 ^ 64)\/(-(2 ^ 64)<j/\j<2 ^ 64)
def CMul.ok{i j:Int}(h:CMul i j):IntMulOk i j:=by
 rcases h with ⟨h1,h2⟩ | ⟨h1,h2⟩
 .exact .of_left (intBits_le_64 h1 h2)
 .exact .of_right (intBits_le_64 h1 h2)
def zkj:OpR X (binaryOp .Add) (rI0 λi j=>.int (i+j)):=opI0 λ_ _ _ _ _ _ _ q=>add_int q
def zkF:OpR X (binaryOp .Sub) (rI0 λi j=>.int (i-j)):=opI0 λ_ _ _ _ _ _ _ q=>sub_int q
def zj9:OpR X (binaryOp .Mult) (rI CMul λi j=>.int (i*j)):=opI λ_ _ _ _ _ _ _ hc q=>mul_int q hc.ok
def zji:OpR X (binaryOp .FloorDiv) (rI CDiv λi j=>.int (i/j)):=opI λi j _ _ _ _ _ hc q=>by
 have h1:(0:Int)<j:=hc.1;have h2:j<1073741824:=hc.2;exact floordiv_int ∅ (by rw[Int.fdiv_eq_ediv_of_nonneg i ∅]; exact q) (.inl (PyProof.noPylong_small ∅))
def zlQ:OpR X (binaryOp .Mod) (rI (λ_ j=>0<j) λi j=>.int (i%j)):=opI λi j _ _ _ _ _ hc q=>by
 have h1:(0:Int)<j:=hc;exact mod_int' ∅ (by rw[Int.fmod_eq_emod_of_nonneg i ∅]; exact q)
def zkl:OpR X (binaryOp .Pow) (rI CPow λi j=>.int (i ^ j.toNat)):=opI λ_ _ _ _ _ _ _ hc q=>pow_int_small hc.1 hc.2.1 hc.2.2 q
def unI{f:Value->Sem Value}{g:Int->Int}
  (rule:∀(i:Int) (t:Tok) (s:Shared) (Q:Value->Shared->Prop) (E:Value->Shared->Prop),Q (.int (g i) s.toks) { s with toks:=s.toks+1 }->wpAny (model X.prog X.w) X.A (f (.int i t)) Q E s) :
  UnR X f (rU λi=>.int (g i)):=by
 intro pins s σ H x v Q I rx h;obtain⟨i,rfl,q⟩:=h;obtain⟨t,rfl⟩:=rx;exact rule i t s _ _ ⟨.int (g i),H,I.tok _,⟨_,rfl⟩,q⟩
def zkK:UnR X (unaryOp .USub) (rU λi=>.int (-i)):=unI λ_ _ _ _ _ q=>neg_int q
end
def scal:V->V->Bool
 | .non,.non=>true | .non,.int _=>true | .int _,.non=>true | .non,.bl _=>true | .bl _,.non=>true | .non,.str _=>true | .str _,.non=>true
 | .int _,.int _=>true | .bl _,.bl _=>true | .str _,.str _=>true | .byt _,.byt _=>true
 | .int _,.str _=>true | .str _,.int _=>true | .bl _,.str _=>true | .str _,.bl _=>true
 | _,_=>false
def rEq:R2:=λx y H Q=>scal x y=true/\Q (.bl (decide (x=y))) H
def rNe:R2:=λx y H Q=>scal x y=true/\Q (.bl (!decide (x=y))) H
def zbB{i j:Int}:decide (V.int i=V.int j)=(i==j):=by
 rw[qx];simp
def zcz{i j:Bool}:decide (V.bl i=V.bl j)=(i==j):=by
 rw[qx];simp
def zbu{i j:Str}:decide (V.str i=V.str j)=(i==j):=by
 rw[qx];simp
def ze2{i j:Array UInt8}:decide (V.byt i=V.byt j)=(i.toList==j.toList):=by
 rw[qx];cases i;cases j;simp
section
variable{X:Cx}{a b c:Expr}{ta tb tc:TE}{pos:Pos}
def yS{pins:List (Addr×Obj)}{σ:St}{H:Hp}{s:Shared}{Q:VK}{k k':Bool}(I:Inv X pins σ H s)(q:Q (.bl k) H)(e:k=k'):EP X pins σ Q (.bool k') s:=by
 subst e;exact⟨.bl k,H,I,rfl,q⟩
def ze3:OpR X (compareOp .Eq) rEq:=by
 intro pins s σ H x y v u Q I rx ry h;obtain⟨hs,q⟩:=h;cases x with
 | non=>
  cases rx;cases y with
  | non=>cases ry; exact PySem.EqNone.eq_none_none (yS I q (by simp))
  | bl j=>cases ry; exact PySem.EqNone.eq_none_bool (yS I q (by simp))
  | int j=>obtain⟨t',rfl⟩:=ry; exact PySem.EqNone.eq_none_int (yS I q (by simp))
  | str j=>obtain⟨t',rfl⟩:=ry; exact PySem.EqNone.eq_none_str (yS I q (by simp))
  | _=>exact absurd (show false=true from hs) zL
 | bl i=>
  cases rx;cases y with
  | non=>cases ry; exact PySem.EqNone.eq_bool_none (yS I q (by simp))
  | bl j=>cases ry; exact eq_bool (yS I q zcz)
  | str j=>obtain⟨t',rfl⟩:=ry; exact PySem.EqMixed.eq_bool_str (yS I q (by simp))
  | _=>exact absurd (show false=true from hs) zL
 | int i=>
  obtain⟨t,rfl⟩:=rx;cases y with
  | non=>cases ry; exact PySem.EqNone.eq_int_none (yS I q (by simp))
  | int j=>obtain⟨t',rfl⟩:=ry; exact eq_int (yS I q zbB)
  | str j=>obtain⟨t',rfl⟩:=ry; exact PySem.EqMixed.eq_int_str (yS I q (by simp))
  | _=>exact absurd (show false=true from hs) zL
 | str i=>
  obtain⟨t,rfl⟩:=rx;cases y with
  | non=>cases ry; exact PySem.EqNone.eq_str_none (yS I q (by simp))
  | bl j=>cases ry; exact PySem.EqMixed.eq_str_bool (yS I q (by simp))
  | int j=>obtain⟨t',rfl⟩:=ry; exact PySem.EqMixed.eq_str_int (yS I q (by simp))
  | str j=>obtain⟨t',rfl⟩:=ry; exact eq_str (yS I q zbu)
  | _=>exact absurd (show false=true from hs) zL
 | byt i=>
  obtain⟨t,rfl⟩:=rx;cases y with
  | byt j=>obtain⟨t',rfl⟩:=ry; exact PySem.W.eq_bytes (yS I q ze2)
  | _=>exact absurd (show false=true from hs) zL
 | _=>cases y<;>exact absurd (show false=true from hs) zL
def ze6:OpR X (compareOp .NotEq) rNe:=by
 intro pins s σ H x y v u Q I rx ry h;obtain⟨hs,q⟩:=h;cases x with
 | non=>
  cases rx;cases y with
  | non=>cases ry; exact PySem.EqNone.ne_none_none (yS I q (by simp))
  | bl j=>cases ry; exact PySem.EqNone.ne_none_bool (yS I q (by simp))
  | int j=>obtain⟨t',rfl⟩:=ry; exact PySem.EqNone.ne_none_int (yS I q (by simp))
  | str j=>obtain⟨t',rfl⟩:=ry; exact PySem.EqNone.ne_none_str (yS I q (by simp))
  | _=>exact absurd (show false=true from hs) zL
 | bl i=>
  cases rx;cases y with
  | non=>cases ry; exact PySem.EqNone.ne_bool_none (yS I q (by simp))
  | bl j=>cases ry; exact ne_bool (yS I q (ql not zcz))
  | str j=>obtain⟨t',rfl⟩:=ry; exact PySem.EqMixed.ne_bool_str (yS I q (by simp))
  | _=>exact absurd (show false=true from hs) zL
 | int i=>
  obtain⟨t,rfl⟩:=rx;cases y with
  | non=>cases ry; exact PySem.EqNone.ne_int_none (yS I q (by simp))
  | int j=>obtain⟨t',rfl⟩:=ry; exact ne_int (yS I q (ql not zbB))
  | str j=>obtain⟨t',rfl⟩:=ry; exact PySem.EqMixed.ne_int_str (yS I q (by simp))
  | _=>exact absurd (show false=true from hs) zL
 | str i=>
  obtain⟨t,rfl⟩:=rx;cases y with
  | non=>cases ry; exact PySem.EqNone.ne_str_none (yS I q (by simp))
  | bl j=>cases ry; exact PySem.EqMixed.ne_str_bool (yS I q (by simp))
  | int j=>obtain⟨t',rfl⟩:=ry; exact PySem.EqMixed.ne_str_int (yS I q (by simp))
  | str j=>obtain⟨t',rfl⟩:=ry; exact ne_str (yS I q (ql not zbu))
  | _=>exact absurd (show false=true from hs) zL
 | byt i=>
  obtain⟨t,rfl⟩:=rx;cases y with
  | byt j=>obtain⟨t',rfl⟩:=ry; exact PySem.W.ne_bytes (yS I q (ql not ze2))
  | _=>exact absurd (show false=true from hs) zL
 | _=>cases y<;>exact absurd (show false=true from hs) zL
def zmh:OpR X (compareOp .Lt) (rI0 λi j=>.bl (decide (i<j))):=opB0 λ_ _ _ _ _ _ _ q=>lt_int q
def zmo:OpR X (compareOp .LtE) (rI0 λi j=>.bl (decide (i<=j))):=opB0 λ_ _ _ _ _ _ _ q=>le_int q
def zlZ:OpR X (compareOp .Gt) (rI0 λi j=>.bl (decide (j<i))):=opB0 λ_ _ _ _ _ _ _ q=>gt_int q
def zmr:OpR X (compareOp .GtE) (rI0 λi j=>.bl (decide (j<=i))):=opB0 λ_ _ _ _ _ _ _ q=>ge_int q
def zhh:OpR X (compareOp .In) (λx y H Q=>∃i j,x=.str i/\y=.str j/\Q (.bl (!(Builtin.Str.occurrences j i 0 j.length 1).isEmpty)) H):=by
 intro pins s σ H x y v u Q I rx ry h;obtain⟨i,j,rfl,rfl,q⟩:=h;obtain⟨t,rfl⟩:=rx;obtain⟨t',rfl⟩:=ry;exact in_str (yS I q rfl)
def zlm:OpR X (compareOp .Is) (λx y H Q=>y=.non/\Q (.bl (decide (x=.non))) H):=by
 intro pins s σ H x y v u Q I rx ry h;obtain⟨rfl,q⟩:=h;cases ry;refine is_none_gen (yS I q ?_);cases x<;>first
  | (cases rx; rfl)
  | (obtain⟨t,rfl⟩:=rx; rfl)
def zjD:OpR X (compareOp .IsNot) (λx y H Q=>y=.non/\Q (.bl (!decide (x=.non))) H):=by
 intro pins s σ H x y v u Q I rx ry h;obtain⟨rfl,q⟩:=h;cases ry;refine isnot_none_gen (yS I q ?_);cases x<;>first
  | (cases rx; rfl)
  | (obtain⟨t,rfl⟩:=rx; rfl)
def zeg:OpR X (compareOp .NotIn) (λx y H Q=>∃i j,x=.str i/\y=.str j/\Q (.bl (!(!(Builtin.Str.occurrences j i 0 j.length 1).isEmpty))) H):=by
 intro pins s σ H x y v u Q I rx ry h;obtain⟨i,j,rfl,rfl,q⟩:=h;obtain⟨t,rfl⟩:=rx;obtain⟨t',rfl⟩:=ry;exact notIn_str (yS I q rfl)
def zeD{op:CmpOp}{r:R2}(ho:OpR X (compareOp op) r)(ha:PE X a ta)(hb:PE X b tb)(hm:behindInMarks op b=false):PE X (.Compare a [op] [b] pos) (tOp r ta tb):=by
 intro pins s σ H Q I h;exact wpAny_Compare1 (binT ha hb I h λv u s2 x y H2 I2 rx ry q=>ho pins s2 σ H2 x y v u Q I2 rx ry q) hm
def ziq(t:TE):TT:=λσ H Q=>t σ H λx H'=>∃k,x=.bl k/\Q k H'
def zeB{op:CmpOp}{r:R2}(ho:OpR X (compareOp op) r)(ha:PE X a ta)(hb:PE X b tb)(hm:behindInMarks op b=false):PT X (.Compare a [op] [b] pos) (ziq (tOp r ta tb)):=by
 intro pins s σ H Q I h
 refine wpAny_isTrue_Compare1 (thn (ha pins s σ H _ I h) λv s1 ⟨x,H1,I1,r1,q1⟩=>thn (hb pins s1 σ H1 _ I1 q1) λu s2 ⟨y,H2,I2,r2,q2⟩=>
  thn (ho pins s2 σ H2 x y v u _ I2 r1 r2 q2) λc s3 ⟨z,H3,I3,r3,k,e,q3⟩=>?_) hm
 subst e;cases r3;exact jA ⟨H3,I3,q3⟩
def zeo(r r':R2)(ta tb tc:TE):TE:=λσ H Q=>ta σ H λx H1=>tb σ H1 λy H2=>r x y H2 λz H3=>∃k,z=.bl k /\
 (if k=true then tc σ H3 λw' H4=>r' y w' H4 Q else Q (.bl false) H3)
def zhw{op op':CmpOp}{r r':R2}(ho:OpR X (compareOp op) r)(ho':OpR X (compareOp op') r')(ha:PE X a ta)(hb:PE X b tb)(hc:PE X c tc)
  (hm:lastMarks [op,op'] [b,c]=false:=by with_unfolding_all rfl):PE X (.Compare a [op,op'] [b,c] pos) (zeo r r' ta tb tc):=by
 intro pins s σ H Q I h
 refine Compare_chain (thn (ha pins s σ H _ I h) λv s1 ⟨x,H1,I1,r1,q1⟩=>chain_link (thn (hb pins s1 σ H1 _ I1 q1) λu s2 ⟨y,H2,I2,r2,q2⟩=>
  thn (ho pins s2 σ H2 x y v u _ I2 r1 r2 q2) λd s3 ⟨z,H3,I3,r3,k,e,q3⟩=>?_)) hm
 subst e;cases r3;refine jA ?_;cases k with
 | false=>exact ite_ff ⟨.bl false,H3,I3,rfl,q3⟩
 | true=>exact ite_tt (chain_last (thn (hc pins s3 σ H3 _ I3 q3) λw' s4 ⟨z',H4,I4,r4,q4⟩=>ho' pins s4 σ H4 y z' u w' Q I4 r2 r4 q4))
def zhC{op op':CmpOp}{r r':R2}(ho:OpR X (compareOp op) r)(ho':OpR X (compareOp op') r')(ha:PE X a ta)(hb:PE X b tb)(hc:PE X c tc)
  (hm:lastMarks [op,op'] [b,c]=false:=by with_unfolding_all rfl):PT X (.Compare a [op,op'] [b,c] pos) (ziq (zeo r r' ta tb tc)):=by
 intro pins s σ H Q I h
 refine isTrue_chain (thn (ha pins s σ H _ I h) λv s1 ⟨x,H1,I1,r1,q1⟩=>test_link (thn (hb pins s1 σ H1 _ I1 q1) λu s2 ⟨y,H2,I2,r2,q2⟩=>
  thn (ho pins s2 σ H2 x y v u _ I2 r1 r2 q2) λd s3 ⟨z,H3,I3,r3,k,e,q3⟩=>?_)) hm
 subst e;cases r3;refine jA ?_;cases k with
 | false=>
  obtain⟨k',e',q'⟩:=q3;cases e';exact ite_ff ⟨H3,I3,q'⟩
 | true=>
  refine ite_tt (test_last (thn (hc pins s3 σ H3 _ I3 q3) λw' s4 ⟨z',H4,I4,r4,q4⟩=>thn (ho' pins s4 σ H4 y z' u w' _ I4 r2 r4 q4) λd' s5 ⟨z2,H5,I5,r5,k2,e2,q5⟩=>?_));subst e2;cases r5;exact jA ⟨H5,I5,q5⟩
def zaP:(sizeLine:Nat)<2 ^ 63:=by rw[qK]; decide
def zff:OpR X (binaryOp .Add) (λx y H Q=>∃i j,x=.str i/\y=.str j/\i.length+j.length<=sizeLine/\Q (.str (i++j)) H):=by
 intro pins s σ H x y v u Q I rx ry h;obtain⟨i,j,rfl,rfl,hz,q⟩:=h;obtain⟨t,rfl⟩:=rx;obtain⟨t',rfl⟩:=ry;exact add_str (λt' tk=>⟨.str (i++j),H,I.tok _,⟨_,rfl⟩,q⟩) hz
def vals1{x:V}{us:List Value}(r:Vals [x] us):∃u,us=[u]/\RelV x u:=by
 cases r with
 | cons r1 r2=>cases r2; exact⟨_,rfl,r1⟩
def vals2{x y:V}{us:List Value}(r:Vals [x,y] us):∃u w',us=[u,w']/\RelV x u/\RelV y w':=by
 cases r with
 | cons r1 r2=>
  cases r2 with
  | cons r3 r4=>cases r4; exact⟨_,_,rfl,r1,r3⟩
def zc0:xN X (.type "int") (λxs H Q=>(∃i,xs=[.int i]/\Q (.int i) H)\/∃k,xs=[.bl k]/\Q (.int (if k then 1 else 0)) H):=by
 intro pins s σ H xs us Q I r h;rcases h with ⟨i,rfl,q⟩ | ⟨k,rfl,q⟩
 .obtain⟨u,rfl,t,rfl⟩:=vals1 r
  exact call_int_int ⟨.int i,H,I,⟨_,rfl⟩,q⟩
 .obtain⟨u,rfl,r1⟩:=vals1 r
  cases r1;exact call_int_bool ⟨.int (if k then 1 else 0),H,I.tok _,⟨_,rfl⟩,q⟩
def zel:xN X (.type "str") (λxs H Q=>∃i,xs=[.int i]/\i.natAbs.log2<1920/\Q (.str (toString i)) H):=by
 intro pins s σ H xs us Q I r h;obtain⟨i,rfl,hz,q⟩:=h;obtain⟨u,rfl,t,rfl⟩:=vals1 r;exact PySem.P.str_of_int hz ⟨.str _,H,I.tok _,⟨_,rfl⟩,q⟩
end
end L2
namespace L2
open PySem PySem.Spec PyProof.Rows
structure ObjM(h:Heap)(x dx C:Addr)(mA:Str->Option Value):Prop where
 obj:h.get? x=some (PySem.W.instObj C dx)
 ns:h.Ns1 dx mA
 ne:dx≠x
def zgs{h:Heap}{dx:Addr}{mA:Str->Option Value}(n:h.Ns1 dx mA):∃od,h.get? dx=some od/\∀name,PySem.W.lookIn name od=some (mA name):=by
 obtain⟨o,es,ep,ho,hd,hk,_,hm⟩:=n;refine⟨o,ho,λname=>?_⟩;have e:=hm name;unfold nsFind findBy at e;rw[<-qY] at e;unfold PySem.W.lookIn;rw[hd];dsimp only;split
 .rename_i y q
  rw[q] at e;exact ql some e
 .rename_i q
  rw[q] at e;have a:es.toList.any (·.refKey)=false:=by
   rw[List.any_eq_false];intro y hy;obtain⟨z,t,hkey⟩:=hk y (Array.mem_toList_iff.mp hy);simp[DictEntry.refKey,hkey]
  have a':¬es.toList.any (·.refKey)=true:=by rw[a]; exact zL
  rw[kO a'];exact ql some e
def ObjM.look{h:Heap}{x dx C:Addr}{mA:Str->Option Value}(I:ObjM h x dx C mA):∃od,PySem.W.InstAt h x (PySem.W.instObj C dx) C (some od)/\∀name,PySem.W.lookIn name od=some (mA name):=
 let ⟨od,ho,hl⟩:=zgs I.ns
 ⟨od,⟨I.obj,rfl,rfl,ho⟩,hl⟩
section
variable{P:Program}{w:World}{H H':Hp}{h h':Heap}{a C dx:Addr}{fs fs':List (Str×V)}
def zjR(hok:HOk P w H h)(e:H a=some (.ins C dx fs)):∃mA,ObjM h a dx C mA/\(∀f,RelO (fs.lookup f) (mA f))/\PySem.Within mA (fs.map (·.1))/\fs.length<=1000/\H dx=some (.own a):=by
 obtain⟨d,z,ne,ob,mA,n,r,q⟩:=(show ObjOk P w H h a (.ins C dx fs) from hok a _ e);exact⟨mA,⟨ob,n,ne⟩,r,q,z,d⟩
end
structure Cls(K:PySem.W.Frag)(C:Addr):Prop where
 pg:PySem.W.plainGet K C Str.empty=true
 hd:PySem.W.hasDictIn K C=true
 po:PySem.W.plainOver K C=true
 sa:PySem.W.findIn K (.ref C) "__setattr__" = some (some (.builtin "object.__setattr__"))
def Cls.get{K:PySem.W.Frag}{C:Addr}(c:Cls K C)(f:Str):PySem.W.plainGet K C f=true:=c.pg
section
variable{X:Cx}{pins:List (Addr×Obj)}{σ:St}{H:Hp}{s:Shared}{A:Around}{E:Value->Shared->Prop}{Q:Value->Shared->Prop}{c:Value}{b:Bool}
inductive TyOf(K:PySem.W.Frag)(H:Hp):V->Value->Prop where
 | non:TyOf K H .non (.type "NoneType")
 | bl (x:Bool):TyOf K H (.bl x) (.type "bool")
 | int (i:Int):TyOf K H (.int i) (.type "int")
 | str (x:Str):TyOf K H (.str x) (.type "str")
 | flt (x:UInt64):TyOf K H (.flt x) (.type "float")
 | lst {a:Addr} {xs:List V} (e:H a=some (.lst xs)):TyOf K H (.ref a) (.type "list")
 | frz {a:Addr} {o:Obj} {xs:List V} (e:H a=some (.frz o (.lst xs))):TyOf K H (.ref a) (.type "list")
 | tup {a:Addr} {xs:List V} (e:H a=some (.tup xs)):TyOf K H (.ref a) (.type "tuple")
 | dK {a:Addr} {kvs:List (Key×V)} (e:H a=some (.dK kvs)):TyOf K H (.ref a) (.type "dict")
 | dT {a:Addr} {kvs:List (List Key×V)} (e:H a=some (.dT kvs)):TyOf K H (.ref a) (.type "dict")
 | ins {a C dx:Addr} {fs:List (Str×V)} (e:H a=some (.ins C dx fs)) (cl:Cls K C) (ha:PySem.W.findIn K (.ref C) "__class__" = some (some (.builtin "object.__class__")))
   (hn:PySem.W.specialIn K (.builtin "object.__class__") "__get__" = some (some (.builtin "getset_descriptor.__get__"))) (htk:PySem.W.takesIn K (.builtin "object.__class__")=some true)
   (hm:PySem.W.mroIn K C (.type "object")=some true):TyOf K H (.ref a) (.ref C)
def zg6{x:V}{u t:Value}(I:Inv X pins σ H s)(rx:RelV x u)(ty:TyOf X.K H x t)(e:PySem.W.kitOne X.K t c=some b)(h:∀tk,Q (.bool b) { s with toks:=tk }) :
  wpAny (model X.prog X.w) A (call (.builtin "isinstance") [u,c]) Q E s:=by
 cases ty with
 | non=>cases (show u=Value.none from rx); exact zZ PySem.W.kitx_none I.kIn True.intro e (λz=>nomatch z) h
 | bl y=>cases (show u=Value.bool y from rx); exact zZ PySem.W.kitx_bool I.kIn True.intro e (λz=>nomatch z) h
 | int i=>obtain⟨t,q⟩:=(show ∃t,u=Value.int i t from rx); cases q; exact zZ PySem.W.kitx_int I.kIn True.intro e (λz=>nomatch z) h
 | str y=>obtain⟨t,q⟩:=(show ∃t,u=Value.str y t from rx); cases q; exact zZ PySem.W.kitx_str I.kIn True.intro e (λz=>nomatch z) h
 | flt y=>obtain⟨t,q⟩:=(show ∃t,u=Value.float y t from rx); cases q; exact zZ PySem.W.kitx_float I.kIn True.intro e (λz=>nomatch z) h
 | @lst a xs ea=>
  cases (show u=Value.ref a from rx);obtain⟨_,_,n,_,h1⟩:=(show ObjOk X.prog X.w H s.heap a (.lst xs) from I.hok a _ ea);exact zZ vd I.kIn ⟨_,h1,rfl⟩ e (λz=>nomatch z) h
 | @frz a ob xs ea=>
  cases (show u=Value.ref a from rx);obtain⟨_,_,_,n,_,h1⟩:=(show ObjOk X.prog X.w H s.heap a (.frz ob (.lst xs)) from I.hok a _ ea);exact zZ vd I.kIn ⟨_,h1,rfl⟩ e (λz=>nomatch z) h
 | @tup a xs ea=>
  cases (show u=Value.ref a from rx);obtain⟨_,_,_,p,_⟩:=(show ObjOk X.prog X.w H s.heap a (.tup xs) from I.hok a _ ea);obtain⟨o,h1,h2,_⟩:=p;exact zZ yG I.kIn ⟨o,h1,h2⟩ e (λz=>nomatch z) h
 | @dK a kvs ea=>
  cases (show u=Value.ref a from rx);obtain⟨_,_,vs,_,p⟩:=(show ObjOk X.prog X.w H s.heap a (.dK kvs) from I.hok a _ ea);obtain⟨o,es,ep,h1,h2,_⟩:=p;exact zZ v6 I.kIn ⟨o,h1,h2.1⟩ e (λz=>nomatch z) h
 | @dT a kvs ea=>
  cases (show u=Value.ref a from rx);obtain⟨_,_,xs,_,o,es,ep,h1,h2,_⟩:=(show ObjOk X.prog X.w H s.heap a (.dT kvs) from I.hok a _ ea);exact zZ v6 I.kIn ⟨o,h1,h2.1⟩ e (λz=>nomatch z) h
 | @ins a C dx fs ea cl ha hn htk hm=>
  cases (show u=Value.ref a from rx);obtain⟨mA,O,_⟩:=zjR I.hok ea;obtain⟨od,J,_⟩:=O.look;exact zZ (PySem.W.kitx_own (cl.get _) cl.hd ha hn htk hm) I.kIn J e (λz=>nomatch z) h
end
end L2
namespace L2
open PySem PySem.Spec PyProof.Rows
structure Room(k:Nat)(A:Around):Prop where
 hd:A.handled=none
 dp:A.depth+3*k+5<recursionLimit
 un:A.units+16*k+200<cLine
theorem Room.deeper{k:Nat}{A:Around}(r:Room (k+1) A)(env:Env):Room k (A.deeper env):=
 ⟨r.hd,by have:=r.dp; show A.depth+1+3*k+5<_; omega,by have:=r.un; show A.units+3+16*k+200<_; omega⟩
theorem Room.depth{k:Nat}{A:Around}(r:Room k A):A.depth<recursionLimit:=by have:=r.dp; omega
theorem Room.units{k:Nat}{A:Around}(r:Room k A):A.units+64<cLine:=by have:=r.un; omega
def tNil:TA:=λ_ H Q=>Q [] H
def zmx(ta:TE)(tr:TA):TA:=λσ H Q=>ta σ H λx H1=>tr σ H1 λxs H2=>Q (x::xs) H2
section
variable{X:Cx}{e:Expr}{es:List Expr}{te:TE}{t:TA}{pos:Pos}
def zf4:PA X [] tNil:=λ_ _ _ _ H Q I h=>vL ⟨[],H,I,.nil,h⟩
def zcN(ha:PE X e te)(hr:PA X es t)(hs:starEach (e::es) X.env=(false,eval e X.env)::starEach es X.env:=by rfl):PA X (e::es) (zmx te t):=by
 intro pos pins s σ H Q I h;rw[hs];show wpAny _ _ (spliced ((false,eval e X.env)::backTo pos (starEach es X.env))) _ _ s
 refine qD (thn (ha pins s σ H _ I h) λu s1 ⟨x,H1,I1,r1,q1⟩=>?_);exact thn (hr pos pins s1 σ H1 _ I1 q1) λus s2 ⟨xs,H2,I2,r2,q2⟩=>⟨x::xs,H2,I2,.cons r1 r2,q2⟩
def tTup(t:TA):TE:=λσ H Q=>t σ H λxs H1=>xs.length<=sizeLine/\∀p,H1 p=none->Q (.ref p) (upd H1 p (.tup xs))
def tLst(t:TA):TE:=λσ H Q=>t σ H λxs H1=>xs.length<=sizeLine/\∀p,H1 p=none->Q (.ref p) (upd H1 p (.lst xs))
def zli{x1}(h:PA X es t):PE X (.Tuple es x1 pos) (tTup t):=by
 intro pins s σ H Q I hq;refine wpAny_Tuple_spliced (thn (h pos pins s σ H _ I hq) λus s1 ⟨xs,H1,I1,r,z,q⟩=>⟨by rw[<-r.length]; exact z,?_⟩);have hf:H1 s1.heap.objs.size=none:=I1.hok.fresh (zF _);refine⟨.ref s1.heap.objs.size,upd H1 s1.heap.objs.size (.tup xs),I1.laid (t':=s1.toks) (λb u e=>zb _ e) (zF _) ?_,rfl,q _ hf⟩;exact⟨z,us,r,⟨_,zH _ rfl,rfl,_,rfl⟩,.new _ _⟩
def zgR(h:PA X es t):PE X (.List es pos) (tLst t):=by
 intro pins s σ H Q I hq;refine wpAny_List_spliced (thn (h pos pins s σ H _ I hq) λus s1 ⟨xs,H1,I1,r,z,q⟩=>⟨by rw[<-r.length]; exact z,?_⟩);have hf:H1 s1.heap.objs.size=none:=I1.hok.fresh (zF _);refine⟨.ref s1.heap.objs.size,upd H1 s1.heap.objs.size (.lst xs),I1.laid (t':=s1.toks) (λb u e=>zb _ e) (zF _) ?_,rfl,q _ hf⟩;exact⟨z,us,0,r,zH _ rfl⟩
end
abbrev Sp:=List V->Hp->VK->XK->Prop
abbrev CXT:=List Env->Hp->Shared->XK->Value->Shared->Prop
structure Env0(P:Program)(w:World)(K:PySem.W.Frag)(mg:Str->Option Value)(base:Heap)(A:Around)(outer:List Env)(s:Shared)(H:Hp):Prop where
 frames:A.frames=some outer
 mod:Mod K mg base
 bs:∀b o,base.get? b=some o->s.heap.get? b=some o/\H b=none
 bsz:base.objs.size<=s.heap.objs.size
 funs:s.heap.FunFrames base outer
 frf:∀b∈frs outer,H b=none
 hok:HOk P w H s.heap
 bare:AllBare s.gens
def CE(outer:List Env)(P:Program)(w:World)(H:Hp)(s:Shared)(Q:VK)(u:Value)(s':Shared):Prop:=
 ∃v H',s'.os=s.os/\AllBare s'.gens/\Un (frs outer) [] H H' s.heap s'.heap/\HOk P w H' s'.heap/\RelV v u/\Q v H'
def CR(CX:CXT)(outer:List Env)(P:Program)(w:World)(H:Hp)(s:Shared)(Q:VK)(E:XK)(r:Result)(s':Shared):Prop:=
 match r with
 | .ok (.ret u)=>CE outer P w H s Q u s'
 | .ok _=>False
 | .error e=>CX outer H s E e s'
structure FnOk(P:Program)(w:World)(K:PySem.W.Frag)(mg:Str->Option Value)(base:Heap)(CX:CXT)(k:Nat)(f:Addr)(fd:FuncData)(ps:List Str)(sp:Sp):Prop where
 len:∀vs H Q E,sp vs H Q E->vs.length=ps.length
 run:∀(A:Around) (outer:List Env) (s:Shared) (H:Hp) (args:Args) (us:List Value) (vs:List V) (Q:VK) (E:XK),Room k A->Env0 P w K mg base A outer s H->BindsTo s fd args (ps.zip us)->Vals vs us->sp vs H Q E->
  codeAny (model P w) A (.call (.ref f) args) (CR CX outer P w H s Q E) s
def FnOk.imp{P:Program}{w:World}{K:PySem.W.Frag}{mg:Str->Option Value}{base:Heap}{CX:CXT}{k:Nat}{f:Addr}{fd:FuncData}{ps:List Str}{sp sp':Sp}(F:FnOk P w K mg base CX k f fd ps sp)
  (h:∀vs H Q E,sp' vs H Q E->sp vs H Q E):FnOk P w K mg base CX k f fd ps sp':=
 ⟨λvs H Q E q=>F.len vs H Q E (h _ _ _ _ q),λA outer s H args us vs Q E hr he hb hv hs=>F.run A outer s H args us vs Q E hr he hb hv (h _ _ _ _ hs)⟩
section
variable{X:Cx}{pins:List (Addr×Obj)}{σ:St}{H:Hp}{s s':Shared}
def Inv.env0(I:Inv X pins σ H s):Env0 X.prog X.w X.K X.mg X.base X.A X.stack s H:=
 ⟨I.ok.frames,I.ok.mod,I.bs,zG I.ok.bsz I.sz,I.stack,I.stkFree,I.hok,I.bare⟩
def Inv.after{Q:VK}{u:Value}(I:Inv X pins σ H s)(h:CE X.stack X.prog X.w H s Q u s'):EP X pins σ Q u s':=by
 obtain⟨v,H',os,bare,un,hok,r,q⟩:=h;obtain⟨hh,g,d,t,os'⟩:=s';obtain rfl:os'=s.os:=os;exact⟨v,H',I.call (h':=hh) (g':=g) (d':=d) (t':=t) (ch:=[]) un hok bare (λb z=>absurd z (by simp)),r,q⟩
end
def ziJ(sp:Sp)(dvs:List V)(E:XK)(t:TA):TE:=λσ H Q=>t σ H λvs H1=>sp (vs++dvs) H1 Q E
def Binds(K:PySem.W.Frag)(fd:FuncData)(ps:List Str)(ds:List Value):Prop:=
 ∀(s:Shared) (us:List Value),K.In s.heap->(us++ds).length=ps.length->BindsTo s fd ⟨us,[]⟩ (ps.zip (us++ds))
def Binds.all{K:PySem.W.Frag}{fd:FuncData}{ps:List Str}(h:∀us:List Value,us.length=ps.length->bindArgs fd ⟨us,[]⟩=pure (ps.zip us)):Binds K fd ps []:=λs us _ hl=>by
 rw[jJ] at hl ⊢;exact .of_eq (h us hl)
def zcd(CX:CXT)(X:Cx)(E:XK):Prop:=∀(pins:List (Addr×Obj)) (σ:St) (H:Hp) (s:Shared) (e:Value) (s':Shared),Inv X pins σ H s->CX X.stack H s E e s'->X.xe e s'
section
variable{X:Cx}{CX:CXT}{k:Nat}{f C:Addr}{fd:FuncData}{ps:List Str}{sp:Sp}{dvs:List V}{ds:List Value}{E:XK}{x m:Str}{p pos apos:Pos}{e o:Expr}{es:List Expr}{ta:TE}{t:TA}
def zgo{pins:List (Addr×Obj)}{σ:St}{H:Hp}{s:Shared}{Q:VK}{us:List Value}{vs:List V}(F:FnOk X.prog X.w X.K X.mg X.base CX k f fd ps sp)(hr:Room k X.A)(hb:Binds X.K fd ps ds)(hd:Vals dvs ds)(hx:zcd CX X E)
  (I:Inv X pins σ H s) (r:Vals vs us) (h:sp (vs++dvs) H Q E):wpAny (model X.prog X.w) X.A (call (.ref f) us) (EP X pins σ Q) X.xe s:=by
 have r2:Vals (vs++dvs) (us++ds):=r.append hd;have hl:(us++ds).length=ps.length:=by rw[<-r2.length]; exact F.len _ _ _ _ h
 refine wpAny_call (codeAny_mono (F.run X.A X.stack s H ⟨us,[]⟩ (us++ds) (vs++dvs) Q E hr I.env0 (hb s us I.kIn hl) r2 h) λr s' hq=>?_);cases r with
 | error e=>exact hx pins σ H s e s' I hq
 | ok fl=>
  cases fl with
  | ret u=>exact I.after hq
  | next=>exact False.elim hq
  | brk=>exact False.elim hq
  | cont=>exact False.elim hq
def zjy(F:FnOk X.prog X.w X.K X.mg X.base CX k f fd ps sp)(hr:Room k X.A)(hg:Gl X x)(hm:X.mg x=some (.ref f))(hk:PySem.W.keepIn X.K (.ref f)=true)(hb:Binds X.K fd ps ds)(hd:Vals dvs ds)(hx:zcd CX X E)
  (ha:PA X (e::es) t) (hdb:(x==("__debug__":Str))=false:=by decide) (he:starEach (e::es) X.env=(false,eval e X.env)::starEach es X.env:=by rfl) (hpl:(backTo pos (starEach es X.env)).any (·.1)=false:=by rfl) :
  PE X (.Call (.Name x p) (e::es) [] pos) (ziJ sp dvs E t):=by
 intro pins s σ H Q I h;refine jE (zcH I hg hm ?_ hdb);refine PySem.W.callWith_K (h₀:=X.base) I.ok.mod.kin hk (thn (ha pos pins s σ H _ I h) λus s1 ⟨vs,H1,I1,r,q⟩=>⟨I1.kIn,?_⟩) he hpl;exact zgo F hr hb hd hx I1 r q
def zhp(F:FnOk X.prog X.w X.K X.mg X.base CX k f fd ps sp)(hr:Room k X.A)(hg:Gl X x)(hm:X.mg x=some (.ref f))(hk:PySem.W.keepIn X.K (.ref f)=true)(hb:Binds X.K fd ps ds)(hd:Vals dvs ds)(hx:zcd CX X E)
  (hdb:(x==("__debug__":Str))=false:=by decide):PE X (.Call (.Name x p) [] [] pos) (ziJ sp dvs E tNil):=by
 intro pins s σ H Q I h;refine jE (zcH I hg hm ?_ hdb);exact PySem.W.callWith_K0 I.kIn hk (zgo (us:=[]) F hr hb hd hx I .nil h)
end
section
variable{X:Cx}{CX:CXT}{k:Nat}{f C:Addr}{fd:FuncData}{ps ks:List Str}{sp:Sp}{E:XK}{x m:Str}{p pos apos kpos:Pos}{e o:Expr}{es:List Expr}{kws:List Keyword}{te ta:TE}{t tk:TA}{nm:Option Str}
variable{g:List Value->List Value->List Value}{gV:List V->List V->List V}
end
structure FnScope(N P:List Str)(sc:Scope):Prop where
 kind:sc.kind=.function
 co:sc.isCoroutine=false
 gen:sc.isGenerator=false
 nd:N.Nodup
 pre:N.take P.length=P
 par:∀x∈P,sc.names.lookup x=some .local\/sc.names.lookup x=some .cell
 nofree:∀y∈sc.names,y.2≠.free
theorem zcX{kindOf:Str->Option NameKind}{x:Str}:∀{binds:List (Str×Value)} {m:Str->Option Value},(∀v,(x,v)∉binds)->bindL kindOf binds m x=m x
 | [],_,_=>rfl
 | (n,v)::r,m,h=>by
  unfold bindL;rw[zcX λw hw=>h w (zq _ hw)];split
  .have:x≠n:=by rintro rfl; exact h v zx
   simp[this]
  .rfl
theorem zdg{kindOf:Str->Option NameKind}{x:Str}:∀{binds:List (Str×Value)} {m:Str->Option Value},(∀v,(x,v)∉binds)->bindC kindOf binds m x=m x
 | [],_,_=>rfl
 | (n,v)::r,m,h=>by
  unfold bindC;rw[zdg λw hw=>h w (zq _ hw)];split
  .rfl
  .have:x≠n:=by rintro rfl; exact h v zx
   simp[this]
theorem zc8{kindOf:Str->Option NameKind}{x:Str}{v:Value}:∀{P:List Str} {vs:List Value} {i:Nat} {m:Str->Option Value},P.Nodup->P[i]?=some x->vs[i]?=some v->kindOf x=some .local->
  bindL kindOf (P.zip vs) m x=some v
 | [],_,_,_,_,h,_,_=>by simp at h
 | _::_,[],_,_,_,_,h,_=>by simp at h
 | p::P,w::vs,0,m,nd,h1,h2,hk=>by
  simp at h1 h2; subst h1; subst h2;show bindL kindOf ((p,w)::P.zip vs) m p=_
  unfold bindL;rw[zcX λv hv=>(jj.mp nd).1 (vG hv).1,zW hk];simp
 | p::P,w::vs,i+1,m,nd,h1,h2,hk=>by
  show bindL kindOf ((p,w)::P.zip vs) m x=_
  unfold bindL;exact zc8 (i:=i) (jj.mp nd).2 (by simpa using h1) (by simpa using h2) hk
theorem zc6{kindOf:Str->Option NameKind}{x:Str}{v:Value}:∀{P:List Str} {vs:List Value} {i:Nat} {m:Str->Option Value},P.Nodup->P[i]?=some x->vs[i]?=some v->kindOf x≠some .local->
  bindC kindOf (P.zip vs) m x=some v
 | [],_,_,_,_,h,_,_=>by simp at h
 | _::_,[],_,_,_,_,h,_=>by simp at h
 | p::P,w::vs,0,m,nd,h1,h2,hk=>by
  simp at h1 h2; subst h1; subst h2;show bindC kindOf ((p,w)::P.zip vs) m p=_
  unfold bindC;rw[zdg λv hv=>(jj.mp nd).1 (vG hv).1,kO hk];simp
 | p::P,w::vs,i+1,m,nd,h1,h2,hk=>by
  show bindC kindOf ((p,w)::P.zip vs) m x=_
  unfold bindC;exact zc6 (i:=i) (jj.mp nd).2 (by simpa using h1) (by simpa using h2) hk
def start(N:List Str)(vs:List V):St:=vs.map some++List.replicate (N.length-vs.length) none
def cxOf(CX:CXT)(P:Program)(w:World)(K:PySem.W.Frag)(mg:Str->Option Value)(base:Heap)(N:List Str)(qual:Str)(scope:Scope)(f:Addr)(cd:Value)(A:Around)(outer:List Env)(s:Shared)(H:Hp)(E:XK):Cx where
 prog:=P
 w:=w
 K:=K
 mg:=mg
 base:=base
 A:=A.deeper (envOfC qual scope s.heap.objs.size f cd)
 N:=N
 s₀:=s
 H₀:=H
 env:=envOfC qual scope s.heap.objs.size f cd
 outer:=outer
 stack:=envOfC qual scope s.heap.objs.size f cd::outer
 ex:=[]
 calm:=true
 fn:=λ_=>true
 pn:=[]
 xe:=λe s'=>wpAny (model P w) (A.deeper (envOfC qual scope s.heap.objs.size f cd)) (leaving (envOfC qual scope s.heap.objs.size f cd) e) (λ_ s''=>CX outer H s E e s'') (λe' s''=>CX outer H s E e' s'') s'
def zdV{sc:Scope}{n:Nat}{x:Str}(h:sc.names.lookup x=some .cell):∃c,(cellsFrom n sc.names []).lookup x=some c:=by
 have q:=yg sc.names n [] (.inl h);exact qg.mp q
def zgv{CX:CXT}{P:Program}{w:World}{K:PySem.W.Frag}{mg:Str->Option Value}{base:Heap}{N ps:List Str}{qual:Str}{scope:Scope}{f:Addr}{cd:Value}{A:Around}{outer:List Env}{s s1:Shared}{H:Hp}{E:XK}{us:List Value}{vs:List V}
  (S:FnScope N ps scope) (hd:A.handled=none) (e0:Env0 P w K mg base A outer s H) (hl:vs.length=ps.length) (r:Vals vs us)
  (x:InCallC s s.heap.objs.size (bindL (envOfC qual scope s.heap.objs.size f cd).kindOf (ps.zip us) λ_=>none) (cellsFrom (s.heap.objs.size+1) scope.names []) (bindC (envOfC qual scope s.heap.objs.size f cd).kindOf (ps.zip us) λ_=>none) s1) :
  Inv (cxOf CX P w K mg base N qual scope f cd A outer s H E) [] (start N vs) H s1:=by
 have hpl:ps.length<=N.length:=by have:=ql List.length S.pre; rw[vo] at this; omega
 obtain⟨h1,tk,rfl,hk⟩:=x.done;have noA:∀b:Addr,b∉(cxOf CX P w K mg base N qual scope f cd A outer s H E).ex:=λb z=>absurd (show b∈([]:List Addr) from z) (by simp)
 refine⟨⟨e0.mod,S.kind,rfl,rfl,zF _,λy z c h1 h2=>?_,λy hy=>?_,λy c _ h=>?_,λ_=>hd,Around.frames_deeper e0.frames,.inr ⟨rfl,rfl⟩,λb z=>absurd z (noA b),e0.bs,e0.bsz,λb _ _=>noA b,λb z=>absurd z (noA b),e0.funs,e0.frf⟩,
  rfl,e0.bare,Un.kept hk,⟨_,x.toInCall.ns,λi y v h1 h2 h3=>?_⟩,λy c h=>⟨_,x.cell y c h⟩,e0.hok.fresh (zF _),λy c h=>?_,λp hp=>absurd (show p∈([]:List (Addr×Obj)) from hp) (by simp),e0.hok.kept hk,?_⟩
 .exact name_of_addr x.apart (qd h1) (qd h2)
 .have hy:scope.names.lookup y=some .cell\/scope.names.lookup y=some .free:=hy
  rcases hy with hy | hy
  .exact zdV hy
  .exact absurd rfl (S.nofree _ (qd hy))
 .exact wu (x.above y c (qd h))
 .have hi:i<vs.length:=by
   unfold start at h2;by_cases hi:i<vs.length
   .exact hi
   .rw[zX (by simpa using hi)] at h2
    rw[jR] at h2;split at h2<;>cases h2
  have ha:vs[i]?=some v:=by
   unfold start at h2;rw[zQ (by simpa using hi),kW] at h2;cases e:vs[i]? with
   | none=>rw[e] at h2; cases h2
   | some a=>rw[e] at h2; cases h2; rfl
  obtain⟨u,hu,rv⟩:=r.get ha;have hp:ps[i]?=some y:=by
   rw[<-S.pre,List.getElem?_take_of_lt ∅]; exact h1
  have ndP:ps.Nodup:=by rw[<-S.pre]; exact S.nd.sublist (List.take_sublist _ _)
  refine⟨u,rv,?_⟩;rcases S.par y (qG hp) with k | k
  .exact .inl ⟨k,zc8 ndP hp hu k⟩
  .obtain⟨c,e⟩:=zdV (n:=s.heap.objs.size+1) k
   refine .inr ⟨.inl k,c,e,?_⟩;have q:=x.cell y c e;rw[zc6 ndP hp hu (by show scope.names.lookup y≠_; rw[k]; decide)] at q;exact q
 .exact e0.hok.fresh (wu (x.above y c (qd h)))
 .unfold start
  show _=N.length
  rw[zM,kE,jW];omega
def zms{CX:CXT}{P:Program}{w:World}{K:PySem.W.Frag}{mg:Str->Option Value}{base:Heap}{k:Nat}{f:Addr}{name qual:Str}{params:Arguments}{body:List Stmt}{scope:Scope}{dV kV doc pm cdv ct oc:Value}{an od:Option Addr}
  {osl:Array (Option Value)} {N ps:List Str} {sp:Sp} (lk:K.lookup f=some ⟨oc,od,.func (PySem.W.fnOf name qual params body scope dV kV doc pm an cdv ct),osl⟩) (hcd:PySem.W.codeIn K cdv qual=true) (S:FnScope N ps scope)
  (len:∀vs H Q E,sp vs H Q E->vs.length=ps.length)
  (hbody:∀(A:Around) (outer:List Env) (s:Shared) (H:Hp) (vs:List V) (Q:VK) (E:XK),Room k (A.deeper (envOfC qual scope s.heap.objs.size f cdv))->sp vs H Q E->
   ∃t,PSs (cxOf CX P w K mg base N qual scope f cdv A outer s H E) body t/\t { nx:=λ_ H'=>Q .non H',rt:=Q } (start N vs) H) :
  FnOk P w K mg base CX (k+1) f (PySem.W.fnOf name qual params body scope dV kV doc pm an cdv ct) ps sp:=by
 refine⟨len,λA outer s H args us vs Q E hr e0 hb r hsp=>?_⟩;have hl:=len _ _ _ _ hsp;have KX:K.In s.heap:=e0.mod.kin.keeps λb o e=>(e0.bs b o e).1
 have lim:s.heap.NoLimit:=e0.mod.nolimit.keeps λb o e=>(e0.bs b o e).1
 have hkind:∀y∈ps.zip us,scope.names.lookup y.1=some .local\/(scope.names.lookup y.1=some .cell/\((cellsFrom (s.heap.objs.size+1) scope.names []).lookup y.1).isSome=true):=λ⟨n,v⟩ hy=>by
  rcases S.par n (vG hy).1 with q | q
  .exact .inl q
  .exact .inr ⟨q,yg _ _ _ (.inl q)⟩
 refine codeAny_call_function hr.depth (KX _ _ lk) rfl S.co S.gen rfl (PySem.W.codeRec_of KX hcd) (hb _ _ _ _ ?_);refine wpAny_newFunctionEnv_cells S.kind hkind λenv he s1 x=>?_
 subst he;refine⟨lim.keeps x.toInCall.keep,codeAny_func ?_⟩;obtain⟨t,ht,hq⟩:=hbody A outer s H vs Q E (hr.deeper _) hsp;have I:Inv (cxOf CX P w K mg base N qual scope f cdv A outer s H E) [] (start N vs) H s1:=zgv S hr.hd e0 hl r x;refine jU (ht [] s1 (start N vs) H _ I hq) (λfl s' hs=>?_) λe s' hs=>hs
 have fin:∀{σ':St} {H':Hp} {v:V} {u:Value},Inv (cxOf CX P w K mg base N qual scope f cdv A outer s H E) [] σ' H' s'->RelV v u->Q v H'->CE outer P w H s Q u s':=
  λ{σ' H' v u} J rv q=>⟨v,H',J.os,J.bare,J.base,J.hok,rv,q⟩
 cases fl with
 | ret u=>
  obtain⟨v,σ',H',J,rv,q⟩:=hs;exact fin J rv q
 | next=>
  obtain⟨σ',H',J,q⟩:=hs;exact fin (v:=V.non) (u:=Value.none) J rfl q
 | brk=>
  obtain⟨_,_,_,q⟩:=hs;exact False.elim q
 | cont=>
  obtain⟨_,_,_,q⟩:=hs;exact False.elim q
end L2
namespace L2
open PySem PySem.Spec PyProof.Rows
section
variable{X:Cx}{x:Str}{p pos:Pos}{e:Expr}{es:List Expr}{t:TA}{id T:String}{r:List V->Hp->VK->Prop}
def tCB(r:List V->Hp->VK->Prop)(t:TA):TE:=λσ H Q=>t σ H λvs H1=>r vs H1 Q
def zdX(hc:xN X (.builtin id) r)(hg:Gl X x)(hm:X.mg x=none)(hv:bootBuiltins x=some (.builtin id))(ha:PA X (e::es) t)(hn:x≠"__name__":=by decide)(hdb:(x==("__debug__":Str))=false:=by decide)
  (he:starEach (e::es) X.env=(false,eval e X.env)::starEach es X.env:=by rfl) (hpl:(backTo pos (starEach es X.env)).any (·.1)=false:=by rfl):PE X (.Call (.Name x p) (e::es) [] pos) (tCB r t):=by
 intro pins s σ H Q I h;refine jE (zaa I hg hm hv ?_ hn hdb);exact PyProof.Rows.callWith_builtin1 (thn (ha pos pins s σ H _ I h) λus s1 ⟨vs,H1,I1,r1,q1⟩=>hc pins s1 σ H1 vs us Q I1 r1 q1) he hpl
def zf3(hc:xN X (.type T) r)(hg:Gl X x)(hm:X.mg x=none)(hv:bootBuiltins x=some (.type T))(ha:PA X (e::es) t)(hn:x≠"__name__":=by decide)(hdb:(x==("__debug__":Str))=false:=by decide)
  (he:starEach (e::es) X.env=(false,eval e X.env)::starEach es X.env:=by rfl) (hpl:(backTo pos (starEach es X.env)).any (·.1)=false:=by rfl):PE X (.Call (.Name x p) (e::es) [] pos) (tCB r t):=by
 intro pins s σ H Q I h;refine jE (zaa I hg hm hv ?_ hn hdb);exact jr (thn (ha pos pins s σ H _ I h) λus s1 ⟨vs,H1,I1,r1,q1⟩=>hc pins s1 σ H1 vs us Q I1 r1 q1) he hpl
end
end L2
namespace HT
open PySem PyProof.Rows
section
open PySem.SeqAt
open PySem.AutoSeq1 (wpAny_loadPart')
open PySem.MeetsSeq PySem.MeetsSeq2 PySem.MeetsSeq3
end
section
variable{prog:Program}{w:World}{A:Around}{E:Value->Shared->Prop}{s:Shared}
def cat_tup{t b:Addr}{vs ws:List Value}{Q:Value->Shared->Prop}(ht:IsTup s.heap t vs.toArray)(hb:IsTup s.heap b ws.toArray)(hv:vs≠[])
  (h1:ws=[]->Q (.ref t) s) (h2:ws≠[]->Q (.ref s.heap.objs.size) { s with heap:=s.heap.push { cls:=.type "tuple",data:=.seq (vs++ws).toArray } })
  (hsz:vs.length+ws.length<=sizeLine):wpAny (model prog w) A (binaryOp .Add (.ref t) (.ref b)) Q E s:=by
 obtain⟨⟨cls,dd,data,sl⟩,ho,hc,n,hd⟩:=id ht;obtain⟨⟨cls2,dd2,data2,sl2⟩,ho2,hc2,n2,hd2⟩:=id hb;simp only at hc hd hc2 hd2;subst hc hd hc2 hd2;have e:vs.toArray++ws.toArray=(vs++ws).toArray:=by simp
 by_cases hw:ws=[]
 .exact wZ ⟨_,ho,rfl⟩ ⟨_,ho2,rfl⟩ yc seq_tuple_add vA vm (vf _ _)
   (tuple_addW1 t b vs.toArray ws.toArray n n2 dd dd2 sl sl2 (by simpa using hv) (by simp[hw])) ⟨ho,ho2,h1 hw⟩
 .refine wZ ⟨_,ho,rfl⟩ ⟨_,ho2,rfl⟩ yc seq_tuple_add vA vm (vf _ _)
   (tuple_addW2 t b vs.toArray ws.toArray n n2 dd dd2 sl sl2 (by simpa using hv) (by simpa using hw) (by rw[zA,zA]; exact hsz)) ⟨ho,ho2,?_⟩
  rw[e];exact h2 hw
def sIx(n d:Nat):Option Int->Nat
 | none=>d
 | some v=>if v<0 then (v+(n:Int)).toNat else min v.toNat n
def zkx(n d:Nat)(hd:d<=n)(o:Option Int):sIx n d o<=n:=by
 cases o with
 | none=>exact hd
 | some v=>
  show(if v<0 then (v+(n:Int)).toNat else min v.toNat n)<=n
  by_cases hv:v<0
  .rw[zW hv]; omega
  .rw[kO hv]; exact Nat.min_le_right _ _
def zeF(v:Int)(n d:Nat):(if v<0 then max (v+(n:Int)) 0 else min v (n:Int))=((sIx n d (some v):Nat):Int):=by
 show(if v<0 then max (v+(n:Int)) 0 else min v (n:Int))=(((if v<0 then (v+(n:Int)).toNat else min v.toNat n):Nat):Int)
 by_cases hv:v<0
 .simp only[zW hv]; omega
 .simp only[kO hv]; omega
def zfz(lo hi:Option Int)(n:Nat):Builtin.Slice.sliceAdjust lo hi 1 (n:Int)=(((sIx n 0 lo:Nat):Int),((sIx n n hi:Nat):Int)):=by
 have h1:¬((1:Int)<0):=by omega
 unfold Builtin.Slice.sliceAdjust;simp only[h1,qC];refine Prod.ext ?_ ?_
 .cases lo with
  | none=>rfl
  | some v=>exact zeF v n 0
 .cases hi with
  | none=>rfl
  | some v=>exact zeF v n n
def zfP(i j:Nat):Builtin.Slice.slicePlaces (i:Int) (j:Int) 1=j-i:=by
 unfold Builtin.Slice.slicePlaces;have h1:(1:Int)>0:=by omega
 simp only[h1,jb,Int.ediv_one];split<;>omega
def zcs{v:Value}{o:Option Int}{Q:Option Int->Shared->Prop}(p:IsPart v o)(h:Q o s):wpAny (model prog w) A (Builtin.Slice.slicePartIndex v) Q E s:=by
 cases p with
 | none=>exact slicePart_none h
 | int i t=>exact slicePart_int h
def zal{sl:Addr}{vl vu:Value}{lo hi:Option Int}{n:Nat}{Q:Int×Int×Nat->Shared->Prop}(hs:s.heap.IsSliceOf sl vl vu .none)(pl:IsPart vl lo)(pu:IsPart vu hi)
  (h:Q (((sIx n 0 lo:Nat):Int),1,sIx n n hi-sIx n 0 lo) s):wpAny (model prog w) A (Builtin.Slice.sliceApplied (.ref sl) (pure (n:Int))) Q E s:=by
 obtain⟨os,hos,hcs,hds⟩:=id hs;unfold Builtin.Slice.sliceApplied Builtin.Slice.sliceFields;refine za (za (jy hos hds (x:=vl) rfl (za (jy hos hds (x:=vu) rfl (za (jy hos hds (x:=.none) rfl (zu ?_)))))));refine za (slicePart_none ?_);show wpAny _ _ (if ((1:Int)==0)=true then _ else _) _ _ s
 rw[kO (by decide)];refine za (zcs pl (za (zcs pu (za (zu ?_)))));show wpAny _ _ (match Builtin.Slice.sliceAdjust lo hi 1 (n:Int) with | (lo,hi)=>pure (lo,(1:Int),Builtin.Slice.slicePlaces lo hi 1)) _ _ s
 rw[zfz lo hi n];show wpAny _ _ (pure (((sIx n 0 lo:Nat):Int),(1:Int),Builtin.Slice.slicePlaces ((sIx n 0 lo:Nat):Int) ((sIx n n hi:Nat):Int) 1)) _ _ s
 rw[zfP];exact zu h
def zhm(xs:Array Value)(i k:Nat):((List.range k).filterMap λ(m:Nat)=>xs[((i:Int)+(m:Int)*1).toNat]?).toArray=((xs.toList.drop i).take k).toArray:=by
 have e:(λ(m:Nat)=>xs[((i:Int)+(m:Int)*1).toNat]?)=λm=>xs[i+m]?:=by
  funext m
  have:((i:Int)+(m:Int)*1).toNat=i+m:=by omega
  rw[this]
 rw[e];have:=pick_run xs i k;rw[List.filterMap_map] at this;have e2:((λx=>xs[x]?)∘λx=>i+x)=λm=>xs[i+m]?:=rfl
 rw[e2] at this;rw[this]
def getItem_tuple_cut{t sl:Addr}{items:Array Value}{vl vu:Value}{lo hi:Option Int}{Q:Value->Shared->Prop}(ht:IsTup s.heap t items)(hs:s.heap.IsSliceOf sl vl vu .none)(pl:IsPart vl lo)(pu:IsPart vu hi)
  (hw:¬(sIx items.size 0 lo=0/\sIx items.size items.size hi=items.size))
  (h:Q (.ref s.heap.objs.size) { s with heap:=s.heap.push { cls:=.type "tuple",data:=.seq ((items.toList.drop (sIx items.size 0 lo)).take (sIx items.size items.size hi-sIx items.size 0 lo)).toArray } })
  (hsz:items.size<=sizeLine):wpAny (model prog w) A (getItem (.ref t) (.ref sl)) Q E s:=by
 have htake:sizeOk (.seq ((items.toList.drop (sIx items.size 0 lo)).take (sIx items.size items.size hi-sIx items.size 0 lo)).toArray):=by
  show((items.toList.drop (sIx items.size 0 lo)).take (sIx items.size items.size hi-sIx items.size 0 lo)).toArray.size<=sizeLine
  rw[zA,vo,qb,qQ];omega
 have hj:sIx items.size items.size hi<=items.size:=zkx _ _ (zF _) hi;obtain⟨os,hos,hcs,hds⟩:=id hs;have hTs:s.TypeIs (.ref sl) "slice":=⟨os,hos,hcs⟩;unfold getItem;try with_reducible refine kZ ?_
 first | refine za (zu ?_) | skip
 refine za (wpAny_sequenceKey ht.typeIs (by decide) ?_)
 refine za (jz (name:=Str.ofString "__getitem__") ht.typeIs jc
  (jO jc ht.typeIs entry_tuple_getitem ?_ (args_tuple_getitem _ _)))
 show wpAny _ _ (Builtin.Tuple.tupleItemsOf (.ref t) >>= _) _ _ s
 refine za (wg ht ?_);refine za (j8 hTs ?_);rw[zW (by decide)];refine za (zal hs pl pu ?_);have hno:¬((((sIx items.size 0 lo:Nat):Int)==0&&(1:Int)==1&&(sIx items.size items.size hi-sIx items.size 0 lo)==items.size)=true):=by
  intro q;rw[zg,zg] at q;have q1:((sIx items.size 0 lo:Nat):Int)=0:=eq_of_beq q.1.1;have q2:sIx items.size items.size hi-sIx items.size 0 lo=items.size:=eq_of_beq q.2;exact hw ⟨by omega,by omega⟩
 show wpAny _ _ (if (((sIx items.size 0 lo:Nat):Int)==0&&(1:Int)==1&&(sIx items.size items.size hi-sIx items.size 0 lo)==items.size)=true then _ else _) _ _ s
 rw[kO hno,zhm];first
  | exact za (m:=Builtin.Tuple.tupleExact _) (jh (zu ⟨_,rfl,zu h⟩) htake)
  | exact za (m:=Builtin.Tuple.tupleExact _) (jh (za (zu (zu ⟨_,rfl,zu h⟩))) htake)
  | exact za (za (m:=Builtin.Tuple.tupleExact _) (jh (zu (zu ⟨_,rfl,zu h⟩)) htake))
  | exact za (za (m:=Builtin.Tuple.tupleExact _) (jh (zu ⟨_,rfl,zu h⟩) htake))
end
end HT
namespace L2
open PySem PySem.Spec PyProof.Rows
abbrev TO:=St->Hp->(Option Int->Hp->Prop)->Prop
def PO(X:Cx)(e:Option Expr)(t:TO):Prop:=
 ∀(pins:List (Addr×Obj)) (s:Shared) (σ:St) (H:Hp) (Q:Option Int->Hp->Prop),Inv X pins σ H s->t σ H Q->
  wpAny (model X.prog X.w) X.A (evalPart e X.env) (λu s'=>∃o H',Inv X pins σ H' s'/\IsPart u o/\Q o H') X.xe s
def ziS:TO:=λ_ H Q=>Q none H
def zl8(t:TE):TO:=λσ H Q=>t σ H λx H1=>∃i,x=.int i/\Q (some i) H1
section
variable{X:Cx}{e:Expr}{te:TE}{lo hi:Option Expr}{tl th:TO}{pos p2:Pos}
def zjM:PO X none ziS:=by
 intro pins s σ H Q I h;rw[evalPart_none];exact zu ⟨none,H,I,.none,h⟩
def zjK(h:PE X e te):PO X (some e) (zl8 te):=by
 intro pins s σ H Q I hw;rw[evalPart_some];refine thn (h pins s σ H _ I hw) λu s1 ⟨x,H1,I1,r1,q1⟩=>?_
 obtain⟨i,rfl,q⟩:=q1;obtain⟨t,rfl⟩:=r1;exact⟨some i,H1,I1,.int i t,q⟩
def SlR(X:Cx)(r:V->Option Int->Option Int->Hp->VK->Prop):Prop:=
 ∀(pins:List (Addr×Obj)) (s:Shared) (σ:St) (H:Hp) (x:V) (v vl vu:Value) (lo hi:Option Int) (sl:Addr) (Q:VK),Inv X pins σ H s->RelV x v->s.heap.IsSliceOf sl vl vu .none->IsPart vl lo->IsPart vu hi->r x lo hi H Q->
  ∃T id,typeLookup (.type T) "__getitem__" = pure (some (.builtin id))/\s.TypeIs v T/\wpAny (model X.prog X.w) X.A (getItem v (.ref sl)) (EP X pins σ Q) X.xe s
def tSl(r:V->Option Int->Option Int->Hp->VK->Prop)(te:TE)(tl th:TO):TE:=λσ H Q=>te σ H λx H1=>tl σ H1 λl H2=>th σ H2 λu H3=>r x l u H3 Q
def zdN{r:V->Option Int->Option Int->Hp->VK->Prop}(hr:SlR X r)(he:PE X e te)(hl:PO X lo tl)(hu:PO X hi th):PE X (.Subscript e (.Slice lo hi none p2) pos) (tSl r te tl th):=by
 intro pins s σ H Q I h;refine Subscript_ (thn (he pins s σ H _ I h) λv s1 ⟨x,H1,I1,r1,q1⟩=>?_);refine wpAny_Slice (thn (hl pins s1 σ H1 _ I1 q1) λvl s2 ⟨l,H2,I2,pl,q2⟩=>thn (hu pins s2 σ H2 _ I2 q2) λvu s3 ⟨u,H3,I3,pu,q3⟩=>?_);rw[evalPart_none];refine zu ?_;have I4:Inv X pins σ H3 { s3 with heap:=s3.heap.push { cls:=.type "slice",data:=.fields #[vl,vu,.none] } }:=I3.kept (t':=s3.toks) λb ob q=>zb _ q
 obtain⟨T,id,hT,ht,hg⟩:=hr pins { s3 with heap:=s3.heap.push { cls:=.type "slice",data:=.fields #[vl,vu,.none] } } σ H3 x v vl vu l u s3.heap.objs.size Q I4 r1 (Heap.IsSliceOf.new ..) pl pu q3;show wpAny (model X.prog X.w) X.A (subscriptTail e (.Slice lo hi none p2) v (.ref s3.heap.objs.size)) (EP X pins σ Q) X.xe { s3 with heap:=s3.heap.push { cls:=.type "slice",data:=.fields #[vl,vu,.none] } }
 exact tail_any (ops:=[.ref s3.heap.objs.size,v]) ht hT hg (by with_unfolding_all rfl)
def cutV(xs:List V)(lo hi:Option Int):List V:=(xs.drop (HT.sIx xs.length 0 lo)).take (HT.sIx xs.length xs.length hi-HT.sIx xs.length 0 lo)
def zbI(xs:List V)(lo hi:Option Int):(cutV xs lo hi).length<=xs.length:=by
 unfold cutV;rw[vo,qb];omega
def rSlT(K:PySem.W.Frag):V->Option Int->Option Int->Hp->VK->Prop:=λx lo hi H Q=>∃a xs,x=.ref a/\SqT K H a xs /\
 ¬(HT.sIx xs.length 0 lo=0/\HT.sIx xs.length xs.length hi=xs.length)/\∀p,H p=none->Q (.ref p) (upd H p (.tup (cutV xs lo hi)))
def zko:SlR X (rSlT X.K):=by
 intro pins s σ H x v vl vu lo hi sl Q I rx hs pl pu h;obtain⟨a,xs,rfl,hx,hw,q⟩:=h;cases rx;obtain⟨its,r,ht,hz⟩:=I.tuple hx;have hlen:its.toArray.size=xs.length:=by rw[zA]; exact r.length.symm
 refine⟨"tuple",_,jc.lookup,ht.typeIs,?_⟩;refine HT.getItem_tuple_cut ht hs pl pu (by rw[hlen]; exact hw) ?_ (by rw[hlen]; exact hz);rw[hlen];refine⟨.ref s.heap.objs.size,_,I.laid (t':=s.toks) (o:=.tup (cutV xs lo hi)) (λb ob q=>zb _ q) (zF _) ?_,rfl,q _ (I.hok.fresh (zF _))⟩;exact⟨zG (zbI xs lo hi) hz,_,(r.drop (HT.sIx xs.length 0 lo)).take (HT.sIx xs.length xs.length hi-HT.sIx xs.length 0 lo),IsTup.new _ _,.new _ _⟩
def zmf(K:PySem.W.Frag):R2:=λx y H Q=>∃a b xs ys,x=.ref a/\y=.ref b/\SqT K H a xs/\SqT K H b ys/\xs≠[]/\xs.length+ys.length<=sizeLine /\
 (ys=[]->Q (.ref a) H)/\(ys≠[]->∀p,H p=none->Q (.ref p) (upd H p (.tup (xs++ys))))
def Vals.nil_iff{xs:List V}{us:List Value}(r:Vals xs us):us=[]↔xs=[]:=by
 cases r with
 | nil=>simp
 | cons _ _=>simp
def zjP:OpR X (binaryOp .Add) (zmf X.K):=by
 intro pins s σ H x y v u Q I rx ry h;obtain⟨a,b,xs,ys,rfl,rfl,ha,hb,hx,hz,q1,q2⟩:=h;cases rx;cases ry;obtain⟨its,r1,p1,_⟩:=I.tuple ha;obtain⟨its2,r2,p2,_⟩:=I.tuple hb;refine HT.cat_tup p1 p2 (λz=>hx (r1.nil_iff.mp z)) (λz=>⟨.ref a,H,I,rfl,q1 (r2.nil_iff.mp z)⟩) (λz=>?_) (by rw[<-r1.length,<-r2.length]; exact hz);refine⟨.ref s.heap.objs.size,_,I.laid (t':=s.toks) (o:=.tup (xs++ys)) (λb ob q=>zb _ q) (zF _) ?_,rfl,q2 (λw=>z (r2.nil_iff.mpr w)) _ (I.hok.fresh (zF _))⟩;exact⟨by rw[zM]; exact hz,_,r1.append r2,IsTup.new _ _,.new _ _⟩
end
end L2
namespace L2
open PySem PySem.Spec PyProof.Rows
def ixN(n:Nat)(i:Int):Option Nat:=if 0<=i then (if i<n then some i.toNat else none) else if -(n:Int)<=i then some (i+n).toNat else none
def atI{α:Type}(xs:List α)(i:Int):Option α:=(ixN xs.length i).bind λj=>xs[j]?
def zeZ{n:Nat}{i:Int}{j:Nat}(h:ixN n i=some j):seqIndex? i n=some j/\j<n/\-(n:Int)<=i/\i<n:=by
 unfold ixN at h;by_cases h0:0<=i
 .rw[zW h0] at h
  by_cases h1:i<n
  .rw[zW h1] at h
   have e:i.toNat=j:=zN h;exact⟨by rw[seqIndex_of h0 h1,e],by omega,by omega,h1⟩
  .rw[kO h1] at h; cases h
 .rw[kO h0] at h
  by_cases h1:-(n:Int)<=i
  .rw[zW h1] at h
   have e:(i+n).toNat=j:=zN h;exact⟨by rw[seqIndex_neg ∅ h1,e],by omega,h1,by omega⟩
  .rw[kO h1] at h; cases h
def zcE{α:Type}{xs:List α}{i:Int}{v:α}(h:atI xs i=some v):∃j,seqIndex? i xs.length=some j/\xs[j]?=some v/\j<xs.length/\-(xs.length:Int)<=i/\i<xs.length:=by
 unfold atI at h;cases e:ixN xs.length i with
 | none=>rw[e] at h; cases h
 | some j=>
  rw[e] at h;obtain⟨h1,h2,h3,h4⟩:=zeZ e;exact⟨j,h1,h,h2,h3,h4⟩
def zhy{α:Type}(xs:List α)(v:α):atI (xs++[v]) (-1)=some v:=by
 have hl:(xs++[v]).length=xs.length+1:=by simp
 have e:ixN (xs++[v]).length (-1)=some xs.length:=by
  unfold ixN;rw[hl,kO (by decide),zW ∅];congr 1
  omega
 unfold atI;rw[e];show(xs++[v])[xs.length]?=some v
 simp
def zaL(b:Expr):Prop:=∀o i,subscripted b false o i=operate [o,i] (getItem o i)
def IxR(X:Cx)(r:R2):Prop:=
 ∀(value slice:Expr) (pins:List (Addr×Obj)) (s:Shared) (σ:St) (H:Hp) (x y:V) (v u:Value) (Q:VK),Inv X pins σ H s->RelV x v->RelV y u->r x y H Q->
  subscripted slice false v u=operate [v,u] (getItem v u)->wpAny (model X.prog X.w) X.A (subscriptTail value slice v u) (EP X pins σ Q) X.xe s
def MtR(X:Cx)(id:String)(r:V->List V->Hp->VK->Prop):Prop:=
 ∀(pins:List (Addr×Obj)) (s:Shared) (σ:St) (H:Hp) (x:V) (xs:List V) (v:Value) (us:List Value) (Q:VK),Inv X pins σ H s->RelV x v->Vals xs us->r x xs H Q->
  wpAny (model X.prog X.w) X.A (call (.builtin id) (v::us)) (EP X pins σ Q) X.xe s
section
variable{X:Cx}{a b:Expr}{ta tb:TE}{pos:Pos}
def zir{r:R2}(hr:IxR X r)(ha:PE X a ta)(hb:PE X b tb)(hs:zaL b):PE X (.Subscript a b pos) (tOp r ta tb):=by
 intro pins s σ H Q I h;exact Subscript_ (binT ha hb I h λv u s2 x y H2 I2 rx ry q=>hr a b pins s2 σ H2 x y v u Q I2 rx ry q (hs _ _))
def rIxL(K:PySem.W.Frag):R2:=λx y H Q=>∃p xs i v,x=.ref p/\y=.int i/\SqL K H p xs/\atI xs i=some v/\Q v H
def rIxT(K:PySem.W.Frag):R2:=λx y H Q=>∃p xs i v,x=.ref p/\y=.int i/\SqT K H p xs/\atI xs i=some v/\Q v H
def rIxS:R2:=λx y H Q=>∃z i c,x=.str z/\y=.int i/\z.length<=sizeLine/\atI z.cps.toList i=some c/\Q (.str ⟨#[c]⟩) H
def zjG:IxR X (rIxL X.K):=by
 intro value slice pins s σ H x y v u Q I rx ry h hs;obtain⟨p,xs,i,z,rfl,rfl,hq,he,q⟩:=h;cases rx;obtain⟨t,rfl⟩:=ry;obtain⟨its,r,pl,hz⟩:=I.list hq;obtain⟨j,h1,h2,h3,h4,h5⟩:=zcE he;obtain⟨w,ew,rw'⟩:=r.get h2;have hl:=r.length;have hn:=zaP;have fin:EP X pins σ Q w s:=⟨z,H,I,rw',q⟩;by_cases h0:0<=i
 .have hj:i.toNat=j:=by
   rw[seqIndex_of h0 h5] at h1;exact zN h1
  exact item_listR pl.isList h0 ∅ (by rw[hj]; simpa using ew) fin hs
 .have hj:(i+(its.toArray.size:Int)).toNat=j:=by
   rw[seqIndex_neg ∅ h4] at h1;rw[zA,<-hl];exact zN h1
  exact subscriptTail_builtinR (x:=w) pl.isList.typeIs slot_list_getitem.lookup
   (wpAny_getItem_list_neg (Q:=λr s'=>r=w/\EP X pins σ Q r s') pl.isList ∅ (by rw[zA]<;>omega) ∅ (by rw[hj]; simpa using ew) ⟨rfl,fin⟩) hs
def zeh:IxR X (rIxT X.K):=by
 intro value slice pins s σ H x y v u Q I rx ry h hs;obtain⟨p,xs,i,z,rfl,rfl,hq,he,q⟩:=h;cases rx;obtain⟨t,rfl⟩:=ry;obtain⟨its,r,pl,hz⟩:=I.tuple hq;obtain⟨j,h1,h2,h3,h4,h5⟩:=zcE he;obtain⟨w,ew,rw'⟩:=r.get h2;have hl:=r.length;have hn:=zaP;have fin:EP X pins σ Q w s:=⟨z,H,I,rw',q⟩;exact subscriptTail_builtinR (x:=w) pl.typeIs slot_tuple_getitem.lookup
  (getItem_tuple (j:=j) (Q:=λr s'=>r=w/\EP X pins σ Q r s') pl ∅ ∅ (by rw[zA,<-hl]; exact h1) (by simpa using ew) ⟨rfl,fin⟩) hs
def zkG:IxR X rIxS:=by
 intro value slice pins s σ H x y v u Q I rx ry h hs;obtain⟨z,i,c,rfl,rfl,hz,he,q⟩:=h;obtain⟨t,rfl⟩:=rx;obtain⟨t',rfl⟩:=ry;obtain⟨j,h1,h2,h3,h4,h5⟩:=zcE he;have hl:z.cps.toList.length=z.length:=by simp[Str.length]
 rw[hl] at h1 h4 h5;have hn:=zaP
 exact tail_any (vC s z t) slot_str_getitem.lookup (getItem_str (c:=c) (by
  have e1:decide (i < -(2 ^ 63:Int))=false:=jF ∅;have e2:decide (i>=2 ^ 63)=false:=jF ∅
  rw[e1,e2,qw]) (by rw[h1]; simpa using h2) ⟨.str ⟨#[c]⟩,H,I.tok _,⟨_,rfl⟩,q⟩) hs
def zfE(its:List Value)(n j:Nat)(u:Value):Obj.mapSeq (·.setIfInBounds j u) { cls:=.type "list",data:=.seq its.toArray n }={ cls:=.type "list",data:=.seq (its.set j u).toArray n }:=by
 simp[Obj.mapSeq]
theorem Inv.lst{pins:List (Addr×Obj)}{σ:St}{H:Hp}{s:Shared}{p:Addr}{xs:List V}(I:Inv X pins σ H s)(h:H p=some (.lst xs)) :
  ∃(its:List Value) (n:Nat),Vals xs its/\s.heap.get? p=some { cls:=.type "list",data:=.seq its.toArray n }/\xs.length<=sizeLine:=by
 obtain⟨z,its,n,r,e⟩:=I.hok p _ h;exact⟨its,n,r,e,z⟩
def Inv.lstUpd{pins:List (Addr×Obj)}{σ:St}{H:Hp}{s:Shared}{p:Addr}{xs ys:List V}{its its':List Value}{n n':Nat}{f:Obj->Obj}(I:Inv X pins σ H s)(h:H p=some (.lst xs))
  (ho:s.heap.get? p=some { cls:=.type "list",data:=.seq its.toArray n }) (hf:f { cls:=.type "list",data:=.seq its.toArray n }={ cls:=.type "list",data:=.seq its'.toArray n' }) (r:Vals ys its') (hz:ys.length<=sizeLine) (t:Nat) :
  Inv X pins σ (upd H p (.lst ys)) { s with heap:=s.heap.update p f,toks:=t }:=by
 have e:(s.heap.update p f).get? p=some { cls:=.type "list",data:=.seq its'.toArray n' }:=by
  rw[jP f ho (by rw[hf]<;>rfl),hf]
 refine I.write (x:=p) (e:=p) (by rw[h]; trivial) (.inl rfl) (λb u hb q=>(j5 _ _ (kj hb)).trans q) ⟨_,e⟩ ?_;exact⟨hz,its',n',r,e⟩
def zme:V->V->V->Hp->(Hp->Prop)->Prop:=λo i v H Q=>∃p xs k j,o=.ref p/\i=.int k/\H p=some (.lst xs)/\ixN xs.length k=some j/\Q (upd H p (.lst (xs.set j v)))
def set_list:PSet X zme:=by
 intro pins s σ H o i v ov iv u Q I ro ri rv h;obtain⟨p,xs,k,j,rfl,rfl,hp,hj,q⟩:=h;cases ro;obtain⟨t,rfl⟩:=ri;obtain⟨its,n,r,ho,hz⟩:=I.lst hp;obtain⟨h1,h2,h3,h4⟩:=zeZ hj;have hl:=r.length;have hn:=zaP;have I':Inv X pins σ (upd H p (.lst (xs.set j v))) { s with heap:=s.heap.update p (Obj.mapSeq (·.setIfInBounds j u)) }:=
  I.lstUpd hp ho (zfE its n j u) (r.set rv j) (by rw[List.length_set]; exact hz) s.toks
 by_cases h0:0<=k
 .have hk:k.toNat=j:=by
   rw[seqIndex_of h0 h4] at h1;exact zN h1
  exact PySem.W.ki_setAt ho h0 ∅ (by rw[zA,<-hl]; exact h4) (by rw[hk]; exact⟨_,I',q⟩)
 .have hk:(k+(its.toArray.size:Int)).toNat=j:=by
   rw[seqIndex_neg ∅ h3] at h1;rw[zA,<-hl];exact zN h1
  exact PySem.W.ki_setBack ho ∅ (by rw[zA,<-hl]; exact h3) ∅ (by rw[hk]; exact⟨_,I',q⟩)
def zd4(lo hi:Option Int)(n:Nat):(sliceBounds lo hi none n).1=((HT.sIx n 0 lo:Nat):Int)/\(sliceBounds lo hi none n).2.1=((HT.sIx n n hi:Nat):Int)/\(sliceBounds lo hi none n).2.2=1:=by
 refine⟨?_,?_,rfl⟩
 .cases lo with
  | none=>simp[sliceBounds,HT.sIx]
  | some i=>
   simp only[sliceBounds,HT.sIx,Option.getD_none,show(1:Int)>0 by decide,jb];by_cases h:i<0
   .simp only[h,jb]<;>omega
   .simp only[h,qC]<;>omega
 .cases hi with
  | none=>simp[sliceBounds,HT.sIx]
  | some i=>
   simp only[sliceBounds,HT.sIx,Option.getD_none,show(1:Int)>0 by decide,jb];by_cases h:i<0
   .simp only[h,jb]<;>omega
   .simp only[h,qC]<;>omega
theorem zdi(its:List Value)(lo hi:Option Int):slicePick its.toArray lo hi none=((its.drop (HT.sIx its.length 0 lo)).take (HT.sIx its.length its.length hi-HT.sIx its.length 0 lo)).toArray:=by
 obtain⟨h1,h2,h3⟩:=zd4 lo hi its.toArray.size;unfold slicePick;rw[h1,h2,h3];simp only[sliceRange_one,pick_run,zA]<;>rfl
def rSlL(K:PySem.W.Frag):V->Option Int->Option Int->Hp->VK->Prop:=λx lo hi H Q=>∃a xs,x=.ref a/\SqL K H a xs/\∀p,H p=none->Q (.ref p) (upd H p (.lst (cutV xs lo hi)))
def zeK:SlR X (rSlL X.K):=by
 intro pins s σ H x v vl vu lo hi sl Q I rx hs pl pu h;obtain⟨a,xs,rfl,hx,q⟩:=h;cases rx;obtain⟨its,r,ht,hz⟩:=I.list hx;have hlen:=r.length;refine⟨"list",_,slot_list_getitem.lookup,ht.isList.typeIs,?_⟩;refine wpAny_getItem_list_slice ht.isList hs pl pu .none (by simp) ?_ (by rw[zA]<;>omega);rw[zdi,<-hlen];refine⟨.ref s.heap.objs.size,_,I.laid (t':=s.toks) (o:=.lst (cutV xs lo hi)) (λb ob q=>zb _ q) (zF _) ?_,rfl,q _ (I.hok.fresh (zF _))⟩;exact⟨zG (zbI xs lo hi) hz,_,0,(r.drop (HT.sIx xs.length 0 lo)).take (HT.sIx xs.length xs.length hi-HT.sIx xs.length 0 lo),zH _ rfl⟩
def zbm:xN X (.builtin "len") (λxs H Q=>∃p ys,xs=[.ref p]/\(SqL X.K H p ys\/SqT X.K H p ys)/\Q (.int ys.length) H):=by
 intro pins s σ H xs us Q I r h;obtain⟨p,ys,rfl,hq,q⟩:=h;obtain⟨u,rfl,rx⟩:=vals1 r;cases rx;have hn:=zaP;rcases hq with hq | hq
 .obtain⟨its,r',pl,hz⟩:=I.list hq
  have hlen:=r'.length;exact Calls.call_len_list pl.isList (by simp only[zA]<;>omega) ⟨.int ys.length,H,I.tok _,⟨s.toks+1,by rw[zA,hlen]⟩,q⟩
 .obtain⟨its,r',pl,hz⟩:=I.tuple hq
  have hlen:=r'.length;exact len_tuple pl (by simp only[zA]<;>omega) ⟨.int ys.length,H,I.tok _,⟨s.toks+1,by rw[zA,hlen]⟩,q⟩
def zd0:xN X (.builtin "len") (λxs H Q=>∃z,xs=[.str z]/\z.length<=sizeLine/\Q (.int z.length) H):=by
 intro pins s σ H xs us Q I r h;obtain⟨z,rfl,hz,q⟩:=h;obtain⟨u,rfl,t,rfl⟩:=vals1 r;have hn:=zaP;exact len_str ∅ ⟨.int z.length,H,I.tok _,⟨_,rfl⟩,q⟩
def zbg:xN X (.type "list") (λxs H Q=>∃p ys,xs=[.ref p]/\(SqL X.K H p ys\/SqT X.K H p ys)/\∀l,H l=none->Q (.ref l) (upd H l (.lst ys))):=by
 intro pins s σ H xs us Q I r h;obtain⟨p,ys,rfl,hq,q⟩:=h;obtain⟨u,rfl,rx⟩:=vals1 r;cases rx;have fin:∀(its:List Value),Vals ys its->ys.length<=sizeLine->∀(h':Heap) (c':Nat),(∀b o',s.heap.get? b=some o'->h'.get? b=some o')->
   h'.get? s.heap.objs.size=some { cls:=.type "list",dict:=none,data:=.seq its.toArray c',slots:=#[] }->EP X pins σ Q (.ref s.heap.objs.size) { s with heap:=h' }:=λits r' hz h' c' kp e=>
  ⟨.ref s.heap.objs.size,_,I.laid (t':=s.toks) kp (zF _) (show ObjOk X.prog X.w _ h' _ (.lst ys) from ⟨hz,its,c',r',e⟩),rfl,q _ (I.hok.fresh (zF _))⟩
 rcases hq with hq | hq
 .obtain⟨its,r',pl,hz⟩:=I.list hq
  have hlen:=r'.length;obtain⟨o,ho,hc,n,hd⟩:=pl.isList;exact call_list_seq p (.inl rfl) ho hc hd (λh' c' kp e=>fin its r' hz h' c' kp e) (by simp only[zA]<;>omega)
 .obtain⟨its,r',pl,hz⟩:=I.tuple hq
  have hlen:=r'.length;obtain⟨o,ho,hc,n,hd⟩:=pl;exact call_list_seq p (.inr rfl) ho hc hd (λh' c' kp e=>fin its r' hz h' c' kp e) (by simp only[zA]<;>omega)
def za7:xN X (.type "tuple") (λxs H Q=>∃p ys,xs=[.ref p]/\((SqL X.K H p ys/\∀l,H l=none->Q (.ref l) (upd H l (.tup ys)))\/(SqT X.K H p ys/\Q (.ref p) H))):=by
 intro pins s σ H xs us Q I r h;obtain⟨p,ys,rfl,h⟩:=h;obtain⟨u,rfl,rx⟩:=vals1 r;cases rx;rcases h with ⟨hq,q⟩ | ⟨hq,q⟩
 .obtain⟨its,r',pl,hz⟩:=I.list hq
  have hlen:=r'.length;refine call_tuple_list pl.isList (λh' kp=>?_) (by simp only[zA]<;>omega);have I1:Inv X pins σ H { s with heap:=h' }:=I.kept (t':=s.toks) kp;have I2:Inv X pins σ (upd H h'.objs.size (.tup ys)) { s with heap:=h'.push { cls:=.type "tuple",data:=.seq its.toArray } }:=
   I1.laid (t':=s.toks) (λb o e=>zb _ e) (zF _) (show ObjOk X.prog X.w _ _ _ (.tup ys) from ⟨hz,its,r',IsTup.new _ _,.new _ _⟩)
  exact⟨.ref h'.objs.size,_,I2,rfl,q _ (I1.hok.fresh (zF _))⟩
 .obtain⟨its,r',pl,hz⟩:=I.tuple hq
  exact call_tuple_same pl ⟨.ref p,H,I,rfl,q⟩
def tyV(K:PySem.W.Frag)(T:String)(x:V)(H:Hp):Prop:=match x with
 | .str _=>T="str"
 | .int _=>T="int"
 | .ref p=>(T="list" /\ ∃xs,SqL K H p xs)\/(T="tuple" /\ ∃o,K.lookup p=some o/\o.cls=.type "tuple" /\ o.dict=none) \/
   (T="dict" /\ ((∃kvs,H p=some (.dK kvs))\/∃kvs,H p=some (.dT kvs)))\/(T="set" /\ ∃S n,H p=some (.set S n))
 | _=>False
def zgU{pins:List (Addr×Obj)}{σ:St}{H:Hp}{s:Shared}{T:String}{x:V}{v:Value}(I:Inv X pins σ H s)(r:RelV x v)(ty:tyV X.K T x H) :
  s.TypeIs v T/\∀a,v=.ref a->∃ob,s.heap.get? a=some ob/\ob.dict=none:=by
 cases x with
 | str z=>
  obtain⟨t,rfl⟩:=r;cases (show T="str" from ty);exact⟨vC s z t,λ_ e=>nomatch e⟩
 | int i=>
  obtain⟨t,rfl⟩:=r;cases (show T="int" from ty);exact⟨wQ s i t,λ_ e=>nomatch e⟩
 | ref p=>
  cases r;rcases ty with ⟨rfl,xs,hq⟩ | ⟨rfl,o,hk,hc,hd⟩ | ⟨rfl,hk⟩ | ⟨rfl,S,n,hk⟩
  .obtain⟨its,_,pl,_⟩:=I.list hq
   refine⟨pl.isList.typeIs,λa e=>?_⟩;cases e;obtain⟨o,n,e,c,hd,_⟩:=pl;exact⟨o,e,hd⟩
  .refine⟨⟨o,I.kIn p o hk,hc⟩,λa e=>?_⟩
   cases e;exact⟨o,I.kIn _ o hk,hd⟩
  .have z:∃o,s.heap.get? p=some o/\o.ExactDict:=by
    rcases hk with ⟨kvs,hk⟩ | ⟨kvs,hk⟩
    .obtain⟨_,_,_,_,o,_,_,e,ex,_⟩:=I.hok p _ hk
     exact⟨o,e,ex⟩
    .obtain⟨_,_,_,_,o,_,_,e,ex,_⟩:=I.hok p _ hk
     exact⟨o,e,ex⟩
   obtain⟨o,e,ex⟩:=z;refine⟨⟨o,e,ex.1⟩,λa e2=>?_⟩;cases e2;exact⟨o,e,ex.2.1⟩
  .obtain⟨o,_,_,_,e,ex,_⟩:=I.hok p _ hk
   refine⟨⟨o,e,ex.1⟩,λa e2=>?_⟩;cases e2;exact⟨o,e,ex.2.1⟩
 | _=>exact False.elim ty
def tBM0(K:PySem.W.Frag)(T:String)(r:V->List V->Hp->VK->Prop)(to:TE):TE:=λσ H Q=>to σ H λx H1=>tyV K T x H1/\r x [] H1 Q
def tBM(K:PySem.W.Frag)(T:String)(r:V->List V->Hp->VK->Prop)(to:TE)(t:TA):TE:=λσ H Q=>to σ H λx H1=>tyV K T x H1/\t σ H1 λxs H2=>r x xs H2 Q
variable{o e:Expr}{es:List Expr}{to:TE}{t:TA}{name:Str}{apos cpos:Pos}{T id:String}{r:V->List V->Hp->VK->Prop}
def zlb(pa:PlainAttrs T)(slot:Slot T name id)(hty:typeOf (.builtin id)=pure (.type "method_descriptor"))(hm:MtR X id r)(ho:PE X o to)
  (hbase:attributeBase o name X.env (eval o X.env)=eval o X.env:=by rfl) (hline:(apos.endLine==cpos.line)=true:=by rfl):PE X (.Call (.Attribute o name apos) [] [] cpos) (tBM0 X.K T r to):=by
 intro pins s σ H Q I h;refine wpAny_Call_method0_late hbase hline (thn (ho pins s σ H _ I h) λv s1 ⟨x,H1,I1,r1,ty,q1⟩=>?_);obtain⟨h1,h2⟩:=zgU I1 r1 ty;exact⟨T,id,pa,slot,hty,h1,h2,qI rfl (PySem.evalArgs_none (hm pins s1 σ H1 x [] v [] Q I1 r1 .nil q1))⟩
def ziD(pa:PlainAttrs T)(slot:Slot T name id)(hty:typeOf (.builtin id)=pure (.type "method_descriptor"))(hm:MtR X id r)(ho:PE X o to)(ha:PA X (e::es) t)
  (hbase:attributeBase o name X.env (eval o X.env)=eval o X.env:=by rfl)
  (hfew:((backTo cpos (starEach (e::es) X.env)).all (λx=>!x.1)&&(backToKw cpos (keywordEach [] X.env)).all (λx=>x.1.isSome)
   && decide ((e::es).length+([]:List Keyword).length+(if ([]:List Keyword).isEmpty then 0 else 1)<30))=true:=by rfl)
  (hline:(apos.endLine==cpos.line)=true:=by rfl) (hs:starEach (e::es) X.env=(false,eval e X.env)::starEach es X.env:=by rfl) (hplain:(backTo cpos (starEach es X.env)).any (·.1)=false:=by rfl) :
  PE X (.Call (.Attribute o name apos) (e::es) [] cpos) (tBM X.K T r to t):=by
 intro pins s σ H Q I h;refine wpAny_Call_method_late hbase hfew hline rfl (thn (ho pins s σ H _ I h) λv s1 ⟨x,H1,I1,r1,ty,q1⟩=>?_);obtain⟨h1,h2⟩:=zgU I1 r1 ty;refine⟨T,id,pa,slot,hty,h1,h2,?_⟩;have hA:=ha cpos pins s1 σ H1 _ I1 q1;rw[hs] at hA ⊢;refine qI (by show(false||(backTo cpos (starEach es X.env)).any (·.1))=false; rw[hplain]<;>rfl) (v9 ?_);exact thn hA λus s2 ⟨vs,H2,I2,r2,q2⟩=>hm pins s2 σ H2 x vs v us Q I2 r1 r2 q2
end
end L2
namespace L2
open PySem PySem.Spec PyProof.Rows
def MtM(X:Cx)(id:String)(r:V->List V->Hp->VK->Prop):Prop:=
 ∀(pins:List (Addr×Obj)) (s:Shared) (σ:St) (H:Hp) (x:V) (xs:List V) (v:Value) (us:List Value) (Q:VK),Inv X pins σ H s->RelV x v->Vals xs us->r x xs H Q->
  wpAny (model X.prog X.w) X.A (call (.builtin id) (v::us)) (EP X pins σ Q) X.xe s
def Vals.one:∀{x:V} {us:List Value},Vals [x] us->∃u,us=[u]/\RelV x u
 | _,_,.cons r .nil=>⟨_,rfl,r⟩
theorem Vals.zero:∀{us:List Value},Vals [] us->us=[]
 | _,.nil=>rfl
theorem Vals.dropLast{xs:List V}{us:List Value}(h:Vals xs us):Vals xs.dropLast us.dropLast:=by
 induction h with
 | nil=>exact .nil
 | cons r t ih=>
  cases t with
  | nil=>exact .nil
  | cons q t'=>exact .cons r ih
theorem Vals.rep{xs:List V}{us:List Value}(h:Vals xs us):∀k:Nat,Vals (List.replicate k xs).flatten (List.replicate k us).flatten
 | 0=>.nil
 | k+1=>by
  rw[jH,jH,j4,j4];exact Vals.append h (Vals.rep h k)
theorem ze7{α:Type}(l:List α):l.eraseIdx (l.length-1)=l.dropLast:=by
 induction l with
 | nil=>rfl
 | cons a r ih=>
  cases r with
  | nil=>rfl
  | cons b r=>
   have e:(a::b::r).length-1=((b::r).length-1)+1:=by
    have h1:(a::b::r).length=r.length+2:=rfl;have h2:(b::r).length=r.length+1:=rfl;omega
   rw[e,List.eraseIdx_cons_succ,ih];all_goals rfl
theorem foldl_rep(its:List Value):∀(k:Nat) (acc:List Value),
  List.foldl (λx1 x2=>x1++x2) acc.toArray (List.replicate k its.toArray)=(acc++(List.replicate k its).flatten).toArray
 | 0,acc=>by simp
 | k+1,acc=>by
  have e:acc.toArray++its.toArray=(acc++its).toArray:=by simp
  have e2:(acc++its)++(List.replicate k its).flatten=acc++(List.replicate (k+1) its).flatten:=by
   rw[jH,j4,jq]
  rw[<-e2,<-foldl_rep its k (acc++its),<-e,jH,List.foldl_cons]
section
variable{X:Cx}{pins:List (Addr×Obj)}{σ:St}{H:Hp}{s:Shared}{l b:Addr}{xs ys zs:List V}
def Inv.lset{its its':List Value}{n:Nat}{f:Array Value->Array Value}{t':Nat}(I:Inv X pins σ H s)(hH:H l=some (.lst xs))
  (e:s.heap.get? l=some { cls:=.type "list",data:=.seq its.toArray n }) (hf:f its.toArray=its'.toArray) (hv:Vals ys its') (hz:ys.length<=sizeLine) :
  Inv X pins σ (upd H l (.lst ys)) { s with heap:=s.heap.update l (Obj.mapSeq f),toks:=t' }:=by
 have q:=PySem.IsL.update e f;rw[hf] at q;refine I.write (x:=l) (e:=l) (by rw[hH]; exact trivial) (.inl rfl) (λb' u hb hu=>(j5 s.heap (Obj.mapSeq f) (kj hb)).trans hu) ⟨_,q⟩ ?_;exact⟨hz,its',_,hv,q⟩
def Inv.lnew{its:List Value}{t':Nat}(I:Inv X pins σ H s)(hv:Vals ys its)(hz:ys.length<=sizeLine) :
  Inv X pins σ (upd H s.heap.objs.size (.lst ys)) { s with heap:=s.heap.push { cls:=.type "list",data:=.seq its.toArray },toks:=t' }:=
 I.laid (λ_ _ q=>zb _ q) (zF _) ⟨hz,its,0,hv,zH _ rfl⟩
theorem Inv.fresh(I:Inv X pins σ H s):H s.heap.objs.size=none:=I.hok.fresh (zF _)
def Inv.lstM(I:Inv X pins σ H s)(hH:H l=some (.lst xs)):xs.length<=sizeLine/\∃(its:List Value) (n:Nat),Vals xs its/\xs.length=its.length/\s.heap.get? l=some { cls:=.type "list",data:=.seq its.toArray n }:=by
 obtain⟨z,its,n,r,e⟩:=I.hok l _ hH;exact⟨z,its,n,r,r.length,e⟩
def zhH{n:Nat}(h:n<=sizeLine):Builtin.List.listTooLong n=false:=by
 unfold Builtin.List.listTooLong;exact jF ∅
end
section
variable{X:Cx}
def zjI:V->List V->Hp->VK->Prop:=λx vs H Q=>∃l xs y,x=.ref l/\vs=[y]/\H l=some (.lst xs)/\xs.length<sizeLine/\Q .non (upd H l (.lst (xs++[y])))
def zde:MtM X "list.append" zjI:=by
 intro pins s σ H x vs v us Q I rx rv h;obtain⟨l,xs,y,rfl,rfl,hH,hz,q⟩:=h;cases rx;obtain⟨u,rfl,ru⟩:=rv.one;obtain⟨z,its,n,r,hl,e⟩:=I.lstM hH;refine jY F.slot_list_append ⟨_,e,rfl⟩ F.entry_list_append (F.args_list_append_2 _ _) (PySem.list_append l its.toArray n u (by rw[zA]; omega)) ⟨e,?_⟩;refine⟨.non,_,I.lset (its':=its++[u]) hH e (by simp) (r.append (.cons ru .nil)) ?_,rfl,q⟩;rw[zM,yr];omega
def rPop:V->List V->Hp->VK->Prop:=λx vs H Q=>∃l xs y,x=.ref l/\vs=[]/\H l=some (.lst xs)/\xs[xs.length-1]?=some y/\Q y (upd H l (.lst xs.dropLast))
def zlE:MtM X "list.pop" rPop:=by
 intro pins s σ H x vs v us Q I rx rv h;obtain⟨l,xs,y,rfl,rfl,hH,hy,q⟩:=h;cases rx;have hus:=rv.zero;subst hus;obtain⟨z,its,n,r,hl,e⟩:=I.lstM hH;obtain⟨u,hu,ru⟩:=r.get hy;have hy':its.toArray[its.toArray.size-1]?=some u:=by
  show its.toArray[its.length-1]?=some u
  rw[<-yu,<-hl];exact hu
 refine jY F.slot_list_pop ⟨_,e,rfl⟩ F.entry_list_pop (F.args_list_pop_1 _) (MeetsSeq.list_pop_last l its.toArray n u hy' (by rw[zA]; omega)) ⟨e,?_⟩;refine⟨y,_,I.lset (its':=its.dropLast) hH e ?_ r.dropLast ?_,ru,q⟩
 .show its.toArray.eraseIdxIfInBounds (its.toArray.size-1)=its.dropLast.toArray
  rw[zA,List.eraseIdxIfInBounds_toArray,ze7]
 .rw[List.length_dropLast]
  omega
def len_rep{α:Type}(xs:List α)(k:Nat):(List.replicate k xs).flatten.length=k*xs.length:=by
 induction k with
 | zero=>simp
 | succ k ih=>rw[jH,j4,zM,ih,Nat.succ_mul,ww]
end
end L2
namespace L2
open PySem PySem.Spec PyProof.Rows
section
variable{κ:Type}[DecidableEq κ]
def valV(kvs:List (κ×V))(k:κ):Option V:=(kvs.find? λkv=>decide (kv.1=k)).map (·.2)
def putK(kvs:List (κ×V))(k:κ)(v:V):List (κ×V):=
 if (kvs.any λkv=>decide (kv.1=k))=true then kvs.map (λkv=>if kv.1=k then (kv.1,v) else kv) else kvs++[(k,v)]
def zbW{p:κ×V}{r:List (κ×V)}{k:κ}(e:p.1=k):valV (p::r) k=some p.2:=by simp[valV,jl,e]
def zbT{p:κ×V}{r:List (κ×V)}{k:κ}(e:¬p.1=k):valV (p::r) k=valV r k:=by simp[valV,jl,e]
theorem zdZ(k:κ):∀kvs:List (κ×V),(kvs.any λkv=>decide (kv.1=k))=(valV kvs k).isSome
 | []=>rfl
 | p::r=>by
  rw[qp];by_cases e:p.1=k
  .simp only[zbW e,jN e,Bool.true_or,Option.isSome_some]
  .rw[zbT e,jF e,Bool.false_or]; exact zdZ k r
def zaH(kvs:List (κ×V))(k:κ)(v:V):(putK kvs k v).length<=kvs.length+1:=by
 unfold putK;split
 .rw[kE]; omega
 .rw[zM,zr,zU]; omega
theorem RelO.isSome_eq{o:Option V}{u:Option Value}(r:RelO o u):o.isSome=u.isSome:=by
 cases o with
 | none=>cases u with
  | none=>rfl
  | some _=>exact(show False from r).elim
 | some _=>cases u with
  | none=>exact(show False from r).elim
  | some _=>rfl
theorem RelO.getD{o:Option V}{u:Option Value}{d:V}{d':Value}(r:RelO o u)(rd:RelV d d'):RelV (o.getD d) (u.getD d'):=by
 cases o with
 | none=>cases u with
  | none=>exact rd
  | some _=>exact(show False from r).elim
 | some _=>cases u with
  | none=>exact(show False from r).elim
  | some _=>exact r
def KV.val{kvs:List (κ×V)}{vs:List (κ×Value)}(r:KV kvs vs)(k:κ):RelO (valV kvs k) (valueAt vs k):=by
 unfold KV at r;induction r with
 | nil=>exact True.intro
 | @cons p q ps qs h t ih=>
  obtain⟨h1,h2⟩:=h;by_cases e:p.1=k
  .have e':q.1=k:=h1.symm.trans e
   have b:valueAt (q::qs) k=some q.2:=by simp[valueAt,jl,e']
   rw[zbW e,b]; exact h2
  .have e':¬q.1=k:=λz=>e (h1.trans z)
   have b:valueAt (q::qs) k=valueAt qs k:=by simp[valueAt,jl,e']
   rw[zbT e,b]; exact ih
theorem KV.any{kvs:List (κ×V)}{vs:List (κ×Value)}(r:KV kvs vs)(k:κ):(kvs.any λkv=>decide (kv.1=k))=vs.any λkv=>decide (kv.1=k):=by
 unfold KV at r;induction r with
 | nil=>rfl
 | cons h t ih=>rw[qp,qp,ih,h.1]
def KV.repl{kvs:List (κ×V)}{vs:List (κ×Value)}(r:KV kvs vs)(k:κ){y:V}{u:Value}(ry:RelV y u) :
  KV (kvs.map λkv=>if kv.1=k then (kv.1,y) else kv) (vs.map λkv=>if kv.1=k then (kv.1,u) else kv):=by
 unfold KV at r ⊢;induction r with
 | nil=>exact .nil
 | @cons p q ps qs h t ih=>
  rw[zz,zz];refine .cons ?_ ih;obtain⟨h1,h2⟩:=h;by_cases e:p.1=k
  .rw[zW e,zW (h1.symm.trans e)]; exact⟨h1,ry⟩
  .rw[kO e,kO (λz=>e (h1.trans z))]; exact⟨h1,h2⟩
def KV.put{kvs:List (κ×V)}{vs:List (κ×Value)}(r:KV kvs vs)(k:κ){y:V}{u:Value}(ry:RelV y u):KV (putK kvs k y) (stored vs k u):=by
 unfold putK stored;rw[r.any k];by_cases e:(vs.any λkv=>decide (kv.1=k))=true
 .rw[zW e,zW e]; exact r.repl k ry
 .rw[kO e,kO e]; exact Paired.snoc r ⟨rfl,ry⟩
theorem KV.length{kvs:List (κ×V)}{vs:List (κ×Value)}(r:KV kvs vs):kvs.length=vs.length:=Paired.length r
end
def zdt{P:Program}{w:World}{k:Key}{u:Value}(r:RelV (kV k) u):(xK P w).is k u=true:=by
 cases k with
 | inl i=>obtain⟨t,e⟩:=(show ∃t,u=Value.int i t from r); subst e; exact zew P w i t
 | inr x=>obtain⟨t,e⟩:=(show ∃t,u=Value.str x t from r); subst e; exact zet P w x t
theorem zdf{P:Program}{w:World}:∀{ks:List Key} {us:List Value},Vals (ks.map kV) us->ItemsAre (xK P w) ks us
 | [],_,r=>by rw[jx] at r; cases r; exact .nil
 | k::ks,_,r=>by
  rw[zz] at r;cases r with
  | cons h t=>exact .cons (zdt h) (zdf t)
abbrev KT(H:Hp):List (List Key×V)->List (List Key×Addr×Value)->Prop:=Paired λp q=>p.1=q.1/\H q.2.1=some (.tup (p.1.map kV))/\RelV p.2 q.2.2
def KT.val{H:Hp}{kvs:List (List Key×V)}{xs:List (List Key×Addr×Value)}(r:KT H kvs xs)(k:List Key):RelO (valV kvs k) ((atKey xs k).map (·.2)):=by
 induction r with
 | nil=>exact True.intro
 | @cons p q ps qs h t ih=>
  obtain⟨h1,_,h2⟩:=h;by_cases e:p.1=k
  .have e':q.1=k:=h1.symm.trans e
   have b:atKey (q::qs) k=some q.2:=by simp[atKey,jl,e']
   rw[zbW e,b]; exact h2
  .have e':¬q.1=k:=λz=>e (h1.trans z)
   have b:atKey (q::qs) k=atKey qs k:=by simp[atKey,jl,e']
   rw[zbT e,b]; exact ih
def KT.repl{H:Hp}{kvs:List (List Key×V)}{xs:List (List Key×Addr×Value)}(r:KT H kvs xs)(k:List Key){y:V}{u:Value}(ry:RelV y u) :
  KT H (kvs.map λkv=>if kv.1=k then (kv.1,y) else kv) (xs.map (putAt k u)):=by
 induction r with
 | nil=>exact .nil
 | @cons p q ps qs h t ih=>
  rw[zz,zz];refine .cons ?_ ih;obtain⟨h1,h2,h3⟩:=h;unfold putAt;by_cases e:p.1=k
  .rw[zW e,zW (h1.symm.trans e)]; exact⟨h1,h2,ry⟩
  .rw[kO e,kO (λz=>e (h1.trans z))]; exact⟨h1,h2,h3⟩
def KT.put{H:Hp}{kvs:List (List Key×V)}{xs:List (List Key×Addr×Value)}(r:KT H kvs xs)(k:List Key){b:Addr}{y:V}{u:Value}(hb:H b=some (.tup (k.map kV)))(ry:RelV y u) :
  KT H (putK kvs k y) (storedH xs k b u):=by
 have e:(kvs.any λkv=>decide (kv.1=k))=(atKey xs k).isSome:=by
  rw[zdZ,(r.val k).isSome_eq,Option.isSome_map]
 unfold putK storedH;rw[e];by_cases q:(atKey xs k).isSome=true
 .rw[zW q,zW q]; exact r.repl k ry
 .rw[kO q,kO q]; exact Paired.snoc r ⟨rfl,hb,ry⟩
def KT.keeps{H H':Hp}{kvs:List (List Key×V)}{xs:List (List Key×Addr×Value)}(r:KT H kvs xs)(ht:∀b ys,H b=some (.tup ys)->H' b=some (.tup ys)):KT H' kvs xs:=
 Paired.mapP r λ_ _ z=>⟨z.1,ht _ _ z.2.1,z.2.2⟩
section
variable{P:Program}{w:World}{H:Hp}{h:Heap}{a:Addr}
def zim{u:HO}(ok:HOk P w H h)(e:Rd H a u):ObjOk P w H h a u:=e.ok ok
def zb7{kvs:List (Key×V)}(ok:HOk P w H h)(e:Rd H a (.dK kvs)):kvs.length<=sizeLine/\(a==sysModules)=false/\∃vs,KV kvs vs/\h.DictOf (xK P w) a vs:=
 show ObjOk P w H h a (.dK kvs) from zim ok e
def zma{kvs:List (Key×V)}(ok:HOk P w H h)(e:H a=some (.dK kvs)):kvs.length<=sizeLine/\(a==sysModules)=false/\∃vs,KV kvs vs/\h.DictOf (xK P w) a vs:=zb7 ok (.inl e)
def zdT{ks:List Key}(ok:HOk P w H h)(e:H a=some (.tup (ks.map kV))):(tupleKind (xK P w)).is h ks a:=by
 obtain⟨_,its,r,⟨o,h1,h2,n,h3⟩,_⟩:=(show ObjOk P w H h a (.tup (ks.map kV)) from ok a _ e);exact⟨o,its.toArray,n,h1,h2,h3,by simpa using zdf r⟩
def zfd{kvs:List (List Key×V)}(ok:HOk P w H h)(e:Rd H a (.dT kvs)):kvs.length<=sizeLine/\(a==sysModules)=false /\
  ∃xs,KT H kvs xs/\h.DictOfH (tupleKind (xK P w)) a xs:=by
 obtain⟨z,y,xs,r,o,es,ep,h1,h2,h3,h4,h5⟩:=(show ObjOk P w H h a (.dT kvs) from zim ok e);refine⟨z,y,xs,r,o,es,ep,h1,h2,h3,h4,λx hx=>?_,h5⟩;have all:∀{l:List (List Key×V)} {m:List (List Key×Addr×Value)},KT H l m->∀x∈m,(tupleKind (xK P w)).is h x.1 x.2.1:=by
  intro l m q;induction q with
  | nil=>intro x hx; exact nomatch hx
  | @cons p q ps qs hq t ih=>
   intro x hx;rcases zp.mp hx with e | hx
   .subst e
    exact zdT ok (by rw[<-hq.1]; exact hq.2.1)
   .exact ih x hx
 exact all r x hx
def zaX{kvs:List (List Key×V)}(ok:HOk P w H h)(e:H a=some (.dT kvs)):kvs.length<=sizeLine/\(a==sysModules)=false /\
  ∃xs,KT H kvs xs/\h.DictOfH (tupleKind (xK P w)) a xs:=zfd ok (.inl e)
end
def DGet(H:Hp)(a:Addr)(y:V)(r:Option V):Prop:=
 (∃kvs k,Rd H a (.dK kvs)/\y=kV k/\r=valV kvs k)\/∃kvs k b,Rd H a (.dT kvs)/\y=.ref b/\H b=some (.tup (k.map kV))/\r=valV kvs k
def DPut(H:Hp)(a:Addr)(y v:V)(H':Hp):Prop:=
 (∃kvs k,H a=some (.dK kvs)/\y=kV k/\kvs.length<sizeLine/\H'=upd H a (.dK (putK kvs k v))) \/
 ∃kvs k b,H a=some (.dT kvs)/\y=.ref b/\H b=some (.tup (k.map kV))/\kvs.length<sizeLine/\H'=upd H a (.dT (putK kvs k v))
section
variable{X:Cx}{pins:List (Addr×Obj)}{σ:St}{H:Hp}{s:Shared}{a:Addr}{y v:V}{u r:Value}{o:Option V}{A:Around}{E:Value->Shared->Prop}
def Inv.big(I:Inv X pins σ H s):sysModules<s.heap.objs.size:=by
 have h:mainGlobals<s.heap.objs.size:=(I.mod.glob.keeps I.bk).lt;exact yq (by decide) h
def zeM{h':Heap}{t':Nat}{ob:HO}(I:Inv X pins σ H s)(mu:Mut (H a))(hs:Heap.SameBut a s.heap h')(he:∃q,h'.get? a=some q)(new:ObjOk X.prog X.w (upd H a ob) h' a ob) :
  Inv X pins σ (upd H a ob) { s with heap:=h',toks:=t' }:=
 I.write (x:=a) (e:=a) mu (.inl rfl) (λb q hb z=>(hs.2 b hb).trans z) he new
def zdU{P:Program}{w:World}{H':Hp}{h':Heap}{kvs:List (Key×V)}{vs:List (Key×Value)}(z:kvs.length<=sizeLine)(hd:(a==sysModules)=false)(rel:KV kvs vs)(dd:h'.DictOf (xK P w) a vs) :
  ObjOk P w H' h' a (.dK kvs):=⟨z,hd,vs,rel,dd⟩
def zhe{H':Hp}{Q:Unit->Shared->Prop}(hu:A.units+1<cLine)(I:Inv X pins σ H s)(g:DPut H a y v H')(ry:RelV y u)(rv:RelV v r)(h:∀s',Inv X pins σ H' s'->Q () s') :
  wpAny (model X.prog X.w) A (setItem (.ref a) u r) Q E s:=by
 rcases g with ⟨kvs,k,e,ey,l,eH⟩ | ⟨kvs,k,b,e,ey,eb,l,eH⟩
 .subst ey eH
  obtain⟨z,hd,vs,rel,dd⟩:=zma I.hok e;have hz:vs.length<=sizeLine:=by rw[<-rel.length]; exact z
  have hl:(putK kvs k v).length<=sizeLine:=by have:=zaH kvs k v; omega
  refine wpAny_setItem_pairs (hsz:=hz) (zdt ry) dd λh' dd' hs=>h _ ?_
  have he:∃q,h'.get? a=some q:=let ⟨q,_,_,hq,_⟩:=dd'; ⟨q,hq⟩;exact zeM I (by rw[e]; exact True.intro) hs he (zdU hl hd (rel.put k rv) dd')
 .subst ey eH
  cases (show u=Value.ref b from ry);obtain⟨z,hd,xs,rel,dd⟩:=zaX I.hok e;have hz:xs.length<=sizeLine:=by rw[<-Paired.length rel]; exact z
  have hl:(putK kvs k v).length<=sizeLine:=by have:=zaH kvs k v; omega
  refine wpAny_setItem_heap (hsz:=hz) (tupleKind_room_in1 hu) (zdT I.hok eb) dd λh' dd' hs=>h _ ?_
  obtain⟨q,es,ep,hq,h2,h3,h4,_,h5⟩:=dd';refine zeM I (by rw[e]; exact True.intro) hs ⟨q,hq⟩ ⟨hl,hd,_,(rel.put k eb rv).keeps λc ys ec=>?_,q,es,ep,hq,h2,h3,h4,h5⟩;rw[yU (zl4 ec e (λz=>nomatch z))];exact ec
end
def zh8{P:Program}{w:World}{H:Hp}(h:Heap)(hb:sysModules<h.objs.size):ObjOk P w H (h.push { cls:=.type "dict",data:=.dict #[] }) h.objs.size (.dK []):=
 ⟨vO _,jG.mpr (kj (zO hb)),[],.nil,Heap.DictOf.new h⟩
def zk2:TE:=λ_ H Q=>∀p,H p=none->Q (.ref p) (upd H p (.dK []))
section
variable{X:Cx}{pos:Pos}
def zdL:PE X (.Dict [] [] pos) zk2:=λpins s σ H Q I h=>
 wpAny_Dict_empty ⟨.ref s.heap.objs.size,_,I.laid (a:=s.heap.objs.size) (o:=.dK []) (t':=s.toks) (λ_ _ q=>zb _ q) (zF _) (zh8 s.heap I.big),rfl,h _ (I.hok.fresh (zF _))⟩
end
def zaq(kvs more:List (Key×V)):List (Key×V):=more.foldl (λacc kv=>putK acc kv.1 kv.2) kvs
def KV.merge:∀{more:List (Key×V)} {rs:List (Key×Value)} {kvs:List (Key×V)} {vs:List (Key×Value)},KV more rs->KV kvs vs->KV (zaq kvs more) (merged vs rs):=by
 intro more rs kvs vs r;unfold KV at r;induction r generalizing kvs vs with
 | nil=>intro q; exact q
 | @cons p q ps qs h t ih=>
  intro r0;have e:KV (putK kvs p.1 p.2) (stored vs q.1 q.2):=by
   have:=r0.put p.1 h.2;rw[<-h.1]; exact this
  exact ih e
theorem za8:∀(more kvs:List (Key×V)),(zaq kvs more).length<=kvs.length+more.length
 | [],kvs=>by show kvs.length<=kvs.length+0; omega
 | p::r,kvs=>by
  have h1:=za8 r (putK kvs p.1 p.2);have h2:=zaH kvs p.1 p.2;show(zaq (putK kvs p.1 p.2) r).length<=_
  rw[zr]; omega
structure M2(X:Cx)(o:Expr)(m:Str)(apos:Pos)(e f:Expr)(cpos:Pos):Prop where
 base:attributeBase o m X.env (eval o X.env)=eval o X.env
 few:((backTo cpos (starEach [e,f] X.env)).all (λx=>!x.1)&&(backToKw cpos (keywordEach [] X.env)).all (λx=>x.1.isSome)
  && decide (([e,f]:List Expr).length+([]:List Keyword).length+(if ([]:List Keyword).isEmpty then 0 else 1)<30))=true
 line:(apos.endLine==cpos.line)=true
 trees:backTo cpos (starEach [e,f] X.env)=[(false,eval e X.env),(false,eval f X.env)]
def IsD(H:Hp)(a:Addr):Prop:=(∃kvs,Rd H a (.dK kvs))\/∃kvs,Rd H a (.dT kvs)
def zk3{X:Cx}{pins:List (Addr×Obj)}{σ:St}{H:Hp}{s:Shared}{a:Addr}(I:Inv X pins σ H s)(d:IsD H a) :
  s.TypeIs (.ref a) "dict" /\ (∀b,Value.ref a=.ref b->∃ob,s.heap.get? b=some ob/\ob.dict=none)/\(a==sysModules)=false:=by
 rcases d with ⟨kvs,e⟩ | ⟨kvs,e⟩
 .obtain⟨_,hd,vs,_,dd⟩:=zb7 I.hok e
  refine⟨dd.typeIs,λb q=>?_,hd⟩;cases q;obtain⟨ob,_,_,h1,h2,_⟩:=dd;exact⟨ob,h1,h2.2.1⟩
 .obtain⟨_,hd,xs,_,dd⟩:=zfd I.hok e
  refine⟨dd.typeIs,λb q=>?_,hd⟩;cases q;obtain⟨ob,_,_,h1,h2,_⟩:=dd;exact⟨ob,h1,h2.2.1⟩
section
variable{X:Cx}{pins:List (Addr×Obj)}{σ:St}{H:Hp}{s:Shared}{a:Addr}{y d:V}{u r:Value}{o:Option V}{A:Around}{E:Value->Shared->Prop}
def zlL{Q:Value->Shared->Prop}(hu:A.units+1<cLine)(I:Inv X pins σ H s)(g:DGet H a y o)(ry:RelV y u)(rd:RelV d r)(h:∀w' s',Inv X pins σ H s'->RelV (o.getD d) w'->Q w' s') :
  wpAny (model X.prog X.w) A (call (.builtin "dict.get") [.ref a,u,r]) Q E s:=by
 rcases g with ⟨kvs,k,e,ey,l⟩ | ⟨kvs,k,b,e,ey,eb,l⟩
 .subst ey
  obtain⟨z,hd,vs,rel,dd⟩:=zb7 I.hok e;refine call_meetsIn vD dd.typeIs yh (yd _ _ _) (meets_dict_get_default (xK X.prog X.w) a (zdt ry) hd r) ⟨_,dd.mapOf,h _ _ (I.tok _) ?_⟩;rw[l];exact(rel.val k).getD rd
 .subst ey
  cases (show u=Value.ref b from ry);obtain⟨z,hd,xs,rel,dd⟩:=zfd I.hok e;refine call_meetsIn vD dd.typeIs yh (yd _ _ _) (meetsH_dict_get_default (tupleKind (xK X.prog X.w)) a b hd r) ⟨tupleKind_room_in1 hu,k,xs,zdT I.hok eb,dd,h _ _ (I.tok _) ?_⟩;rw[l];exact(rel.val k).getD rd
end
def zlk(td ty tx:TE):TE:=λσ H Q=>td σ H λx H1=>∃a,x=.ref a/\IsD H1 a/\ty σ H1 λy H2=>tx σ H2 λz H3=>∃o,DGet H3 a y o/\Q (o.getD z) H3
section
variable{X:Cx}{o e f:Expr}{apos cpos:Pos}{td ty tx:TE}
def zh4(hu:X.A.units+1<cLine)(ho:PE X o td)(he:PE X e ty)(hf:PE X f tx)(m:M2 X o "get" apos e f cpos):PE X (.Call (.Attribute o "get" apos) [e,f] [] cpos) (zlk td ty tx):=by
 intro pins s σ H Q I h;refine wpAny_Call_method m.base m.few m.line PySem.F.plainAttrs_dict vD PySem.F.type_dict_get (thn (ho pins s σ H _ I h) λu s1 ⟨x,H1,I1,rx,a,ex,d,q1⟩=>?_);subst ex;obtain rfl:u=Value.ref a:=rx;obtain⟨t1,t2,_⟩:=zk3 I1 d;refine⟨t1,t2,?_⟩;rw[m.trees]
 refine qI rfl (v9 (qD (thn (he pins s1 σ H1 _ I1 q1) λiv s2 ⟨y,H2,I2,ry,q2⟩=>
  qD (thn (hf pins s2 σ H2 _ I2 q2) λfv s3 ⟨z,H3,I3,rz,ov,g,q3⟩=>vL ?_))))
 exact zlL hu I3 g ry rz λw' s4 I4 rw'=>⟨_,H3,I4,rw',q3⟩
end
section
variable{X:Cx}{pins:List (Addr×Obj)}{σ:St}{H:Hp}{s:Shared}{a:Addr}{kvs:List (Key×V)}{A:Around}{E:Value->Shared->Prop}
def zhl{Q:Value->Shared->Prop}(I:Inv X pins σ H s)(e:Rd H a (.dK kvs))(h:∀p s',H p=none->Inv X pins σ (upd H p (.dK kvs)) s'->Q (.ref p) s'):wpAny (model X.prog X.w) A (call (.type "dict") [.ref a]) Q E s:=by
 obtain⟨z,hd,vs,rel,dd⟩:=zb7 I.hok e;refine kt_call_dict hd dd (by rw[<-rel.length]; exact z) λh' dd' hs=>?_
 refine h _ _ (I.hok.fresh (zF _)) (I.laid (a:=s.heap.objs.size) (o:=.dK kvs) (t':=s.toks) (λb q hq=>?_) (zF _) (zdU z (jG.mpr (kj (zO I.big))) rel dd'));exact(hs.2 b (zO (zy hq))).trans (zb _ hq)
end
end L2
namespace Att
open PySem PySem.W PySem.Calls PyProof.Rows
def zco{P:Params}{h:Heap}:∀(ns:List Int) (vs:List Value),WellAll P h vs (ns.map WData.int)->IntsAre vs ns:=by
 intro ns;induction ns with
 | nil=>
  intro vs w;rw[jx] at w;cases w;exact .nil
 | cons n ns ih=>
  intro vs w;rw[zz] at w;cases w with
  | cons a b=>
   cases a;exact .cons _ _ (ih _ b)
def zga{l:OpenLaw}{n:Nat}(hn:l.most=some n){P:Params}{h:Heap}{args:List WData}{vals:List Value}
  (hpre:l.row.toRowW.claim.pre args=true) (hwl:WellAll P h vals args) :
  ∃a vs ns,vals=[Value.ref a]/\args=[WData.list (ns.map WData.int)]/\h.get? a=some { cls:=.type "list",data:=.seq vs.toArray }/\IntsAre vs ns/\ns.length<=n:=by
 have hsh:WShape.hasAll [] args [.list .int]=true:=(pre_splitW hpre).1;have hc:l.pre.holds [] { args:=args }=true:=(pre_splitW hpre).2;obtain⟨d,r,rfl,h1,h2⟩:=hasAllW_cons hsh;obtain rfl:=hasAllW_nil h2;obtain⟨xs,rfl,h3⟩:=hasW_list h1;obtain⟨ns,rfl⟩:=items_int h3;have hlen:ns.length<=n:=by
  unfold OpenLaw.pre at hc;have h4:(WTm.not (.lt (.lit (.int (n:Int))) (.len (.arg 0)))).holds [] { args:=[.list (ns.map .int)] }=true:=by
   have h4:=(holds_andW hc).1;rw[hn] at h4;exact h4
  have h5:=condW_of h4 (w_not (w_lt w_lit (w_len_list (w_arg rfl))));rw[kE] at h5;refine Nat.le_of_not_lt λq=>?_
  have q':(n:Int)<((ns.length:Nat):Int):=by omega
  first
   | (rw[jN q'] at h5; exact absurd h5 (by decide))
   | (simp at h5; omega)
 cases hwl with
 | cons w1 w2=>
  cases w2;cases w1 with
  | list ho hall=>exact⟨_,_,ns,rfl,rfl,ho,zco ns _ hall,hlen⟩
theorem zgd(l:OpenLaw)(args:List WData):l.row.toRowW.claim.post args (.bool true) args=true:=
 postW_of (r:=l.row.toRowW) (X:=(true==true))
  (show WShape.has [] (.bool true) .bool=true by first | rfl | decide | simp[WShape.has,WShape.arms,WShape.armsAll])
  (show(WTm.eq .res (.lit (.bool true))).value [] { args:=args,res:=some (.bool true),after:=args }=some (.bool (true==true)) from w_eq_bool (w_res rfl) w_lit) rfl
def attach_call{l:OpenLaw}{n:Nat}{q:Program}{loose:List Str}{XP:(Str->Option Value)->Heap->Prop}{YP:World->Heap->Prop}{d:DefRec}
  (hn:l.most=some n) (hdf:d.params.defaults=[])
  (call:∀(w:World) (s₀ s₁:Shared) (mg mb:Str->Option Value) (fa:Addr) (o:Obj) (pm cd doc:Value) (a:Addr) (vs:List Value) (ns:List Int),
   Ground q loose [] XP w s₀ mg mb s₁.heap->YP w s₁.heap->
   s₁.heap.get? fa=some o->o.data=.func (docDef d.name d.params d.body d.scope pm cd doc)->s₁.heap.CodeRec cd d.name->mg d.name=some (.ref fa)->
   s₁.heap.get? a=some { cls:=.type "list",data:=.seq vs.toArray }->IntsAre vs ns->ns.length<=n->s₁.gens = #[]->
   codeAny (model l.prog w) callerA (.call (.ref fa) ⟨[.ref a],[]⟩) (λr s'=>r=.ok (.ret (.bool true))/\OldK s₁.heap s'.heap/\s'.os=s₁.os/\AllBare s'.gens) s₁) :
  WalkO q loose XP YP l.row.toRowW d [] (λf vs=>PySem.call f vs):=by
 intro w s₀ s₁ mg mb G Y fa o pm cd doc dV kV ho hd hcd hD hmg hg args vals as hpre hlay hrd hwl hlo;obtain rfl:dV=.none:=Dflts.none hD hdf;obtain rfl:kV=.none:=Dflts.noKw hD;obtain⟨a,vs,ns,rfl,rfl,hobj,hints,hlen⟩:=zga hn hpre hwl;refine enter_call (codeAny_mono (call w s₀ s₁ mg mb fa o pm cd doc a vs ns G Y ho (fd_plain hd) hcd hmg hobj hints hlen hg) λr s' hq=>?_);obtain⟨rfl,h2,h3,h4⟩:=hq;exact⟨.inl ⟨.bool true,.bool true,[],rfl,λ_=>rfl,.bool true,zgd l _,λ_=>⟨List.Pairwise.nil,λ_ hm=>(nomatch hm)⟩⟩,h2,h3,h4⟩
end Att
namespace L2
open PySem PySem.Spec PyProof.Rows
theorem zcW:∀{vs:List Value} {ns:List Int},IntsAre vs ns->Vals (ns.map V.int) vs
 | _,_,.nil=>.nil
 | _,_,.cons n t h=>.cons ⟨t,rfl⟩ (zcW h)
def Only(H:Hp):Prop:=∀b,H b=none\/∃o xs,H b=some (.frz o (.lst xs))
def zhO{P:Program}{w:World}{K:PySem.W.Frag}{mg mb:Str->Option Value}{CX:CXT}{k:Nat}{fa a:Addr}{fd:FuncData}{x:Str}{sp:Sp}{s₁:Shared}{vs:List Value}{ns:List Int}
  (KX:K.In s₁.heap) (hns:s₁.heap.Ns mainGlobals mg) (hb:s₁.heap.Ns builtinsNs mb) (hbb:∀x:Str,x≠"__name__"->mb x=bootBuiltins x) (hlim:s₁.heap.NoLimit) (hg:s₁.gens = #[])
  (ha:s₁.heap.get? a=some { cls:=.type "list",data:=.seq vs.toArray }) (hi:IntsAre vs ns) (hl:ns.length<=sizeLine) (hr:Room k callerA)
  (F:∀base:Heap,K.In base->base.Ns mainGlobals mg->FnOk P w K mg base CX k fa fd [x] sp) (hbind:∀(s:Shared) (u:Value),BindsTo s fd ⟨[u],[]⟩ [(x,u)])
  (hsp:∀H:Hp,Only H->SqL K H a (ns.map V.int)->sp [.ref a] H (λv _=>v=.bl true) λ_ _ _=>False)
  (hCX:∀H e s',CX [] H s₁ (λ_ _ _=>False) e s'->False) :
  codeAny (model P w) callerA (.call (.ref fa) ⟨[.ref a],[]⟩) (λr s'=>r=.ok (.ret (.bool true))/\OldK s₁.heap s'.heap/\s'.os=s₁.os/\AllBare s'.gens) s₁:=by
 have rv:=zcW hi;have lenV:=hi.length;have core:∀H:Hp,Only H->SqL K H a (ns.map V.int)->HOk P w H s₁.heap->(∀b,H b≠none->b=a)->(H a≠none->K.lookup a=none)->
   codeAny (model P w) callerA (.call (.ref fa) ⟨[.ref a],[]⟩) (λr s'=>r=.ok (.ret (.bool true))/\OldK s₁.heap s'.heap/\s'.os=s₁.os/\AllBare s'.gens) s₁:=by
  intro H hO hS hok hA hK;have base_of:∀{b:Addr} {o:Obj},s₁.heap.get? b=some o->H b=none->(hidT s₁.heap H).get? b=some o:=λe n=>zhY e n
  have noA:∀{b:Addr} {o:Obj} {es:Array DictEntry} {ep:Nat},s₁.heap.get? b=some o->o.data=.dict es ep->H b=none:=λ{b o es ep} e d=>by
   cases q:H b with
   | none=>rfl
   | some u=>
    have e':b=a:=hA b (by rw[q]; simp);subst e';rw[ha] at e; cases e;have d':Data.seq vs.toArray _=Data.dict es ep:=d;cases d'
  have nsK:∀{b:Addr} {m:Str->Option Value},s₁.heap.Ns b m->(hidT s₁.heap H).Ns b m:=λ{b m} ⟨o,es,ep,e,d,r⟩=>⟨o,es,ep,base_of e (noA e d),d,r⟩
  have hKb:K.In (hidT s₁.heap H):=λb o e=>base_of (KX b o e) (by
   cases q:H b with
   | none=>rfl
   | some u=>
    have e':b=a:=hA b (by rw[q]; simp);subst e'
    rw[hK (by rw[q]; simp)] at e; cases e)
  have hM:Mod K mg (hidT s₁.heap H):=⟨hKb,nsK hns,⟨mb,nsK hb,hbb⟩,let ⟨mc,h1,h2⟩:=hlim; ⟨mc,nsK h1,h2⟩⟩;have e0:Env0 P w K mg (hidT s₁.heap H) callerA [] s₁ H:=⟨rfl,hM,λb o e=>zjr e,Nat.le_of_eq (zha _ _),trivial,λb hb=>absurd (show b∈([]:List Addr) from hb) (by simp),hok,.of_eq hg⟩;refine codeAny_mono ((F _ hKb (nsK hns)).run callerA [] s₁ H ⟨[.ref a],[]⟩ [.ref a] [.ref a] _ _ hr e0 (hbind s₁ (.ref a)) (.cons rfl .nil) (hsp H hO hS)) λr s' h=>?_
  cases r with
  | error e=>exact(hCX H e s' h).elim
  | ok fl=>
   cases fl with
   | next=>exact False.elim h
   | brk=>exact False.elim h
   | cont=>exact False.elim h
   | ret u=>
    obtain⟨v,H',os,bare,un,hok',r',q⟩:=h;have q':v=.bl true:=q;subst q';obtain rfl:u=Value.bool true:=r';refine⟨rfl,OldK.of_keep λb o e=>?_,os,bare⟩;cases q:H b with
    | none=>exact un.keep b o e q (by intro z; exact absurd (show b∈([]:List Addr) from z) (by simp)) (by simp)
    | some u=>
     rcases hO b with z | ⟨ob,xs,z⟩
     .rw[q] at z; cases z
     .have z2:=un.frzs b ob _ z
      obtain⟨e1,_⟩:=hok b _ z;obtain⟨e2,_⟩:=hok' b _ z2;rw[e] at e1; cases e1;exact e2
 cases hk:K.lookup a with
 | some o=>
  have e:=KX a o hk;rw[ha] at e;cases e;refine core (λ_=>none) (λ_=>.inl rfl) (.inr ⟨_,vs.toArray,_,hk,rfl,rfl,rfl,by rw[zA,lenV]; exact hl,by simpa using rv⟩) (λb u z=>by have z':(none:Option HO)=some u:=z; cases z') (λb z=>absurd rfl z) λz=>absurd rfl z
 | none=>
  refine core (λb=>if b=a then some (.frz { cls:=.type "list",data:=.seq vs.toArray } (.lst (ns.map V.int))) else none) (λb=>?_) (.inl (.inr ⟨{ cls:=.type "list",data:=.seq vs.toArray },zW rfl⟩)) (λb u z=>?_) (λb z=>?_) λ_=>hk
  .by_cases hb:b=a
   .exact .inr ⟨_,_,zW hb⟩
   .exact .inl (kO hb)
  .by_cases hb:b=a
   .have z':=(zW hb).symm.trans z
    cases z';subst hb;exact⟨ha,by rw[kE]; exact hl,vs,_,rv,ha⟩
   .have z':=(kO hb).symm.trans z
    cases z'
  .by_cases hb:b=a
   .exact hb
   .exact absurd (kO hb) z
end L2
namespace L2
open PySem PySem.Spec PyProof.Rows
end L2
namespace L2
open PySem PySem.Spec PyProof.Rows
def uG(s:Stmt):Arguments:=match s with
 | .FunctionDef _ a _ _ _ _ _ _ _ _=>a
 | _=>{ posonlyargs:=[],args:=[],vararg:=none,kwonlyargs:=[],kw_defaults:=[],kwarg:=none,defaults:=[] }
def xQ(s:Stmt):List Stmt:=match s with
 | .FunctionDef _ _ b _ _ _ _ _ _ _=>b
 | _=>[]
def xf(s:Stmt):Scope:=match s with
 | .FunctionDef _ _ _ _ _ _ sc _ _ _=>sc
 | _=>{ kind:=.function,names:=[],isGenerator:=false,isCoroutine:=false }
abbrev CX0:CXT:=λ_ _ _ _ _ _=>False
abbrev E0:XK:=λ_ _ _=>False
def zil{X:Cx}:zcd CX0 X E0:=λ_ _ _ _ _ _ _ h=>h.elim
structure Fun(K:PySem.W.Frag)(x qual:Str)(st:Stmt)(f:Addr)(fd:FuncData):Prop where
 ex:∃(oc:Value) (od:Option Addr) (kV doc pm:Value) (an:Option Addr) (cdv ct:Value) (osl:Array (Option Value)),
  fd=PySem.W.fnOf x qual (uG st) (xQ st) (xf st) .none kV doc pm an cdv ct/\K.lookup f=some ⟨oc,od,.func fd,osl⟩/\PySem.W.codeIn K cdv qual=true
 kp:PySem.W.keepIn K (.ref f)=true
section
variable{P:Program}{w:World}{K:PySem.W.Frag}{mg:Str->Option Value}{base:Heap}
def Fun.ok{x qual:Str}{st:Stmt}{f:Addr}{fd:FuncData}{N ps:List Str}{k:Nat}{sp:Sp}(F:Fun K x qual st f fd)(S:FnScope N ps (xf st))(len:∀vs H Q E,sp vs H Q E->vs.length=ps.length)
  (hbody:∀(cdv:Value) (A:Around) (outer:List Env) (s:Shared) (H:Hp) (vs:List V) (Q:VK) (E:XK),Room k (A.deeper (envOfC qual (xf st) s.heap.objs.size f cdv))->sp vs H Q E->
   ∃t,PSs (cxOf CX0 P w K mg base N qual (xf st) f cdv A outer s H E).nox (xQ st) t/\t { nx:=λ_ H'=>Q .non H',rt:=Q } (start N vs) H):FnOk P w K mg base CX0 (k+1) f fd ps sp:=by
 obtain⟨oc,od,kV,doc,pm,an,cdv,ct,osl,rfl,lk,hcd⟩:=F.ex;refine zms lk hcd S len λA outer s H vs Q E hr hsp=>?_
 obtain⟨t,h,q⟩:=hbody cdv A outer s H vs Q E hr hsp;exact⟨t,h.nox,q⟩
def Fun.binds{x qual:Str}{st:Stmt}{f:Addr}{fd:FuncData}{ps:List Str}(F:Fun K x qual st f fd)
  (h:∀(kV doc pm:Value) (an:Option Addr) (cdv ct:Value) (us:List Value),us.length=ps.length->bindArgs (PySem.W.fnOf x qual (uG st) (xQ st) (xf st) .none kV doc pm an cdv ct) ⟨us,[]⟩=pure (ps.zip us)):Binds K fd ps []:=by
 obtain⟨oc,od,kV,doc,pm,an,cdv,ct,osl,rfl,lk,hcd⟩:=F.ex;exact .all (h kV doc pm an cdv ct)
def zj8{x qual:Str}{st:Stmt}{f:Addr}{oc:Value}{od an:Option Addr}{osl:Array (Option Value)}{kV doc pm cdv ct:Value}(l:K.lookup f=some ⟨oc,od,.func (PySem.W.fnOf x qual (uG st) (xQ st) (xf st) .none kV doc pm an cdv ct),osl⟩)
  (c:PySem.W.codeIn K cdv qual=true) (k:PySem.W.keepIn K (.ref f)=true):Fun K x qual st f (PySem.W.fnOf x qual (uG st) (xQ st) (xf st) .none kV doc pm an cdv ct):=⟨⟨oc,od,kV,doc,pm,an,cdv,ct,osl,rfl,l,c⟩,k⟩
end
end L2
end
set_option bootstrap.genMatcherCode false
set_option genSizeOf false
set_option genSizeOfSpec false
namespace L2
open PySem PySem.W PyProof.Rows
section
variable{prog:Program}{w:World}{A:Around}{E:Value->Shared->Prop}
theorem zcQ{it t:Addr}{items:Array Value}(hh:A.handled=none)(hne:t≠it):∀(n i:Nat) (s:Shared) (Q:List Value->Shared->Prop),s.heap.IsListIter it t i->s.heap.IsList t items->i+n<=items.size->
  (∀h' tk,h'.IsListIter it t (i+n)->h'.IsList t items->(∀b o,b≠it->s.heap.get? b=some o->h'.get? b=some o)->Q ((items.toList.drop i).take n) { s with heap:=h',toks:=tk })->wpAny (model prog w) A (draw (.ref it) n) Q E s
 | 0,i,s,Q,hit,ht,_,hQ=>by
  show wpAny _ _ (pure []) Q E s
  exact zu (by simpa using hQ s.heap s.toks hit ht λ_ _ _ e=>e)
 | n+1,i,s,Q,hit,ht,hle,hQ=>by
  have hlt:i<items.size:=by omega
  show wpAny _ _ (pyNext (.ref it) >>= _) Q E s
  refine za ((yF hh it t hne items).item i s _ _ hlt ⟨hit,ht⟩ λv h1 tk hv st k1=>?_);rw[show items[i]?=some items[i] by simp[hlt]] at hv;cases hv;refine za (kZ (zcQ hh hne n (i+1) _ _ st.1 st.2 ∅ λh2 tk2 a1 a2 a3=>zu ?_));have hd:items.toList.drop i=items[i]::items.toList.drop (i+1):=by simp[q8,hlt]
  have:=hQ h2 tk2 (by rw[show i+(n+1)=i+1+n by omega]; exact a1) a2 λb o ne e=>a3 b o ne (k1 b o (by simpa using ne) e)
  rw[hd,List.take_succ_cons] at this;exact this
def zer{s:Shared}{t:Addr}{items:Array Value}{targets:List (Bool×(Value->Sem Unit))}{Q:Unit->Shared->Prop}(hh:A.handled=none)(ht:s.heap.IsList t items)
  (hn:targets.length=items.size) (hstar:targets.findIdx? (·.1)=none)
  (h:∀h' tk,(∀b o,s.heap.get? b=some o->h'.get? b=some o)->wpAny (model prog w) A (assignInOrder (targets.map (·.2)) items.toList) Q E { s with heap:=h',toks:=tk }) :
  wpAny (model prog w) A (unpack (.ref t) targets) Q E s:=by
 have hlt:t<s.heap.objs.size:=by obtain⟨o,ho,_⟩:=ht; exact zy ho
 unfold unpack;rw[hn,hstar];refine za (kZ ?_);unfold unpackItems notIterableAtAll;refine za (za (wpAny_specialOf ht.typeIs PySem.slot_list_iter.lookup (zu ?_)));simp only[jC,qC];refine za (kZ (qJ ht ?_));refine za (kZ (zcQ hh (zO hlt) items.size 0 _ _ ⟨_,zH _ rfl,rfl,rfl⟩ (ht.push _) ∅ λh1 tk hit1 ht1 k1=>?_));have hall:List.take items.size (List.drop 0 items.toList)=items.toList:=by
  rw[wW]; exact yj (by simp)
 rw[hall,kO (by simp)];refine za (kZ ((yF hh s.heap.objs.size t (zO hlt) items).done _ _ _ ⟨by simpa using hit1,ht1⟩ λh2 tk2 k2=>?_));simp only[Option.isSome_none,jC,qC];refine zu (h h2 tk2 λb o e=>?_);have ne:=zO (zy e);exact k2 b o (by simpa using ne) (k1 b o ne (zb _ e))
end
variable{X:Cx}{pos:Pos}
def gLst(K:PySem.W.Frag)(n:Nat)(t:TGs):TG:=λv σ H Q=>∃a xs,v=.ref a/\SqL K H a xs/\xs.length=n/\t xs σ H Q
def zlI{es:List Expr}{k:Nat}{t:TGs}{n:Nat}(hc:X.calm=true)(h:PGs X es t)
  (hn:(assignEach es X.env).length=n) (hst:(assignEach es X.env).findIdx? (·.1)=none):PG X (.Tuple es k pos) (gLst X.K n t):=by
 intro pins s σ H v u Q I r hw;obtain⟨a,xs,e1,hq,hl,hw⟩:=hw;subst e1;cases r;obtain⟨its,rv,⟨o,m,g1,g2,g3,g4⟩,hz⟩:=I.list hq;rw[assign_Tuple];refine za (wI (zer (items:=its.toArray) (I.ok.hd hc) ⟨o,g1,g2,m,g4⟩ (by simp[hn,<-hl,rv.length]) hst λh' tk hx=>?_));have I1:Inv X pins σ H { s with heap:=h',toks:=tk }:=I.kept (t':=tk) λb o e=>hx b o e
 exact h pins _ σ H xs _ Q I1 (by simpa using rv) hw
end L2
namespace ML
open PySem PySem.Spec PyProof.Rows L2
inductive W where
 | non | bl (b:Bool) | int (i:Int) | str (x:Str) | tup (l:List W) | fls (l:List W) | ref (n:Nat) | fdc (l:List (Key×W)) | fn (a:Addr)
 deriving Inhabited
inductive MO where
 | lst (l:List W) | dic (l:List (Key×W)) | ins (c:Nat) (fs:List (Str×W)) | tdc (ks:List (List Str))
structure Cl where
 c:Nat->Addr
 P:Program
 w:World
noncomputable def TDat(P:Program)(w:World)(a:Addr)(xs:List (List Str×Addr×Value)):Heap->Prop:=λh=>∃o es ep,h.get? a=some o/\o.ExactDict/\o.data=.dict es ep/\es.toList=xs.map (entryOfKey (tupleKind (strKind P w)))
abbrev MH:=List MO
abbrev M(α:Type):=MH->Option (α×MH)
abbrev En:=List (Option W)
abbrev ME:=En->M W
abbrev MT:=En->M Bool
noncomputable def bnd{α β:Type}(m:M α)(f:α->M β):M β:=λh=>match m h with
 | some (a,h')=>f a h'
 | none=>none
def yM{α β:Type}{m:M α}{f:α->M β}{h:MH}{r:β×MH}(e:bnd m f h=some r):∃a h',m h=some (a,h')/\f a h'=some r:=by
 unfold bnd at e;split at e
 .rename_i a h' e'
  exact⟨a,h',e',e⟩
 .cases e
noncomputable def SqF(K:PySem.W.Frag)(μ:List Addr)(H:Hp)(a:Addr)(vs:List V):Prop:=(Rd H a (.lst vs)/\a∉μ) \/
 ∃(o:Obj) (its:Array Value) (n:Nat),K.lookup a=some o/\o.cls=.type "list" /\ o.dict=none/\o.data=.seq its n/\its.size<=sizeLine/\Vals vs its.toList
def SqF.sq{K:PySem.W.Frag}{μ:List Addr}{H:Hp}{a:Addr}{vs:List V}(h:SqF K μ H a vs):SqL K H a vs:=h.elim (λh=>.inl h.1) .inr
noncomputable def SqD(μ:List Addr)(H:Hp)(a:Addr)(l:List (Key×V)):Prop:=Rd H a (.dK l)/\a∉μ
section rel
variable(K:PySem.W.Frag)(cl:Cl)(μ:List Addr)(H:Hp)
mutual
inductive RW:W->V->Prop
 | non:RW .non .non
 | bl (b:Bool):RW (.bl b) (.bl b)
 | int (i:Int):RW (.int i) (.int i)
 | str (x:Str):RW (.str x) (.str x)
 | tup {a:Addr} {vs:List V} {l:List W}:SqT K H a vs->RWs l vs->RW (.tup l) (.ref a)
 | ref {n:Nat} {a:Addr}:μ[n]?=some a->RW (.ref n) (.ref a)
 | fls {a:Addr} {vs:List V} {l:List W}:SqF K μ H a vs->RWs l vs->RW (.fls l) (.ref a)
 | fdc {a:Addr} {l:List (Key×W)} {l':List (Key×V)} {ws:List W} {vs:List V}:SqD μ H a l'->l.map (·.1)=l'.map (·.1)->ws=l.map (·.2)->vs=l'.map (·.2)->RWs ws vs->RW (.fdc l) (.ref a)
 | fn {a:Addr}:RW (.fn a) (.ref a)
inductive RWs:List W->List V->Prop
 | nil:RWs [] []
 | cons {w:W} {v:V} {l:List W} {vs:List V}:RW w v->RWs l vs->RWs (w::l) (v::vs)
end
noncomputable def RKs{κ:Type}(l:List (κ×W))(l':List (κ×V)):Prop:=l.map (·.1)=l'.map (·.1)/\RWs K μ H (l.map (·.2)) (l'.map (·.2))
noncomputable def OR(a:Addr):MO->Prop
 | .lst l=>∃vs,H a=some (.lst vs)/\RWs K μ H l vs
 | .dic l=>∃l',H a=some (.dK l')/\RKs K μ H l l'
 | .ins c fs=>∃dx fs',H a=some (.ins (cl.c c) dx fs')/\RKs K μ H fs fs'
 | .tdc ks=>∃xs:List (List Str×Addr×Value),H a=some (.ext (TDat cl.P cl.w a xs))/\xs.map (·.1)=ks/\ks.Nodup/\(a==sysModules)=false/\RWs K μ H (ks.map λk=>.tup (k.map .str)) (xs.map λx=>.ref x.2.1)
structure HR(h:MH):Prop where
 len:μ.length=h.length
 nd:μ.Nodup
 ob:∀(n:Nat) (a:Addr) (o:MO),μ[n]?=some a->h[n]?=some o->OR K cl μ H a o
structure ER(ρ:En)(σ:L2.St):Prop where
 len:ρ.length=σ.length
 at_:∀(i:Nat) (w:W),ρ[i]?=some (some w)->∃v,σ[i]?=some (some v)/\RW K μ H w v
end rel
structure Ext(μ:List Addr)(H:Hp)(μ':List Addr)(H':Hp):Prop where
 pre:μ<+:μ'
 fr:∀b o,H b=some o->b∉μ->H' b=some o/\b∉μ'
section
variable{K:PySem.W.Frag}{cl:Cl}{μ μ' μ'':List Addr}{H H' H'':Hp}{h h':MH}
def Ext.refl:Ext μ H μ H:=⟨kJ _,λ_ _ e n=>⟨e,n⟩⟩
theorem Ext.trans(a:Ext μ H μ' H')(b:Ext μ' H' μ'' H''):Ext μ H μ'' H'':=
 ⟨a.pre.trans b.pre,λc o e n=>let ⟨e1,n1⟩:=a.fr c o e n; b.fr c o e1 n1⟩
def Ext.get(a:Ext μ H μ' H'){n:Nat}{x:Addr}(e:μ[n]?=some x):μ'[n]?=some x:=by
 obtain⟨r,rfl⟩:=a.pre;rw[zQ (zJ.mp e).1]; exact e
theorem OR.some{a:Addr}{o:MO}(q:OR K cl μ H a o):∃u,H a=some u/\Mut (some u):=by
 cases o with
 | lst l=>obtain⟨vs,q,_⟩:=q; exact⟨_,q,trivial⟩
 | dic l=>obtain⟨l',q,_⟩:=q; exact⟨_,q,trivial⟩
 | ins c fs=>obtain⟨dx,fs',q,_⟩:=q; exact⟨_,q,trivial⟩
 | tdc ks=>obtain⟨xs,q,_⟩:=q; exact⟨_,q,trivial⟩
def HR.mem_some(R:HR K cl μ H h){a:Addr}(hm:a∈μ):∃u,H a=some u/\Mut (some u):=by
 obtain⟨n,hn⟩:=vH.mp hm;have hl:n<h.length:=by rw[<-R.len]; exact(zJ.mp hn).1
 exact(R.ob n a h[n] hn (z9 hl)).some
def HR.fresh(R:HR K cl μ H h){a:Addr}(e:H a=none):a∉μ:=λhm=>by
 obtain⟨u,q,_⟩:=R.mem_some hm;rw[e] at q; cases q
def HR.notours(R:HR K cl μ H h){a:Addr}{u:HO}(e:H a=some u)(n:¬Mut (some u)):a∉μ:=λhm=>by
 obtain⟨u',q,m⟩:=R.mem_some hm;rw[e] at q; cases q;exact n m
def HR.notup(R:HR K cl μ H h){a:Addr}{xs:List V}(e:Rd H a (.tup xs)):a∉μ:=by
 rcases e with e | ⟨o,e⟩
 .exact R.notours e λz=>z
 .exact R.notours e λz=>z
def SqF.ext(E:Ext μ H μ' H'){a:Addr}{vs:List V}(e:SqF K μ H a vs):SqF K μ' H' a vs:=by
 rcases e with ⟨e | ⟨o,e⟩,n⟩ | e
 .exact .inl ⟨.inl (E.fr _ _ e n).1,(E.fr _ _ e n).2⟩
 .exact .inl ⟨.inr ⟨o,(E.fr _ _ e n).1⟩,(E.fr _ _ e n).2⟩
 .exact .inr e
def SqD.ext(E:Ext μ H μ' H'){a:Addr}{l:List (Key×V)}(e:SqD μ H a l):SqD μ' H' a l:=by
 obtain⟨e | ⟨o,e⟩,n⟩:=e
 .exact⟨.inl (E.fr _ _ e n).1,(E.fr _ _ e n).2⟩
 .exact⟨.inr ⟨o,(E.fr _ _ e n).1⟩,(E.fr _ _ e n).2⟩
def SqT.ext(R:HR K cl μ H h)(E:Ext μ H μ' H'){a:Addr}{xs:List V}(e:SqT K H a xs):SqT K H' a xs:=by
 rcases e with e | e
 .have n:=R.notup e
  rcases e with e | ⟨o,e⟩
  .exact .inl (.inl (E.fr _ _ e n).1)
  .exact .inl (.inr ⟨o,(E.fr _ _ e n).1⟩)
 .exact .inr e
mutual
theorem RW.ext(R:HR K cl μ H h)(E:Ext μ H μ' H'):∀{w:W} {v:V},RW K μ H w v->RW K μ' H' w v
 | _,_,.non=>.non
 | _,_,.bl b=>.bl b
 | _,_,.int i=>.int i
 | _,_,.str x=>.str x
 | _,_,.tup s r=>.tup (SqT.ext R E s) (RWs.ext R E r)
 | _,_,.ref e=>.ref (E.get e)
 | _,_,.fls s r=>.fls (SqF.ext E s) (RWs.ext R E r)
 | _,_,.fdc s k e1 e2 r=>.fdc (SqD.ext E s) k e1 e2 (RWs.ext R E r)
 | _,_,.fn=>.fn
theorem RWs.ext(R:HR K cl μ H h)(E:Ext μ H μ' H'):∀{l:List W} {vs:List V},RWs K μ H l vs->RWs K μ' H' l vs
 | _,_,.nil=>.nil
 | _,_,.cons r t=>.cons (RW.ext R E r) (RWs.ext R E t)
end
theorem ER.ext(R:HR K cl μ H h)(E:Ext μ H μ' H'){ρ:En}{σ:L2.St}(e:ER K μ H ρ σ):ER K μ' H' ρ σ:=
 ⟨e.len,λi w q=>let ⟨v,q1,r⟩:=e.at_ i w q; ⟨v,q1,r.ext R E⟩⟩
theorem RWs.length:∀{l:List W} {vs:List V},RWs K μ H l vs->l.length=vs.length
 | _,_,.nil=>rfl
 | _,_,.cons _ t=>ql (· + 1) (RWs.length t)
theorem RWs.get:∀{l:List W} {vs:List V} {i:Nat} {w:W},RWs K μ H l vs->l[i]?=some w->∃v,vs[i]?=some v/\RW K μ H w v
 | _,_,_,_,.nil,e=>by simp at e
 | _,_,0,_,.cons r _,e=>by simp at e; subst e; exact⟨_,rfl,r⟩
 | _,_,i+1,w,.cons _ t,e=>by
  obtain⟨v,h1,h2⟩:=RWs.get (i:=i) (w:=w) t (by simpa using e);exact⟨v,by simpa using h1,h2⟩
theorem RWs.append:∀{l l':List W} {vs vs':List V},RWs K μ H l vs->RWs K μ H l' vs'->RWs K μ H (l++l') (vs++vs')
 | _,_,_,_,.nil,s=>s
 | _,_,_,_,.cons r t,s=>.cons r (RWs.append t s)
theorem RWs.take:∀{l:List W} {vs:List V} (n:Nat),RWs K μ H l vs->RWs K μ H (l.take n) (vs.take n)
 | _,_,0,_=>.nil
 | _,_,_+1,.nil=>.nil
 | _,_,n+1,.cons r t=>.cons r (RWs.take n t)
theorem RWs.drop:∀{l:List W} {vs:List V} (n:Nat),RWs K μ H l vs->RWs K μ H (l.drop n) (vs.drop n)
 | _,_,0,r=>r
 | _,_,_+1,.nil=>.nil
 | _,_,n+1,.cons _ t=>RWs.drop n t
theorem RWs.set{w:W}{v:V}(r:RW K μ H w v):∀{l:List W} {vs:List V} (i:Nat),RWs K μ H l vs->RWs K μ H (l.set i w) (vs.set i v)
 | _,_,_,.nil=>.nil
 | _,_,0,.cons _ t=>.cons r t
 | _,_,i+1,.cons q t=>.cons q (RWs.set r i t)
theorem RWs.dropLast:∀{l:List W} {vs:List V},RWs K μ H l vs->RWs K μ H l.dropLast vs.dropLast
 | _,_,.nil=>.nil
 | _,_,.cons _ .nil=>.nil
 | _,_,.cons r (.cons r2 t)=>.cons r (RWs.dropLast (.cons r2 t))
theorem RWs.rep{l:List W}{vs:List V}(r:RWs K μ H l vs):∀k:Nat,RWs K μ H (List.replicate k l).flatten (List.replicate k vs).flatten
 | 0=>.nil
 | k+1=>by
  rw[jH,jH,j4,j4];exact r.append (RWs.rep r k)
theorem RWs.ints:∀ns:List Int,RWs K μ H (ns.map W.int) (ns.map V.int)
 | []=>.nil
 | n::r=>.cons (.int n) (RWs.ints r)
theorem OR.ext(R:HR K cl μ H h)(E:Ext μ H μ' H'){a:Addr}{o:MO}(e:H' a=H a)(q:OR K cl μ H a o):OR K cl μ' H' a o:=by
 cases o with
 | lst l=>obtain⟨vs,q,r⟩:=q; exact⟨vs,e.trans q,r.ext R E⟩
 | dic l=>obtain⟨l',q,k,r⟩:=q; exact⟨l',e.trans q,k,r.ext R E⟩
 | ins c fs=>obtain⟨dx,fs',q,k,r⟩:=q; exact⟨dx,fs',e.trans q,k,r.ext R E⟩
 | tdc ks=>obtain⟨xs,q,k1,k2,k3,r⟩:=q; exact⟨xs,e.trans q,k1,k2,k3,r.ext R E⟩
def Ext.new{p:Addr}{u:HO}(hp:H p=none):Ext μ H (μ++[p]) (upd H p u):=
 ⟨jB _ _,λb o e n=>by
  have ne:b≠p:=xu e hp
  exact⟨by rw[yU ne]; exact e,by simp[n,ne]⟩⟩
def Ext.side{p:Addr}{u:HO}(hp:H p=none):Ext μ H μ (upd H p u):=
 ⟨kJ _,λb o e n=>⟨by rw[yU (xu e hp)]; exact e,n⟩⟩
theorem HR.side{p:Addr}{u:HO}(R:HR K cl μ H h)(hp:H p=none):HR K cl μ (upd H p u) h:=
 have hm:=R.fresh hp;⟨R.len,R.nd,λn a o e1 e2=>OR.ext R (Ext.side hp) (yU (by rintro rfl; exact hm (qG e1))) (R.ob n a o e1 e2)⟩
theorem HR.new{p:Addr}{u:HO}{o:MO}(R:HR K cl μ H h)(hp:H p=none)(q:OR K cl (μ++[p]) (upd H p u) p o):HR K cl (μ++[p]) (upd H p u) (h++[o]):=by
 have hm:=R.fresh hp;refine⟨by simp[R.len],?_,λn a o' e1 e2=>?_⟩
 .rw[List.nodup_append]
  exact⟨R.nd,by simp,by simp; exactλa ha=>by rintro rfl; exact hm ha⟩
 .by_cases hn:n<μ.length
  .rw[zQ hn] at e1
   rw[zQ (by rw[<-R.len]; exact hn)] at e2;exact OR.ext R (Ext.new hp) (yU (by rintro rfl; exact hm (qG e1))) (R.ob n a o' e1 e2)
  .rw[zX ∅] at e1
   rw[zX (by rw[<-R.len]; omega)] at e2;rw[R.len] at e1;have:n-h.length=0:=by
    by_cases z:n-h.length=0
    .exact z
    .rw[jX (by simp; omega)] at e1; cases e1
   rw[this] at e1 e2;simp at e1 e2;subst e1; subst e2;exact q
def Ext.put{n:Nat}{a:Addr}{u:HO}(hn:μ[n]?=some a):Ext μ H μ (upd H a u):=
 ⟨kJ _,λb o e m=>⟨by rw[yU (by rintro rfl; exact m (qG hn))]; exact e,m⟩⟩
theorem HR.put{n:Nat}{a:Addr}{u:HO}{o:MO}(R:HR K cl μ H h)(hn:μ[n]?=some a)(q:OR K cl μ (upd H a u) a o):HR K cl μ (upd H a u) (h.set n o):=by
 refine⟨by simp[R.len],R.nd,λm b o' e1 e2=>?_⟩;by_cases hm:m=n
 .subst hm
  rw[hn] at e1; cases e1;rw[ji (by rw[<-R.len]; exact(zJ.mp hn).1)] at e2;cases e2;exact q
 .rw[kI (kj hm)] at e2
  have ne:b≠a:=by
   rintro rfl;obtain⟨h1,e1'⟩:=zJ.mp e1;obtain⟨h2,e2'⟩:=zJ.mp hn;exact hm ((vp R.nd).mp (e1'.trans e2'.symm))
  exact OR.ext R (Ext.put hn) (yU ne) (R.ob m b o' e1 e2)
end
noncomputable def KQ(K:PySem.W.Frag)(cl:Cl)(μ:List Addr)(H:Hp)(h':MH)(w:W)(Q:VK):Prop:=
 ∀μ' H' v,Ext μ H μ' H'->HR K cl μ' H' h'->RW K μ' H' w v->Q v H'
inductive tM(K:PySem.W.Frag)(cl:Cl)(m:ME)(σ:L2.St)(H:Hp)(Q:VK):Prop
 | mk (μ:List Addr) (h:MH) (ρ:En) (w:W) (h':MH) (p0:HR K cl μ H h) (p1:ER K μ H ρ σ) (p2:m ρ h=some (w,h')) (p3:KQ K cl μ H h' w Q):tM K cl m σ H Q
inductive tMT(K:PySem.W.Frag)(cl:Cl)(m:MT)(σ:L2.St)(H:Hp)(Q:Bool->Hp->Prop):Prop
 | mk (μ:List Addr) (h:MH) (ρ:En) (b:Bool) (h':MH) (p0:HR K cl μ H h) (p1:ER K μ H ρ σ) (p2:m ρ h=some (b,h')) (p3:∀μ' H',Ext μ H μ' H'->HR K cl μ' H' h'->Q b H'):tMT K cl m σ H Q
abbrev SE(X:Cx)(cl:Cl)(e:Expr)(m:ME):Prop:=PE X e (tM X.K cl m)
abbrev ST(X:Cx)(cl:Cl)(e:Expr)(m:MT):Prop:=PT X e (tMT X.K cl m)
def PE.wk{X:Cx}{e:Expr}{t t':TE}(h:PE X e t)(w:∀σ H Q,t' σ H Q->t σ H Q):PE X e t':=λpins s σ H Q I q=>h pins s σ H Q I (w σ H Q q)
def PT.wk{X:Cx}{e:Expr}{t t':TT}(h:PT X e t)(w:∀σ H Q,t' σ H Q->t σ H Q):PT X e t':=λpins s σ H Q I q=>h pins s σ H Q I (w σ H Q q)
def PA.wk{X:Cx}{e:List Expr}{t t':TA}(h:PA X e t)(w:∀σ H Q,t' σ H Q->t σ H Q):PA X e t':=λpos pins s σ H Q I q=>h pos pins s σ H Q I (w σ H Q q)
def PS.wk{X:Cx}{e:Stmt}{t t':TS}(h:PS X e t)(w:∀D σ H,t' D σ H->t D σ H):PS X e t':=λpins s σ H D I q=>h pins s σ H D I (w D σ H q)
def PSs.wk{X:Cx}{e:List Stmt}{t t':TS}(h:PSs X e t)(w:∀D σ H,t' D σ H->t D σ H):PSs X e t':=λpins s σ H D I q=>h pins s σ H D I (w D σ H q)
noncomputable def eVar(i:Nat):ME:=λρ h=>match ρ[i]? with
 | some (some w)=>some (w,h)
 | _=>none
noncomputable def eC(w:W):ME:=λ_ h=>some (w,h)
noncomputable def eOp(f:W->W->M W)(a b:ME):ME:=λρ=>bnd (a ρ) λx=>bnd (b ρ) λy=>f x y
noncomputable def eUn(f:W->M W)(a:ME):ME:=λρ=>bnd (a ρ) f
noncomputable def xX:List ME->En->M (List W)
 | [],_=>λh=>some ([],h)
 | m::r,ρ=>bnd (m ρ) λx=>bnd (xX r ρ) λxs h=>some (x::xs,h)
noncomputable def yJ(f:List W->M W)(as:List ME):ME:=λρ=>bnd (xX as ρ) f
noncomputable def asB(w:W):M Bool:=λh=>match w with
 | .bl b=>some (b,h)
 | _=>none
noncomputable def tVal(a:ME):MT:=λρ=>bnd (a ρ) asB
noncomputable def zaV(a b:MT):MT:=λρ=>bnd (a ρ) λx=>if x=true then b ρ else λh=>some (false,h)
noncomputable def tOrM(a b:MT):MT:=λρ=>bnd (a ρ) λx=>if x=true then (λh=>some (true,h)) else b ρ
noncomputable def um(a:MT):MT:=λρ=>bnd (a ρ) λx h=>some (!x,h)
noncomputable def eAnd(a b:ME):ME:=λρ=>bnd (a ρ) λx=>bnd (asB x) λc=>if c=true then b ρ else λh=>some (.bl false,h)
noncomputable def eOr(a b:ME):ME:=λρ=>bnd (a ρ) λx=>bnd (asB x) λc=>if c=true then (λh=>some (.bl true,h)) else b ρ
noncomputable def eNot(a:ME):ME:=λρ=>bnd (a ρ) λx=>bnd (asB x) λc h=>some (.bl (!c),h)
noncomputable def eIf(t:MT)(a b:ME):ME:=λρ=>bnd (t ρ) λc=>if c=true then a ρ else b ρ
noncomputable def uU(f g:W->W->M W)(a b c:ME):ME:=λρ=>bnd (a ρ) λx=>bnd (b ρ) λy=>bnd (f x y) λz=>bnd (asB z) λk=>if k=true then bnd (c ρ) λu=>g y u else λh=>some (.bl false,h)
inductive rM(K:PySem.W.Frag)(cl:Cl)(f:W->W->M W)(x:V)(y:V)(H:Hp)(Q:VK):Prop
 | mk (μ:List Addr) (h:MH) (wx:W) (wy:W) (w:W) (h':MH) (p0:HR K cl μ H h) (p1:RW K μ H wx x) (p2:RW K μ H wy y) (p3:f wx wy h=some (w,h')) (p4:KQ K cl μ H h' w Q):rM K cl f x y H Q
inductive rM1(K:PySem.W.Frag)(cl:Cl)(f:W->M W)(x:V)(H:Hp)(Q:VK):Prop
 | mk (μ:List Addr) (h:MH) (wx:W) (w:W) (h':MH) (p0:HR K cl μ H h) (p1:RW K μ H wx x) (p2:f wx h=some (w,h')) (p3:KQ K cl μ H h' w Q):rM1 K cl f x H Q
inductive rMs(K:PySem.W.Frag)(cl:Cl)(f:List W->M W)(xs:List V)(H:Hp)(Q:VK):Prop
 | mk (μ:List Addr) (h:MH) (ws:List W) (w:W) (h':MH) (p0:HR K cl μ H h) (p1:RWs K μ H ws xs) (p2:f ws h=some (w,h')) (p3:KQ K cl μ H h' w Q):rMs K cl f xs H Q
inductive tMA(K:PySem.W.Frag)(cl:Cl)(ms:List ME)(σ:L2.St)(H:Hp)(Q:List V->Hp->Prop):Prop
 | mk (μ:List Addr) (h:MH) (ρ:En) (ws:List W) (h':MH) (p0:HR K cl μ H h) (p1:ER K μ H ρ σ) (p2:xX ms ρ h=some (ws,h')) (p3:∀μ' H' vs,Ext μ H μ' H'->HR K cl μ' H' h'->RWs K μ' H' ws vs->Q vs H'):tMA K cl ms σ H Q
abbrev SA(X:Cx)(cl:Cl)(es:List Expr)(ms:List ME):Prop:=PA X es (tMA X.K cl ms)
section
variable{X:Cx}{cl:Cl}{a b c:Expr}{ma mb mc:ME}{pos:Pos}{μ μ':List Addr}{H H':Hp}{h h':MH}
def KQ.pure{w:W}{v:V}{Q:VK}{K:PySem.W.Frag}(k:KQ K cl μ H h w Q)(R:HR K cl μ H h)(r:RW K μ H w v):Q v H:=k μ H v .refl R r
def KQ.ext{w:W}{Q:VK}{K:PySem.W.Frag}(E:Ext μ H μ' H')(k:KQ K cl μ H h w Q):KQ K cl μ' H' h w Q:=λμ2 H2 v E2 R2 r2=>k μ2 H2 v (E.trans E2) R2 r2
def zkh(i:Nat){x:Str}(hN:X.N[i]?=some x:=by rfl)(hv:Vis X.env.scope x:=by first | exact Or.inl rfl | exact Or.inr (Or.inl rfl) | exact Or.inr (Or.inr rfl))
  (hd:(x==("__debug__":Str))=false:=by decide) (hcd:(x==("__classdict__":Str))=false:=by decide):SE X cl (.Name x pos) (eVar i):=
 PE.wk (zkc (i:=i) hN hv hd hcd) λσ H Q q0=>by
  obtain⟨μ,h,ρ,w,h',R,er,e,k⟩:=q0;unfold eVar at e;split at e
  .rename_i w' q
   cases e;obtain⟨v,q1,r⟩:=er.at_ i _ q;exact⟨v,q1,k.pure R r⟩
  .cases e
def se_c{w:W}{v:V}(he:PE X a (tC v))(r:∀μ H,RW X.K μ H w v):SE X cl a (eC w):=
 PE.wk he λσ H Q q0=>by
  obtain⟨μ,h,ρ,w',h',R,er,e,k⟩:=q0;cases e;exact k.pure R (r μ H)
def zlw{i:Int}{j}:SE X cl (.Constant (.int i) j pos) (eC (.int i)):=se_c zkM λ_ _=>.int i
def zl0{i:Bool}{j}:SE X cl (.Constant (.bool i) j pos) (eC (.bl i)):=se_c zl6 λ_ _=>.bl i
def zke{j}:SE X cl (.Constant .none j pos) (eC .non):=se_c zly λ_ _=>.non
def zkE{i:Str}{j}:SE X cl (.Constant (.str i) j pos) (eC (.str i)):=se_c zkf λ_ _=>.str i
def ziV{x:Str}{w:W}{v:V}{u:Value}(hm:X.mg x=some u)(r:RelV v u)(rw:∀μ H,RW X.K μ H w v)(hg:Gl X x:=by rfl)(hd:(x==("__debug__":Str))=false:=by decide):SE X cl (.Name x pos) (eC w):=
 se_c (zbz hg hm r hd) rw
def za6{K:PySem.W.Frag}{f:W->W->M W}{σ:L2.St}{Q:VK}(q:tM K cl (eOp f ma mb) σ H Q):tOp (rM K cl f) (tM K cl ma) (tM K cl mb) σ H Q:=by
 obtain⟨μ,h,ρ,w,h',R,er,e,k⟩:=q;obtain⟨x,h1,e1,e⟩:=yM e;obtain⟨y,h2,e2,e3⟩:=yM e;exact⟨μ,h,ρ,x,h1,R,er,e1,λμ1 H1 vx E1 R1 rx=>⟨μ1,h1,ρ,y,h2,R1,er.ext R E1,e2,λμ2 H2 vy E2 R2 ry=>⟨μ2,h2,x,y,w,h',R2,rx.ext R1 E2,ry,e3,k.ext (E1.trans E2)⟩⟩⟩
def zlX{op:Operator}{f:W->W->M W}(ho:OpR X (binaryOp op) (rM X.K cl f))(ha:SE X cl a ma)(hb:SE X cl b mb):SE X cl (.BinOp a op b pos) (eOp f ma mb):=
 PE.wk (zl9 ho ha hb) λσ H Q q=>za6 q
def zlu{op:CmpOp}{f:W->W->M W}(ho:OpR X (compareOp op) (rM X.K cl f))(ha:SE X cl a ma)(hb:SE X cl b mb)(hm:behindInMarks op b=false:=by first | exact nomark _ | rfl):SE X cl (.Compare a [op] [b] pos) (eOp f ma mb):=
 PE.wk (zeD ho ha hb hm) λσ H Q q=>za6 q
def zmi{op:UnaryOp}{f:W->M W}(ho:UnR X (unaryOp op) (rM1 X.K cl f))(ha:SE X cl a ma):SE X cl (.UnaryOp op a pos) (eUn f ma):=
 PE.wk (zmg ho ha) λσ H Q q0=>by
  obtain⟨μ,h,ρ,w,h',R,er,e,k⟩:=q0;obtain⟨x,h1,e1,e⟩:=yM e;exact⟨μ,h,ρ,x,h1,R,er,e1,λμ1 H1 vx E1 R1 rx=>⟨μ1,h1,x,w,h',R1,rx,e,k.ext E1⟩⟩
theorem RW.bl_of{K:PySem.W.Frag}{k:Bool}{v:V}(r:RW K μ H (.bl k) v):v=.bl k:=by cases r; rfl
def zbd{w:W}{b:Bool}(e:asB w h=some (b,h')):w=.bl b/\h=h':=by
 unfold asB at e; split at e
 .cases e; exact⟨rfl,rfl⟩
 .cases e
def zaA{K:PySem.W.Frag}{σ:L2.St}{Q:Bool->Hp->Prop}(q:tMT K cl (tVal ma) σ H Q):tM K cl ma σ H λx H1=>∃c,x=.bl c/\Q c H1:=by
 obtain⟨μ,h,ρ,b,h',R,er,e,k⟩:=q;obtain⟨x,h1,e1,e⟩:=yM e;obtain⟨rfl,rfl⟩:=zbd e;exact⟨μ,h,ρ,_,h1,R,er,e1,λμ1 H1 vx E1 R1 rx=>⟨b,rx.bl_of,k μ1 H1 E1 R1⟩⟩
def zkO(ha:SE X cl a ma)(he:∀whole,isTrue a X.env whole=(do let v <-whole; standAt a.pos; holding [v] (truthy v)):=by intro _; rfl):ST X cl a (tVal ma):=
 PT.wk (zk8 ha he) λσ H Q q=>zaA q
def zln{op:CmpOp}{f:W->W->M W}(ho:OpR X (compareOp op) (rM X.K cl f))(ha:SE X cl a ma)(hb:SE X cl b mb)(hm:behindInMarks op b=false:=by first | exact nomark _ | rfl):ST X cl (.Compare a [op] [b] pos) (tVal (eOp f ma mb)):=
 PT.wk (zeB ho ha hb hm) λσ H Q q=>by
  obtain⟨μ,h,ρ,w,h',R,er,e,k⟩:=zaA q;exact za6 ⟨μ,h,ρ,w,h',R,er,e,k⟩
def zcm{K:PySem.W.Frag}{f g:W->W->M W}{σ:L2.St}{Q:VK}(q:tM K cl (uU f g ma mb mc) σ H Q):zeo (rM K cl f) (rM K cl g) (tM K cl ma) (tM K cl mb) (tM K cl mc) σ H Q:=by
 obtain⟨μ,h,ρ,w,h',R,er,e,k⟩:=q;obtain⟨x,h1,e1,e⟩:=yM e;obtain⟨y,h2,e2,e⟩:=yM e;obtain⟨z,h3,e3,e⟩:=yM e;obtain⟨c,h4,e4,e⟩:=yM e;obtain⟨rfl,rfl⟩:=zbd e4;refine⟨μ,h,ρ,x,h1,R,er,e1,λμ1 H1 vx E1 R1 rx=>⟨μ1,h1,ρ,y,h2,R1,er.ext R E1,e2,λμ2 H2 vy E2 R2 ry=>⟨μ2,h2,x,y,_,h3,R2,rx.ext R1 E2,ry,e3,λμ3 H3 vz E3 R3 rz=>⟨c,rz.bl_of,?_⟩⟩⟩⟩;cases c with
 | true=>
  rw[zW rfl] at e ⊢;obtain⟨u,h5,e5,e6⟩:=yM e;exact⟨μ3,h3,ρ,u,h5,R3,((er.ext R E1).ext R1 E2).ext R2 E3,e5,λμ4 H4 vu E4 R4 ru=>⟨μ4,h5,y,u,w,h',R4,(ry.ext R2 E3).ext R3 E4,ru,e6,k.ext (E1.trans (E2.trans (E3.trans E4)))⟩⟩
 | false=>
  rw[kO zL] at e ⊢;cases e;exact k μ3 H3 _ (E1.trans (E2.trans E3)) R3 (.bl false)
def zho{op op':CmpOp}{f g:W->W->M W}(ho:OpR X (compareOp op) (rM X.K cl f))(ho':OpR X (compareOp op') (rM X.K cl g))(ha:SE X cl a ma)(hb:SE X cl b mb)(hc:SE X cl c mc)
  (hm:lastMarks [op,op'] [b,c]=false:=by with_unfolding_all rfl):SE X cl (.Compare a [op,op'] [b,c] pos) (uU f g ma mb mc):=
 PE.wk (zhw ho ho' ha hb hc hm) λσ H Q q=>zcm q
def zhE{op op':CmpOp}{f g:W->W->M W}(ho:OpR X (compareOp op) (rM X.K cl f))(ho':OpR X (compareOp op') (rM X.K cl g))(ha:SE X cl a ma)(hb:SE X cl b mb)(hc:SE X cl c mc)
  (hm:lastMarks [op,op'] [b,c]=false:=by with_unfolding_all rfl):ST X cl (.Compare a [op,op'] [b,c] pos) (tVal (uU f g ma mb mc)):=
 PT.wk (zhC ho ho' ha hb hc hm) λσ H Q q=>by
  obtain⟨μ,h,ρ,w,h',R,er,e,k⟩:=zaA q;exact zcm ⟨μ,h,ρ,w,h',R,er,e,k⟩
abbrev SW(X:Cx)(cl:Cl)(e:Expr)(m:MT):Prop:=PW X e (tMT X.K cl m)
def PW.wk{e:Expr}{t t':TT}(h:PW X e t)(w:∀σ H Q,t' σ H Q->t σ H Q):PW X e t':=λwh pins s σ H Q I q=>h wh pins s σ H Q I (w σ H Q q)
variable{ta tb:MT}{rest:List Expr}
def zjh(ha:ST X cl a ta):SW X cl (.BoolOp .And [a] pos) ta:=pw_and1 ha
def zkW(ha:ST X cl a ta):SW X cl (.BoolOp .Or [a] pos) ta:=pw_or1 ha
def zlB(ha:ST X cl a ta)(hb:SW X cl (.BoolOp .And (b::rest) pos) tb):SW X cl (.BoolOp .And (a::b::rest) pos) (zaV ta tb):=
 PW.wk (pw_and ha hb) λσ H Q q0=>by
  obtain⟨μ,h,ρ,w,h',R,er,e,k⟩:=q0;obtain⟨x,h1,e1,e⟩:=yM e;refine⟨μ,h,ρ,x,h1,R,er,e1,λμ1 H1 E1 R1=>?_⟩;cases x with
  | true=>rw[zW rfl] at e ⊢; exact⟨μ1,h1,ρ,w,h',R1,er.ext R E1,e,λμ2 H2 E2 R2=>k μ2 H2 (E1.trans E2) R2⟩
  | false=>rw[kO zL] at e ⊢; cases e; exact k μ1 H1 E1 R1
def zmc(ha:ST X cl a ta)(hb:SW X cl (.BoolOp .Or (b::rest) pos) tb):SW X cl (.BoolOp .Or (a::b::rest) pos) (tOrM ta tb):=
 PW.wk (pw_or ha hb) λσ H Q q0=>by
  obtain⟨μ,h,ρ,w,h',R,er,e,k⟩:=q0;obtain⟨x,h1,e1,e⟩:=yM e;refine⟨μ,h,ρ,x,h1,R,er,e1,λμ1 H1 E1 R1=>?_⟩;cases x with
  | false=>rw[kO zL] at e ⊢; exact⟨μ1,h1,ρ,w,h',R1,er.ext R E1,e,λμ2 H2 E2 R2=>k μ2 H2 (E1.trans E2) R2⟩
  | true=>rw[zW rfl] at e ⊢; cases e; exact k μ1 H1 E1 R1
def zjl(h:SW X cl a ta):ST X cl a ta:=h.pt
def zkb(ha:ST X cl a ta):ST X cl (.UnaryOp .Not a pos) (um ta):=
 PT.wk (zkt ha) λσ H Q q0=>by
  obtain⟨μ,h,ρ,w,h',R,er,e,k⟩:=q0;obtain⟨x,h1,e1,e⟩:=yM e;cases e;exact⟨μ,h,ρ,x,_,R,er,e1,λμ1 H1 E1 R1=>k μ1 H1 E1 R1⟩
def zkT{op}(h:SE X cl a ma):SE X cl (.BoolOp op [a] pos) ma:=zlh h
def zk1(ha:SE X cl a ma)(hb:SE X cl (.BoolOp .And (b::rest) pos) mb):SE X cl (.BoolOp .And (a::b::rest) pos) (eAnd ma mb):=
 PE.wk (zkR ha hb) λσ H Q q0=>by
  obtain⟨μ,h,ρ,w,h',R,er,e,k⟩:=q0;obtain⟨x,h1,e1,e⟩:=yM e;obtain⟨c,h2,e2,e⟩:=yM e;obtain⟨rfl,rfl⟩:=zbd e2;refine⟨μ,h,ρ,_,h1,R,er,e1,λμ1 H1 vx E1 R1 rx=>⟨c,rx.bl_of,?_⟩⟩;cases c with
  | true=>rw[zW rfl] at e ⊢; exact⟨μ1,h1,ρ,w,h',R1,er.ext R E1,e,k.ext E1⟩
  | false=>rw[kO zL] at e ⊢; cases e; exact k μ1 H1 _ E1 R1 (.bl false)
def zmp(ha:SE X cl a ma)(hb:SE X cl (.BoolOp .Or (b::rest) pos) mb):SE X cl (.BoolOp .Or (a::b::rest) pos) (eOr ma mb):=
 PE.wk (zmv ha hb) λσ H Q q0=>by
  obtain⟨μ,h,ρ,w,h',R,er,e,k⟩:=q0;obtain⟨x,h1,e1,e⟩:=yM e;obtain⟨c,h2,e2,e⟩:=yM e;obtain⟨rfl,rfl⟩:=zbd e2;refine⟨μ,h,ρ,_,h1,R,er,e1,λμ1 H1 vx E1 R1 rx=>⟨c,rx.bl_of,?_⟩⟩;cases c with
  | false=>rw[kO zL] at e ⊢; exact⟨μ1,h1,ρ,w,h',R1,er.ext R E1,e,k.ext E1⟩
  | true=>rw[zW rfl] at e ⊢; cases e; exact k μ1 H1 _ E1 R1 (.bl true)
def zlK(ha:SE X cl a ma):SE X cl (.UnaryOp .Not a pos) (eNot ma):=
 PE.wk (zld ha) λσ H Q q0=>by
  obtain⟨μ,h,ρ,w,h',R,er,e,k⟩:=q0;obtain⟨x,h1,e1,e⟩:=yM e;obtain⟨c,h2,e2,e⟩:=yM e;obtain⟨rfl,rfl⟩:=zbd e2;cases e;exact⟨μ,h,ρ,_,_,R,er,e1,λμ1 H1 vx E1 R1 rx=>⟨c,rx.bl_of,k μ1 H1 _ E1 R1 (.bl _)⟩⟩
def zmb{t:Expr}(ht:ST X cl t ta)(ha:SE X cl a ma)(hb:SE X cl b mb):SE X cl (.IfExp t a b pos) (eIf ta ma mb):=
 PE.wk (zic ht ha hb) λσ H Q q0=>by
  obtain⟨μ,h,ρ,w,h',R,er,e,k⟩:=q0;obtain⟨x,h1,e1,e⟩:=yM e;refine⟨μ,h,ρ,x,h1,R,er,e1,λμ1 H1 E1 R1=>?_⟩;cases x with
  | true=>rw[zW rfl] at e ⊢; exact⟨μ1,h1,ρ,w,h',R1,er.ext R E1,e,k.ext E1⟩
  | false=>rw[kO zL] at e ⊢; exact⟨μ1,h1,ρ,w,h',R1,er.ext R E1,e,k.ext E1⟩
variable{es:List Expr}{ms:List ME}{e:Expr}{m:ME}
def zb9:SA X cl [] []:=PA.wk zf4 λσ H Q q0=>by
 obtain⟨μ,h,ρ,ws,h',R,er,e,k⟩:=q0;cases e;exact k μ H [] .refl R .nil
def zaQ(ha:SE X cl e m)(hr:SA X cl es ms)(hs:starEach (e::es) X.env=(false,eval e X.env)::starEach es X.env:=by rfl):SA X cl (e::es) (m::ms):=
 PA.wk (zcN ha hr hs) λσ H Q q0=>by
  obtain⟨μ,h,ρ,ws,h',R,er,e,k⟩:=q0;obtain⟨x,h1,e1,e⟩:=yM e;obtain⟨xs,h2,e2,e⟩:=yM e;cases e;exact⟨μ,h,ρ,x,h1,R,er,e1,λμ1 H1 vx E1 R1 rx=>⟨μ1,h1,ρ,xs,_,R1,er.ext R E1,e2,λμ2 H2 vs E2 R2 rs=>k μ2 H2 _ (E1.trans E2) R2 (.cons (rx.ext R1 E2) rs)⟩⟩
noncomputable def cap:Nat:=1000000
def ut:cap<=sizeLine:=by decide
noncomputable def tupW:List W->M W:=λws h=>if ws.length<=cap then some (.tup ws,h) else none
noncomputable def flsW:List W->M W:=λws h=>if ws.length<=cap then some (.fls ws,h) else none
noncomputable def lstW:List W->M W:=λws h=>if ws.length<=cap then some (.ref h.length,h++[.lst ws]) else none
theorem KQ.tup{K:PySem.W.Frag}{ws:List W}{xs:List V}{Q:VK}{p:Addr}(k:KQ K cl μ H h (.tup ws) Q)(R:HR K cl μ H h)(rs:RWs K μ H ws xs)(hp:H p=none):Q (.ref p) (upd H p (.tup xs)):=
 k μ _ _ (.side hp) (R.side hp) (.tup (SqT.of xJ) (rs.ext R (.side hp)))
theorem KQ.lst{K:PySem.W.Frag}{ws:List W}{xs:List V}{Q:VK}{p:Addr}(k:KQ K cl μ H (h++[.lst ws]) (.ref h.length) Q)(R:HR K cl μ H h)(rs:RWs K μ H ws xs)(hp:H p=none):Q (.ref p) (upd H p (.lst xs)):=
 k (μ++[p]) _ _ (.new hp) (R.new hp ⟨xs,xJ,rs.ext R (.new hp)⟩) (.ref (by rw[<-R.len]; simp))
theorem KQ.fls{K:PySem.W.Frag}{ws:List W}{xs:List V}{Q:VK}{p:Addr}(k:KQ K cl μ H h (.fls ws) Q)(R:HR K cl μ H h)(rs:RWs K μ H ws xs)(hp:H p=none):Q (.ref p) (upd H p (.lst xs)):=
 k μ _ _ (.side hp) (R.side hp) (.fls (.inl ⟨.inl xJ,R.fresh hp⟩) (rs.ext R (.side hp)))
def zkL{x1}(hs:SA X cl es ms):SE X cl (.Tuple es x1 pos) (yJ tupW ms):=
 PE.wk (zli hs) λσ H Q q0=>by
  obtain⟨μ,h,ρ,w,h',R,er,e,k⟩:=q0;obtain⟨ws,h1,e1,e⟩:=yM e;refine⟨μ,h,ρ,ws,h1,R,er,e1,λμ1 H1 vs E1 R1 rs=>?_⟩;unfold tupW at e;split at e
  .rename_i hl
   cases e;exact⟨zG (by rw[<-rs.length]; exact hl) ut,λp hp=>(k.ext E1).tup R1 rs hp⟩
  .cases e
def zlr(hs:SA X cl es ms):SE X cl (.List es pos) (yJ flsW ms):=
 PE.wk (zgR hs) λσ H Q q0=>by
  obtain⟨μ,h,ρ,w,h',R,er,e,k⟩:=q0;obtain⟨ws,h1,e1,e⟩:=yM e;refine⟨μ,h,ρ,ws,h1,R,er,e1,λμ1 H1 vs E1 R1 rs=>?_⟩;unfold flsW at e;split at e
  .rename_i hl
   cases e;exact⟨zG (by rw[<-rs.length]; exact hl) ut,λp hp=>(k.ext E1).fls R1 rs hp⟩
  .cases e
def zkC(hs:SA X cl es ms):SE X cl (.List es pos) (yJ lstW ms):=
 PE.wk (zgR hs) λσ H Q q0=>by
  obtain⟨μ,h,ρ,w,h',R,er,e,k⟩:=q0;obtain⟨ws,h1,e1,e⟩:=yM e;refine⟨μ,h,ρ,ws,h1,R,er,e1,λμ1 H1 vs E1 R1 rs=>?_⟩;unfold lstW at e;split at e
  .rename_i hl
   cases e;exact⟨zG (by rw[<-rs.length]; exact hl) ut,λp hp=>(k.ext E1).lst R1 rs hp⟩
  .cases e
end
noncomputable def spM(K:PySem.W.Frag)(cl:Cl)(f:List W->M W):Sp:=λvs H Q _=>rMs K cl f vs H Q
mutual
noncomputable def low(m:Nat):W->Bool
 | .tup l=>lows m l
 | .fls l=>lows m l
 | .ref n=>decide (n<m)
 | .fdc l=>lowk m l
 | _=>true
noncomputable def lowk(m:Nat):List (Key×W)->Bool
 | []=>true
 | (_,w)::r=>low m w&&lowk m r
noncomputable def lows(m:Nat):List W->Bool
 | []=>true
 | w::r=>low m w&&lows m r
end
open Classical in
noncomputable def gc(f:List W->M W):List W->M W:=λws h=>match f ws h with
 | some (w,h')=>if h<+:h' then (if low h.length w=true then some (w,h) else match w with
   | .ref n=>match h'[n]? with
    | some (.lst l)=>if lows h.length l=true then some (.fls l,h) else some (w,h')
    | _=>some (w,h')
   | _=>some (w,h')) else some (w,h')
 | none=>none
def ug{f:List W->M W}{ws:List W}{h h':MH}{w:W}(e:f ws h=some (w,h'))(p:low h.length w=true)(q:h<+:h'):gc f ws h=some (w,h):=by
 unfold gc; rw[e]; simp only[p,q,jb]
theorem zcF(m:Nat):∀l:List (Key×W),lowk m l=lows m (l.map (·.2))
 | []=>by unfold lowk lows; rfl
 | (k,w)::r=>by unfold lowk; rw[zcF m r]; simp only[zz]; conv=>rhs; unfold lows
section
variable{K:PySem.W.Frag}{cl:Cl}{μ μ':List Addr}{H H':Hp}
mutual
theorem RW.low:∀{w:W} {v:V},RW K μ H w v->ML.low μ.length w=true
 | _,_,.non=>by unfold ML.low; rfl
 | _,_,.bl b=>by unfold ML.low; rfl
 | _,_,.int i=>by unfold ML.low; rfl
 | _,_,.str x=>by unfold ML.low; rfl
 | _,_,.tup s r=>by unfold ML.low; exact RWs.low r
 | _,_,.fls s r=>by unfold ML.low; exact RWs.low r
 | _,_,.fdc s k e1 e2 r=>by unfold ML.low; rw[zcF,<-e1]; exact RWs.low r
 | _,_,.fn=>by unfold ML.low; rfl
 | _,_,.ref e=>by unfold ML.low; simpa using (zJ.mp e).1
theorem RWs.low:∀{l:List W} {vs:List V},RWs K μ H l vs->lows μ.length l=true
 | _,_,.nil=>by unfold lows; rfl
 | _,_,.cons r t=>by unfold lows; rw[RW.low r,RWs.low t]; rfl
end
mutual
theorem RW.cut(pre:μ<+:μ'):∀{w:W} {v:V},ML.low μ.length w=true->RW K μ' H w v->RW K μ H w v
 | _,_,_,.non=>.non
 | _,_,_,.bl b=>.bl b
 | _,_,_,.int i=>.int i
 | _,_,_,.str x=>.str x
 | .tup l,_,p,.tup s r=>.tup s (RWs.cut pre (by unfold ML.low at p; exact p) r)
 | .fls l,_,p,.fls s r=>.fls (s.elim (λz=>.inl ⟨z.1,λq=>z.2 (pre.subset q)⟩) .inr) (RWs.cut pre (by unfold ML.low at p; exact p) r)
 | .fdc l,_,p,.fdc s k e1 e2 r=>.fdc ⟨s.1,λq=>s.2 (pre.subset q)⟩ k e1 e2 (RWs.cut pre (by unfold ML.low at p; rw[zcF,<-e1] at p; exact p) r)
 | .fn _,_,_,.fn=>.fn
 | .ref n,_,p,.ref e=>by
  have p':n<μ.length:=by unfold ML.low at p; simpa using p
  obtain⟨t,rfl⟩:=pre;rw[zQ p'] at e;exact .ref e
theorem RWs.cut(pre:μ<+:μ'):∀{l:List W} {vs:List V},lows μ.length l=true->RWs K μ' H l vs->RWs K μ H l vs
 | _,_,_,.nil=>.nil
 | w::l,_,p,.cons r t=>by
  have p':ML.low μ.length w=true/\lows μ.length l=true:=by unfold lows at p; simpa using p
  exact .cons (RW.cut pre p'.1 r) (RWs.cut pre p'.2 t)
end
theorem HR.cut{h h':MH}(R:HR K cl μ H h)(E:Ext μ H μ' H')(R':HR K cl μ' H' h')(p:h<+:h'):HR K cl μ H' h:=by
 obtain⟨t,rfl⟩:=p;refine⟨R.len,R.nd,λn a o e1 e2=>?_⟩;have q:=R.ob n a o e1 e2;have q':=R'.ob n a o (E.get e1) (by rw[zQ (zJ.mp e2).1]; exact e2);cases o with
 | lst l=>obtain⟨vs0,_,r0⟩:=q; obtain⟨vs,z,r⟩:=q'; exact⟨vs,z,RWs.cut E.pre r0.low r⟩
 | dic l=>obtain⟨l0,_,_,r0⟩:=q; obtain⟨l',z,k,r⟩:=q'; exact⟨l',z,k,RWs.cut E.pre r0.low r⟩
 | ins c fs=>obtain⟨_,fs0,_,_,r0⟩:=q; obtain⟨dx,fs',z,k,r⟩:=q'; exact⟨dx,fs',z,k,RWs.cut E.pre r0.low r⟩
 | tdc ks=>obtain⟨_,_,_,_,_,r0⟩:=q; obtain⟨xs,z,k1,k2,k3,r⟩:=q'; exact⟨xs,z,k1,k2,k3,RWs.cut E.pre r0.low r⟩
def zmd{f:List W->M W}{vs:List V}{Q:VK}{E:XK}(q:spM K cl (gc f) vs H Q E):spM K cl f vs H Q E:=by
 obtain⟨μ,h,ws,w,h',R,rs,e,k⟩:=q;unfold gc at e;split at e
 .rename_i w1 h1 e1
  have plain:∀{w h'},some (w1,h1)=some (w,h')->KQ K cl μ H h' w Q->spM K cl f vs H Q E:=λq k=>by cases q; exact⟨μ,h,ws,_,_,R,rs,e1,k⟩
  split at e
  .rename_i c
   have cut:∀{μ' H'},Ext μ H μ' H'->Ext μ H μ H':=λE'=>⟨kJ _,λb o e n=>⟨(E'.fr b o e n).1,n⟩⟩
   split at e
   .rename_i p
    cases e;refine⟨μ,h,ws,_,h1,R,rs,e1,λμ' H' v E' R' r'=>?_⟩;exact k μ H' v (cut E') (R.cut E' R' c) (RW.cut E'.pre (by rw[R.len]; exact p) r')
   .rename_i p
    split at e
    .rename_i n
     split at e
     .rename_i l ho
      split at e
      .rename_i pl
       cases e;refine⟨μ,h,ws,_,h1,R,rs,e1,λμ' H' v E' R' r'=>?_⟩;cases r' with
       | @ref _ a hm=>
        obtain⟨vs',hv,rv⟩:=R'.ob n a _ hm ho;refine k μ H' _ (cut E') (R.cut E' R' c) (.fls (.inl ⟨.inl hv,λz=>?_⟩) (RWs.cut E'.pre (by rw[R.len]; exact pl) rv));obtain⟨m,hmm⟩:=vH.mp z;have h2:=E'.get hmm;have hlt:m<μ.length:=(zJ.mp hmm).1;obtain⟨z1,z2⟩:=zJ.mp h2;obtain⟨z3,z4⟩:=zJ.mp hm;have:m=n:=(vp R'.nd).mp (z2.trans z4.symm);subst this;refine p ?_;unfold low;rw[R.len] at hlt;simpa using hlt
      .exact plain e k
     .exact plain e k
    .exact plain e k
  .exact plain e k
 .cases e
end
section
variable{X:Cx}{cl:Cl}{k:Nat}{f:Addr}{fd:FuncData}{ps:List Str}{x:Str}{p pos:Pos}{e:Expr}{es:List Expr}{g:List W->M W}{m:ME}{ms:List ME}
def zaD{K:PySem.W.Frag}{f:List W->M W}{σ:L2.St}{H:Hp}{Q:VK}(q:tM K cl (yJ f ms) σ H Q):tMA K cl ms σ H λvs H1=>rMs K cl f vs H1 Q:=by
 obtain⟨μ,h,ρ,w,h',R,er,e,k⟩:=q;obtain⟨ws,h1,e1,e⟩:=yM e;exact⟨μ,h,ρ,ws,h1,R,er,e1,λμ1 H1 vs E1 R1 rs=>⟨μ1,h1,ws,w,h',R1,rs,e,k.ext E1⟩⟩
def zi5(F:FnOk X.prog X.w X.K X.mg X.base CX0 k f fd ps (spM X.K cl g))(hr:Room k X.A)(hm:X.mg x=some (.ref f))(hk:PySem.W.keepIn X.K (.ref f)=true)(hb:Binds X.K fd ps [])
  (ha:SA X cl (e::es) ms) (hg:Gl X x:=by rfl) (hdb:(x==("__debug__":Str))=false:=by decide) (hst:starEach (e::es) X.env=(false,eval e X.env)::starEach es X.env:=by rfl) (hpl:(backTo pos (starEach es X.env)).any (·.1)=false:=by rfl):SE X cl (.Call (.Name x p) (e::es) [] pos) (yJ g ms):=
 PE.wk (zjy F hr hg hm hk hb .nil zil ha hdb hst hpl) λσ H Q q=>by
  obtain⟨μ,h,ρ,ws,h1,R,er,e1,k1⟩:=zaD q;exact⟨μ,h,ρ,ws,h1,R,er,e1,λμ1 H1 vs E1 R1 rs=>by show spM X.K cl g (vs++[]) H1 Q E0; rw[jJ]; exact k1 μ1 H1 vs E1 R1 rs⟩
def zhj(F:FnOk X.prog X.w X.K X.mg X.base CX0 k f fd ps (spM X.K cl g))(hr:Room k X.A)(hm:X.mg x=some (.ref f))(hk:PySem.W.keepIn X.K (.ref f)=true)(hb:Binds X.K fd ps [])
  (hg:Gl X x:=by rfl) (hdb:(x==("__debug__":Str))=false:=by decide):SE X cl (.Call (.Name x p) [] [] pos) (yJ g []):=
 PE.wk (zhp F hr hg hm hk hb .nil zil hdb) λσ H Q q=>by
  obtain⟨μ,h,ρ,ws,h1,R,er,e1,k1⟩:=zaD q;cases e1;exact k1 μ H [] .refl R .nil
def zhA{id:String}(hc:xN X (.builtin id) (rMs X.K cl g))(hm:X.mg x=none)(hv:bootBuiltins x=some (.builtin id))(ha:SA X cl (e::es) ms)(hg:Gl X x:=by rfl)(hn:x≠"__name__":=by decide)(hdb:(x==("__debug__":Str))=false:=by decide)(hst:starEach (e::es) X.env=(false,eval e X.env)::starEach es X.env:=by rfl)(hpl:(backTo pos (starEach es X.env)).any (·.1)=false:=by rfl) :
  SE X cl (.Call (.Name x p) (e::es) [] pos) (yJ g ms):=
 PE.wk (zdX hc hg hm hv ha hn hdb hst hpl) λσ H Q q=>zaD q
def zfW{id:String}(hc:xN X (.type id) (rMs X.K cl g))(hm:X.mg x=none)(hv:bootBuiltins x=some (.type id))(ha:SA X cl (e::es) ms)(hg:Gl X x:=by rfl)(hn:x≠"__name__":=by decide)(hdb:(x==("__debug__":Str))=false:=by decide)(hst:starEach (e::es) X.env=(false,eval e X.env)::starEach es X.env:=by rfl)(hpl:(backTo pos (starEach es X.env)).any (·.1)=false:=by rfl) :
  SE X cl (.Call (.Name x p) (e::es) [] pos) (yJ g ms):=
 PE.wk (zf3 hc hg hm hv ha hn hdb hst hpl) λσ H Q q=>zaD q
end
inductive Fl where
 | nx (ρ:En) | ret (w:W) | bk (ρ:En) | ct (ρ:En)
abbrev MS:=En->MH->Option (Fl×MH)
abbrev MG:=W->En->M En
noncomputable def KF(K:PySem.W.Frag)(cl:Cl)(μ:List Addr)(H:Hp)(h':MH)(fl:Fl)(D:Ends):Prop:=∀μ' H',Ext μ H μ' H'->HR K cl μ' H' h'->match fl with
 | .nx ρ=>∀σ,ER K μ' H' ρ σ->D.nx σ H'
 | .ret w=>∀v,RW K μ' H' w v->D.rt v H'
 | .bk ρ=>∀σ,ER K μ' H' ρ σ->D.bk σ H'
 | .ct ρ=>∀σ,ER K μ' H' ρ σ->D.ct σ H'
inductive tMS(K:PySem.W.Frag)(cl:Cl)(m:MS)(D:Ends)(σ:L2.St)(H:Hp):Prop
 | mk (μ:List Addr) (h:MH) (ρ:En) (fl:Fl) (h':MH) (p0:HR K cl μ H h) (p1:ER K μ H ρ σ) (p2:m ρ h=some (fl,h')) (p3:KF K cl μ H h' fl D):tMS K cl m D σ H
abbrev SS(X:Cx)(cl:Cl)(st:Stmt)(m:MS):Prop:=PS X st (tMS X.K cl m)
abbrev SB(X:Cx)(cl:Cl)(st:List Stmt)(m:MS):Prop:=PSs X st (tMS X.K cl m)
inductive tMG(K:PySem.W.Frag)(cl:Cl)(g:MG)(v:V)(σ:L2.St)(H:Hp)(Q:L2.St->Hp->Prop):Prop
 | mk (μ:List Addr) (h:MH) (ρ:En) (w:W) (ρ':En) (h':MH) (p0:HR K cl μ H h) (p1:ER K μ H ρ σ) (p2:RW K μ H w v) (p3:g w ρ h=some (ρ',h')) (p4:∀μ' H' σ',Ext μ H μ' H'->HR K cl μ' H' h'->ER K μ' H' ρ' σ'->Q σ' H'):tMG K cl g v σ H Q
abbrev SG(X:Cx)(cl:Cl)(e:Expr)(g:MG):Prop:=PG X e (tMG X.K cl g)
def PG.wk{X:Cx}{e:Expr}{t t':TG}(h:PG X e t)(w:∀v σ H Q,t' v σ H Q->t v σ H Q):PG X e t':=λpins s σ H v u Q I r q=>h pins s σ H v u Q I r (w v σ H Q q)
def KF.ext{K:PySem.W.Frag}{cl:Cl}{μ μ':List Addr}{H H':Hp}{h:MH}{fl:Fl}{D:Ends}(E:Ext μ H μ' H')(k:KF K cl μ H h fl D):KF K cl μ' H' h fl D:=λμ2 H2 E2 R2=>k μ2 H2 (E.trans E2) R2
theorem KF.nx{K:PySem.W.Frag}{cl:Cl}{μ:List Addr}{H:Hp}{h:MH}{ρ:En}{σ:L2.St}{D:Ends}(k:KF K cl μ H h (.nx ρ) D)(R:HR K cl μ H h)(er:ER K μ H ρ σ):D.nx σ H:=k μ H .refl R σ er
noncomputable def yN:MS:=λρ h=>some (.nx ρ,h)
noncomputable def sSeq(a b:MS):MS:=λρ h=>match a ρ h with
 | some (.nx ρ',h')=>b ρ' h'
 | r=>r
noncomputable def xY(m:ME):MS:=λρ h=>match m ρ h with
 | some (_,h')=>some (.nx ρ,h')
 | none=>none
noncomputable def sRet(m:ME):MS:=λρ h=>match m ρ h with
 | some (w,h')=>some (.ret w,h')
 | none=>none
noncomputable def sIf(t:MT)(a b:MS):MS:=λρ h=>match t ρ h with
 | some (c,h')=>if c=true then a ρ h' else b ρ h'
 | none=>none
noncomputable def sAsg(m:ME)(g:MG):MS:=λρ h=>match m ρ h with
 | some (w,h')=>match g w ρ h' with
  | some (ρ',h2)=>some (.nx ρ',h2)
  | none=>none
 | none=>none
noncomputable def gNm(i:Nat):MG:=λw ρ h=>if i<ρ.length then some (ρ.set i (some w),h) else none
noncomputable def gTps:List MG->List W->En->M En
 | [],[]=>λρ h=>some (ρ,h)
 | g::gs,w::ws=>λρ=>bnd (g w ρ) λρ'=>gTps gs ws ρ'
 | _,_=>λ_ _=>none
noncomputable def gTp(gs:List MG):MG:=λw=>match w with
 | .tup ws=>gTps gs ws
 | .fls ws=>gTps gs ws
 | _=>λ_ _=>none
noncomputable def sAug(i:Nat)(f:W->W->M W)(m:ME):MS:=λρ h=>match ρ[i]? with
 | some (some x)=>match m ρ h with
  | some (y,h1)=>match f x y h1 with
   | some (z,h2)=>if i<ρ.length then some (.nx (ρ.set i (some z)),h2) else none
   | none=>none
  | none=>none
 | _=>none
section
variable{X:Cx}{cl:Cl}{st:Stmt}{rest:List Stmt}{a b:MS}{e:Expr}{m:ME}{pos:Pos}
theorem ER.set{K:PySem.W.Frag}{μ:List Addr}{H:Hp}{ρ:En}{σ:L2.St}{i:Nat}{w:W}{v:V}(er:ER K μ H ρ σ)(hi:i<ρ.length)(r:RW K μ H w v):ER K μ H (ρ.set i (some w)) (σ.set i (some v)):=by
 refine⟨by simp[er.len],λj w' e=>?_⟩;by_cases hj:j=i
 .subst hj
  rw[ji hi] at e;cases e;exact⟨v,by rw[ji (by rw[<-er.len]; exact hi)],r⟩
 .rw[kI (kj hj)] at e
  obtain⟨v',e',r'⟩:=er.at_ j w' e;exact⟨v',by rw[kI (kj hj)]; exact e',r'⟩
def zlR:SB X cl [] yN:=PSs.wk zjz λD σ H q0=>by
 obtain⟨μ,h,ρ,fl,h',R,er,e,k⟩:=q0;cases e;exact k.nx R er
def zkJ(h1:SS X cl st a):SB X cl [st] a:=zjX h1
def zjL(h1:SS X cl st a)(h2:SB X cl rest b):SB X cl (st::rest) (sSeq a b):=PSs.wk (zh1 h1 h2) λD σ H q0=>by
 obtain⟨μ,h,ρ,fl,h',R,er,e,k⟩:=q0;unfold sSeq at e;split at e
 .rename_i ρ1 h1 e1
  exact⟨μ,h,ρ,_,h1,R,er,e1,λμ1 H1 E1 R1 σ1 er1=>⟨μ1,h1,ρ1,fl,h',R1,er1,e,k.ext E1⟩⟩
 .rename_i r hr
  refine⟨μ,h,ρ,fl,h',R,er,e,λμ1 H1 E1 R1=>?_⟩;have k1:=k μ1 H1 E1 R1;cases fl with
  | nx ρ1=>exact absurd e (hr ρ1 h')
  | ret w=>exact k1
  | bk ρ1=>exact k1
  | ct ρ1=>exact k1
def zi6:SS X cl (.Pass pos) yN:=PS.wk ziP λD σ H q0=>by
 obtain⟨μ,h,ρ,fl,h',R,er,e,k⟩:=q0;cases e;exact k.nx R er
def zje(he:SE X cl e m)(hs:swapsWith e none pos.line X.env=pure false:=by rfl):SS X cl (.Expr e pos) (xY m):=PS.wk (ziO he hs) λD σ H q0=>by
 obtain⟨μ,h,ρ,fl,h',R,er,e,k⟩:=q0;unfold xY at e;split at e
 .rename_i w h1 e1
  cases e;exact⟨μ,h,ρ,w,_,R,er,e1,λμ1 H1 v E1 R1 _=>k μ1 H1 E1 R1 σ (er.ext R E1)⟩
 .cases e
def zlO(he:SE X cl e m):SS X cl (.Return (some e) pos) (sRet m):=PS.wk (zkp he) λD σ H q0=>by
 obtain⟨μ,h,ρ,fl,h',R,er,e,k⟩:=q0;unfold sRet at e;split at e
 .rename_i w h1 e1
  cases e;exact⟨μ,h,ρ,w,_,R,er,e1,λμ1 H1 v E1 R1 r=>k μ1 H1 E1 R1 v r⟩
 .cases e
def zmu{c:Expr}{t:MT}{sa sb:List Stmt}(hc:ST X cl c t)(ha:SB X cl sa a)(hb:SB X cl sb b):SS X cl (.If c sa sb pos) (sIf t a b):=PS.wk (zl2 hc ha hb) λD σ H q0=>by
 obtain⟨μ,h,ρ,fl,h',R,er,e,k⟩:=q0;unfold sIf at e;split at e
 .rename_i c h1 e1
  refine⟨μ,h,ρ,c,h1,R,er,e1,λμ1 H1 E1 R1=>?_⟩;cases c with
  | true=>rw[zW rfl] at e ⊢; exact⟨μ1,h1,ρ,fl,h',R1,er.ext R E1,e,k.ext E1⟩
  | false=>rw[kO zL] at e ⊢; exact⟨μ1,h1,ρ,fl,h',R1,er.ext R E1,e,k.ext E1⟩
 .cases e
def zeV(i:Nat){x:Str}(hN:X.N.Nodup)(hi:X.N[i]?=some x:=by rfl)(hx:Loc X.env.scope x:=by first | exact Or.inl rfl | exact Or.inr rfl)(hf:X.fn x=true\/X.env.scope.names.lookup x=some .local:=by first | exact .inl rfl | exact .inr rfl | assumption):SG X cl (.Name x pos) (gNm i):=
 PG.wk (zj0 (i:=i) hN hi hx hf) λv σ H Q q0=>by
  obtain⟨μ,h,ρ,w,ρ',h',R,er,r,e,k⟩:=q0;unfold gNm at e;split at e
  .rename_i hi
   cases e;exact k μ H _ .refl R (er.set hi r)
  .cases e
inductive tMGs(K:PySem.W.Frag)(cl:Cl)(gs:List MG)(vs:List V)(σ:L2.St)(H:Hp)(Q:L2.St->Hp->Prop):Prop
 | mk (μ:List Addr) (h:MH) (ρ:En) (ws:List W) (ρ':En) (h':MH) (p0:HR K cl μ H h) (p1:ER K μ H ρ σ) (p2:RWs K μ H ws vs) (p3:gTps gs ws ρ h=some (ρ',h')) (p4:∀μ' H' σ',Ext μ H μ' H'->HR K cl μ' H' h'->ER K μ' H' ρ' σ'->Q σ' H'):tMGs K cl gs vs σ H Q
abbrev SGs(X:Cx)(cl:Cl)(es:List Expr)(gs:List MG):Prop:=PGs X es (tMGs X.K cl gs)
def PGs.wk{es:List Expr}{t t':TGs}(h:PGs X es t)(w:∀v σ H Q,t' v σ H Q->t v σ H Q):PGs X es t':=λpins s σ H v u Q I r q=>h pins s σ H v u Q I r (w v σ H Q q)
def ziT:SGs X cl [] []:=PGs.wk zi3 λvs σ H Q q0=>by
 obtain⟨μ,h,ρ,ws,ρ',h',R,er,rs,e,k⟩:=q0;cases rs with
 | nil=>cases e; exact⟨rfl,k μ H _ .refl R er⟩
 | cons r t=>cases e
def zhU{es:List Expr}{g:MG}{gs:List MG}(h1:SG X cl e g)(h2:SGs X cl es gs)
  (hs:(assignEach (e::es) X.env).map (·.2)=assign e X.env::(assignEach es X.env).map (·.2):=by rfl):SGs X cl (e::es) (g::gs):=PGs.wk (zid h1 h2 hs) λvs σ H Q q0=>by
 obtain⟨μ,h,ρ,ws,ρ',h',R,er,rs,e,k⟩:=q0;cases rs with
 | nil=>cases e
 | cons r t=>
  obtain⟨ρ1,h1,e1,e2⟩:=yM e;exact⟨_,_,rfl,μ,h,ρ,_,ρ1,h1,R,er,r,e1,λμ1 H1 σ1 E1 R1 er1=>⟨μ1,h1,ρ1,_,ρ',h',R1,er1,t.ext R E1,e2,λμ2 H2 σ2 E2 R2 er2=>k μ2 H2 σ2 (E1.trans E2) R2 er2⟩⟩
def zec{ρ':En}{h':MH}:∀{gs:List MG} {l:List W} {ρ:En} {h:MH},gTps gs l ρ h=some (ρ',h')->gs.length=l.length:=by
 intro gs;induction gs with
 | nil=>intro l ρ h e; cases l with | nil=>rfl | cons=>cases e
 | cons g gs ih=>
  intro l ρ h e;cases l with
  | nil=>cases e
  | cons w l=>
   obtain⟨ρ1,h1,e1,e2⟩:=yM e;simp only[zr]; rw[ih e2]
def PG.or{e:Expr}{t1 t2 t:TG}(h1:PG X e t1)(h2:PG X e t2)(k:∀v σ H Q,t v σ H Q->t1 v σ H Q\/t2 v σ H Q):PG X e t:=λpins s σ H v u Q I r q=>(k v σ H Q q).elim (h1 pins s σ H v u Q I r) (h2 pins s σ H v u Q I r)
def zkd{es:List Expr}{n:Nat}{gs:List MG}(hc:X.calm=true)(hg:SGs X cl es gs)
  (hl:(assignEach es X.env).length=gs.length:=by rfl) (hst:(assignEach es X.env).findIdx? (·.1)=none:=by rfl):SG X cl (.Tuple es n pos) (gTp gs):=PG.or (zki hc hg hl hst) (zlI hc hg hl hst) λv σ H Q q0=>by
 obtain⟨μ,h,ρ,w,ρ',h',R,er,r,e,k⟩:=q0;cases r with
 | @tup a vs l s rs=>
  have e':gTps gs l ρ h=some (ρ',h'):=e;exact .inl ⟨a,vs,rfl,s,by rw[<-rs.length]; exact(zec e').symm,μ,h,ρ,l,ρ',h',R,er,rs,e',k⟩
 | @fls a vs l s rs=>
  have e':gTps gs l ρ h=some (ρ',h'):=e;exact .inr ⟨a,vs,rfl,s.sq,by rw[<-rs.length]; exact(zec e').symm,μ,h,ρ,l,ρ',h',R,er,rs,e',k⟩
 | _=>cases e
def zgl{tg:Expr}{g:MG}(he:SE X cl e m)(hg:SG X cl tg g)(hs:swapsWithSole [tg] e pos.line X.env=pure false:=by rfl)(hw:swappedStores [tg] e X.env=pure none:=by rfl)
  (h1:(assignEach [tg] X.env).map (·.2)=[assign tg X.env]:=by rfl):SS X cl (.Assign [tg] e pos) (sAsg m g):=PS.wk (zkA he hg hs hw h1) λD σ H q0=>by
 obtain⟨μ,h,ρ,fl,h',R,er,e,k⟩:=q0;unfold sAsg at e;split at e
 .rename_i w h1 e1
  split at e
  .rename_i ρ2 h2 e2
   cases e;exact⟨μ,h,ρ,w,h1,R,er,e1,λμ1 H1 v E1 R1 r=>⟨μ1,h1,ρ,w,ρ2,_,R1,er.ext R E1,r,e2,λμ2 H2 σ2 E2 R2 er2=>k μ2 H2 (E1.trans E2) R2 σ2 er2⟩⟩
  .cases e
 .cases e
def zk5(i:Nat){x:Str}{pos':Pos}(hN:X.N.Nodup)(he:SE X cl e m)(hi:X.N[i]?=some x:=by rfl)(hx:Loc X.env.scope x:=by first | exact Or.inl rfl | exact Or.inr rfl)(hs:swapsWith e (some (.Name x pos')) pos.line X.env=pure false:=by rfl)
  (hf:X.fn x=true\/X.env.scope.names.lookup x=some .local:=by first | exact .inl rfl | exact .inr rfl | assumption):SS X cl (.Assign [.Name x pos'] e pos) (sAsg m (gNm i)):=PS.wk (zkY (i:=i) hN hi hx he hs hf) λD σ H q0=>by
 obtain⟨μ,h,ρ,fl,h',R,er,e,k⟩:=q0;unfold sAsg at e;split at e
 .rename_i w h1 e1
  split at e
  .rename_i ρ2 h2 e2
   cases e;refine⟨μ,h,ρ,w,h1,R,er,e1,λμ1 H1 v E1 R1 r=>?_⟩;unfold gNm at e2;split at e2
   .rename_i hi
    cases e2;exact k μ1 H1 E1 R1 _ ((er.ext R E1).set hi r)
   .cases e2
  .cases e
 .cases e
def zlf(i:Nat){x:Str}{op:Operator}{f:W->W->M W}{pos':Pos}(hN:X.N.Nodup)(ho:PIp X op (rM X.K cl f))(he:SE X cl e m)(hi:X.N[i]?=some x:=by rfl)(hx:Loc X.env.scope x:=by first | exact Or.inl rfl | exact Or.inr rfl)
  (hf:X.fn x=true\/X.env.scope.names.lookup x=some .local:=by first | exact .inl rfl | exact .inr rfl | assumption):SS X cl (.AugAssign (.Name x pos') op e pos) (sAug i f m):=PS.wk (zlM (i:=i) hN hi hx he ho hf) λD σ H q0=>by
 obtain⟨μ,h,ρ,fl,h',R,er,e,k⟩:=q0;unfold sAug at e;split at e
 .rename_i w0 e0
  split at e
  .rename_i y h1 e1
   split at e
   .rename_i z h2 e2
    split at e
    .rename_i hi
     cases e;obtain⟨v0,q0,r0⟩:=er.at_ i w0 e0;exact⟨v0,q0,μ,h,ρ,y,h1,R,er,e1,λμ1 H1 vy E1 R1 ry=>⟨μ1,h1,w0,y,z,_,R1,r0.ext R E1,ry,e2,λμ2 H2 vz E2 R2 rz=>k μ2 H2 (E1.trans E2) R2 _ (((er.ext R E1).ext R1 E2).set hi rz)⟩⟩
    .cases e
   .cases e
  .cases e
 .cases e
end
noncomputable def xr(c:MT)(b:MS):Nat->MS
 | 0=>λ_ _=>none
 | n+1=>λρ h=>match c ρ h with
  | some (true,h1)=>match b ρ h1 with
   | some (.nx ρ2,h2)=>xr c b n ρ2 h2
   | some (.ct ρ2,h2)=>xr c b n ρ2 h2
   | some (.bk ρ2,h2)=>some (.nx ρ2,h2)
   | some (.ret w,h2)=>some (.ret w,h2)
   | none=>none
  | some (false,h1)=>some (.nx ρ,h1)
  | none=>none
theorem uY{c:MT}{b:MS}:∀{n:Nat} {ρ:En} {h:MH} {r:Fl×MH},xr c b n ρ h=some r->∀k,xr c b (n+k) ρ h=some r
 | 0,_,_,_,e,_=>by cases e
 | n+1,ρ,h,r,e,k=>by
  rw[show n+1+k=(n+k)+1 by omega];unfold xr at e ⊢;cases e1:c ρ h with
  | none=>rw[e1] at e; cases e
  | some p=>
   obtain⟨t,h1⟩:=p;rw[e1] at e;cases t with
   | false=>exact e
   | true=>
    simp only at e ⊢;cases e2:b ρ h1 with
    | none=>rw[e2] at e; cases e
    | some q=>
     obtain⟨fl,h2⟩:=q;rw[e2] at e;cases fl with
     | nx ρ2=>exact uY (n:=n) e k
     | ct ρ2=>exact uY (n:=n) e k
     | bk ρ2=>exact e
     | ret w=>exact e
open Classical in
noncomputable def uD(c:MT)(b:MS):MS:=λρ h=>if q:∃n r,xr c b n ρ h=some r then some q.choose_spec.choose else none
def zc4{c:MT}{b:MS}{n:Nat}{ρ:En}{h:MH}{r:Fl×MH}(e:xr c b n ρ h=some r):uD c b ρ h=some r:=by
 unfold uD;have q:∃n r,xr c b n ρ h=some r:=⟨n,r,e⟩;rw[dif_pos q];have e1:=q.choose_spec.choose_spec;have e2:=uY e1 n;have e3:=uY e q.choose;rw[ww] at e3;rw[e2] at e3;exact e3
def zgL{c:MT}{b:MS}{ρ:En}{h:MH}{r:Fl×MH}(e:uD c b ρ h=some r):∃n,xr c b n ρ h=some r:=by
 unfold uD at e;split at e
 .rename_i q
  have e1:=q.choose_spec.choose_spec;cases e;exact⟨_,e1⟩
 .cases e
section
variable{X:Cx}{cl:Cl}{pos:Pos}
def zhk{c:Expr}{body:List Stmt}{t:MT}{b:MS}(hc:ST X cl c t)(hb:SB X cl body b)(hp:PassesOwn (model X.prog X.w) X.A X.env X.xe:=by exact vV):SS X cl (.While c body [] pos) (uD t b):=PS.wk (zhB hp hc hb) λD σ H q0=>by
 obtain⟨μ,h,ρ,fl,h',R,er,e,k⟩:=q0;obtain⟨n0,e⟩:=zgL e;refine⟨λn σ H=>∃μ h ρ fl h',HR X.K cl μ H h/\ER X.K μ H ρ σ/\xr t b n ρ h=some (fl,h')/\KF X.K cl μ H h' fl D,⟨n0,μ,h,ρ,fl,h',R,er,e,k⟩,?_⟩;rintro n σ H ⟨μ,h,ρ,fl,h',R,er,e,k⟩;cases n with
 | zero=>cases e
 | succ n=>
  unfold xr at e;cases e1:t ρ h with
  | none=>rw[e1] at e; cases e
  | some p=>
   obtain⟨c,h1⟩:=p;rw[e1] at e;refine⟨μ,h,ρ,c,h1,R,er,e1,λμ1 H1 E1 R1=>?_⟩;cases c with
   | false=>
    rw[kO zL];cases e;exact k μ1 H1 E1 R1 σ (er.ext R E1)
   | true=>
    rw[zW rfl];refine⟨λσ' H'=>∃μ h ρ fl h',HR X.K cl μ H' h/\ER X.K μ H' ρ σ'/\xr t b n ρ h=some (fl,h')/\KF X.K cl μ H' h' fl D,λσ' H' q=>⟨n,jV n,q⟩,?_⟩;simp only at e;cases e2:b ρ h1 with
    | none=>rw[e2] at e; cases e
    | some q=>
     obtain⟨f2,h2⟩:=q;rw[e2] at e;refine⟨μ1,h1,ρ,f2,h2,R1,er.ext R E1,e2,λμ2 H2 E2 R2=>?_⟩;cases f2 with
     | nx ρ2=>exactλσ2 er2=>⟨μ2,h2,ρ2,fl,h',R2,er2,e,k.ext (E1.trans E2)⟩
     | ct ρ2=>exactλσ2 er2=>⟨μ2,h2,ρ2,fl,h',R2,er2,e,k.ext (E1.trans E2)⟩
     | bk ρ2=>cases e; exactλσ2 er2=>k μ2 H2 (E1.trans E2) R2 σ2 er2
     | ret w=>cases e; exactλv rv=>k μ2 H2 (E1.trans E2) R2 v rv
end
inductive Src where
 | items (l:List W) | live (n:Nat)
noncomputable def uN(s:Src)(i:Nat)(h:MH):Option (Option W):=match s with
 | .items l=>some l[i]?
 | .live n=>match h[n]? with
  | some (.lst l)=>some l[i]?
  | _=>none
noncomputable def JR(K:PySem.W.Frag)(cl:Cl)(J:It)(s:Src)(μ:List Addr)(H:Hp):Prop:=∀μ2 H2 h2,Ext μ H μ2 H2->HR K cl μ2 H2 h2->∀i,
 (∀w,uN s i h2=some (some w)->J.go i H2/\∀x H3,J.yld i H2 x H3->Ext μ2 H2 μ2 H3/\HR K cl μ2 H3 h2/\RW K μ2 H3 w x)/\(uN s i h2=some none->J.stop i H2)
abbrev MI:=En->M Src
inductive tMI(K:PySem.W.Frag)(cl:Cl)(m:MI)(σ:L2.St)(H:Hp)(R:It->Hp->Prop):Prop
 | mk (μ:List Addr) (h:MH) (ρ:En) (src:Src) (h':MH) (p0:HR K cl μ H h) (p1:ER K μ H ρ σ) (p2:m ρ h=some (src,h')) (p3:∀μ' H' J,Ext μ H μ' H'->HR K cl μ' H' h'->JR K cl J src μ' H'->R J H'):tMI K cl m σ H R
abbrev SI(X:Cx)(cl:Cl)(tg e:Expr)(m:MI):Prop:=PI X tg e (tMI X.K cl m)
def PI.wk{X:Cx}{tg e:Expr}{t t':TI}(h:PI X tg e t)(w:∀σ H Q,t' σ H Q->t σ H Q):PI X tg e t':=λpins s σ H Q I q=>h pins s σ H Q I (w σ H Q q)
def JR.ext{K:PySem.W.Frag}{cl:Cl}{J:It}{s:Src}{μ μ':List Addr}{H H':Hp}(E:Ext μ H μ' H')(j:JR K cl J s μ H):JR K cl J s μ' H':=λμ2 H2 h2 E2=>j μ2 H2 h2 (E.trans E2)
noncomputable def forN(s:Src)(g:MG)(b:MS):Nat->Nat->MS
 | 0,_=>λ_ _=>none
 | k+1,i=>λρ h=>match uN s i h with
  | some (some w)=>match g w ρ h with
   | some (ρ1,h1)=>match b ρ1 h1 with
    | some (.nx ρ2,h2)=>forN s g b k (i+1) ρ2 h2
    | some (.ct ρ2,h2)=>forN s g b k (i+1) ρ2 h2
    | some (.bk ρ2,h2)=>some (.nx ρ2,h2)
    | some (.ret w,h2)=>some (.ret w,h2)
    | none=>none
   | none=>none
  | some none=>some (.nx ρ,h)
  | none=>none
noncomputable def forL(g:MG)(b:MS):List W->MS
 | []=>λρ h=>some (.nx ρ,h)
 | w::r=>λρ h=>match g w ρ h with
  | some (ρ1,h1)=>match b ρ1 h1 with
   | some (.nx ρ2,h2)=>forL g b r ρ2 h2
   | some (.ct ρ2,h2)=>forL g b r ρ2 h2
   | some (.bk ρ2,h2)=>some (.nx ρ2,h2)
   | some (.ret w,h2)=>some (.ret w,h2)
   | none=>none
  | none=>none
theorem za0{g:MG}{b:MS}(l:List W):∀(k i:Nat) (ρ:En) (h:MH),l.length+1<=i+k->i<=l.length->forN (.items l) g b k i ρ h=forL g b (l.drop i) ρ h
 | 0,i,ρ,h,hk,hi=>by omega
 | k+1,i,ρ,h,hk,hi=>by
  by_cases hl:i<l.length
  .rw[q8 hl]
   unfold forN forL;simp only[uN,z9 hl];cases e1:g l[i] ρ h with
   | none=>rfl
   | some p=>
    obtain⟨ρ1,h1⟩:=p;simp only;cases e2:b ρ1 h1 with
    | none=>rfl
    | some q=>
     obtain⟨fl,h2⟩:=q;cases fl with
     | nx ρ2=>exact za0 l k (i+1) ρ2 h2 ∅ hl
     | ct ρ2=>exact za0 l k (i+1) ρ2 h2 ∅ hl
     | bk ρ2=>rfl
     | ret w=>rfl
  .have hi':i=l.length:=by omega
   subst hi';rw[wF];unfold forN forL;simp[uN]
noncomputable def zge(s:Src)(h:MH):Nat:=match s with
 | .items l=>l.length
 | .live n=>match h[n]? with
  | some (.lst l)=>l.length
  | _=>0
noncomputable def sFor(mi:MI)(g:MG)(b:MS):MS:=λρ h=>match mi ρ h with
 | some (.items l,h1)=>forL g b l ρ h1
 | some (.live n,h1)=>forN (.live n) g b (zge (.live n) h1+1) 0 ρ h1
 | none=>none
section
variable{X:Cx}{cl:Cl}{pos:Pos}
def zeb{K:PySem.W.Frag}{J:It}{src:Src}{g:MG}{b:MS}{D:Ends}{σ:L2.St}{μ:List Addr}{H:Hp}{h h':MH}{ρ:En}{fl:Fl}{k0:Nat}(R:HR K cl μ H h)(er:ER K μ H ρ σ)(j:JR K cl J src μ H)(e:forN src g b k0 0 ρ h=some (fl,h'))
  (k:KF K cl μ H h' fl D):∃W:Nat->Nat->L2.St->Hp->Prop,(∃m,W 0 m σ H)/\∀i m σ H,W i m σ H->
   (J.stop i H/\D.nx σ H)\/(J.go i H/\∃N:L2.St->Hp->Prop,(∀σ' H',N σ' H'->∃m',m'<m/\W (i+1) m' σ' H')/\∀x H',J.yld i H x H'->tMG K cl g x σ H' λσ2 H2=>tMS K cl b { D with nx:=N,ct:=N,bk:=D.nx } σ2 H2):=by
 refine⟨λi m σ H=>∃μ h ρ fl h',HR K cl μ H h/\ER K μ H ρ σ/\JR K cl J src μ H/\forN src g b m i ρ h=some (fl,h')/\KF K cl μ H h' fl D,⟨k0,μ,h,ρ,fl,h',R,er,j,e,k⟩,?_⟩;rintro i m σ H ⟨μ,h,ρ,fl,h',R,er,j,e,k⟩;cases m with
 | zero=>cases e
 | succ m=>
  unfold forN at e;obtain⟨jg,js⟩:=j μ H h .refl R i;cases es:uN src i h with
  | none=>rw[es] at e; cases e
  | some o=>
   rw[es] at e;cases o with
   | none=>
    cases e;exact .inl ⟨js es,k.nx R er⟩
   | some w=>
    obtain⟨go,yl⟩:=jg w es;simp only at e;cases e1:g w ρ h with
    | none=>rw[e1] at e; cases e
    | some p=>
     obtain⟨ρ1,h1⟩:=p;rw[e1] at e;simp only at e;cases e2:b ρ1 h1 with
     | none=>rw[e2] at e; cases e
     | some q=>
      obtain⟨f2,h2⟩:=q;rw[e2] at e;refine .inr ⟨go,λσ' H'=>∃μ h ρ fl h',HR K cl μ H' h/\ER K μ H' ρ σ'/\JR K cl J src μ H'/\forN src g b m (i+1) ρ h=some (fl,h')/\KF K cl μ H' h' fl D,λσ' H' q=>⟨m,jV m,q⟩,λx H1 y1=>?_⟩;obtain⟨E1,R1,rx⟩:=yl x H1 y1;refine⟨μ,h,ρ,w,ρ1,h1,R1,er.ext R E1,rx,e1,λμ2 H2 σ2 E2 R2 er2=>⟨μ2,h1,ρ1,f2,h2,R2,er2,e2,λμ3 H3 E3 R3=>?_⟩⟩;have E:=E1.trans (E2.trans E3);cases f2 with
      | nx ρ2=>exactλσ3 er3=>⟨μ3,h2,ρ2,fl,h',R3,er3,j.ext E,e,k.ext E⟩
      | ct ρ2=>exactλσ3 er3=>⟨μ3,h2,ρ2,fl,h',R3,er3,j.ext E,e,k.ext E⟩
      | bk ρ2=>cases e; exactλσ3 er3=>k μ3 H3 E R3 σ3 er3
      | ret w=>cases e; exactλv rv=>k μ3 H3 E R3 v rv
def zkn{tg iter:Expr}{body:List Stmt}{mi:MI}{g:MG}{b:MS}(hc:X.calm=true)(hi:SI X cl tg iter mi)(hg:SG X cl tg g)(hb:SB X cl body b)
  (hs:∀x,foldedSetIterable iter X.env x=pure x:=by intro _; rfl) (hp:PassesOwn (model X.prog X.w) X.A X.env X.xe:=by exact vV):SS X cl (.For tg iter body [] pos) (sFor mi g b):=PS.wk (zkr hp hc hi hg hb hs) λD σ H q0=>by
 obtain⟨μ,h,ρ,fl,h',R,er,e,k⟩:=q0;unfold sFor at e;split at e
 .rename_i l h1 e1
  refine⟨μ,h,ρ,.items l,h1,R,er,e1,λμ1 H1 J E1 R1 j=>?_⟩;have q:=za0 (g:=g) (b:=b) l (l.length+1) 0 ρ h1 ∅ ∅;rw[wW,e] at q;exact zeb R1 (er.ext R E1) j q (k.ext E1)
 .rename_i n h1 e1
  exact⟨μ,h,ρ,.live n,h1,R,er,e1,λμ1 H1 J E1 R1 j=>zeb R1 (er.ext R E1) j e (k.ext E1)⟩
 .cases e
end
noncomputable def fnM(np k:Nat)(b:MS):List W->M W:=λws h=>if ws.length=np then (match b (ws.map some++List.replicate k none) h with
 | some (.ret w,h')=>some (w,h')
 | some (.nx _,h')=>some (.non,h')
 | _=>none) else none
section
variable{P:Program}{w:World}{K:PySem.W.Frag}{mg:Str->Option Value}{base:Heap}{cl:Cl}
def zdD{μ:List Addr}{H:Hp}{N:List Str}{ws:List W}{vs:List V}{k:Nat}(rs:RWs K μ H ws vs)(hk:N.length-vs.length=k):ER K μ H (ws.map some++List.replicate k none) (L2.start N vs):=by
 subst hk;unfold L2.start;refine⟨by simp[rs.length],λi w e=>?_⟩;by_cases hi:i<ws.length
 .rw[zQ (by simpa using hi),kW] at e
  cases e1:ws[i]? with
  | none=>rw[e1] at e; cases e
  | some w'=>
   rw[e1] at e;cases e;obtain⟨v,e2,r⟩:=rs.get e1;exact⟨v,by rw[zQ (by rw[kE,<-rs.length]; exact hi),kW,e2]; rfl,r⟩
 .rw[zX (by simpa using hi),jR] at e
  split at e<;>cases e
def zlV{x qual:Str}{st:Stmt}{f:Addr}{fd:FuncData}{N ps:List Str}{k np ns:Nat}{b:MS}(F:Fun K x qual st f fd)(S:FnScope N ps (xf st))(hnp:ps.length=np)(hns:N.length-np=ns)
  (hb:∀(cdv:Value) (A:Around) (outer:List Env) (s:Shared) (H:Hp) (E:XK),Room k (A.deeper (envOfC qual (xf st) s.heap.objs.size f cdv))->
   SB (cxOf CX0 P w K mg base N qual (xf st) f cdv A outer s H E).nox cl (xQ st) b):FnOk P w K mg base CX0 (k+1) f fd ps (spM K cl (gc (fnM np ns b))):=by
 have len:∀vs H Q E,spM K cl (fnM np ns b) vs H Q E->vs.length=ps.length:=by
  rintro vs H Q E ⟨μ,h,ws,w,h',R,rs,e,k⟩;unfold fnM at e;split at e
  .rename_i hl
   rw[hnp,<-hl,rs.length]
  .cases e
 refine FnOk.imp (sp:=spM K cl (fnM np ns b)) (F.ok S len λcdv A outer s H vs Q E hr hsp=>⟨_,hb cdv A outer s H E hr,?_⟩) λvs H Q E q=>zmd (E:=E) q
 have hlen:=len _ _ _ _ hsp;obtain⟨μ,h,ws,w,h',R,rs,e,k⟩:=hsp;unfold fnM at e;split at e
 .rename_i hl
  split at e
  .rename_i w1 h1 e1
   cases e;exact⟨μ,h,_,_,_,R,zdD rs (by rw[hlen,hnp]; exact hns),e1,λμ1 H1 E1 R1 v rv=>k μ1 H1 v E1 R1 rv⟩
  .rename_i ρ1 h1 e1
   cases e;exact⟨μ,h,_,_,_,R,zdD rs (by rw[hlen,hnp]; exact hns),e1,λμ1 H1 E1 R1 σ1 _=>k μ1 H1 .non E1 R1 .non⟩
  .cases e
 .cases e
end
noncomputable def getL(h:MH):W->Option (List W)
 | .fls l=>some l
 | .ref n=>match h[n]? with
  | some (.lst l)=>some l
  | _=>none
 | _=>none
section
variable{K:PySem.W.Frag}{cl:Cl}{μ:List Addr}{H:Hp}{h:MH}
def xV{w:W}{v:V}{l:List W}(R:HR K cl μ H h)(r:RW K μ H w v)(e:getL h w=some l):∃a vs,v=.ref a/\SqL K H a vs/\RWs K μ H l vs:=by
 cases r with
 | @fls a vs l' s rs=>cases e; exact⟨a,vs,rfl,s.sq,rs⟩
 | @ref n a hn=>
  simp only[getL] at e;split at e
  .rename_i l' ho
   cases e;obtain⟨vs,hv,rs⟩:=R.ob n a _ hn ho;exact⟨a,vs,rfl,SqL.of hv,rs⟩
  .cases e
 | _=>cases e
theorem RW.int_of{i:Int}{v:V}(r:RW K μ H (.int i) v):v=.int i:=by cases r; rfl
theorem RW.str_of{i:Str}{v:V}(r:RW K μ H (.str i) v):v=.str i:=by cases r; rfl
def RW.tup_of{l:List W}{v:V}(r:RW K μ H (.tup l) v):∃a vs,v=.ref a/\SqT K H a vs/\RWs K μ H l vs:=by cases r with | @tup a vs l s rs=>exact⟨a,vs,rfl,s,rs⟩
end
noncomputable def addI(x y:W):Option W:=match x,y with
 | .int i,.int j=>some (.int (i+j))
 | .str i,.str j=>if i.length+j.length<=cap then some (.str (i++j)) else none
 | .tup l,.tup l'=>if l.length+l'.length<=cap then some (.tup (l++l')) else none
 | _,_=>none
noncomputable def addW(x y:W):M W:=λh=>match addI x y with
 | some w=>some (w,h)
 | none=>match getL h x,getL h y with
  | some l,some l'=>if l.length+l'.length<=cap then some (.fls (l++l'),h) else none
  | _,_=>none
noncomputable def addM(x y:W):M W:=λh=>match getL h x,getL h y with
 | some l,some l'=>if l.length+l'.length<=cap then some (.ref h.length,h++[.lst (l++l')]) else none
 | _,_=>none
section
variable{prog:Program}{w:World}{A:Around}{E:Value->Shared->Prop}{s:Shared}
def zhs{t b:Addr}{vs ws:List Value}{Q:Value->Shared->Prop}(ht:s.heap.IsList t vs.toArray)(hb:s.heap.IsList b ws.toArray)
  (h2:Q (.ref s.heap.objs.size) { s with heap:=s.heap.push { cls:=.type "list",data:=.seq (vs++ws).toArray } })
  (hsz:vs.length+ws.length<=sizeLine):wpAny (model prog w) A (binaryOp .Add (.ref t) (.ref b)) Q E s:=by
 obtain⟨⟨cls,dd,data,sl⟩,ho,hc,n,hd⟩:=id ht;obtain⟨⟨cls2,dd2,data2,sl2⟩,ho2,hc2,n2,hd2⟩:=id hb;simp only at hc hd hc2 hd2;subst hc hd hc2 hd2;have e:vs.toArray++ws.toArray=(vs++ws).toArray:=by simp
 refine wZ ⟨_,ho,rfl⟩ ⟨_,ho2,rfl⟩ noFill_list_add seq_list_add PySem.F.slot_list_add PySem.F.entry_list_add (PySem.F.args_list_add_2 _ _)
  (list_addW t b vs.toArray ws.toArray n n2 dd dd2 sl sl2 (by rw[zA,zA]; exact hsz)) ⟨ho,ho2,?_⟩
 rw[e];exact h2
def zhD{t b:Addr}{ws:List Value}{Q:Value->Shared->Prop}(ht:IsTup s.heap t ([]:List Value).toArray)(hb:IsTup s.heap b ws.toArray)(h1:Q (.ref b) s) :
  wpAny (model prog w) A (binaryOp .Add (.ref t) (.ref b)) Q E s:=by
 obtain⟨⟨cls,dd,data,sl⟩,ho,hc,n,hd⟩:=id ht;obtain⟨⟨cls2,dd2,data2,sl2⟩,ho2,hc2,n2,hd2⟩:=id hb;simp only at hc hd hc2 hd2;subst hc hd hc2 hd2;exact wZ ⟨_,ho,rfl⟩ ⟨_,ho2,rfl⟩ yc seq_tuple_add vA vm (vf _ _)
  (tuple_addW0 t b _ ws.toArray n n2 dd dd2 sl sl2 rfl) ⟨ho,ho2,h1⟩
end
section
variable{X:Cx}{cl:Cl}
def zeN{P:List W->MH->W->MH->Prop}{pins:List (Addr×Obj)}{s:Shared}{σ:L2.St}{H:Hp}{x y:V}{v u:Value}{Q:VK}{μ:List Addr}{h:MH}{wx wy:W}{l l':List W}(I:Inv X pins σ H s)(rx:RelV x v)(ry:RelV y u)
  (R:HR X.K cl μ H h) (ax:RW X.K μ H wx x) (ay:RW X.K μ H wy y) (e1:getL h wx=some l) (e2:getL h wy=some l') (hl:l.length+l'.length<=cap)
  (k:∀p xs,H p=none->RWs X.K μ H (l++l') xs->Q (.ref p) (upd H p (.lst xs))):wpAny (model X.prog X.w) X.A (binaryOp .Add v u) (EP X pins σ Q) X.xe s:=by
 obtain⟨a,vs,rfl,sa,ra⟩:=xV R ax e1;obtain⟨b,vs',rfl,sb,rb⟩:=xV R ay e2;cases rx;cases ry;obtain⟨its,r1,p1,_⟩:=I.list sa;obtain⟨its2,r2,p2,_⟩:=I.list sb;have hz:vs.length+vs'.length<=sizeLine:=zG (by rw[<-ra.length,<-rb.length]; exact hl) ut;refine zhs p1.isList p2.isList ?_ (by rw[<-r1.length,<-r2.length]; exact hz);exact⟨.ref _,_,I.lnew (t':=s.toks) (r1.append r2) (by rw[zM]; exact hz),rfl,k _ _ I.fresh (ra.append rb)⟩
def zjc:OpR X (binaryOp .Add) (rM X.K cl addW):=by
 rintro pins s σ H x y v u Q I rx ry ⟨μ,h,wx,wy,w,h',R,ax,ay,e,k⟩;unfold addW at e;split at e
 .rename_i w' e'
  cases e;unfold addI at e';split at e'
  .rename_i i j
   cases e';exact zkj pins s σ H x y v u Q I rx ry ⟨i,j,ax.int_of,ay.int_of,k.pure R (.int _)⟩
  .rename_i i j
   split at e'
   .rename_i hl
    cases e';exact zff pins s σ H x y v u Q I rx ry ⟨i,j,ax.str_of,ay.str_of,zG hl ut,k.pure R (.str _)⟩
   .cases e'
  .rename_i l l'
   split at e'
   .rename_i hl
    cases e';obtain⟨a,vs,rfl,sa,ra⟩:=ax.tup_of;obtain⟨b,vs',rfl,sb,rb⟩:=ay.tup_of;by_cases hv:vs=[]
    .subst hv
     cases ra;cases rx;cases ry;obtain⟨its,r1,p1,_⟩:=I.tuple sa;obtain⟨its2,r2,p2,_⟩:=I.tuple sb;cases r1;exact zhD p1 p2 ⟨.ref b,H,I,rfl,k.pure R (.tup sb rb)⟩
    .refine zjP pins s σ H _ _ v u Q I rx ry ⟨a,b,vs,vs',rfl,rfl,sa,sb,hv,zG (by rw[<-ra.length,<-rb.length]; exact hl) ut,λz=>?_,λ_ p hp=>k.tup R (ra.append rb) hp⟩
     subst z;cases rb;rw[jJ] at k;exact k.pure R (.tup sa ra)
   .cases e'
  .cases e'
 .split at e
  .rename_i l l' e1 e2
   split at e
   .rename_i hl
    cases e;exact zeN (P:=λ_ _ _ _=>True) I rx ry R ax ay e1 e2 hl λp xs hp rs=>k.fls R rs hp
   .cases e
  .cases e
def zjW:OpR X (binaryOp .Add) (rM X.K cl addM):=by
 rintro pins s σ H x y v u Q I rx ry ⟨μ,h,wx,wy,w,h',R,ax,ay,e,k⟩;unfold addM at e;split at e
 .rename_i l l' e1 e2
  split at e
  .rename_i hl
   cases e;exact zeN (P:=λ_ _ _ _=>True) I rx ry R ax ay e1 e2 hl λp xs hp rs=>k.lst R rs hp
  .cases e
 .cases e
end
noncomputable def subW(x y:W):M W:=λh=>match x,y with
 | .int i,.int j=>some (.int (i-j),h)
 | _,_=>none
noncomputable def small(i:Int):Bool:=decide (-(2 ^ 64)<i/\i<2 ^ 64)
noncomputable def mulW(x y:W):M W:=λh=>match x,y with
 | .int i,.int j=>if (small i||small j)=true then some (.int (i*j),h) else none
 | .tup l,.int j=>if 0<=j/\j<=1000/\l.length<=1000 then some (.tup (List.replicate j.toNat l).flatten,h) else none
 | .fls l,.int j=>if 0<=j/\j<=1000/\l.length<=1000 then some (.fls (List.replicate j.toNat l).flatten,h) else none
 | _,_=>none
noncomputable def modW(x y:W):M W:=λh=>match x,y with
 | .int i,.int j=>if 0<j then some (.int (i%j),h) else none
 | _,_=>none
noncomputable def divW(x y:W):M W:=λh=>match x,y with
 | .int i,.int j=>if 0<j/\j<1073741824 then some (.int (i/j),h) else none
 | _,_=>none
noncomputable def powW(x y:W):M W:=λh=>match x,y with
 | .int i,.int j=>if 0<=j/\j<=100/\i.natAbs<1000 then some (.int (i ^ j.toNat),h) else none
 | _,_=>none
noncomputable def cmpI(p:Int->Int->Bool)(x y:W):M W:=λh=>match x,y with
 | .int i,.int j=>some (.bl (p i j),h)
 | _,_=>none
noncomputable def negW(x:W):M W:=λh=>match x with
 | .int i=>some (.int (-i),h)
 | _=>none
noncomputable def zaT(b:Bool)(x y:W):M W:=λh=>match x,y with
 | .non,.non=>some (.bl b,h)
 | .tup _,.non=>some (.bl (!b),h)
 | .fls _,.non=>some (.bl (!b),h)
 | .int _,.non=>some (.bl (!b),h)
 | .str _,.non=>some (.bl (!b),h)
 | .bl _,.non=>some (.bl (!b),h)
 | .ref _,.non=>some (.bl (!b),h)
 | _,_=>none
section
variable{X:Cx}{cl:Cl}
def zjm:OpR X (binaryOp .Sub) (rM X.K cl subW):=by
 rintro pins s σ H x y v u Q I rx ry ⟨μ,h,wx,wy,w,h',R,ax,ay,e,k⟩;unfold subW at e;split at e
 .cases e; exact zkF pins s σ H x y v u Q I rx ry ⟨_,_,ax.int_of,ay.int_of,k.pure R (.int _)⟩
 .cases e
def zjU:OpR X (binaryOp .Mod) (rM X.K cl modW):=by
 rintro pins s σ H x y v u Q I rx ry ⟨μ,h,wx,wy,w,h',R,ax,ay,e,k⟩;unfold modW at e;split at e
 .split at e
  .rename_i hj; cases e; exact zlQ pins s σ H x y v u Q I rx ry ⟨_,_,ax.int_of,ay.int_of,hj,k.pure R (.int _)⟩
  .cases e
 .cases e
def ziU:OpR X (binaryOp .FloorDiv) (rM X.K cl divW):=by
 rintro pins s σ H x y v u Q I rx ry ⟨μ,h,wx,wy,w,h',R,ax,ay,e,k⟩;unfold divW at e;split at e
 .split at e
  .rename_i hj; cases e; exact zji pins s σ H x y v u Q I rx ry ⟨_,_,ax.int_of,ay.int_of,hj,k.pure R (.int _)⟩
  .cases e
 .cases e
def zjF:OpR X (binaryOp .Pow) (rM X.K cl powW):=by
 rintro pins s σ H x y v u Q I rx ry ⟨μ,h,wx,wy,w,h',R,ax,ay,e,k⟩;unfold powW at e;split at e
 .split at e
  .rename_i hj; cases e; exact zkl pins s σ H x y v u Q I rx ry ⟨_,_,ax.int_of,ay.int_of,⟨hj.1,by omega,zK hj.2.2 (by decide)⟩,k.pure R (.int _)⟩
  .cases e
 .cases e
def zbD{op:CmpOp}{p:Int->Int->Bool}(ho:OpR X (compareOp op) (rI0 λi j=>.bl (p i j))):OpR X (compareOp op) (rM X.K cl (cmpI p)):=by
 rintro pins s σ H x y v u Q I rx ry ⟨μ,h,wx,wy,w,h',R,ax,ay,e,k⟩;unfold cmpI at e;split at e
 .cases e; exact ho pins s σ H x y v u Q I rx ry ⟨_,_,ax.int_of,ay.int_of,k.pure R (.bl _)⟩
 .cases e
def zj5:OpR X (compareOp .Lt) (rM X.K cl (cmpI λi j=>decide (i<j))):=zbD zmh
def zlz:OpR X (compareOp .LtE) (rM X.K cl (cmpI λi j=>decide (i<=j))):=zbD zmo
def zkI:OpR X (compareOp .Gt) (rM X.K cl (cmpI λi j=>decide (j<i))):=zbD zlZ
def zlF:OpR X (compareOp .GtE) (rM X.K cl (cmpI λi j=>decide (j<=i))):=zbD zmr
def zjv:UnR X (unaryOp .USub) (rM1 X.K cl negW):=by
 rintro pins s σ H x v Q I rx ⟨μ,h,wx,w,h',R,ax,e,k⟩;unfold negW at e;split at e
 .cases e; exact zkK pins s σ H x v Q I rx ⟨_,ax.int_of,k.pure R (.int _)⟩
 .cases e
def zjB:PIp X .Add (rM X.K cl (λx y=>match x,y with | .int i,.int j=>λh=>some (.int (i+j),h) | _,_=>λ_=>none)):=by
 rintro pins s σ H x y v u Q I rx ry ⟨μ,h,wx,wy,w,h',R,ax,ay,e,k⟩;try dsimp only at e
 split at e
 .cases e; exact zlT pins s σ H x y v u Q I rx ry ⟨_,_,ax.int_of,ay.int_of,k.pure R (.int _)⟩
 .cases e
def zb8{K:PySem.W.Frag}{μ:List Addr}{H:Hp}{h h':MH}{wx wy w:W}{x y:V}{b:Bool}(ax:RW K μ H wx x)(ay:RW K μ H wy y)(e:zaT b wx wy h=some (w,h')):h=h'/\y=.non/\w=.bl (if b then decide (x=.non) else !decide (x=.non)):=by
 unfold zaT at e;split at e<;>first | (cases e; cases ax; cases ay; refine⟨rfl,rfl,?_⟩; cases b<;>simp) | cases e
def zlp:OpR X (compareOp .Is) (rM X.K cl (zaT true)):=by
 rintro pins s σ H x y v u Q I rx ry ⟨μ,h,wx,wy,w,h',R,ax,ay,e,k⟩;obtain⟨rfl,hy,rfl⟩:=zb8 ax ay e;exact zlm pins s σ H x y v u Q I rx ry ⟨hy,k.pure R (.bl _)⟩
def zgD:OpR X (compareOp .IsNot) (rM X.K cl (zaT false)):=by
 rintro pins s σ H x y v u Q I rx ry ⟨μ,h,wx,wy,w,h',R,ax,ay,e,k⟩;obtain⟨rfl,hy,rfl⟩:=zb8 ax ay e;exact zjD pins s σ H x y v u Q I rx ry ⟨hy,k.pure R (.bl _)⟩
end
noncomputable def lenW(ws:List W):M W:=λh=>match ws with
 | [.tup l]=>some (.int l.length,h)
 | [.str x]=>if x.length<=cap then some (.int x.length,h) else none
 | [w]=>match getL h w with
  | some l=>some (.int l.length,h)
  | none=>none
 | _=>none
noncomputable def ixW(x y:W):M W:=λh=>match x,y with
 | .tup l,.int i=>match atI l i with
  | some w=>some (w,h)
  | none=>none
 | .str z,.int i=>if z.length<=cap then (match atI z.cps.toList i with
  | some c=>some (.str ⟨#[c]⟩,h)
  | none=>none) else none
 | x,.int i=>match getL h x with
  | some l=>match atI l i with
   | some w=>some (w,h)
   | none=>none
  | none=>none
 | _,_=>none
noncomputable def cutW(l:List W)(lo hi:Option Int):List W:=(l.drop (HT.sIx l.length 0 lo)).take (HT.sIx l.length l.length hi-HT.sIx l.length 0 lo)
theorem RWs.atI{K:PySem.W.Frag}{μ:List Addr}{H:Hp}{l:List W}{vs:List V}{i:Int}{w:W}(rs:RWs K μ H l vs)(e:L2.atI l i=some w):∃v,L2.atI vs i=some v/\RW K μ H w v:=by
 unfold L2.atI at e ⊢;rw[<-rs.length];cases q:ixN l.length i with
 | none=>rw[q] at e; cases e
 | some j=>
  rw[q] at e;exact rs.get e
theorem RWs.cutW{K:PySem.W.Frag}{μ:List Addr}{H:Hp}{l:List W}{vs:List V}(rs:RWs K μ H l vs)(lo hi:Option Int):RWs K μ H (cutW l lo hi) (cutV vs lo hi):=by
 unfold ML.cutW cutV;rw[<-rs.length];exact(rs.drop _).take _
section
variable{X:Cx}{cl:Cl}{a b:Expr}{ma mb:ME}{pos:Pos}
def zgn:xN X (.builtin "len") (rMs X.K cl lenW):=by
 rintro pins s σ H xs us Q I rs ⟨μ,h,ws,w,h',R,ax,e,k⟩;unfold lenW at e;split at e
 .rename_i l
  cases e;cases ax with | cons r t=>cases t with | nil=>
   obtain⟨a,vs,rfl,sa,ra⟩:=r.tup_of;exact zbm pins s σ H _ us Q I rs ⟨a,vs,rfl,.inr sa,by rw[<-ra.length]; exact k.pure R (.int _)⟩
 .rename_i z
  split at e
  .rename_i hl
   cases e;cases ax with | cons r t=>cases t with | nil=>
    cases r.str_of;exact zd0 pins s σ H _ us Q I rs ⟨z,rfl,zG hl ut,k.pure R (.int _)⟩
  .cases e
 .split at e
  .rename_i l el
   cases e;cases ax with | cons r t=>cases t with | nil=>
    obtain⟨a,vs,rfl,sa,ra⟩:=xV R r el;exact zbm pins s σ H _ us Q I rs ⟨a,vs,rfl,.inl sa,by rw[<-ra.length]; exact k.pure R (.int _)⟩
  .cases e
 .cases e
def ix_W:IxR X (rM X.K cl ixW):=by
 rintro value slice pins s σ H x y v u Q I rx ry ⟨μ,h,wx,wy,w,h',R,ax,ay,e,k⟩ hs;unfold ixW at e;split at e
 .rename_i l i
  split at e
  .rename_i w' e'
   cases e;obtain⟨a,vs,rfl,sa,ra⟩:=ax.tup_of;obtain⟨v',ev,rv⟩:=ra.atI e';exact zeh value slice pins s σ H _ y v u Q I rx ry ⟨a,vs,i,v',rfl,ay.int_of,sa,ev,k.pure R rv⟩ hs
  .cases e
 .rename_i z i
  split at e
  .rename_i hl
   split at e
   .rename_i c e'
    cases e;exact zkG value slice pins s σ H _ y v u Q I rx ry ⟨z,i,c,ax.str_of,ay.int_of,zG hl ut,e',k.pure R (.str _)⟩ hs
   .cases e
  .cases e
 .rename_i i hn1 hn2
  split at e
  .rename_i l el
   split at e
   .rename_i w' e'
    cases e;obtain⟨a,vs,rfl,sa,ra⟩:=xV R ax el;obtain⟨v',ev,rv⟩:=ra.atI e';exact zjG value slice pins s σ H _ y v u Q I rx ry ⟨a,vs,i,v',rfl,ay.int_of,sa,ev,k.pure R rv⟩ hs
   .cases e
  .cases e
 .cases e
def zl1(ha:SE X cl a ma)(hb:SE X cl b mb)(hs:zaL b:=by exactλ_ _=>rfl):SE X cl (.Subscript a b pos) (eOp ixW ma mb):=
 PE.wk (zir ix_W ha hb hs) λσ H Q q=>za6 q
end
section
variable{prog:Program}{w:World}{A:Around}{E:Value->Shared->Prop}{s:Shared}
open HT in
def za9{t sl:Addr}{items:Array Value}{vl vu:Value}{lo hi:Option Int}{Q:Value->Shared->Prop}(ht:IsTup s.heap t items)(hs:s.heap.IsSliceOf sl vl vu .none)(pl:IsPart vl lo)(pu:IsPart vu hi)
  (hw:sIx items.size 0 lo=0/\sIx items.size items.size hi=items.size) (h:Q (.ref t) s):wpAny (model prog w) A (getItem (.ref t) (.ref sl)) Q E s:=by
 obtain⟨os,hos,hcs,hds⟩:=id hs;have hTs:s.TypeIs (.ref sl) "slice":=⟨os,hos,hcs⟩;unfold getItem;try with_reducible refine kZ ?_
 first | refine za (zu ?_) | skip
 refine za (wpAny_sequenceKey ht.typeIs (by decide) ?_)
 refine za (jz (name:=Str.ofString "__getitem__") ht.typeIs jc
  (jO jc ht.typeIs entry_tuple_getitem ?_ (args_tuple_getitem _ _)))
 show wpAny _ _ (Builtin.Tuple.tupleItemsOf (.ref t) >>= _) _ _ s
 refine za (wg ht ?_);refine za (j8 hTs ?_);rw[zW (by decide)];refine za (zal hs pl pu ?_);have hno:((((sIx items.size 0 lo:Nat):Int)==0&&(1:Int)==1&&(sIx items.size items.size hi-sIx items.size 0 lo)==items.size)=true):=by
  rw[hw.1,hw.2]; simp
 show wpAny _ _ (if (((sIx items.size 0 lo:Nat):Int)==0&&(1:Int)==1&&(sIx items.size items.size hi-sIx items.size 0 lo)==items.size)=true then _ else _) _ _ s
 rw[zW hno];unfold Builtin.Tuple.tupleIsExact;refine za (za (j8 ht.typeIs (zu ?_)));rw[zW (by decide)];first
  | exact za (qy (zu ⟨_,rfl,zu h⟩))
  | exact za (qy (za (zu (zu ⟨_,rfl,zu h⟩))))
  | exact za (za (qy (zu ⟨_,rfl,zu h⟩)))
end
noncomputable def slW(x:W)(lo hi:Option Int):M W:=λh=>match x with
 | .tup l=>some (.tup (cutW l lo hi),h)
 | .str z=>if z.length<=cap then some (.str (Txt.slice z lo hi),h) else none
 | x=>match getL h x with
  | some l=>some (.fls (cutW l lo hi),h)
  | none=>none
noncomputable def uZ(m:Option ME):En->M (Option Int):=λρ=>match m with
 | none=>λh=>some (none,h)
 | some m=>bnd (m ρ) λw h=>match w with
  | .int i=>some (some i,h)
  | _=>none
noncomputable def eSl(a:ME)(lo hi:Option ME):ME:=λρ=>bnd (a ρ) λx=>bnd (uZ lo ρ) λl=>bnd (uZ hi ρ) λu=>slW x l u
section
variable{X:Cx}{cl:Cl}{a:Expr}{ma:ME}{pos p2:Pos}
inductive tMO(K:PySem.W.Frag)(cl:Cl)(m:Option ME)(σ:L2.St)(H:Hp)(Q:Option Int->Hp->Prop):Prop
 | mk (μ:List Addr) (h:MH) (ρ:En) (o:Option Int) (h':MH) (p0:HR K cl μ H h) (p1:ER K μ H ρ σ) (p2:uZ m ρ h=some (o,h')) (p3:∀μ' H',Ext μ H μ' H'->HR K cl μ' H' h'->Q o H'):tMO K cl m σ H Q
abbrev SO(X:Cx)(cl:Cl)(e:Option Expr)(m:Option ME):Prop:=PO X e (tMO X.K cl m)
def PO.wk{e:Option Expr}{t t':TO}(h:PO X e t)(w:∀σ H Q,t' σ H Q->t σ H Q):PO X e t':=λpins s σ H Q I q=>h pins s σ H Q I (w σ H Q q)
def ziZ:SO X cl none none:=PO.wk zjM λσ H Q q0=>by
 obtain⟨μ,h,ρ,o,h',R,er,e,k⟩:=q0;cases e;exact k μ H .refl R
def zjN(ha:SE X cl a ma):SO X cl (some a) (some ma):=PO.wk (zjK ha) λσ H Q q0=>by
 obtain⟨μ,h,ρ,o,h',R,er,e,k⟩:=q0;obtain⟨x,h1,e1,e⟩:=yM e;split at e
 .rename_i i
  cases e;exact⟨μ,h,ρ,_,_,R,er,e1,λμ1 H1 v E1 R1 r=>⟨i,r.int_of,k μ1 H1 E1 R1⟩⟩
 .cases e
def zi7{pins:List (Addr×Obj)}{s:Shared}{σ:L2.St}{H:Hp}{a:Addr}{v vl vu:Value}{lo hi:Option Int}{sl:Addr}{Q:VK}{xs:List V}(I:Inv X pins σ H s)(rx:RelV (.ref a) v)(hs:s.heap.IsSliceOf sl vl vu .none)(pl:IsPart vl lo)(pu:IsPart vu hi)
  (hx:SqT X.K H a xs) (q1:cutV xs lo hi=xs->Q (.ref a) H) (q2:∀p,H p=none->Q (.ref p) (upd H p (.tup (cutV xs lo hi)))) :
  ∃T id,typeLookup (.type T) "__getitem__" = pure (some (.builtin id))/\s.TypeIs v T/\wpAny (model X.prog X.w) X.A (getItem v (.ref sl)) (EP X pins σ Q) X.xe s:=by
 by_cases hw:HT.sIx xs.length 0 lo=0/\HT.sIx xs.length xs.length hi=xs.length
 .cases rx
  obtain⟨its,r,ht,hz⟩:=I.tuple hx;have hlen:its.toArray.size=xs.length:=by rw[zA]; exact r.length.symm
  refine⟨"tuple",_,jc.lookup,ht.typeIs,?_⟩;refine za9 ht hs pl pu (by rw[hlen]; exact hw) ⟨.ref a,H,I,rfl,q1 ?_⟩;unfold cutV;rw[hw.1,hw.2];simp
 .exact zko pins s σ H _ v vl vu lo hi sl Q I rx hs pl pu ⟨a,xs,rfl,hx,hw,q2⟩
def zmy{lo hi:Option Expr}{ml mh:Option ME}(ha:SE X cl a ma)(hl:SO X cl lo ml)(hh:SO X cl hi mh):SE X cl (.Subscript a (.Slice lo hi none p2) pos) (eSl ma ml mh):=by
 have hr:SlR X (λx lo hi H Q=>∃μ h wx w h',HR X.K cl μ H h/\RW X.K μ H wx x/\slW wx lo hi h=some (w,h')/\KQ X.K cl μ H h' w Q):=by
  rintro pins s σ H x v vl vu lo hi sl Q I rx hs pl pu ⟨μ,h,wx,w,h',R,ax,e,k⟩;unfold slW at e;split at e
  .rename_i l
   cases e;obtain⟨a,vs,rfl,sa,ra⟩:=ax.tup_of;refine zi7 I rx hs pl pu sa (λz=>k.pure R (.tup sa ?_)) λp hp=>k.tup R (ra.cutW lo hi) hp
   have q:=ra.cutW lo hi;rw[z] at q;exact q
  .rename_i z
   split at e
   .rename_i hl
    cases e;cases ax.str_of;obtain⟨tk,rfl⟩:=rx;refine⟨"str",_,F.slot_str_getitem.lookup,vC _ _ _,?_⟩;obtain⟨l,el⟩:∃l:Option (Int×Tok),vl=partValue l/\lo=l.map (·.1):=by
     cases pl with
     | none=>exact⟨none,rfl,rfl⟩
     | int i t=>exact⟨some (i,t),rfl,rfl⟩
    obtain⟨u,eu⟩:∃l:Option (Int×Tok),vu=partValue l/\hi=l.map (·.1):=by
     cases pu with
     | none=>exact⟨none,rfl,rfl⟩
     | int i t=>exact⟨some (i,t),rfl,rfl⟩
    obtain⟨rfl,rfl⟩:=el;obtain⟨rfl,rfl⟩:=eu;exact wpAny_getItem_str_slice (l:=l) (u:=u) (st:=none) hs rfl (post_val_or_str ⟨zG (Txt.slice_le z _ _) (zG hl ut),λt' k'=>⟨.str _,H,I.tok k',⟨t',rfl⟩,k.pure R (.str _)⟩⟩)
   .cases e
  .split at e
   .rename_i l el
    cases e;obtain⟨a,vs,rfl,sa,ra⟩:=xV R ax el;exact zeK pins s σ H _ v vl vu lo hi sl Q I rx hs pl pu ⟨a,vs,rfl,sa,λp hp=>k.fls R (ra.cutW lo hi) hp⟩
   .cases e
 refine PE.wk (zdN hr ha hl hh) λσ H Q ⟨μ,h,ρ,w,h',R,er,e,k⟩=>?_
 obtain⟨x,h1,e1,e⟩:=yM e;obtain⟨l,h2,e2,e⟩:=yM e;obtain⟨u,h3,e3,e⟩:=yM e
 exact⟨μ,h,ρ,x,h1,R,er,e1,λμ1 H1 vx E1 R1 rx=>⟨μ1,h1,ρ,l,h2,R1,er.ext R E1,e2,λμ2 H2 E2 R2=>⟨μ2,h2,ρ,u,h3,R2,(er.ext R E1).ext R1 E2,e3,λμ3 H3 E3 R3=>
  ⟨μ3,h3,x,w,h',R3,(rx.ext R1 E2).ext R2 E3,e,k.ext (E1.trans (E2.trans E3))⟩⟩⟩⟩
end
def zbV:fillsNumberSlot (.type "tuple") "mul" = pure false:=
 PySem.fillsNumberSlot_seq (id:="tuple.__mul__") (r:=some (.builtin "tuple.__rmul__")) qT.lookup ⋯ F.slot_tuple_rmul.lookup ⋯
theorem zdz:seqRepeat? (.type "tuple")=pure (some (.builtin "tuple.__mul__")):=by
 unfold seqRepeat?;rw[PySem.seqSlot_of (T:="tuple") (name:="__mul__") (id:="tuple.__mul__") qT.lookup ⋯,PySem.seqSlot_of (T:="tuple") (name:="__rmul__") (id:="tuple.__rmul__") F.slot_tuple_rmul.lookup ⋯];rfl
def zaI(a:Int)(t:Tok)(l:Addr)(items:Array Value)(n:Nat)(dd:Option Addr)(sl:Array (Option Value)) :
  Meets (Builtin.«int.__rmul__» ⟨[.int a t,.ref l],[]⟩) (λ_ R s=>s.heap.get? l=some { cls:=.type "tuple",dict:=dd,data:=.seq items n,slots:=sl }/\R (.ok (.ret Value.notImplemented)) s):=
 .of_wp λprog w A R s h=>by obtain⟨hp,g,d,tk,os⟩:=s; obtain⟨hl,h⟩:=h; wp_walk; exact⟨_,rfl,h⟩
def zfi(l:Addr)(items:Array Value)(n:Nat)(dd:Option Addr)(sl:Array (Option Value))(x:Int)(u:Tok)(hf:¬((decide (x < -2 ^ 63)||decide (x>=2 ^ 63))=true))(hc:(items.isEmpty||x==1)=true) :
  Meets (Builtin.«tuple.__mul__» ⟨[.ref l,.int x u],[]⟩) (λ_ R s=>s.heap.get? l=some { cls:=.type "tuple",dict:=dd,data:=.seq items n,slots:=sl }/\R (.ok (.ret (.ref l))) s):=
 .of_wp λprog w A R s h=>by
  obtain⟨hp,g,d,tk,os⟩:=s; obtain⟨hl,h⟩:=h;have f1:=qU;have ht:IsTup ({ heap:=hp,gens:=g,drawn:=d,toks:=tk,os:=os }:Shared).heap l items:=⟨_,hl,rfl,n,rfl⟩;wp_walk using wpAny_loadPart' hl
  rw[kO hf];try dsimp only
  refine za (wg ht ?_);try dsimp only
  rw[zW hc];unfold Builtin.Tuple.tupleIsExact;refine za (za (j8 ht.typeIs (zu ?_)));rw[zW (by decide)];exact za (qy (zu ⟨_,rfl,h⟩))
def zfH (l : Addr) (items : Array Value) (n : Nat) (dd : Option Addr) (sl : Array (Option Value)) (x : Int) (u : Tok) (hf : ¬ ((decide (x < -2 ^ 63) || decide (x >= 2 ^ 63)) = true)) (hc : ¬ (items.isEmpty || x == 1) = true) (h0 : ¬ (decide (x <= 0) || items.isEmpty) = true)
   (h1 : ¬ (items.size * x > (2 ^ 63 - 1) / 8)) (h2 : ¬ Builtin.Tuple.tupleTooMany (items.size * x) = true) (hz : sizeOk (Data.seq (List.foldl (λx1 x2 => x1 ++ x2) #[] (List.replicate x.toNat items)))) :
    Meets (Builtin.«tuple.__mul__» ⟨[.ref l, .int x u], []⟩) (λ_ R s => s.heap.get? l = some { cls := .type "tuple", dict := dd, data := .seq items n, slots := sl } /\
      R (.ok (.ret (.ref s.heap.objs.size))) { s with heap := s.heap.push { cls := Value.type "tuple", data := Data.seq (List.foldl (λx1 x2 => x1 ++ x2) #[] (List.replicate x.toNat items)) } }) :=
  .of_wp λprog w A R s h => by
    obtain ⟨hp, g, d, tk, os⟩ := s; obtain ⟨hl, h⟩ := h;have f1 := qU;have ht : IsTup ({ heap := hp, gens := g, drawn := d, toks := tk, os := os } : Shared).heap l items := ⟨_, hl, rfl, n, rfl⟩;wp_walk using wpAny_loadPart' hl
    rw [kO hf];try dsimp only
    refine za (wg ht ?_);try dsimp only
    rw [kO hc, kO h0, kO h1, kO h2];refine za (m := Builtin.Tuple.tupleExact _) (jh (zu ⟨_, rfl, h⟩) hz)
def zfg(l:Addr)(items:Array Value)(n:Nat)(dd:Option Addr)(sl:Array (Option Value))(x:Int)(u:Tok)(hf:¬((decide (x < -2 ^ 63)||decide (x>=2 ^ 63))=true))(hc:¬(items.isEmpty||x==1)=true)(h0:(decide (x<=0)||items.isEmpty)=true) :
  Meets (Builtin.«tuple.__mul__» ⟨[.ref l,.int x u],[]⟩) (λ_ R s=>s.heap.get? l=some { cls:=.type "tuple",dict:=dd,data:=.seq items n,slots:=sl } /\
   R (.ok (.ret (.ref s.heap.objs.size))) { s with heap:=s.heap.push { cls:=Value.type "tuple",data:=Data.seq #[] } }):=
 .of_wp λprog w A R s h=>by
  obtain⟨hp,g,d,tk,os⟩:=s; obtain⟨hl,h⟩:=h;have f1:=qU;have ht:IsTup ({ heap:=hp,gens:=g,drawn:=d,toks:=tk,os:=os }:Shared).heap l items:=⟨_,hl,rfl,n,rfl⟩;wp_walk using wpAny_loadPart' hl
  rw[kO hf];try dsimp only
  refine za (wg ht ?_);try dsimp only
  rw[kO hc,zW h0];refine za (m:=Builtin.Tuple.tupleExact _) (jh (zu ⟨_,rfl,h⟩) (by show 0<=sizeLine; decide))
section
variable{X:Cx}{cl:Cl}
def zjs{pins:List (Addr×Obj)}{s:Shared}{σ:L2.St}{H:Hp}{a:Addr}{k:Int}{v u:Value}{Q:VK}{xs:List V}(I:Inv X pins σ H s)(rx:RelV (.ref a) v)(ry:RelV (.int k) u)(hx:SqT X.K H a xs)(h1:0<=k)(h2:k<=1000)(hz:xs.length<=1000)
  (q1:(List.replicate k.toNat xs).flatten=xs->Q (.ref a) H) (q2:∀p,H p=none->Q (.ref p) (upd H p (.tup (List.replicate k.toNat xs).flatten))):wpAny (model X.prog X.w) X.A (binaryOp .Mult v u) (EP X pins σ Q) X.xe s:=by
 cases rx;obtain⟨t,rfl⟩:=ry;obtain⟨its,r,ht,_⟩:=I.tuple hx;have hlen:=r.length;obtain⟨⟨cls,dd,data,sl⟩,e,hc,n,hd⟩:=id ht;simp only at hc hd;subst hc hd;have hsl:(sizeLine:Nat)=16777216:=qK;have hnew:List.foldl (λx1 x2=>x1++x2) #[] (List.replicate k.toNat its.toArray)=(List.replicate k.toNat its).flatten.toArray:=by
  have:=foldl_rep its k.toNat [];rw[zR] at this;exact this
 have hrl:k.toNat*its.length<=1000*1000:=Nat.mul_le_mul ∅ ∅;have hf:¬((decide (k < -2 ^ 63)||decide (k>=2 ^ 63))=true):=by
  simp only[Bool.or_eq_true,jn]; omega
 have road:∀{R:Value->Shared->Prop},wpAny (model X.prog X.w) X.A (call (.builtin "tuple.__mul__") [.ref a,.int k t]) R X.xe s->wpAny (model X.prog X.w) X.A (binaryOp .Mult (.ref a) (.int k t)) R X.xe s:=λhcall=>
  yD (T:="tuple") (U:="int") (by decide) ⟨_,e,rfl⟩ (λs'=>wQ s' k t) zbV F.fills_int_mul vX zdz F.slot_int_index.lookup
   (jY vX (wQ s k t) F.entry_int_rmul (F.args_int_rmul_2 _ _) (zaI k t a its.toArray n dd sl) ⟨e,rfl,⟨_,e,rfl⟩,hcall⟩)
 refine road ?_;by_cases c1:(its.toArray.isEmpty||k==1)=true
 .refine jY qT ⟨_,e,rfl⟩ wX (wM _ _) (zfi a its.toArray n dd sl k t hf c1) ⟨e,.ref a,H,I,rfl,q1 ?_⟩
  rcases qP.mp c1 with c | c
  .have:its=[]:=by simpa using c
   subst this;cases r;simp
  .have:k=1:=by simpa using c
   subst this;simp
 .by_cases c2:(decide (k<=0)||its.toArray.isEmpty)=true
  .refine jY qT ⟨_,e,rfl⟩ wX (wM _ _) (zfg a its.toArray n dd sl k t hf c1 c2) ⟨e,?_⟩
   have hk:k=0:=by
    have ne:its.toArray.isEmpty=false:=by
     cases z:its.toArray.isEmpty with
     | false=>rfl
     | true=>exact absurd (by rw[z]; rfl) c1
    rw[ne,qw] at c2;have:=jZ c2;omega
   subst hk;exact⟨.ref _,_,I.laid (t':=s.toks) (o:=.tup (List.replicate (0:Int).toNat xs).flatten) (λb ob q=>zb _ q) (zF _) ⟨by simp,[],by simpa using Paired.nil,IsTup.new _ _,.new _ _⟩,rfl,q2 _ I.fresh⟩
  .refine jY qT ⟨_,e,rfl⟩ wX (wM _ _) (zfH a its.toArray n dd sl k t hf c1 c2 ?_ ?_ ?_) ⟨e,?_⟩
   .rw[zA]
    have:(its.length:Int)*k<=1000*1000:=by
     have:(its.length:Int)*k=((k.toNat*its.length:Nat):Int):=by
      rw[wj]; push_cast; rw[qe h1]
     omega
    omega
   .rw[zA]
    unfold Builtin.Tuple.tupleTooMany;have:(its.length:Int)*k<=1000*1000:=by
     have:(its.length:Int)*k=((k.toNat*its.length:Nat):Int):=by
      rw[wj]; push_cast; rw[qe h1]
     omega
    simp only[jn];omega
   .rw[hnew]
    show((List.replicate k.toNat its).flatten.toArray).size<=sizeLine
    rw[zA,len_rep];omega
   .rw[hnew]
    exact⟨.ref _,_,I.laid (t':=s.toks) (o:=.tup (List.replicate k.toNat xs).flatten) (λb ob q=>zb _ q) (zF _) ⟨by rw[len_rep,hlen]; omega,_,r.rep k.toNat,IsTup.new _ _,.new _ _⟩,rfl,q2 _ I.fresh⟩
def ziM{pins:List (Addr×Obj)}{s:Shared}{σ:L2.St}{H:Hp}{a:Addr}{k:Int}{v u:Value}{Q:VK}{xs:List V}(I:Inv X pins σ H s)(rx:RelV (.ref a) v)(ry:RelV (.int k) u)(hx:SqL X.K H a xs)(h1:0<=k)(h2:k<=1000)(hz:xs.length<=1000)
  (q2:∀p,H p=none->Q (.ref p) (upd H p (.lst (List.replicate k.toNat xs).flatten))):wpAny (model X.prog X.w) X.A (binaryOp .Mult v u) (EP X pins σ Q) X.xe s:=by
 cases rx;obtain⟨t,rfl⟩:=ry;obtain⟨its,r,⟨o,n,e,hc,hd,hda⟩,_⟩:=I.list hx;obtain⟨cls,dd,data,sl⟩:=o;simp only at hc hd hda;subst hc hda;have hlen:=r.length;have hsl:(sizeLine:Nat)=16777216:=qK;have hrl:its.length*k.toNat<=1000*1000:=Nat.mul_le_mul ∅ ∅;have hfit:¬(!Builtin.List.listFitsIndex k)=true:=by simp[Builtin.List.listFitsIndex]; omega
 have hcap:¬its.toArray.size*k.toNat>(2 ^ 63-1)/8:=by rw[zA]; omega
 have hlong:¬Builtin.List.listTooLong (its.toArray.size*k.toNat)=true:=by rw[zA]; simp[Builtin.List.listTooLong,sizeLine]; omega
 have hnew:List.foldl (λx1 x2=>x1++x2) #[] (List.replicate (if its.toArray.isEmpty=true then 0 else k.toNat) its.toArray)=(List.replicate k.toNat its).flatten.toArray:=by
  have f0:∀m:Nat,List.foldl (λx1 x2=>x1++x2) #[] (List.replicate m its.toArray)=(List.replicate m its).flatten.toArray:=λm=>by
   have z:=foldl_rep its m [];rw[zR] at z;exact z
  rw[f0];cases its with
  | nil=>simp
  | cons c r'=>rw[kO (by simp)]
 refine yD (T:="list") (U:="int") (by decide) ⟨_,e,rfl⟩ (λs'=>wQ s' k t) noFill_list_mul F.fills_int_mul vX repeat_list F.slot_int_index.lookup (jY vX (wQ s k t) F.entry_int_rmul (F.args_int_rmul_2 _ _) (lm_int_rmul_list_any k t a its.toArray n dd sl) ⟨e,rfl,⟨_,e,rfl⟩,jY F.slot_list_mul ⟨_,e,rfl⟩ F.entry_list_mul (F.args_list_mul_2 _ _) (lm_list_mul_any a its.toArray n dd sl k t hfit hcap hlong) ⟨e,?_⟩⟩);rw[hnew];exact⟨.ref _,_,I.lnew (t':=s.toks) (r.rep k.toNat) (by rw[len_rep,hlen,wj]; omega),rfl,q2 _ I.fresh⟩
def zjk:OpR X (binaryOp .Mult) (rM X.K cl mulW):=by
 rintro pins s σ H x y v u Q I rx ry ⟨μ,h,wx,wy,w,h',R,ax,ay,e,k⟩;unfold mulW at e;split at e
 .rename_i i j
  split at e
  .rename_i hj
   cases e;refine zj9 pins s σ H x y v u Q I rx ry ⟨_,_,ax.int_of,ay.int_of,?_,k.pure R (.int _)⟩;unfold small at hj;rw[Bool.or_eq_true,jn,jn] at hj;exact hj
  .cases e
 .rename_i l j
  split at e
  .rename_i hj
   cases e;obtain⟨a,vs,rfl,sa,ra⟩:=ax.tup_of;cases ay.int_of;refine zjs I rx ry sa hj.1 hj.2.1 (by rw[<-ra.length]; exact hj.2.2) (λz=>k.pure R (.tup sa ?_)) λp hp=>k.tup R (ra.rep _) hp
   have q:=ra.rep j.toNat;rw[z] at q;exact q
  .cases e
 .rename_i l j
  split at e
  .rename_i hj
   cases e;obtain⟨a,vs,rfl,sa,ra⟩:=xV R ax (show getL _ (.fls l)=some l from rfl);cases ay.int_of;exact ziM I rx ry sa hj.1 hj.2.1 (by rw[<-ra.length]; exact hj.2.2) λp hp=>k.fls R (ra.rep _) hp
  .cases e
 .cases e
end
noncomputable def mapO{α β:Type}(f:α->Option β):List α->Option (List β)
 | []=>some []
 | x::r=>match f x,mapO f r with
  | some y,some ys=>some (y::ys)
  | _,_=>none
noncomputable def xj:Nat->MH->W->Option PyData
 | 0,_,_=>none
 | _+1,_,.non=>some .none
 | _+1,_,.bl b=>some (.bool b)
 | _+1,_,.int i=>some (.int i)
 | _+1,_,.str x=>if PyData.strOk x then some (.str x) else none
 | n+1,h,.tup l=>(mapO (xj n h) l).map .tuple
 | n+1,h,.fls l=>(mapO (xj n h) l).map .list
 | n+1,h,.ref k=>match h[k]? with
  | some (.lst l)=>(mapO (xj n h) l).map .list
  | _=>none
 | _+1,_,.fdc _=>none
 | _+1,_,.fn _=>none
section
variable{X:Cx}{cl:Cl}{pins:List (Addr×Obj)}{σ:L2.St}{μ:List Addr}{H:Hp}{s:Shared}{h:MH}
def uK(I:Inv X pins σ H s)(R:HR X.K cl μ H h):∀(n:Nat) {w:W} {x:V} {v:Value} {d:PyData},RW X.K μ H w x->RelV x v->xj n h w=some d->(∃as,Reads s.heap v d as)/\d.canLay0=true/\d.depth<=n:=by
 intro n;induction n with
 | zero=>intro w x v d _ _ e; cases e
 | succ n ih=>
  have all:∀{l:List W} {vs:List V} {us:List Value} {ds:List PyData},RWs X.K μ H l vs->Vals vs us->mapO (xj n h) l=some ds->(∃as,ReadsAll s.heap us ds as)/\PyData.canLayAll0 ds=true/\PyData.depthAll ds<=n:=by
   intro l;induction l with
   | nil=>intro vs us ds r t e; cases r; cases t; cases e; exact⟨⟨_,.nil⟩,by unfold PyData.canLayAll0; rfl,by unfold PyData.depthAll; omega⟩
   | cons w l ihl=>
    intro vs us ds r t e;cases r with | cons r rs=>cases t with | cons t ts=>
    unfold mapO at e;split at e
    .rename_i y ys e1 e2
     cases e;obtain⟨⟨as,h1⟩,h2,h3⟩:=ih r t e1;obtain⟨⟨bs,g1⟩,g2,g3⟩:=ihl rs ts e2;refine⟨⟨_,.cons h1 g1⟩,by unfold PyData.canLayAll0; rw[h2,g2]; rfl,?_⟩;unfold PyData.depthAll;omega
    .cases e
  have lists:∀{l:List W} {a:Addr} {vs:List V} {d:PyData},SqL X.K H a vs->RWs X.K μ H l vs->(mapO (xj n h) l).map PyData.list=some d->(∃as,Reads s.heap (.ref a) d as)/\d.canLay0=true/\d.depth<=n+1:=by
   intro l a vs d sq rs e;cases e1:mapO (xj n h) l with
   | none=>rw[e1] at e; cases e
   | some ds=>
    rw[e1] at e;cases e;obtain⟨its,rv,⟨o,m,h1,h2,h3,h4⟩,_⟩:=I.list sq;obtain⟨⟨as,g1⟩,g2,g3⟩:=all rs rv e1;exact⟨⟨_,.list h1 h2 h4 (by simpa using g1)⟩,by unfold PyData.canLay0; exact g2,by unfold PyData.depth; omega⟩
  intro w x v d r t e;cases r with
  | non=>cases e; cases t; exact⟨⟨_,.none⟩,by unfold PyData.canLay0; rfl,by unfold PyData.depth; omega⟩
  | bl b=>cases e; cases t; exact⟨⟨_,.bool b⟩,by unfold PyData.canLay0; rfl,by unfold PyData.depth; omega⟩
  | int i=>cases e; obtain⟨tk,rfl⟩:=t; exact⟨⟨_,.int i tk⟩,by unfold PyData.canLay0; rfl,by unfold PyData.depth; omega⟩
  | str z=>
   simp only[xj] at e;split at e
   .rename_i ok
    cases e; obtain⟨tk,rfl⟩:=t; exact⟨⟨_,.str z tk⟩,by unfold PyData.canLay0; exact ok,by unfold PyData.depth; omega⟩
   .cases e
  | @tup a vs l sq rs=>
   simp only[xj] at e;cases t;cases e1:mapO (xj n h) l with
   | none=>rw[e1] at e; cases e
   | some ds=>
    rw[e1] at e;cases e;obtain⟨its,rv,⟨o,h1,h2,m,h4⟩,_⟩:=I.tuple sq;obtain⟨⟨as,g1⟩,g2,g3⟩:=all rs rv e1;exact⟨⟨_,.tuple h1 h2 h4 (by simpa using g1)⟩,by unfold PyData.canLay0; exact g2,by unfold PyData.depth; omega⟩
  | @fls a vs l sq rs=>cases t; simp only[xj] at e; exact lists sq.sq rs e
  | fdc=>cases e
  | fn=>cases e
  | @ref k a hk=>
   cases t;simp only[xj] at e;split at e
   .rename_i l ho
    obtain⟨vs,hv,rs⟩:=R.ob k a _ hk ho;exact lists (SqL.of hv) rs e
   .cases e
end
section
variable{X:Cx}{cl:Cl}{pins:List (Addr×Obj)}{σ:L2.St}{μ:List Addr}{H:Hp}{s:Shared}{h:MH}
def zez(I:Inv X pins σ H s)(R:HR X.K cl μ H h)(n:Nat):∀{l:List W} {vs:List V} {us:List Value} {ds:List PyData},RWs X.K μ H l vs->Vals vs us->mapO (xj n h) l=some ds->(∃as,ReadsAll s.heap us ds as)/\PyData.canLayAll0 ds=true:=by
 intro l;induction l with
 | nil=>intro vs us ds r t e; cases r; cases t; cases e; exact⟨⟨_,.nil⟩,by unfold PyData.canLayAll0; rfl⟩
 | cons w l ihl=>
  intro vs us ds r t e;cases r with | cons r rs=>cases t with | cons t ts=>
  unfold mapO at e;split at e
  .rename_i y ys e1 e2
   cases e;obtain⟨⟨as,h1⟩,h2,h3⟩:=uK I R n r t e1;obtain⟨⟨bs,g1⟩,g2⟩:=ihl rs ts e2;exact⟨⟨_,.cons h1 g1⟩,by unfold PyData.canLayAll0; rw[h2,g2]; rfl⟩
  .cases e
end
noncomputable def deep:Nat:=60
noncomputable def eqF(x y:W):Option Bool:=match x,y with
 | .str a,.str b=>some (a==b)
 | .int a,.int b=>some (a==b)
 | .bl a,.bl b=>some (a==b)
 | _,_=>none
noncomputable def eqB(h:MH)(x y:W):Option Bool:=match eqF x y with
 | some b=>some b
 | none=>match xj deep h x,xj deep h y with
  | some d,some e=>some (PyData.eqv d e)
  | _,_=>none
noncomputable def eqW(neg:Bool)(x y:W):M W:=λh=>match eqB h x y with
 | some b=>some (.bl (if neg then !b else b),h)
 | none=>none
noncomputable def uo(h:MH):W->Option (List W)
 | .tup l=>some l
 | w=>getL h w
noncomputable def zau(j i:Str):Bool:=!(Builtin.Str.occurrences j i 0 j.length 1).isEmpty
noncomputable def inB(h:MH)(x y:W):Option Bool:=match x,y with
 | .str i,.str j=>some (zau j i)
 | x,y=>match uo h y with
  | some l=>match xj deep h x,mapO (xj deep h) l with
   | some d,some ds=>some (ds.any λe=>PyData.eqv e d)
   | _,_=>none
  | none=>none
noncomputable def inW(neg:Bool)(x y:W):M W:=λh=>match inB h x y with
 | some b=>some (.bl (if neg then !b else b),h)
 | none=>none
section
variable{X:Cx}{cl:Cl}
def zgF(hu:X.A.units+64<cLine){pins:List (Addr×Obj)}{s:Shared}{σ:L2.St}{H:Hp}{x y:V}{v u:Value}{Q:VK}{μ:List Addr}{h:MH}{wx wy:W}{b:Bool}(I:Inv X pins σ H s)(rx:RelV x v)(ry:RelV y u)
  (R:HR X.K cl μ H h) (ax:RW X.K μ H wx x) (ay:RW X.K μ H wy y) (e:eqB h wx wy=some b) :
  (Q (.bl b) H->wpAny (model X.prog X.w) X.A (compareOp .Eq v u) (EP X pins σ Q) X.xe s)/\(Q (.bl (!b)) H->wpAny (model X.prog X.w) X.A (compareOp .NotEq v u) (EP X pins σ Q) X.xe s):=by
 unfold eqB at e;split at e
 .rename_i b' e'
  cases e;unfold eqF at e';split at e'
  .rename_i i j
   cases e';cases ax.str_of;cases ay.str_of;exact⟨λq=>ze3 pins s σ H _ _ v u Q I rx ry ⟨rfl,by rw[zbu]; exact q⟩,λq=>ze6 pins s σ H _ _ v u Q I rx ry ⟨rfl,by rw[zbu]; exact q⟩⟩
  .rename_i i j
   cases e';cases ax.int_of;cases ay.int_of;exact⟨λq=>ze3 pins s σ H _ _ v u Q I rx ry ⟨rfl,by rw[zbB]; exact q⟩,λq=>ze6 pins s σ H _ _ v u Q I rx ry ⟨rfl,by rw[zbB]; exact q⟩⟩
  .rename_i i j
   cases e';cases ax.bl_of;cases ay.bl_of;exact⟨λq=>ze3 pins s σ H _ _ v u Q I rx ry ⟨rfl,by rw[zcz]; exact q⟩,λq=>ze6 pins s σ H _ _ v u Q I rx ry ⟨rfl,by rw[zcz]; exact q⟩⟩
  .cases e'
 .split at e
  .rename_i d d' e1 e2
   cases e;obtain⟨⟨as,r1⟩,c1,d1⟩:=uK I R deep ax rx e1;obtain⟨⟨bs,r2⟩,c2,d2⟩:=uK I R deep ay ry e2;have hr:X.A.units+min d.depth d'.depth<cLine:=by
    have:min d.depth d'.depth<=d.depth:=Nat.min_le_left _ _;unfold deep at d1;omega
   exact⟨λq=>SeqAt.compareEq_reads r1 r2 c1 c2 hr ⟨.bl _,H,I,rfl,q⟩,λq=>SeqAt.compareNe_reads r1 r2 c1 c2 hr ⟨.bl _,H,I,rfl,q⟩⟩
  .cases e
def zlN(hu:X.A.units+64<cLine):OpR X (compareOp .Eq) (rM X.K cl (eqW false)):=by
 rintro pins s σ H x y v u Q I rx ry ⟨μ,h,wx,wy,w,h',R,ax,ay,e,k⟩;unfold eqW at e;split at e
 .rename_i b eb
  cases e;exact(zgF hu I rx ry R ax ay eb).1 (k.pure R (.bl _))
 .cases e
def zls(hu:X.A.units+64<cLine):OpR X (compareOp .NotEq) (rM X.K cl (eqW true)):=by
 rintro pins s σ H x y v u Q I rx ry ⟨μ,h,wx,wy,w,h',R,ax,ay,e,k⟩;unfold eqW at e;split at e
 .rename_i b eb
  cases e;exact(zgF hu I rx ry R ax ay eb).2 (k.pure R (.bl _))
 .cases e
def uX{K:PySem.W.Frag}{μ:List Addr}{H:Hp}{h:MH}{w:W}{v:V}{l:List W}(R:HR K cl μ H h)(r:RW K μ H w v)(e:uo h w=some l):∃a vs,v=.ref a/\(SqL K H a vs\/SqT K H a vs)/\RWs K μ H l vs:=by
 unfold uo at e;split at e
 .cases e
  obtain⟨a,vs,rfl,sa,ra⟩:=r.tup_of;exact⟨a,vs,rfl,.inr sa,ra⟩
 .obtain⟨a,vs,rfl,sa,ra⟩:=xV R r e
  exact⟨a,vs,rfl,.inl sa,ra⟩
def zgK(hu:X.A.units+64<cLine){pins:List (Addr×Obj)}{s:Shared}{σ:L2.St}{H:Hp}{x y:V}{v u:Value}{Q:VK}{μ:List Addr}{h:MH}{wx wy:W}{b:Bool}(I:Inv X pins σ H s)(rx:RelV x v)(ry:RelV y u)
  (R:HR X.K cl μ H h) (ax:RW X.K μ H wx x) (ay:RW X.K μ H wy y) (e:inB h wx wy=some b) :
  (Q (.bl b) H->wpAny (model X.prog X.w) X.A (compareOp .In v u) (EP X pins σ Q) X.xe s)/\(Q (.bl (!b)) H->wpAny (model X.prog X.w) X.A (compareOp .NotIn v u) (EP X pins σ Q) X.xe s):=by
 unfold inB at e;split at e
 .rename_i i j
  cases e;exact⟨λq=>zhh pins s σ H x y v u Q I rx ry ⟨i,j,ax.str_of,ay.str_of,q⟩,λq=>zeg pins s σ H x y v u Q I rx ry ⟨i,j,ax.str_of,ay.str_of,q⟩⟩
 .split at e
  .rename_i l el
   split at e
   .rename_i d ds e1 e2
    cases e;obtain⟨a,vs,rfl,sa,ra⟩:=uX R ay el;cases ry;obtain⟨⟨as,r1⟩,c1,d1⟩:=uK I R deep ax rx e1;have big:xj (deep+1) h (.tup l)=some (.tuple ds):=by simp only[xj]; rw[e2]; rfl
    have big2:xj (deep+1) h (.fls l)=some (.list ds):=by simp only[xj]; rw[e2]; rfl
    have hr:X.A.units+1+min (PyData.depthAll ds) d.depth<cLine:=by
     have:min (PyData.depthAll ds) d.depth<=d.depth:=Nat.min_le_right _ _;unfold deep at d1;omega
    rcases sa with sa | sa
    .obtain⟨its,rv,⟨o,m,h1,h2,h3,h4⟩,_⟩:=I.list sa
     obtain⟨⟨as2,g1⟩,c2⟩:=zez I R deep ra rv e2;have r2:Reads s.heap (.ref a) (.list ds) _:=.list h1 h2 h4 (by simpa using g1);exact⟨λq=>SeqAt.in_list_reads r2 r1 c2 c1 hr ⟨.bl _,H,I,rfl,q⟩,λq=>SeqAt.notIn_list_reads r2 r1 c2 c1 hr ⟨.bl _,H,I,rfl,q⟩⟩
    .obtain⟨⟨bs,r2⟩,c2,_⟩:=uK I R (deep+1) (.tup sa ra) rfl big
     have c2':PyData.canLayAll0 ds=true:=by unfold PyData.canLay0 at c2; exact c2
     exact⟨λq=>SeqAt.in_tuple_reads r2 r1 c2' c1 hr ⟨.bl _,H,I,rfl,q⟩,λq=>SeqAt.notIn_tuple_reads r2 r1 c2' c1 hr ⟨.bl _,H,I,rfl,q⟩⟩
   .cases e
  .cases e
def zkq(hu:X.A.units+64<cLine):OpR X (compareOp .In) (rM X.K cl (inW false)):=by
 rintro pins s σ H x y v u Q I rx ry ⟨μ,h,wx,wy,w,h',R,ax,ay,e,k⟩;unfold inW at e;split at e
 .rename_i b eb
  cases e;exact(zgK hu I rx ry R ax ay eb).1 (k.pure R (.bl _))
 .cases e
def zhc(hu:X.A.units+64<cLine):OpR X (compareOp .NotIn) (rM X.K cl (inW true)):=by
 rintro pins s σ H x y v u Q I rx ry ⟨μ,h,wx,wy,w,h',R,ax,ay,e,k⟩;unfold inW at e;split at e
 .rename_i b eb
  cases e;exact(zgK hu I rx ry R ax ay eb).2 (k.pure R (.bl _))
 .cases e
end
inductive Ty where
 | int | str | bool | tuple | list | dict
 deriving DecidableEq
noncomputable def Ty.name:Ty->String
 | .int=>"int" | .str=>"str" | .bool=>"bool" | .tuple=>"tuple" | .list=>"list" | .dict=>"dict"
noncomputable def tyW(h:MH):W->Option Ty
 | .bl _=>some .bool
 | .int _=>some .int
 | .str _=>some .str
 | .tup _=>some .tuple
 | .fls _=>some .list
 | .ref n=>match h[n]? with
  | some (.lst _)=>some .list
  | some (.dic _)=>some .dict
  | _=>none
 | .fdc _=>some .dict
 | .fn _=>none
 | .non=>none
noncomputable def isTy(T:Ty)(x:W)(h:MH):Option Bool:=match x with
 | .non=>some false
 | x=>match tyW h x with
  | some t=>some (decide (t=T)||(decide (t=.bool)&&decide (T=.int)))
  | none=>none
noncomputable def isW(T:Ty)(x:W):M W:=λh=>match isTy T x h with
 | some b=>some (.bl b,h)
 | none=>none
def zg1(K:PySem.W.Frag):∀(t T:Ty),PySem.W.kitOne K (.type t.name) (.type T.name)=some (decide (t=T)||(decide (t=.bool)&&decide (T=.int))):=by
 intro t T;cases t<;>cases T<;>kernel_rfl
def zhS(K:PySem.W.Frag):∀(T:Ty),PySem.W.kitOne K (.type "NoneType") (.type T.name)=some false:=by
 intro T;cases T<;>kernel_rfl
section
variable{X:Cx}{cl:Cl}{a:Expr}{ma:ME}{pos p p2:Pos}
def zg7(T:Ty):xN X (.builtin "isinstance") (λxs H Q=>∃x,xs=[x,.ty T.name]/\rM1 X.K cl (isW T) x H Q):=by
 rintro pins s σ H xs us Q I rs ⟨x,rfl,μ,h,wx,w,h',R,ax,e,k⟩;obtain⟨u,u2,rfl,ru,ru2⟩:=vals2 rs;obtain rfl:u2=.type T.name:=ru2;unfold isW at e;split at e
 .rename_i b eb
  cases e;have q:Q (.bl b) H:=k.pure R (.bl _);have fin:∀tk,EP X pins σ Q (.bool b) { s with toks:=tk }:=λtk=>⟨.bl b,H,I.tok tk,rfl,q⟩
  have go:∀{t:Ty},tyW h wx=some t->PySem.W.kitOne X.K (.type t.name) (.type T.name)=some b:=λ{t} e1=>by
   rw[zg1];unfold isTy at eb;split at eb
   .cases e1
   .rw[e1] at eb; exact eb
  cases ax with
  | non=>
   cases eb;cases ru;exact zZ PySem.W.kitx_none I.kIn True.intro (zhS X.K T) (λz=>nomatch z) fin
  | bl y=>cases ru; exact zZ PySem.W.kitx_bool I.kIn True.intro (go (t:=.bool) rfl) (λz=>nomatch z) fin
  | int i=>obtain⟨t,rfl⟩:=ru; exact zZ PySem.W.kitx_int I.kIn True.intro (go (t:=.int) rfl) (λz=>nomatch z) fin
  | str y=>obtain⟨t,rfl⟩:=ru; exact zZ PySem.W.kitx_str I.kIn True.intro (go (t:=.str) rfl) (λz=>nomatch z) fin
  | @tup a vs l sa ra=>
   cases ru;obtain⟨its,_,⟨o,h1,h2,_⟩,_⟩:=I.tuple sa;exact zZ yG I.kIn ⟨o,h1,h2⟩ (go (t:=.tuple) rfl) (λz=>nomatch z) fin
  | @fls a vs l sa ra=>
   cases ru;obtain⟨its,_,⟨o,n,h1,h2,_⟩,_⟩:=I.list sa.sq;exact zZ vd I.kIn ⟨o,h1,h2⟩ (go (t:=.list) rfl) (λz=>nomatch z) fin
  | @fdc a l l' ws vs sa kk e1 e2 ra=>
   cases ru;have g:=go (t:=.dict) rfl;obtain⟨_,_,vs',_,dd⟩:=zb7 I.hok sa.1;obtain⟨o,es,ep,h1,h2,_⟩:=dd;exact zZ v6 I.kIn ⟨o,h1,h2.1⟩ g (λz=>nomatch z) fin
  | @fn a=>
   simp only[isTy,tyW] at eb;cases eb
  | @ref n a hn=>
   cases ru;cases et:tyW h (.ref n) with
   | none=>simp only[isTy,et] at eb; cases eb
   | some t=>
    have g:=go et;simp only[tyW] at et;split at et
    .rename_i l ho
     cases et;obtain⟨vs,hv,_⟩:=R.ob n a _ hn ho;obtain⟨its,_,⟨o,n,h1,h2,_⟩,_⟩:=I.list (SqL.of hv);exact zZ vd I.kIn ⟨o,h1,h2⟩ g (λz=>nomatch z) fin
    .rename_i l ho
     cases et;obtain⟨l',hv,_⟩:=R.ob n a _ hn ho;exact zg6 (x:=.ref a) I rfl (.dK hv) g fin
    .cases et
 .cases e
def zkD(T:Ty){y:Str}(ha:SE X cl a ma)(hi:X.mg "isinstance" = none)(ht:X.mg y=none)(hv:bootBuiltins y=some (.type T.name))(hg:Gl X "isinstance":=by rfl)(hg2:Gl X y:=by rfl)
  (hn:y≠"__name__":=by decide) (hdb:(y==("__debug__":Str))=false:=by decide)
  (hs1:starEach [a,.Name y p2] X.env=(false,eval a X.env)::starEach [.Name y p2] X.env:=by rfl) (hs2:starEach [.Name y p2] X.env=(false,eval (.Name y p2) X.env)::starEach [] X.env:=by rfl)
  (hpl:(backTo pos (starEach [.Name y p2] X.env)).any (·.1)=false:=by rfl):SE X cl (.Call (.Name "isinstance" p) [a,.Name y p2] [] pos) (eUn (isW T) ma):=
 PE.wk (zdX (zg7 (cl:=cl) T) hg hi PyProof.Rows.boot_isinstance (zcN ha (zcN (ziW hg2 ht hv (show RelV (.ty T.name) (.type T.name) from rfl) hn hdb) zf4 hs2) hs1) (by decide) (by decide) hs1 hpl) λσ H Q q0=>by
  obtain⟨μ,h,ρ,w,h',R,er,e,k⟩:=q0;obtain⟨x,h1,e1,e⟩:=yM e;exact⟨μ,h,ρ,x,h1,R,er,e1,λμ1 H1 vx E1 R1 rx=>⟨vx,rfl,μ1,h1,x,w,h',R1,rx,e,k.ext E1⟩⟩
noncomputable def intW(ws:List W):M W:=λh=>match ws with
 | [.int i]=>some (.int i,h)
 | [.bl b]=>some (.int (if b then 1 else 0),h)
 | [.str x]=>match PySem.intText? x with
  | some n=>if x.length<=640 then some (.int n,h) else none
  | none=>none
 | _=>none
noncomputable def strW(ws:List W):M W:=λh=>match ws with
 | [.int i]=>if i.natAbs.log2<1920 then some (.str (toString i),h) else none
 | [.str x]=>some (.str x,h)
 | _=>none
noncomputable def zab(ws:List W):M W:=λh=>match ws with
 | [.tup l]=>some (.tup l,h)
 | [w]=>match getL h w with
  | some l=>some (.tup l,h)
  | none=>none
 | _=>none
noncomputable def zaC(ws:List W):M W:=λh=>match ws with
 | [w]=>match uo h w with
  | some l=>some (.fls l,h)
  | none=>none
 | _=>none
noncomputable def zfJ(ws:List W):M W:=λh=>match ws with
 | [w]=>match uo h w with
  | some l=>some (.ref h.length,h++[.lst l])
  | none=>none
 | _=>none
def zgf:xN X (.type "int") (rMs X.K cl intW):=by
 rintro pins s σ H xs us Q I rs ⟨μ,h,ws,w,h',R,ax,e,k⟩;unfold intW at e;split at e
 .cases e
  cases ax with | cons r t=>cases t with | nil=>
   cases r.int_of;exact zc0 pins s σ H _ us Q I rs (.inl ⟨_,rfl,k.pure R (.int _)⟩)
 .cases e
  cases ax with | cons r t=>cases t with | nil=>
   cases r.bl_of;exact zc0 pins s σ H _ us Q I rs (.inr ⟨_,rfl,k.pure R (.int _)⟩)
 .split at e
  .rename_i hn
   split at e
   .rename_i hl
    cases e;cases ax with | cons r t=>cases t with | nil=>
     cases r.str_of;cases rs with | cons r1 r2=>
     cases r2;obtain⟨t,rfl⟩:=r1;exact PySem.W.KIN.call_text hn hl ⟨.int _,H,I.tok _,⟨_,rfl⟩,k.pure R (.int _)⟩
   .cases e
  .cases e
 .cases e
def zf0:xN X (.type "str") (rMs X.K cl strW):=by
 rintro pins s σ H xs us Q I rs ⟨μ,h,ws,w,h',R,ax,e,k⟩;unfold strW at e;split at e
 .split at e
  .rename_i hl
   cases e;cases ax with | cons r t=>cases t with | nil=>
    cases r.int_of;exact zel pins s σ H _ us Q I rs ⟨_,rfl,hl,k.pure R (.str _)⟩
  .cases e
 .cases e
  cases ax with | cons r t=>cases t with | nil=>
   cases r.str_of;cases rs with | cons r1 r2=>
   cases r2;obtain⟨t,rfl⟩:=r1;exact PySem.P.str_of_str ⟨.str _,H,I,⟨t,rfl⟩,k.pure R (.str _)⟩
 .cases e
def zex:xN X (.type "tuple") (rMs X.K cl zab):=by
 rintro pins s σ H xs us Q I rs ⟨μ,h,ws,w,h',R,ax,e,k⟩;unfold zab at e;split at e
 .rename_i l
  cases e;cases ax with | cons r t=>cases t with | nil=>
   obtain⟨a,vs,rfl,sa,ra⟩:=r.tup_of;exact za7 pins s σ H _ us Q I rs ⟨a,vs,rfl,.inr ⟨sa,k.pure R (.tup sa ra)⟩⟩
 .split at e
  .rename_i l el
   cases e;cases ax with | cons r t=>cases t with | nil=>
    obtain⟨a,vs,rfl,sa,ra⟩:=xV R r el;exact za7 pins s σ H _ us Q I rs ⟨a,vs,rfl,.inl ⟨sa,λp hp=>k.tup R ra hp⟩⟩
  .cases e
 .cases e
def zfa:xN X (.type "list") (rMs X.K cl zaC):=by
 rintro pins s σ H xs us Q I rs ⟨μ,h,ws,w,h',R,ax,e,k⟩;unfold zaC at e;split at e
 .split at e
  .rename_i l el
   cases e;cases ax with | cons r t=>cases t with | nil=>
    obtain⟨a,vs,rfl,sa,ra⟩:=uX R r el;exact zbg pins s σ H _ us Q I rs ⟨a,vs,rfl,sa,λp hp=>k.fls R ra hp⟩
  .cases e
 .cases e
def zfb:xN X (.type "list") (rMs X.K cl zfJ):=by
 rintro pins s σ H xs us Q I rs ⟨μ,h,ws,w,h',R,ax,e,k⟩;unfold zfJ at e;split at e
 .split at e
  .rename_i l el
   cases e;cases ax with | cons r t=>cases t with | nil=>
    obtain⟨a,vs,rfl,sa,ra⟩:=uX R r el;exact zbg pins s σ H _ us Q I rs ⟨a,vs,rfl,sa,λp hp=>k.lst R ra hp⟩
  .cases e
 .cases e
end
noncomputable def xP(x:W)(ws:List W):M W:=λh=>match x,ws with
 | .ref n,[y]=>match h[n]? with
  | some (.lst l)=>if l.length<cap then some (.non,h.set n (.lst (l++[y]))) else none
  | _=>none
 | _,_=>none
noncomputable def uE(x:W)(ws:List W):M W:=λh=>match x,ws with
 | .ref n,[y]=>match h[n]?,uo h y with
  | some (.lst l),some l'=>if l.length+l'.length<=cap then some (.non,h.set n (.lst (l++l'))) else none
  | _,_=>none
 | _,_=>none
noncomputable def popM(x:W)(ws:List W):M W:=λh=>match x,ws with
 | .ref n,[]=>match h[n]? with
  | some (.lst l)=>match l[l.length-1]? with
   | some y=>some (y,h.set n (.lst l.dropLast))
   | none=>none
  | _=>none
 | _,_=>none
noncomputable def yR(f:W->List W->M W)(o:ME)(ms:List ME):ME:=λρ=>bnd (o ρ) λx h=>if (getL h x).isSome=true then bnd (xX ms ρ) (λws=>f x ws) h else none
section
variable{X:Cx}{cl:Cl}{o e:Expr}{es:List Expr}{mo:ME}{ms:List ME}{apos cpos:Pos}{f:W->List W->M W}
inductive rMm(K:PySem.W.Frag)(cl:Cl)(f:W->List W->M W)(x:V)(xs:List V)(H:Hp)(Q:VK):Prop
 | mk (μ:List Addr) (h:MH) (wx:W) (ws:List W) (w:W) (h':MH) (p0:HR K cl μ H h) (p1:RW K μ H wx x) (p2:RWs K μ H ws xs) (p3:f wx ws h=some (w,h')) (p4:KQ K cl μ H h' w Q):rMm K cl f x xs H Q
def zc7{σ:L2.St}{H:Hp}{Q:VK}(q:tM X.K cl (yR f mo ms) σ H Q):tBM X.K "list" (rMm X.K cl f) (tM X.K cl mo) (tMA X.K cl ms) σ H Q:=by
 obtain⟨μ,h,ρ,w,h',R,er,e,k⟩:=q;obtain⟨x,h1,e1,e⟩:=yM e;split at e
 .rename_i hl
  obtain⟨ws,h2,e2,e⟩:=yM e;refine⟨μ,h,ρ,x,h1,R,er,e1,λμ1 H1 vx E1 R1 rx=>?_⟩;obtain⟨l,hl⟩:=qg.mp hl;obtain⟨a,vs,rfl,sa,ra⟩:=xV R1 rx hl;exact⟨.inl ⟨rfl,vs,sa⟩,μ1,h1,ρ,ws,h2,R1,er.ext R E1,e2,λμ2 H2 xs E2 R2 rs=>⟨μ2,h2,x,ws,w,h',R2,rx.ext R1 E2,rs,e,k.ext (E1.trans E2)⟩⟩
 .cases e
def zfp{σ:L2.St}{H:Hp}{Q:VK}(q:tM X.K cl (yR f mo []) σ H Q):tBM0 X.K "list" (rMm X.K cl f) (tM X.K cl mo) σ H Q:=by
 obtain⟨μ,h,ρ,w,h',R,er,e,k⟩:=q;obtain⟨x,h1,e1,e⟩:=yM e;split at e
 .rename_i hl
  obtain⟨ws,h2,e2,e⟩:=yM e;cases e2;refine⟨μ,h,ρ,x,h1,R,er,e1,λμ1 H1 vx E1 R1 rx=>?_⟩;obtain⟨l,hl⟩:=qg.mp hl;obtain⟨a,vs,rfl,sa,ra⟩:=xV R1 rx hl;exact⟨.inl ⟨rfl,vs,sa⟩,μ1,h1,x,[],w,h',R1,rx,.nil,e,k.ext E1⟩
 .cases e
theorem KQ.put{K:PySem.W.Frag}{μ:List Addr}{H:Hp}{h:MH}{n:Nat}{a:Addr}{l:List W}{vs:List V}{w:W}{v:V}{Q:VK}(k:KQ K cl μ H (h.set n (.lst l)) w Q)(R:HR K cl μ H h)(hn:μ[n]?=some a)(rs:RWs K μ H l vs)(r:RW K μ H w v):Q v (upd H a (.lst vs)):=
 k μ _ v (.put hn) (R.put hn ⟨vs,xJ,rs.ext R (.put hn)⟩) (r.ext R (.put hn))
def zfC:MtM X "list.append" (rMm X.K cl xP):=by
 rintro pins s σ H x xs v us Q I rx rs ⟨μ,h,wx,ws,w,h',R,ax,as,e,k⟩;unfold xP at e;split at e
 .rename_i n y
  split at e
  .rename_i l ho
   split at e
   .rename_i hl
    cases e;cases ax with | @ref _ a hn=>
    cases as with | cons r t=>cases t with | nil=>
    obtain⟨vs,hv,rl⟩:=R.ob n a _ hn ho;exact zde pins s σ H _ _ v us Q I rx rs ⟨a,vs,_,rfl,rfl,hv,zK (by rw[<-rl.length]; exact hl) ut,k.put R hn (rl.append (.cons r .nil)) .non⟩
   .cases e
  .cases e
 .cases e
def zjn:MtM X "list.pop" (rMm X.K cl popM):=by
 rintro pins s σ H x xs v us Q I rx rs ⟨μ,h,wx,ws,w,h',R,ax,as,e,k⟩;unfold popM at e;split at e
 .rename_i n
  split at e
  .rename_i l ho
   split at e
   .rename_i y hy
    cases e;cases ax with | @ref _ a hn=>
    cases as;obtain⟨vs,hv,rl⟩:=R.ob n a _ hn ho;obtain⟨v',ev,rv⟩:=rl.get hy;exact zlE pins s σ H _ _ v us Q I rx rs ⟨a,vs,v',rfl,rfl,hv,by rw[<-rl.length]; exact ev,k.put R hn rl.dropLast rv⟩
   .cases e
  .cases e
 .cases e
def zd9(T:String)(hT:T="list" \/ T="tuple")(l:Addr)(items:Array Value)(n:Nat)(b:Addr)(items2:Array Value)(n2:Nat)(dd2:Option Addr)(sl2:Array (Option Value))(hc0:¬(!items.isEmpty&&Builtin.List.listTooLong (items.size+items2.size))=true)(hc1:items.size<=sizeLine)(hs2:items.size+items2.size<=sizeLine+1) :
  Meets (Builtin.«list.extend» ⟨[.ref l,.ref b],[]⟩) (λ_ R s=>s.heap.get? l=some { cls:=.type "list",dict:=none,data:=.seq items n,slots:=#[] }/\s.heap.get? b=some { cls:=.type T,dict:=dd2,data:=.seq items2 n2,slots:=sl2 }/\R (.ok (.ret Value.none)) { s with heap:=s.heap.update l (Obj.mapSeq λx=>x++items2),toks:=s.toks }):=by
 rcases hT with rfl | rfl
 .exact .of_wp λprog w A R s h=>by
   obtain⟨hp,g,d,tk,os⟩:=s; obtain⟨hl,hb,h⟩:=h; have f1:=qU; have f2:=yI; have f3:=AutoSeq1.sub_list_list; have f4:=AutoSeq1.sub_tuple_list; have f5:=AutoSeq1.sub_list_tuple;have hz':(items++items2).size<=sizeLine+1:=by rw[Array.size_append]; exact hs2
   wp_walk using (q9 hl rfl (hz:=hc1) (_hz':=hz')),wpAny_loadPart' hl,wpAny_loadPart' hb; exact⟨_,rfl,h⟩
 .exact .of_wp λprog w A R s h=>by
   obtain⟨hp,g,d,tk,os⟩:=s; obtain⟨hl,hb,h⟩:=h; have f1:=qU; have f2:=yI; have f3:=AutoSeq1.sub_list_list; have f4:=AutoSeq1.sub_tuple_list; have f5:=AutoSeq1.sub_list_tuple;have hz':(items++items2).size<=sizeLine+1:=by rw[Array.size_append]; exact hs2
   wp_walk using (q9 hl rfl (hz:=hc1) (_hz':=hz')),wpAny_loadPart' hl,wpAny_loadPart' hb; exact⟨_,rfl,h⟩
def zfB{pins:List (Addr×Obj)}{s:Shared}{σ:L2.St}{H:Hp}{l b:Addr}{v u:Value}{Q:VK}{xs zs:List V}(I:Inv X pins σ H s)(rx:RelV (.ref l) v)(ru:RelV (.ref b) u)(hH:H l=some (.lst xs))(hB:SqL X.K H b zs\/SqT X.K H b zs)(hz:xs.length+zs.length<=sizeLine)
  (q:Q .non (upd H l (.lst (xs++zs)))):wpAny (model X.prog X.w) X.A (call (.builtin "list.extend") [v,u]) (EP X pins σ Q) X.xe s:=by
 cases rx;cases ru;obtain⟨z,its,n,r,hl,e⟩:=I.lstM hH;have go:∀{T:String} {its2:List Value} {n2:Nat} {dd2:Option Addr} {sl2:Array (Option Value)},(T="list" \/ T="tuple")->Vals zs its2->s.heap.get? b=some { cls:=.type T,dict:=dd2,data:=.seq its2.toArray n2,slots:=sl2 }->
   wpAny (model X.prog X.w) X.A (call (.builtin "list.extend") [.ref l,.ref b]) (EP X pins σ Q) X.xe s:=by
  intro T its2 n2 dd2 sl2 hT r2 e2;have hl2:=r2.length;have hsz:its.toArray.size+its2.toArray.size<=sizeLine:=by rw[zA,zA]; omega
  have hlong:¬(!its.toArray.isEmpty&&Builtin.List.listTooLong (its.toArray.size+its2.toArray.size))=true:=by
   rw[zhH hsz,Bool.and_false];exact zL
  refine jY F.slot_list_extend ⟨_,e,rfl⟩ F.entry_list_extend (F.args_list_extend_2 _ _) (zd9 T hT l its.toArray n b its2.toArray n2 dd2 sl2 hlong (by rw[zA]; omega) ∅) ⟨e,e2,?_⟩;refine⟨.non,_,I.lset (its':=its++its2) hH e (by simp) (r.append r2) ?_,rfl,q⟩;rw[zM];omega
 rcases hB with hB | hB
 .obtain⟨its2,r2,⟨⟨c2,d2,dt2,sl2⟩,n2,h1,h2,h3,h4⟩,_⟩:=I.list hB
  simp only at h2 h4;subst h2 h4;exact go (.inl rfl) r2 h1
 .obtain⟨its2,r2,⟨⟨c2,d2,dt2,sl2⟩,h1,h2,n2,h4⟩,_⟩:=I.tuple hB
  simp only at h2 h4;subst h2 h4;exact go (.inr rfl) r2 h1
def zfN:MtM X "list.extend" (rMm X.K cl uE):=by
 rintro pins s σ H x xs v us Q I rx rs ⟨μ,h,wx,ws,w,h',R,ax,as,e,k⟩;unfold uE at e;split at e
 .rename_i n y
  split at e
  .rename_i l l' ho el
   split at e
   .rename_i hl
    cases e;cases ax with | @ref _ a hn=>
    cases as with | cons r t=>cases t with | nil=>
    obtain⟨vs,hv,rl⟩:=R.ob n a _ hn ho;obtain⟨b,zs,rfl,sb,rb⟩:=uX R r el;obtain⟨u,rfl,ru⟩:=rs.one;exact zfB I rx ru hv sb (zG (by rw[<-rl.length,<-rb.length]; exact hl) ut) (k.put R hn (rl.append rb) .non)
   .cases e
  .cases e
 .cases e
def zgr(ho:SE X cl o mo)(ha:SA X cl (e::es) ms)(hbase:attributeBase o "append" X.env (eval o X.env)=eval o X.env:=by rfl)
  (hfew:((backTo cpos (starEach (e::es) X.env)).all (λx=>!x.1)&&(backToKw cpos (keywordEach [] X.env)).all (λx=>x.1.isSome)
   && decide ((e::es).length+([]:List Keyword).length+(if ([]:List Keyword).isEmpty then 0 else 1)<30))=true:=by rfl)
  (hline:(apos.endLine==cpos.line)=true:=by rfl) (hs:starEach (e::es) X.env=(false,eval e X.env)::starEach es X.env:=by rfl) (hplain:(backTo cpos (starEach es X.env)).any (·.1)=false:=by rfl) :
  SE X cl (.Call (.Attribute o "append" apos) (e::es) [] cpos) (yR xP mo ms):=
 PE.wk (ziD vh PySem.F.slot_list_append PySem.F.type_list_append zfC ho ha hbase hfew hline hs hplain) λσ H Q q=>zc7 q
def zgS(ho:SE X cl o mo)(ha:SA X cl (e::es) ms)(hbase:attributeBase o "extend" X.env (eval o X.env)=eval o X.env:=by rfl)
  (hfew:((backTo cpos (starEach (e::es) X.env)).all (λx=>!x.1)&&(backToKw cpos (keywordEach [] X.env)).all (λx=>x.1.isSome)
   && decide ((e::es).length+([]:List Keyword).length+(if ([]:List Keyword).isEmpty then 0 else 1)<30))=true:=by rfl)
  (hline:(apos.endLine==cpos.line)=true:=by rfl) (hs:starEach (e::es) X.env=(false,eval e X.env)::starEach es X.env:=by rfl) (hplain:(backTo cpos (starEach es X.env)).any (·.1)=false:=by rfl) :
  SE X cl (.Call (.Attribute o "extend" apos) (e::es) [] cpos) (yR uE mo ms):=
 PE.wk (ziD vh PySem.F.slot_list_extend PySem.F.type_list_extend zfN ho ha hbase hfew hline hs hplain) λσ H Q q=>zc7 q
def zkk(ho:SE X cl o mo)(hbase:attributeBase o "pop" X.env (eval o X.env)=eval o X.env:=by rfl)(hline:(apos.endLine==cpos.line)=true:=by rfl) :
  SE X cl (.Call (.Attribute o "pop" apos) [] [] cpos) (yR popM mo []):=
 PE.wk (zlb vh PySem.F.slot_list_pop PySem.F.type_list_pop zjn ho hbase hline) λσ H Q q=>zfp q
end
noncomputable def srcOf(x:W):M Src:=λh=>match x with
 | .tup l=>some (.items l,h)
 | .fls l=>some (.items l,h)
 | .ref n=>match h[n]? with
  | some (.lst _)=>some (.live n,h)
  | _=>none
 | _=>none
noncomputable def iSeq(m:ME):MI:=λρ=>bnd (m ρ) srcOf
noncomputable def upto(n:Nat):List W:=(_root_.List.range n).map λ(i:Nat)=>W.int (i:Int)
noncomputable def rngW(ws:List W):M Src:=λh=>match ws with
 | [.int j]=>if -(2 ^ 62)<=j/\j<2 ^ 62 then some (.items (upto j.toNat),h) else none
 | _=>none
noncomputable def iRng(ms:List ME):MI:=λρ=>bnd (xX ms ρ) rngW
section
variable{X:Cx}{cl:Cl}{tg e:Expr}{m:ME}{ms:List ME}{p pos:Pos}
def zlv{tl:TE}(hl:PE X e tl):PI X tg e (λσ H R=>tl σ H λx H1=>∃a,x=.ref a/\(((∃xs,SqL X.K H1 a xs)/\R (Itl X.K a) H1)\/((∃xs,SqT X.K H1 a xs)/\R (Itt X.K a) H1))):=by
 intro pins s σ H R I h;refine thn (hl pins s σ H _ I h) λv s1 ⟨x,H1,I1,r1,q1⟩=>?_
 obtain⟨a,e,q1⟩:=q1;subst e;cases r1;rcases q1 with ⟨⟨xs,hq⟩,q⟩ | ⟨⟨xs,hq⟩,q⟩
 .obtain⟨its,rv,p,hz⟩:=I1.list hq
  refine qJ p.isList ?_;refine⟨s1.heap.objs.size,[s1.heap.objs.size],_,_,H1,rfl,I1.kept (t':=s1.toks) λb o e=>zb _ e,zgY a _,⟨_,zH _ rfl,rfl,rfl⟩,λb hb=>?_,q⟩;have e:b=s1.heap.objs.size:=by simpa using hb
  subst e;exact I1.fpOk (zF _) (I1.hok.fresh (zF _))
 .obtain⟨its,rv,p,hz⟩:=I1.tuple hq
  refine wJ (show s1.heap.IsTuple a its.toArray from p) ?_;refine⟨s1.heap.objs.size,[s1.heap.objs.size],_,_,H1,rfl,I1.kept (t':=s1.toks) λb o e=>zb _ e,zfM a _,⟨_,zH _ rfl,rfl,rfl⟩,λb hb=>?_,q⟩;have e:b=s1.heap.objs.size:=by simpa using hb
  subst e;exact I1.fpOk (zF _) (I1.hok.fresh (zF _))
def zkH{K:PySem.W.Frag}{μ:List Addr}{H:Hp}{h:MH}{a:Addr}{vs:List V}{l:List W}(R:HR K cl μ H h)(sa:SqT K H a vs)(ra:RWs K μ H l vs):JR K cl (Itt K a) (.items l) μ H:=by
 intro μ2 H2 h2 E2 R2 i;have sa2:=SqT.ext R E2 sa;have ra2:=ra.ext R E2;refine⟨λw ew=>?_,λes=>?_⟩
 .have ew':l[i]?=some w:=zN ew
  obtain⟨v,ev,rv⟩:=ra2.get ew';refine⟨⟨vs,v,sa2,ev⟩,λx H3 y=>?_⟩;obtain⟨rfl,y⟩:=y;have:=y vs sa2;rw[ev] at this;cases this;exact⟨.refl,R2,rv⟩
 .have es':l[i]?=none:=zN es
  exact⟨vs,sa2,by rw[<-ra.length]; exact jk.mp es'⟩
def zkN{K:PySem.W.Frag}{μ:List Addr}{H:Hp}{h:MH}{a:Addr}{vs:List V}{l:List W}(R:HR K cl μ H h)(sa:SqF K μ H a vs)(ra:RWs K μ H l vs):JR K cl (Itl K a) (.items l) μ H:=by
 intro μ2 H2 h2 E2 R2 i;have sa2:=(SqF.ext E2 sa).sq;have ra2:=ra.ext R E2;refine⟨λw ew=>?_,λes=>?_⟩
 .have ew':l[i]?=some w:=zN ew
  obtain⟨v,ev,rv⟩:=ra2.get ew';refine⟨⟨vs,v,sa2,ev⟩,λx H3 y=>?_⟩;obtain⟨rfl,y⟩:=y;have:=y vs sa2;rw[ev] at this;cases this;exact⟨.refl,R2,rv⟩
 .have es':l[i]?=none:=zN es
  exact⟨vs,sa2,by rw[<-ra.length]; exact jk.mp es'⟩
def zjo{K:PySem.W.Frag}{μ:List Addr}{H:Hp}{a:Addr}{n:Nat}(hn:μ[n]?=some a):JR K cl (Itl K a) (.live n) μ H:=by
 intro μ2 H2 h2 E2 R2 i;have hn2:=E2.get hn;refine⟨λw ew=>?_,λes=>?_⟩
 .unfold uN at ew
  dsimp only at ew;split at ew
  .rename_i l ho
   have ew':l[i]?=some w:=zN ew;obtain⟨vs,hv,ra⟩:=R2.ob n a _ hn2 ho;obtain⟨v,ev,rv⟩:=ra.get ew';refine⟨⟨vs,v,SqL.of hv,ev⟩,λx H3 y=>?_⟩;obtain⟨rfl,y⟩:=y;have:=y vs (SqL.of hv);rw[ev] at this;cases this;exact⟨.refl,R2,rv⟩
  .cases ew
 .unfold uN at es
  dsimp only at es;split at es
  .rename_i l ho
   have es':l[i]?=none:=zN es;obtain⟨vs,hv,ra⟩:=R2.ob n a _ hn2 ho;exact⟨vs,SqL.of hv,by rw[<-ra.length]; exact jk.mp es'⟩
  .cases es
def zk7(he:SE X cl e m):SI X cl tg e (iSeq m):=PI.wk (zlv he) λσ H Q q0=>by
 obtain⟨μ,h,ρ,src,h',R,er,e,k⟩:=q0;obtain⟨x,h1,e1,e⟩:=yM e;refine⟨μ,h,ρ,x,h1,R,er,e1,λμ1 H1 v E1 R1 r=>?_⟩;unfold srcOf at e;split at e
 .cases e
  obtain⟨a,vs,rfl,sa,ra⟩:=r.tup_of;exact⟨a,rfl,.inr ⟨⟨vs,sa⟩,k μ1 H1 _ E1 R1 (zkH R1 sa ra)⟩⟩
 .cases e
  cases r with | @fls a vs l sa ra=>
  exact⟨a,rfl,.inl ⟨⟨vs,sa.sq⟩,k μ1 H1 _ E1 R1 (zkN R1 sa ra)⟩⟩
 .rename_i n
  split at e
  .rename_i l ho
   cases e;cases r with | @ref _ a hn=>
   obtain⟨vs,hv,ra⟩:=R1.ob n a _ hn ho;exact⟨a,rfl,.inl ⟨⟨vs,SqL.of hv⟩,k μ1 H1 _ E1 R1 (zjo hn)⟩⟩
  .cases e
 .cases e
def zkP{K:PySem.W.Frag}{μ:List Addr}{H:Hp}{n:Nat}:JR K cl (Itr 0 n) (.items (upto n)) μ H:=by
 intro μ2 H2 h2 E2 R2 i;refine⟨λw ew=>?_,λes=>?_⟩
 .have ew':(upto n)[i]?=some w:=zN ew
  unfold upto at ew';rw[kW] at ew';by_cases hi:i<n
  .rw[List.getElem?_range hi] at ew'
   cases ew';refine⟨hi,λx H3 y=>?_⟩;obtain⟨rfl,rfl⟩:=y;exact⟨.refl,R2,by rw[Int.zero_add]; exact .int _⟩
  .rw[jX (by simpa using hi)] at ew'
   cases ew'
 .have es':(upto n)[i]?=none:=zN es
  have:=jk.mp es';unfold upto at this;rw[kE,List.length_range] at this;exact this
def zkX(hm:X.mg "range" = none)(ha:SA X cl [e] ms)(hg:Gl X "range":=by rfl)(hs:starEach [e] X.env=[(false,eval e X.env)]:=by rfl):SI X cl tg (.Call (.Name "range" p) [e] [] pos) (iRng ms):=
 PI.wk (zgA hg hm ha hs) λσ H Q q0=>by
  obtain⟨μ,h,ρ,src,h',R,er,e,k⟩:=q0;obtain⟨ws,h1,e1,e⟩:=yM e;refine⟨μ,h,ρ,ws,h1,R,er,e1,λμ1 H1 vs E1 R1 rs=>?_⟩;unfold rngW at e;split at e
  .rename_i j
   split at e
   .rename_i hj
    cases e;cases rs with | cons r t=>cases t with | nil=>
    cases r.int_of;exact⟨j,rfl,hj.1,hj.2,k μ1 H1 _ E1 R1 zkP⟩
   .cases e
  .cases e
end
noncomputable def relS(sc scope:Scope):Scope:={ scope with names:=scope.names.map λ(n,k)=>if (k==.free&&sc.kind==.function&&sc.names.lookup n==some .cell) then (n,.cell) else (n,k) }
noncomputable def cof(sc:Scope)(x:Str):Bool:=sc.names.lookup x==some .cell||sc.names.lookup x==some .free
noncomputable def uQ(sc:Scope)(N:List Str)(scope:Scope)(N':List Str)(nl:Nat)(ks:List Nat):Bool:=
 scope.kind==.function&&scope.names.all (λy=>y.2 != .cell)&&scope.names.all (λy=>y.2 != .local||scope.names.lookup y.1==some .local)
 && N'.length==nl+ks.length&&scope.names.all (λy=>y.2 != .free||cof sc y.1)
 && (List.range ks.length).all λj=>match ks[j]?,N'[nl+j]? with
  | some k,some x=>N[k]?==some x&&cof sc x&&cof (relS sc scope) x
  | _,_=>false
structure CompOk(sc:Scope)(N:List Str)(scope:Scope)(N':List Str)(nl:Nat)(ks:List Nat):Prop where
 kind:scope.kind=.function
 ncell:∀y∈scope.names,y.2≠.cell
 names:∀y∈scope.names,y.2=.local->scope.names.lookup y.1=some .local
 len:N'.length=nl+ks.length
 fall:∀y∈scope.names,y.2=.free->cof sc y.1=true
 fr:∀j k,ks[j]?=some k->∃x,N[k]?=some x/\N'[nl+j]?=some x/\cof sc x=true/\cof (relS sc scope) x=true
def u6{sc:Scope}{N:List Str}{scope:Scope}{N':List Str}{nl:Nat}{ks:List Nat}(h:uQ sc N scope N' nl ks=true):CompOk sc N scope N' nl ks:=by
 unfold uQ at h;simp only[zg] at h;obtain⟨⟨⟨⟨⟨h1,h2⟩,h3⟩,h4⟩,h5⟩,h6⟩:=h;refine⟨by simpa using h1,λy hy=>?_,λy hy e=>?_,by simpa using h4,λy hy e=>?_,λj k e=>?_⟩
 .have:=zV.mp h2 y hy; simpa using this
 .have:=zV.mp h3 y hy; simpa[e] using this
 .have:=zV.mp h5 y hy; simpa[e] using this
 .have hj:j<ks.length:=(zJ.mp e).1
  have:=zV.mp h6 j (wV.mpr hj);rw[e] at this;cases e2:N'[nl+j]? with
  | none=>rw[e2] at this; simp at this
  | some x=>
   rw[e2] at this;simp only[zg] at this;exact⟨x,by simpa using this.1.1,rfl,this.1.2,this.2⟩
def zbc{sc:Scope}{x:Str}(h:cof sc x=true):sc.names.lookup x=some .cell\/sc.names.lookup x=some .free:=by
 unfold cof at h;rcases qP.mp h with h | h
 .exact .inl (by simpa using h)
 .exact .inr (by simpa using h)
noncomputable def cxC(X:Cx)(scope:Scope)(cs:List (Str×Addr))(C:Addr)(N:List Str)(s₀:Shared)(H₀:Hp)(ex:List Addr):Cx:=
 { X with N:=N,s₀:=s₀,H₀:=H₀,env:=compEnvC scope cs C X.env,outer:=X.stack,ex:=ex,fn:=λ_=>false,pn:=[],xe:=λ_ _=>False }
def zfe{env:Env}(names:List (Str×NameKind))(h:∀y∈names,y.2=.free->∃c,env.cells.lookup y.1=some c):∀cs0:List (Str×Addr),(∀x c,cs0.lookup x=some c->env.cells.lookup x=some c)->
  ∃cs,(forIn names cs0 λ(x:Str×NameKind) (r:List (Str×Addr))=>if (x.2==NameKind.free)=true then do
    let a <-cellOf env x.1
    pure (ForInStep.yield ((x.1,a)::r)) else pure (ForInStep.yield r):Sem (List (Str×Addr)))=pure cs/\(∀x c,cs.lookup x=some c->env.cells.lookup x=some c)/\(∀y∈names,y.2=.free->∃c,cs.lookup y.1=some c)/\∀x c,cs0.lookup x=some c->∃c',cs.lookup x=some c':=by
 induction names with
 | nil=>intro cs0 h0; exact⟨cs0,by simp,h0,λy hy=>by simp at hy,λx c e=>⟨c,e⟩⟩
 | cons y r ih=>
  intro cs0 h0;have hr:∀z∈r,z.2=.free->∃c,env.cells.lookup z.1=some c:=λz hz=>h z (zq _ hz)
  by_cases hy:(y.2==NameKind.free)=true
  .obtain⟨c,hc⟩:=h y zx (by simpa using hy)
   have h1:∀x c',((y.1,c)::cs0).lookup x=some c'->env.cells.lookup x=some c':=λx c' e=>by
    rw[jD] at e;split at e
    .rename_i q
     have:x=y.1:=by simpa using q
     subst this;rw[<-e]; exact hc
    .exact h0 x c' e
   obtain⟨cs,e1,e2,e3,e4⟩:=ih hr ((y.1,c)::cs0) h1;have hself:∃c',cs.lookup y.1=some c':=e4 y.1 c (by rw[jD]; simp);refine⟨cs,?_,e2,λz hz e=>?_,λx c' e=>?_⟩
   .rw[vI,zW hy]
    have:cellOf env y.1=pure c:=by unfold cellOf; rw[hc]
    rw[this];simp only[pure_bind];exact e1
   .rcases zp.mp hz with rfl | hz
    .exact hself
    .exact e3 z hz e
   .by_cases q:x=y.1
    .subst q; exact hself
    .refine e4 x c' ?_
     rw[jD];have:(x==y.1)=false:=by simpa using q
     rw[this]; exact e
  .obtain⟨cs,e1,e2,e3,e4⟩:=ih hr cs0 h0
   refine⟨cs,?_,e2,λz hz e=>?_,e4⟩
   .rw[vI,kO hy]
    simp only[pure_bind];exact e1
   .rcases zp.mp hz with rfl | hz
    .exact absurd (by simpa using e) hy
    .exact e3 z hz e
theorem zdh{env:Env}{scope:Scope}(h:∀y∈scope.names,y.2=.free->∃c,env.cells.lookup y.1=some c) :
  ∃cs,closureFor scope env=pure cs/\(∀x c,cs.lookup x=some c->env.cells.lookup x=some c)/\(∀y∈scope.names,y.2=.free->∃c,cs.lookup y.1=some c):=by
 obtain⟨cs,e1,e2,e3,_⟩:=zfe scope.names h [] (λx c e=>by simp at e);refine⟨cs,?_,e2,e3⟩
 have q:closureFor scope env=((forIn scope.names ([]:List (Str×Addr)) λ(x:Str×NameKind) (r:List (Str×Addr))=>if (x.2==NameKind.free)=true then do
    let a <-cellOf env x.1
    pure (ForInStep.yield ((x.1,a)::r)) else pure (ForInStep.yield r):Sem (List (Str×Addr))) >>= λcs=>pure cs):=rfl
 rw[q,e1];rfl
section
variable{X:Cx}{pins:List (Addr×Obj)}{σ:L2.St}{H:Hp}{s:Shared}
def zdv{sc scope:Scope}(nc:∀y∈scope.names,y.2≠.cell){x:Str}(h:cof (relS sc scope) x=true):∃y∈scope.names,y.1=x/\y.2=.free:=by
 have go:∀l:List (Str×NameKind),(∀y∈l,y.2≠.cell)->∀k:NameKind,(k=.cell\/k=.free)->(l.map λ(n,k)=>if (k==NameKind.free&&sc.kind==ScopeKind.function&&sc.names.lookup n==some NameKind.cell) then (n,NameKind.cell) else (n,k)).lookup x=some k->∃y∈l,y.1=x/\y.2=.free:=by
  intro l;induction l with
  | nil=>intro _ k _ e; simp at e
  | cons y r ih=>
   obtain⟨n,k0⟩:=y;intro nc k hk e;rw[zz,jD] at e;have fstq:(if (k0==NameKind.free&&sc.kind==ScopeKind.function&&sc.names.lookup n==some NameKind.cell)=true then (n,NameKind.cell) else (n,k0)).1=n:=by split<;>rfl
   by_cases q:x=n
   .refine⟨(n,k0),zx,q.symm,?_⟩
    have:(x==n)=true:=by simpa using q
    simp only[fstq,this] at e;split at e
    .rename_i c
     simp only[zg] at c;simpa using c.1.1
    .have e':k0=k:=by simpa using e
     rcases hk with rfl | rfl
     .exact absurd e' (nc (n,k0) zx)
     .exact e'
   .have:(x==n)=false:=by simpa using q
    simp only[fstq,this] at e;obtain⟨y,hy,e1,e2⟩:=ih (λy hy=>nc y (zq _ hy)) k hk e;exact⟨y,zq _ hy,e1,e2⟩
 rcases zbc h with h | h
 .exact go scope.names nc _ (.inl rfl) h
 .exact go scope.names nc _ (.inr rfl) h
def zle{sc scope:Scope}{N N':List Str}{nl:Nat}{ks:List Nat}{cs:List (Str×Addr)}{C:Addr}{ex:List Addr}(I:Inv X pins σ H s)(hsc:X.env.scope=sc)(ok:CompOk sc N scope N' nl ks)
  (hcs:∀x c,cs.lookup x=some c->X.env.cells.lookup x=some c) (hall:∀y∈scope.names,y.2=.free->∃c,cs.lookup y.1=some c) (hC:s.heap.objs.size<=C) (hex:∀b∈ex,FpOk X pins H b) (hob:∀b∈ex,b<s.heap.objs.size):(cxC X scope cs C N' s H ex).Ok:=by
 subst hsc;refine⟨I.ok.mod,ok.kind,I.ok.glob,I.ok.blt,hC,λx y c h1 h2=>I.ok.inj x y c (hcs x c h1) (hcs y c h2),λx hx=>?_,λx c h=>?_,I.ok.hd,I.ok.frames,.inl rfl,λb hb=>?_,I.bs,zG I.ok.bsz I.sz,λb o e hb=>?_,λb hb z=>?_,I.stack,I.stkFree⟩
 .have hc:cof (relS X.env.scope scope) x=true:=by
   unfold cof;rcases hx with hx | hx
   .rw[show(relS X.env.scope scope).names.lookup x=some .cell from hx]; rfl
   .rw[show(relS X.env.scope scope).names.lookup x=some .free from hx]; rfl
  obtain⟨y,hy,rfl,e⟩:=zdv ok.ncell hc;exact hall y hy e
 .cases h
 .obtain⟨h0,h1,h2,h3,h4,h5⟩:=hex b hb
  exact⟨λz=>absurd (zK (hob b hb) (z▸hC)) (jL _),λx c e=>h4 x c (hcs x c e)⟩
 .obtain⟨h0,h1,h2,h3,h4,h5⟩:=hex b hb
  rcases h3 with h3 | h3
  .exact I.ok.noex b o e h3
  .exact absurd (zK (zy e) (zG I.ok.bsz h3)) (jL _)
 .obtain⟨h0,h1,h2,h3,h4,h5⟩:=hex b hb
  rcases zp.mp (I.stkSub b z) with e | e
  .exact h1 e
  .exact h2 e
end
section
variable{prog:Program}{w:World}{A:Around}{R:Result->Shared->Prop}{s:Shared}
noncomputable def ze1(ifs:List Expr)(env:Env):Sem Bool:=forIn ifs true λc r=>if r=true then do let ok <-isTrue c env (eval c env); pure (ForInStep.yield ok) else pure (ForInStep.yield r)
def zdF{elt target iter:Expr}{ifs:List Expr}{scope:Scope}{pos:Pos}{it acc:Value}{env:Env}(I:Nat->Shared->Prop)
  (turn:∀n s,I n s->wpAny (model prog w) A (pyNext it) (λr s₁=>match r with
   | none=>R (.ok .next) s₁
   | some v=>wpAny (model prog w) A (letOwnedTupleGo target it v) (λ_ s₁'=>wpAny (model prog w) A (assign target env v) (λ_ s₂=>
     wpAny (model prog w) A (ze1 ifs env) (λok s₃=>
      if ok=true then wpAny (model prog w) A (eval elt env) (λx s₄=>
       wpAny (model prog w) A (call (.builtin "list.append") [acc,x]) (λ_ s₅=>∃m,m<n/\I m s₅) (λ_ _=>False) s₄) (λ_ _=>False) s₃
      else ∃m,m<n/\I m s₃) (λ_ _=>False) s₂) (λ_ _=>False) s₁') (λ_ _=>False) s₁) (λ_ _=>False) s)
  (n:Nat) (h:I n s) :
  codeAny (model prog w) A (.compLoop (.ListComp elt [⟨target,iter,ifs,0⟩] scope pos) 0 it acc env) R s:=by
 refine codeAny_loop rfl I (λn s hI=>?_) n h;show wpAny _ A ((compTurn (.ListComp elt [⟨target,iter,ifs,0⟩] scope pos) 0 it acc env).onRaise (λx=>do noteFrame x env; theTreesLotGoes x)) _ _ s
 refine wpAny_noted ?_;rw[compTurn_list];refine za (wI (za (jU (turn n s hI) (λr s₁ h₁=>?_) λ_ _ h'=>h'.elim)));cases r with
 | none=>exact zu h₁
 | some v=>
  refine za (jU h₁ (λ_ s₁' h₁'=>?_) λ_ _ h'=>h'.elim);refine za (jU h₁' (λ_ s₂ h₂=>za (jU h₂ (λok s₃ h₃=>?_) λ_ _ h'=>h'.elim)) λ_ _ h'=>h'.elim);cases ok with
  | false=>exact zu ⟨rfl,h₃⟩
  | true=>
   exact za (za (jU h₃ (λx s₄ h₄=>za (jU h₄ (λ_ s₅ h₅=>zu (zu ⟨rfl,h₅⟩)) λ_ _ h'=>h'.elim)) λ_ _ h'=>h'.elim))
end
noncomputable def STs(X:Cx)(cl:Cl)(ifs:List Expr)(t:MT):Prop:=∀(pins:List (Addr×Obj)) (s:Shared) (σ:L2.St) (H:Hp) (Q:Bool->Hp->Prop),Inv X pins σ H s->tMT X.K cl t σ H Q->wpAny (model X.prog X.w) X.A (ze1 ifs X.env) (TP X pins σ Q) X.xe s
noncomputable def uO:MT:=λ_ h=>some (true,h)
section
variable{X:Cx}{cl:Cl}{c:Expr}{t:MT}
def zjO:STs X cl [] uO:=λpins s σ H Q I q0=>by
 obtain⟨μ,h,ρ,b,h',R,er,e,k⟩:=q0;cases e;exact wpAny_tests_nil ⟨H,I,k μ H .refl R⟩
def zjj(h:ST X cl c t):STs X cl [c] t:=λpins s σ H Q I q=>wpAny_tests_one (h pins s σ H Q I q)
end
noncomputable def blank(nl:Nat)(ρ:En):En:=List.replicate nl none++ρ.drop nl
noncomputable def uL(src:Src)(nl:Nat)(g:MG)(t:MT)(m:ME)(n0:Nat):Nat->Nat->En->MH->Option MH
 | 0,_,_,_=>none
 | k+1,i,ρ,h=>match uN src i h with
  | none=>none
  | some none=>some h
  | some (some w)=>match g w ρ h with
   | none=>none
   | some (ρ1,h1)=>match t ρ1 h1 with
    | none=>none
    | some (false,h2)=>uL src nl g t m n0 k (i+1) (blank nl ρ1) h2
    | some (true,h2)=>match m ρ1 h2 with
     | none=>none
     | some (y,h3)=>match h3[n0]? with
      | some (.lst acc)=>if acc.length<cap then uL src nl g t m n0 k (i+1) (blank nl ρ1) (h3.set n0 (.lst (acc++[y]))) else none
      | _=>none
noncomputable def uM(nl:Nat)(g:MG)(t:MT)(m:ME)(n0:Nat):List W->En->MH->Option MH
 | [],_,h=>some h
 | w::r,ρ,h=>match g w ρ h with
   | none=>none
   | some (ρ1,h1)=>match t ρ1 h1 with
    | none=>none
    | some (false,h2)=>uM nl g t m n0 r (blank nl ρ1) h2
    | some (true,h2)=>match m ρ1 h2 with
     | none=>none
     | some (y,h3)=>match h3[n0]? with
      | some (.lst acc)=>if acc.length<cap then uM nl g t m n0 r (blank nl ρ1) (h3.set n0 (.lst (acc++[y]))) else none
      | _=>none
theorem zaG{nl:Nat}{g:MG}{t:MT}{m:ME}{n0:Nat}(l:List W):∀(k i:Nat) (ρ:En) (h:MH),l.length+1<=i+k->i<=l.length->uL (.items l) nl g t m n0 k i ρ h=uM nl g t m n0 (l.drop i) ρ h
 | 0,i,ρ,h,hk,hi=>by omega
 | k+1,i,ρ,h,hk,hi=>by
  by_cases hl:i<l.length
  .rw[q8 hl]
   unfold uL uM;simp only[uN,z9 hl];cases e1:g l[i] ρ h with
   | none=>rfl
   | some p=>
    obtain⟨ρ1,h1⟩:=p;simp only;cases e2:t ρ1 h1 with
    | none=>rfl
    | some q=>
     obtain⟨b,h2⟩:=q;cases b with
     | false=>exact zaG l k (i+1) _ h2 ∅ hl
     | true=>
      simp only;cases e3:m ρ1 h2 with
      | none=>rfl
      | some q3=>
       obtain⟨y,h3⟩:=q3;simp only;split
       .split
        .exact zaG l k (i+1) _ _ ∅ hl
        .rfl
       .rfl
  .have hi':i=l.length:=by omega
   subst hi';rw[wF];unfold uL uM;simp[uN]
noncomputable def za3(mi:MI)(nl:Nat)(ks:List Nat)(g:MG)(t:MT)(m:ME):En->MH->Option (Nat×MH×MH):=λρ h=>match mi ρ h with
 | none=>none
 | some (.items l,h1)=>match uM nl g t m h1.length l (List.replicate nl none++ks.map λk=>(ρ[k]?).join) (h1++[.lst []]) with
  | some h2=>some (h1.length,h1,h2)
  | none=>none
 | some (.live n,h1)=>match uL (.live n) nl g t m h1.length (zge (.live n) h1+1) 0 (List.replicate nl none++ks.map λk=>(ρ[k]?).join) (h1++[.lst []]) with
  | some h2=>some (h1.length,h1,h2)
  | none=>none
noncomputable def zbo(mi:MI)(nl:Nat)(ks:List Nat)(g:MG)(t:MT)(m:ME):ME:=λρ h=>match za3 mi nl ks g t m ρ h with
 | some (n,_,h2)=>some (.ref n,h2)
 | none=>none
open Classical in
noncomputable def uf(mi:MI)(nl:Nat)(ks:List Nat)(g:MG)(t:MT)(m:ME):ME:=λρ h=>match za3 mi nl ks g t m ρ h with
 | some (n,h1,h2)=>match h2[n]? with
  | some (.lst l)=>if h1<+:h2/\lows h1.length l=true then some (.fls l,h1) else none
  | _=>none
 | none=>none
theorem ER.blank{K:PySem.W.Frag}{μ:List Addr}{H:Hp}{ρ:En}{σ:L2.St}{nl:Nat}(er:ER K μ H ρ σ)(hl:nl<=ρ.length):ER K μ H (ML.blank nl ρ) σ:=by
 unfold ML.blank;refine⟨by simp; rw[<-er.len]; omega,λi w e=>?_⟩;by_cases hi:i<nl
 .rw[zQ (by simpa using hi),jR] at e
  split at e<;>cases e
 .rw[zX (by simpa using hi),jW,List.getElem?_drop] at e
  exact er.at_ i w (by rw[<-e]; congr 1; omega)
section
variable{X:Cx}{cl:Cl}{pins:List (Addr×Obj)}{σ:L2.St}
noncomputable def σC(nl:Nat)(ks:List Nat)(σ:L2.St):L2.St:=List.replicate nl none++ks.map λk=>(σ[k]?).join
noncomputable def ρC(nl:Nat)(ks:List Nat)(ρ:En):En:=List.replicate nl none++ks.map λk=>(ρ[k]?).join
def erC{K:PySem.W.Frag}{μ:List Addr}{H:Hp}{ρ:En}{nl:Nat}{ks:List Nat}(er:ER K μ H ρ σ):ER K μ H (ρC nl ks ρ) (σC nl ks σ):=by
 unfold ρC σC;refine⟨by simp,λi w e=>?_⟩;by_cases hi:i<nl
 .rw[zQ (by simpa using hi),jR] at e
  split at e<;>cases e
 .rw[zX (by simpa using hi),jW,kW] at e
  rw[zX (by simpa using hi),jW,kW];cases e1:ks[i-nl]? with
  | none=>rw[e1] at e; cases e
  | some k=>
   rw[e1] at e;have e2:(ρ[k]?).join=some w:=zN e;have e3:ρ[k]?=some (some w):=by
    cases q:ρ[k]? with
    | none=>rw[q] at e2; cases e2
    | some o=>rw[q] at e2; cases o with
     | none=>cases e2
     | some z=>cases e2; rfl
   obtain⟨v,ev,r⟩:=er.at_ k w e3;exact⟨v,by simp[ev],r⟩
def zgC{sc scope:Scope}{N N':List Str}{nl:Nat}{ks:List Nat}{cs:List (Str×Addr)}{ex:List Addr}{H:Hp}{s:Shared}{h₁:Heap}{tk:Nat}(I:Inv X pins σ H s)(hsc:X.env.scope=sc)(hN:X.N=N)(ok:CompOk sc N scope N' nl ks)
  (hcs:∀x c,cs.lookup x=some c->X.env.cells.lookup x=some c) (hall:∀y∈scope.names,y.2=.free->∃c,cs.lookup y.1=some c) (hex:∀b∈ex,FpOk X pins H b) (hob:∀b∈ex,b<s.heap.objs.size)
  {m0:Str->Option Value} (hns:h₁.Ns (s.heap.objs.size+1) m0) (old:∀b o,s.heap.get? b=some o->h₁.get? b=some o) (hD:h₁.get? s.heap.objs.size=some { cls:=.type "list",data:=.seq ([]:List Value).toArray }) :
  Inv (cxC X scope cs (s.heap.objs.size+1) N' s H ex) [] (σC nl ks σ) (upd H s.heap.objs.size (.lst [])) { s with heap:=h₁,toks:=tk }:=by
 have hfr:H s.heap.objs.size=none:=I.hok.fresh (zF _);have ltD:∀{b:Addr} {o:Obj},s.heap.get? b=some o->b≠s.heap.objs.size:=λe=>zO (zy e)
 refine⟨zle I hsc ok hcs hall (qM _) hex hob,rfl,I.bare,Un.laid old (zF _) hfr,⟨m0,hns,λi x v e1 e2 e3=>?_⟩,λx c e=>?_,?_,λx c e=>?_,λp hp=>absurd (show p∈([]:List (Addr×Obj)) from hp) (by simp),I.hok.laid old (zF _) ⟨by simp,[],_,.nil,hD⟩,?_⟩
 .have e1':N'[i]?=some x:=e1
  unfold σC at e2;by_cases hi:i<nl
  .rw[zQ (by simpa using hi),jR] at e2
   split at e2<;>cases e2
  .rw[zX (by simpa using hi),jW,kW] at e2
   cases q1:ks[i-nl]? with
   | none=>rw[q1] at e2; cases e2
   | some k=>
    rw[q1] at e2;have q2:(σ[k]?).join=some v:=zN e2;have q3:σ[k]?=some (some v):=by
     cases q:σ[k]? with
     | none=>rw[q] at q2; cases q2
     | some o=>rw[q] at q2; cases o with
      | none=>cases q2
      | some z=>cases q2; rfl
    obtain⟨x',hx1,hx2,hx3,hx4⟩:=ok.fr (i-nl) k q1;have:x'=x:=by
     rw[show nl+(i-nl)=i by omega,e1'] at hx2;exact(zN hx2).symm
    subst this;subst hsc;obtain⟨m,hn,hl⟩:=I.loc;have vis:Vis X.env.scope x':=by rcases zbc hx3 with z | z; exact .inr (.inl z); exact .inr (.inr z)
    obtain⟨u,ru,lk⟩:=hl k x' v (by rw[hN]; exact hx1) q3 vis;refine⟨u,ru,?_⟩;rcases lk with ⟨z,_⟩ | ⟨_,c,hc,ic⟩
    .rcases zbc hx3 with y | y<;>(rw[show X.env.kindOf x'=X.env.scope.names.lookup x' from rfl,y] at z; cases z)
    .refine .inr ⟨zbc hx4,?_⟩
     obtain⟨y,hy,rfl,hyf⟩:=zdv ok.ncell hx4;obtain⟨c',hc'⟩:=hall y hy hyf;have:=hcs _ _ hc';rw[hc] at this;cases this;obtain⟨o,ho,hd⟩:=ic;exact⟨c,hc',o,old _ _ ho,hd⟩
 .obtain⟨v,o,ho,hd⟩:=I.cell x c (hcs x c e)
  exact⟨v,o,old _ _ ho,hd⟩
 .show(upd H s.heap.objs.size (.lst [])) (s.heap.objs.size+1)=none
  rw[yU (Nat.succ_ne_self _)];exact I.hok.fresh (qM _)
 .obtain⟨v,o,ho,hd⟩:=I.cell x c (hcs x c e)
  rw[yU (ltD ho)];exact I.freeC x c (hcs x c e)
 .show(σC nl ks σ).length=N'.length
  unfold σC;rw[ok.len];simp
def zg2{elt tg iter:Expr}{ifs:List Expr}{scope sc:Scope}{pos:Pos}{N N':List Str}{nl:Nat}{ks:List Nat}{cs:List (Str×Addr)}{J:It}{it:Addr}{fp:List Addr}{tn:Nat->Heap->Prop}{g:MG}{t:MT}{m:ME}{src:Src}{k0:Nat}
  {H2:Hp} {s2:Shared} {μ:List Addr} {h h':MH} {ρ:En} {RR:Value->Addr->Result->Shared->Prop} {E:Value->Shared->Prop}
  (hc:X.calm=true) (hsc:X.env.scope=sc) (hN:X.N=N) (ok:CompOk sc N scope N' nl ks)
  (hg:∀cs C s₀ H₀ ex,SG (cxC X scope cs C N' s₀ H₀ ex) cl tg g) (ht:∀cs C s₀ H₀ ex,STs (cxC X scope cs C N' s₀ H₀ ex) cl ifs t) (he:∀cs C s₀ H₀ ex,SE (cxC X scope cs C N' s₀ H₀ ex) cl elt m)
  (I2:Inv X pins σ H2 s2) (T:Turn X.prog X.w X.K tg J fp it tn) (st2:tn 0 s2.heap) (f2:∀b∈fp,FpOk X pins H2 b)
  (hcs:∀x c,cs.lookup x=some c->X.env.cells.lookup x=some c) (hall:∀y∈scope.names,y.2=.free->∃c,cs.lookup y.1=some c)
  (R2:HR X.K cl μ H2 h) (er:ER X.K μ H2 ρ σ) (j:JR X.K cl J src μ H2) (e:uL src nl g t m h.length k0 0 (ρC nl ks ρ) (h++[.lst []])=some h')
  (hRR:∀D C s' H' μ' m',D≠C->s'.heap.Ns C m'->Inv X pins σ H' s'->H' C=none->s2.heap.objs.size<=C->Ext μ H2 μ' H'->HR X.K cl μ' H' h'->μ'[h.length]?=some D->RR (.ref D) C (.ok .next) s') :
  wpAny (model X.prog X.w) X.A (newList []) (λacc s₃=>wpAny (model X.prog X.w) X.A (newFunctionEnv scope X.env.globals cs [] X.env.qual none .none (some X.env)) (λcenv s₄=>
   codeAny (model X.prog X.w) X.A (.compStart (.ListComp elt [⟨tg,iter,ifs,0⟩] scope pos) 0 (.ref it) acc { cenv with scope:=relabel scope X.env }) (RR acc cenv.locals) s₄) E s₃) E s2:=by
 refine jh (wpAny_newFunctionEnv ok.ncell (by intro y hy; simp at hy) (λh₁ hns₁ hsb₁=>?_) ok.kind);dsimp only at hns₁ hsb₁ ⊢;generalize hP:s2.heap.push { cls:=.type "list",dict:=none,data:=.seq ([]:List Value).toArray }=P at hns₁ hsb₁ ⊢;have hC:P.objs.size=s2.heap.objs.size+1:=by rw[<-hP,jQ]
 rw[hC] at hns₁ hsb₁ ⊢;have old:∀b o,s2.heap.get? b=some o->h₁.get? b=some o:=λb o e=>hsb₁.extBut b o (zO (vg (zy e))) (zb _ (hP▸zb _ e))
 have hD:h₁.get? s2.heap.objs.size=some { cls:=.type "list",data:=.seq ([]:List Value).toArray }:=hsb₁.extBut _ _ (zO (jV _)) (zb _ (hP▸zH _ rfl));have hob:∀b∈fp,b<s2.heap.objs.size:=λb hb=>by
  obtain⟨o,ho,_⟩:=T.obj 0 _ st2 b hb;exact zy ho
 have fr2:H2 s2.heap.objs.size=none:=I2.hok.fresh (zF _);have I3:=zgC (X:=X) (tk:=s2.toks+([]:List (Str×Value)).length) I2 hsc hN ok hcs hall f2 hob hns₁ old hD;have st3:tn 0 h₁:=T.keep 0 _ _ st2 λb _ o e=>old b o e
 have fr3:∀b∈fp,(upd H2 s2.heap.objs.size (.lst [])) b=none:=λb hb=>by
  rw[yU (zO (hob b hb))];exact(f2 b hb).1
 have fpk:∀{H:Hp},(∀b∈fp,H b=none)->∀b∈fp,FpOk (cxC X scope cs (s2.heap.objs.size+1) N' s2 H2 fp) [] H b:=λhn b hb=>by
  obtain⟨g0,g1,g2,g3,g4,g5⟩:=f2 b hb;refine⟨hn b hb,zO (vg (hob b hb)),λz=>?_,.inl hb,λx c e=>g4 x c (hcs x c e),λp hp=>absurd (show p∈([]:List (Addr×Obj)) from hp) (by simp)⟩;rcases zp.mp (I2.stkSub b z) with q | q
  .exact g1 q
  .exact g2 q
 have loop:∀s:Shared,s={ s2 with heap:=h₁,toks:=s2.toks+([]:List (Str×Value)).length }->
   codeAny (model X.prog X.w) X.A (.compLoop (.ListComp elt [⟨tg,iter,ifs,0⟩] scope pos) 0 (.ref it) (.ref s2.heap.objs.size) (compEnvC scope cs (s2.heap.objs.size+1) X.env)) (RR (.ref s2.heap.objs.size) (s2.heap.objs.size+1)) s:=by
  rintro s rfl
  refine zdF (λn s=>∃i σ' H ρ' μ' hh,Inv (cxC X scope cs (s2.heap.objs.size+1) N' s2 H2 fp) [] σ' H s/\tn i s.heap/\(∀b∈fp,H b=none)/\HR X.K cl μ' H hh/\ER X.K μ' H ρ' σ'/\Ext μ H2 μ' H/\nl<=ρ'.length/\μ'[h.length]?=some s2.heap.objs.size /\
   uL src nl g t m h.length n i ρ' hh=some h') ?_ k0 ?_
  .rintro n s ⟨i,σ',H,ρ',μ',hh,I,st,fr,R,er',E',hl,hm,e⟩
   cases n with
   | zero=>cases e
   | succ n=>
    unfold uL at e;obtain⟨jg,js⟩:=j μ' H hh E' R i;cases es:uN src i hh with
    | none=>rw[es] at e; cases e
    | some o=>
     rw[es] at e;cases o with
     | none=>
      cases e;refine thn (T.done (cxC X scope cs (s2.heap.objs.size+1) N' s2 H2 fp) rfl rfl rfl hc i [] s σ' H _ I (fpk fr) st (js es)) λr s1 ⟨hr,I1⟩=>?_
      subst hr;obtain⟨m1,hn1,_⟩:=I1.loc;refine hRR _ _ s1 H μ' m1 (zO (jV _)) hn1 ?_ I1.free (qM _) E' R hm;exact I2.call' I1.os I1.base I1.hok I1.bare λb hb=>⟨(f2 b hb).2.2.2.1,(f2 b hb).2.1,(f2 b hb).2.2.2.2.1,(f2 b hb).2.2.2.2.2⟩
     | some w=>
      obtain⟨go,yl⟩:=jg w es;simp only at e;cases e1:g w ρ' hh with
      | none=>rw[e1] at e; cases e
      | some p=>
       obtain⟨ρ1,h1⟩:=p;rw[e1] at e;simp only at e;refine thn (T.item (cxC X scope cs (s2.heap.objs.size+1) N' s2 H2 fp) rfl rfl rfl hc i [] s σ' H _ I (fpk fr) st go) λr s1 ⟨u,hr,q1⟩=>?_
       subst hr;refine thn q1 λ_ s5 ⟨x,H5,I5,r5,y5,st5,fr5⟩=>?_
       obtain⟨E5,R5,rx⟩:=yl x H5 y5;have I5':=I5.pinned (fpk fr5) (T.obj _ _ st5);refine thn (hg cs _ s2 H2 fp _ s5 σ' H5 x u (λσ6 H6=>∃μ6,Ext μ' H5 μ6 H6/\HR X.K cl μ6 H6 h1/\ER X.K μ6 H6 ρ1 σ6) I5' r5 ⟨μ',hh,ρ',w,ρ1,h1,R5,er'.ext R E5,rx,e1,λμ6 H6 σ6 E6 R6 er6=>⟨μ6,E6,R6,er6⟩⟩) λ_ s6 ⟨σ6,H6,I6,μ6,E6,R6,er6⟩=>?_
       have hl6:nl<=ρ1.length:=by
        rw[er6.len,I6.len];show nl<=N'.length
        rw[ok.len]; omega
       have E06:Ext μ H2 μ6 H6:=E'.trans (E5.trans E6);have fin:∀{s9:Shared} {H9:Hp} {μ9:List Addr} {h9:MH},Inv (cxC X scope cs (s2.heap.objs.size+1) N' s2 H2 fp) ([]++zba fp s5.heap) σ6 H9 s9->Ext μ6 H6 μ9 H9->HR X.K cl μ9 H9 h9->uL src nl g t m h.length n (i+1) (ML.blank nl ρ1) h9=some h'->
         ∃k,k<n+1/\∃i σ' H ρ' μ' hh,Inv (cxC X scope cs (s2.heap.objs.size+1) N' s2 H2 fp) [] σ' H s9/\tn i s9.heap/\(∀b∈fp,H b=none)/\HR X.K cl μ' H hh/\ER X.K μ' H ρ' σ'/\Ext μ H2 μ' H/\nl<=ρ'.length/\μ'[h.length]?=some s2.heap.objs.size/\uL src nl g t m h.length k i ρ' hh=some h':=by
        intro s9 H9 μ9 h9 I9 E9 R9 e9;refine⟨n,jV n,i+1,σ6,H9,ML.blank nl ρ1,μ9,h9,I9.unpinned,T.keep _ _ _ st5 λb hb o e=>(I9.pin (b,o) (kh _ (kh _ (zaf hb e)))).1,λb hb=>?_,R9,(er6.ext R6 E9).blank hl6,E06.trans E9,?_,E9.get (E6.get (E5.get hm)),e9⟩
        .obtain⟨o,e,d⟩:=T.obj _ _ st5 b hb
         exact(I9.pin (b,o) (kh _ (kh _ (zaf hb e)))).2.1
        .unfold ML.blank; simp
       cases e2:t ρ1 h1 with
       | none=>rw[e2] at e; cases e
       | some p2=>
        obtain⟨bb,h2⟩:=p2;rw[e2] at e;refine thn (ht cs _ s2 H2 fp _ s6 σ6 H6 (λb' H7=>b'=bb/\∃μ7,Ext μ6 H6 μ7 H7/\HR X.K cl μ7 H7 h2) I6 ⟨μ6,h1,ρ1,bb,h2,R6,er6,e2,λμ7 H7 E7 R7=>⟨rfl,μ7,E7,R7⟩⟩) λb' s7 ⟨H7,I7,hb',μ7,E7,R7⟩=>?_
        subst hb';cases b' with
        | false=>
         rw[kO zL];exact fin I7 E7 R7 e
        | true=>
         rw[zW rfl];simp only at e;cases e3:m ρ1 h2 with
         | none=>rw[e3] at e; cases e
         | some p3=>
          obtain⟨y,h3⟩:=p3;rw[e3] at e;simp only at e;refine thn (he cs _ s2 H2 fp _ s7 σ6 H7 (λv H8=>∃μ8,Ext μ7 H7 μ8 H8/\HR X.K cl μ8 H8 h3/\RW X.K μ8 H8 y v) I7 ⟨μ7,h2,ρ1,y,h3,R7,er6.ext R6 E7,e3,λμ8 H8 v E8 R8 r8=>⟨μ8,E8,R8,r8⟩⟩) λxv s8 ⟨v,H8,I8,rv,μ8,E8,R8,r8⟩=>?_
          split at e
          .rename_i acc ho
           split at e
           .rename_i hlt
            have hm8:μ8[h.length]?=some s2.heap.objs.size:=E8.get (E7.get (E6.get (E5.get hm)));obtain⟨vs,hv,ra⟩:=R8.ob _ _ _ hm8 ho;refine thn (zde (X:=cxC X scope cs (s2.heap.objs.size+1) N' s2 H2 fp) _ s8 σ6 H8 (.ref s2.heap.objs.size) [v] (.ref s2.heap.objs.size) [xv] (λ_ H9=>H9=upd H8 s2.heap.objs.size (.lst (vs++[v]))) I8 rfl (.cons rv .nil) ⟨_,vs,v,rfl,rfl,hv,zK (by rw[<-ra.length]; exact hlt) ut,rfl⟩) λ_ s9 ⟨_,H9,I9,_,hH9⟩=>?_
            subst hH9;exact fin I9 (E7.trans (E8.trans (.put hm8))) (R8.put (o:=.lst (acc++[y])) hm8 ⟨vs++[v],xJ,(ra.append (.cons r8 .nil)).ext R8 (.put hm8)⟩) e
           .cases e
          .cases e
  .have R3:HR X.K cl (μ++[s2.heap.objs.size]) (upd H2 s2.heap.objs.size (.lst [])) (h++[.lst []]):=R2.new fr2 ⟨[],xJ,.nil⟩
   exact⟨0,σC nl ks σ,_,ρC nl ks ρ,_,_,I3,st3,fr3,R3,(erC er).ext R2 (.new fr2),.new fr2,by unfold ρC; simp,by rw[<-R2.len]; simp,e⟩
 exact codeAny_compStart_list (loop _ rfl) (T.self _ 0 _ _ _ st3 (loop _ rfl))
def zbM{elt tg iter:Expr}{ifs:List Expr}{scope sc:Scope}{pos:Pos}{N N':List Str}{nl:Nat}{ks:List Nat}{mi:MI}{g:MG}{t:MT}{m:ME}{H:Hp}{s:Shared}{μ:List Addr}{h h1 h2:MH}{n0:Nat}{ρ:En}{use:Option (Value->Sem Unit)}{Q:Value->Shared->Prop}{p2:Pos}
  (hc:X.calm=true) (hsc:X.env.scope=sc) (hN:X.N=N) (ok:CompOk sc N scope N' nl ks) (hi:SI X cl tg iter mi)
  (hg:∀cs C s₀ H₀ ex,SG (cxC X scope cs C N' s₀ H₀ ex) cl tg g) (ht:∀cs C s₀ H₀ ex,STs (cxC X scope cs C N' s₀ H₀ ex) cl ifs t) (he:∀cs C s₀ H₀ ex,SE (cxC X scope cs C N' s₀ H₀ ex) cl elt m)
  (I:Inv X pins σ H s) (R:HR X.K cl μ H h) (er:ER X.K μ H ρ σ) (e:za3 mi nl ks g t m ρ h=some (n0,h1,h2)) (hs:∀x,foldedSetIterable iter X.env x=pure x)
  (k:∀D C s' H' μ' m' s2 H1 μ1,D≠C->s'.heap.Ns C m'->Inv X pins σ H' s'->H' C=none->X.env.locals≠C->(∀x c,X.env.cells.lookup x=some c->c≠C)->(X.s₀.heap.objs.size<=C)->(∀p∈X.pn++pins,p.1≠C)->Inv X pins σ H1 s2->Ext μ H μ1 H1->HR X.K cl μ1 H1 h1->Ext μ1 H1 μ' H'->HR X.K cl μ' H' h2->h1.length=n0->μ'[n0]?=some D->
   compPost (model X.prog X.w) X.A X.xe use Q (.ref D) C (.ok .next) s') :
  wpAny (model X.prog X.w) X.A (comprehension (.ListComp elt [⟨tg,iter,ifs,0⟩] scope pos) scope X.env p2 (newList []) false (eval iter X.env) use) Q X.xe s:=by
 subst hsc;have hcell:∀y∈scope.names,y.2=.free->∃c,X.env.cells.lookup y.1=some c:=λy hy e=>I.ok.has y.1 (zbc (ok.fall y hy e))
 obtain⟨cs,hclos,hcs,hall⟩:=zdh hcell;have key:∀{src:Src} {k0:Nat},mi ρ h=some (src,h1)->uL src nl g t m h1.length k0 0 (ρC nl ks ρ) (h1++[.lst []])=some h2->n0=h1.length->
   wpAny (model X.prog X.w) X.A (comprehension (.ListComp elt [⟨tg,iter,ifs,0⟩] scope pos) scope X.env p2 (newList []) false (eval iter X.env) use) Q X.xe s:=by
  intro src k0 e1 e2 hn0;subst hn0;refine wpAny_comprehension_free (use:=use) rfl hs hclos ok.kind ok.names ?_;refine thn (hi pins s σ H (λJ H1=>∃μ1,Ext μ H μ1 H1/\HR X.K cl μ1 H1 h1/\JR X.K cl J src μ1 H1) I ⟨μ,h,ρ,src,h1,R,er,e1,λμ1 H1 J E1 R1 j=>⟨μ1,E1,R1,j⟩⟩) λv s1 q1=>thn q1 λitv s2 q2=>?_
  obtain⟨it,fp,tn,J,H2,rfl,I2,T,st2,f2,μ2,E2,R2,j⟩:=q2;refine zg2 (RR:=λacc C=>compPost (model X.prog X.w) X.A X.xe use Q acc C) hc rfl hN ok hg ht he I2 T st2 f2 hcs hall R2 (er.ext R E2) j e2 ?_;intro D C s' H' μ' m' hDC hns I' hfC hC E' R' hm;refine k D C s' H' μ' m' s2 H2 μ2 hDC hns I' hfC (zO (zK I2.lt hC)) (λx c e z=>?_) (zG I2.sz hC) (λp hp z=>?_) I2 E2 R2 E' R' rfl hm
  .obtain⟨v,o,ho,_⟩:=I2.cell x c e
   exact absurd (zK (zy ho) (z▸hC)) (jL _)
  .exact absurd (zK (zy (I2.pin p hp).1) (z▸hC)) (jL _)
 unfold za3 at e;split at e
 .cases e
 .rename_i l h1' e1
  split at e
  .rename_i h2' e2
   cases e;have q:=zaG (nl:=nl) (g:=g) (t:=t) (m:=m) (n0:=h1.length) l (l.length+1) 0 (ρC nl ks ρ) (h1++[.lst []]) ∅ ∅;rw[wW] at q;exact key e1 (q.trans e2) rfl
  .cases e
 .rename_i n h1' e1
  split at e
  .rename_i h2' e2
   cases e;exact key e1 e2 rfl
  .cases e
def zhu(sc:Scope)(N N':List Str)(nl:Nat)(ks:List Nat){elt tg iter:Expr}{ifs:List Expr}{scope:Scope}{pos:Pos}{mi:MI}{g:MG}{t:MT}{m:ME}(hc:X.calm=true)(ok:uQ sc N scope N' nl ks=true)(hi:SI X cl tg iter mi)
  (hg:∀cs C s₀ H₀ ex,SG (cxC X scope cs C N' s₀ H₀ ex) cl tg g) (ht:∀cs C s₀ H₀ ex,STs (cxC X scope cs C N' s₀ H₀ ex) cl ifs t) (he:∀cs C s₀ H₀ ex,SE (cxC X scope cs C N' s₀ H₀ ex) cl elt m)
  (hsc:X.env.scope=sc:=by rfl) (hN:X.N=N:=by rfl) (hs:∀x,foldedSetIterable iter X.env x=pure x:=by intro _; rfl):SE X cl (.ListComp elt [⟨tg,iter,ifs,0⟩] scope pos) (zbo mi nl ks g t m):=by
 rintro pins s σ H Q I ⟨μ,h,ρ,w,h',R,er,e,k⟩;unfold zbo at e;split at e
 .rename_i n0 h1 h2 e1
  cases e;rw[eval_ListComp];refine zbM (use:=none) hc hsc hN (u6 ok) hi hg ht he I R er e1 hs λD C s' H' μ' m' s2 H1 μ1 hDC hns I' hfC hL hcl hs0 hpn I2 E1 R1 E' R' hn hm=>?_
  exact⟨m',hns,λh'' hsb=>⟨.ref D,H',I'.turned (t':=s'.toks) (λb o hb e=>(hsb.2 b hb).trans e) hfC (kj hL) (.inr hs0) hcl hpn,rfl,k μ' H' _ (E1.trans E') R' (.ref hm)⟩⟩
 .cases e
def zca{K:PySem.W.Frag}{μ μ1 μ':List Addr}{H H1 H':Hp}{h1 h2:MH}{n0:Nat}{l:List W}{D:Addr}{Q:VK}(k:KQ K cl μ H h1 (.fls l) Q)(E1:Ext μ H μ1 H1)(R1:HR K cl μ1 H1 h1)(E':Ext μ1 H1 μ' H')(R':HR K cl μ' H' h2)(hn:h1.length=n0)(hm:μ'[n0]?=some D)
  (ho:h2[n0]?=some (.lst l)) (pre:h1<+:h2) (lo:lows h1.length l=true):Q (.ref D) H':=by
 obtain⟨vs,hv,rv⟩:=R'.ob _ _ _ hm ho;have cut:Ext μ1 H1 μ1 H':=⟨kJ _,λb o e n=>⟨(E'.fr b o e n).1,n⟩⟩;refine k μ1 H' _ (E1.trans cut) (R1.cut E' R' pre) (.fls (.inl ⟨.inl hv,λz=>?_⟩) (RWs.cut E'.pre (by rw[R1.len]; exact lo) rv));obtain⟨q,hq⟩:=vH.mp z;have h3:=E'.get hq;have hlt:q<μ1.length:=(zJ.mp hq).1;obtain⟨z1,z2⟩:=zJ.mp h3;obtain⟨z3,z4⟩:=zJ.mp hm;have:q=n0:=(vp R'.nd).mp (z2.trans z4.symm);subst this;rw[R1.len] at hlt;omega
def zjg(sc:Scope)(N N':List Str)(nl:Nat)(ks:List Nat){elt tg iter:Expr}{ifs:List Expr}{scope:Scope}{pos:Pos}{mi:MI}{g:MG}{t:MT}{m:ME}(hc:X.calm=true)(ok:uQ sc N scope N' nl ks=true)(hi:SI X cl tg iter mi)
  (hg:∀cs C s₀ H₀ ex,SG (cxC X scope cs C N' s₀ H₀ ex) cl tg g) (ht:∀cs C s₀ H₀ ex,STs (cxC X scope cs C N' s₀ H₀ ex) cl ifs t) (he:∀cs C s₀ H₀ ex,SE (cxC X scope cs C N' s₀ H₀ ex) cl elt m)
  (hsc:X.env.scope=sc:=by rfl) (hN:X.N=N:=by rfl) (hs:∀x,foldedSetIterable iter X.env x=pure x:=by intro _; rfl):SE X cl (.ListComp elt [⟨tg,iter,ifs,0⟩] scope pos) (uf mi nl ks g t m):=by
 rintro pins s σ H Q I ⟨μ,h,ρ,w,h',R,er,e,k⟩;unfold uf at e;split at e
 .rename_i n0 h1 h2 e1
  split at e
  .rename_i l ho
   split at e
   .rename_i c
    cases e;rw[eval_ListComp];refine zbM (use:=none) hc hsc hN (u6 ok) hi hg ht he I R er e1 hs λD C s' H' μ' m' s2 H1 μ1 hDC hns I' hfC hL hcl hs0 hpn I2 E1 R1 E' R' hn hm=>?_
    exact⟨m',hns,λh'' hsb=>⟨.ref D,H',I'.turned (t':=s'.toks) (λb o hb e=>(hsb.2 b hb).trans e) hfC (kj hL) (.inr hs0) hcl hpn,rfl,zca k E1 R1 E' R' hn hm ho c.1 c.2⟩⟩
   .cases e
  .cases e
 .cases e
def zcj{elt tg iter:Expr}{ifs:List Expr}{scope sc:Scope}{pos spos:Pos}{N N':List Str}{nl:Nat}{ks:List Nat}{mi:MI}{g:MG}{t:MT}{m:ME}{H:Hp}{s:Shared}{μ:List Addr}{h h1 h2:MH}{n0:Nat}{ρ:En}{i:Nat}{x:Str}{px:Pos}{D:Ends}
  (hNd:X.N.Nodup) (hix:X.N[i]?=some x) (hx:X.env.kindOf x=some .local) (hsw:swapsWith (.ListComp elt [⟨tg,iter,ifs,0⟩] scope pos) (some (.Name x px)) spos.line X.env=pure true)
  (hc:X.calm=true) (hsc:X.env.scope=sc) (hN:X.N=N) (ok:CompOk sc N scope N' nl ks) (hi:SI X cl tg iter mi)
  (hg:∀cs C s₀ H₀ ex,SG (cxC X scope cs C N' s₀ H₀ ex) cl tg g) (ht:∀cs C s₀ H₀ ex,STs (cxC X scope cs C N' s₀ H₀ ex) cl ifs t) (he:∀cs C s₀ H₀ ex,SE (cxC X scope cs C N' s₀ H₀ ex) cl elt m)
  (I:Inv X pins σ H s) (R:HR X.K cl μ H h) (er:ER X.K μ H ρ σ) (e:za3 mi nl ks g t m ρ h=some (n0,h1,h2)) (hs:∀x,foldedSetIterable iter X.env x=pure x)
  (k:∀A H' μ' H1 μ1,Ext μ H μ1 H1->HR X.K cl μ1 H1 h1->Ext μ1 H1 μ' H'->HR X.K cl μ' H' h2->h1.length=n0->μ'[n0]?=some A->D.nx (σ.set i (some (.ref A))) H') :
  wpAny (model X.prog X.w) X.A (exec (.Assign [.Name x px] (.ListComp elt [⟨tg,iter,ifs,0⟩] scope pos) spos) X.env) (SP X pins D) X.xe s:=by
 rw[exec_Assign_Name_used _ _ _ _ hsw];refine za (wI (za ?_));show wpAny _ X.A (do let _ <-comprehension (.ListComp elt [⟨tg,iter,ifs,0⟩] scope pos) scope X.env _ (newList []) false (eval iter X.env) (some (assign (.Name x px) X.env))) _ _ s
 refine za (jU (zbM (use:=some (assign (.Name x px) X.env)) (Q:=λ_ s'=>SP X pins D .next s') hc hsc hN ok hi hg ht he I R er e hs ?_) (λ_ s' hq=>zu (zu hq)) λ_ _ e=>e);intro A C s' H' μ' m' s2 H1 μ1 hDC hns I' hfC hL hcl hs0 hpn I2 E1 R1 E' R' hn hm;show wpAny _ X.A (assign (.Name x px) X.env (.ref A)) _ _ _
 refine wpAny_assign_Name (zcU (v:=.ref A) I' hNd hix (.inl hx) rfl (λs'' I'' hsb=>?_) (.inr hx));obtain⟨a,sb,ha⟩:=hsb;have hCa:C≠a:=by
  rcases ha with rfl | ha
  .exact kj hL
  .exact λz=>hcl x a ha z.symm
 refine⟨m',hns.sameBut sb hCa,λh3 sb3=>⟨_,H',I''.turned (t':=s''.toks) (λb o hb e=>(sb3.2 b hb).trans e) hfC (kj hL) (.inr hs0) hcl hpn,k A H' μ' H1 μ1 E1 R1 E' R' hn hm⟩⟩
def zhV(i:Nat)(sc:Scope)(N N':List Str)(nl:Nat)(ks:List Nat){elt tg iter:Expr}{ifs:List Expr}{scope:Scope}{pos spos px:Pos}{x:Str}{mi:MI}{g:MG}{t:MT}{m:ME}(hNd:X.N.Nodup)(hc:X.calm=true)(ok:uQ sc N scope N' nl ks=true)(hi:SI X cl tg iter mi)
  (hg:∀cs C s₀ H₀ ex,SG (cxC X scope cs C N' s₀ H₀ ex) cl tg g) (ht:∀cs C s₀ H₀ ex,STs (cxC X scope cs C N' s₀ H₀ ex) cl ifs t) (he:∀cs C s₀ H₀ ex,SE (cxC X scope cs C N' s₀ H₀ ex) cl elt m)
  (hsc:X.env.scope=sc:=by rfl) (hN:X.N=N:=by rfl) (hs:∀x,foldedSetIterable iter X.env x=pure x:=by intro _; rfl) (hix:X.N[i]?=some x:=by rfl) (hx:X.env.kindOf x=some .local:=by rfl)
  (hsw:swapsWith (.ListComp elt [⟨tg,iter,ifs,0⟩] scope pos) (some (.Name x px)) spos.line X.env=pure true:=by rfl):SS X cl (.Assign [.Name x px] (.ListComp elt [⟨tg,iter,ifs,0⟩] scope pos) spos) (sAsg (zbo mi nl ks g t m) (gNm i)):=by
 rintro pins s σ H D I ⟨μ,h,ρ,fl,h',R,er,e,k⟩;unfold sAsg at e;split at e
 .rename_i w h2 e1
  split at e
  .rename_i ρ2 h3 e2
   cases e;unfold zbo at e1;split at e1
   .rename_i n0 h1 h2' e0
    cases e1;unfold gNm at e2;split at e2
    .rename_i hi'
     cases e2;exact zcj hNd hix hx hsw hc hsc hN (u6 ok) hi hg ht he I R er e0 hs λA H' μ' H1 μ1 E1 R1 E' R' hn hm=>k μ' H' (E1.trans E') R' _ ((er.ext R (E1.trans E')).set hi' (.ref hm))
    .cases e2
   .cases e1
  .cases e
 .cases e
def ziQ(i:Nat)(sc:Scope)(N N':List Str)(nl:Nat)(ks:List Nat){elt tg iter:Expr}{ifs:List Expr}{scope:Scope}{pos spos px:Pos}{x:Str}{mi:MI}{g:MG}{t:MT}{m:ME}(hNd:X.N.Nodup)(hc:X.calm=true)(ok:uQ sc N scope N' nl ks=true)(hi:SI X cl tg iter mi)
  (hg:∀cs C s₀ H₀ ex,SG (cxC X scope cs C N' s₀ H₀ ex) cl tg g) (ht:∀cs C s₀ H₀ ex,STs (cxC X scope cs C N' s₀ H₀ ex) cl ifs t) (he:∀cs C s₀ H₀ ex,SE (cxC X scope cs C N' s₀ H₀ ex) cl elt m)
  (hsc:X.env.scope=sc:=by rfl) (hN:X.N=N:=by rfl) (hs:∀x,foldedSetIterable iter X.env x=pure x:=by intro _; rfl) (hix:X.N[i]?=some x:=by rfl) (hx:X.env.kindOf x=some .local:=by rfl)
  (hsw:swapsWith (.ListComp elt [⟨tg,iter,ifs,0⟩] scope pos) (some (.Name x px)) spos.line X.env=pure true:=by rfl):SS X cl (.Assign [.Name x px] (.ListComp elt [⟨tg,iter,ifs,0⟩] scope pos) spos) (sAsg (uf mi nl ks g t m) (gNm i)):=by
 rintro pins s σ H D I ⟨μ,h,ρ,fl,h',R,er,e,k⟩;unfold sAsg at e;split at e
 .rename_i w h2 e1
  split at e
  .rename_i ρ2 h3 e2
   cases e;unfold uf at e1;split at e1
   .rename_i n0 h1 h2' e0
    split at e1
    .rename_i l ho
     split at e1
     .rename_i c
      cases e1;unfold gNm at e2;split at e2
      .rename_i hi'
       cases e2;refine zcj hNd hix hx hsw hc hsc hN (u6 ok) hi hg ht he I R er e0 hs λA H' μ' H1 μ1 E1 R1 E' R' hn hm=>?_
       exact zca (Q:=λv H'=>D.nx (σ.set i (some v)) H') (λμ3 H3 v E3 R3 r3=>k μ3 H3 E3 R3 _ ((er.ext R E3).set hi' r3)) E1 R1 E' R' hn hm ho c.1 c.2
      .cases e2
     .cases e1
    .cases e1
   .cases e1
  .cases e
 .cases e
end
def zcg{X:Cx}{pins:List (Addr×Obj)}{σ:L2.St}{H:Hp}{s:Shared}{h':Heap}{t':Nat}{fp:List Addr}(I:Inv X pins σ H s)(k:∀b o,b∉fp->s.heap.get? b=some o->h'.get? b=some o)(hf:∀b∈fp,FpOk X pins H b) :
  Inv X pins σ H { s with heap:=h',toks:=t' }:=by
 have away:∀b u,H b=some u->b∉fp:=λb u e z=>by rw[(hf b z).1] at e; cases e
 refine I.step (g':=s.gens) (d':=s.drawn) (ch:=fp) (λb hb=>⟨(hf b hb).2.2.2.1,(hf b hb).2.1,(hf b hb).2.2.2.2.1,(hf b hb).2.2.2.2.2⟩) (λb o _ _ hc e _=>k b o hc e) (λb o _ _ hc e _=>⟨o.slots,k b o hc e⟩) (λ_ _ _ _ n=>n)
  (λb o hc e=>⟨o,k b o hc e⟩) (λ_ _ e=>e) (λ_ _ _ e=>e) (λb ps e=>⟨#[],by rw[e]; simp⟩) (λm hm=>?_) (λb u e=>?_) I.bare
 .obtain⟨o,es,ep,ho,r⟩:=hm
  exact⟨o,es,ep,k _ o (λz=>(hf _ z).2.1 rfl) ho,r⟩
 .refine(I.hok b u e).stay (λc v hc q=>k c v ?_ q) (λ_ q=>q) λ_ _ q=>q
  rcases hc with z | z
  .rw[z]; exact away b u e
  .exact away c _ z
structure Stp(it a:Addr)(P:Nat->Heap->Prop)(C:Heap->List Value->Prop):Prop where
 keep:∀{i:Nat} {h h':Heap},P i h->(∀o,h.get? it=some o->h'.get? it=some o)->P i h'
 keepC:∀{h h':Heap} {l:List Value},C h l->(∀o,h.get? a=some o->h'.get? a=some o)->C h' l
 obj:∀{i:Nat} {h:Heap},P i h->∃o,h.get? it=some o/\∀v,o.data≠.cell v
 item:∀{prog:Program} {w:World} {A:Around} {E:Value->Shared->Prop} {s:Shared} {i:Nat} {l:List Value} {x:Value} {Q:Value->Shared->Prop},P i s.heap->C s.heap l->l[i]?=some x->
  (∀h',P (i+1) h'->Heap.SameBut it s.heap h'->Q x { s with heap:=h' })->wpAny (model prog w) A (Builtin.SmallTypes.nextOf (.ref it)) Q E s
 last:∀{prog:Program} {w:World} {A:Around} {E:Value->Shared->Prop} {s:Shared} {i:Nat} {l:List Value} {Q:Value->Shared->Prop},A.handled=none->P i s.heap->C s.heap l->l[i]?=none->
  (∀h' e,Heap.ExtBut it s.heap h'->(∃o,h'.get? e=some o/\o.cls=.type "StopIteration")->E (.ref e) { s with heap:=h' })->wpAny (model prog w) A (Builtin.SmallTypes.nextOf (.ref it)) Q E s
def zhr(it a:Addr):Stp it a (λi h=>h.IsListIter it a i) (λh l=>h.IsList a l.toArray) where
 keep:=λp k=>p.at λo e=>k o e
 keepC:=λp k=>p.at λo e=>k o e
 obj:=λ⟨o,e,_,d⟩=>⟨o,e,λv z=>by rw[d] at z; cases z⟩
 item:=λp c e q=>wpAny_nextOf_list_item p c (by simpa using e) q
 last:=λhh p c e q=>wpAny_nextOf_list_end hh p c (by simpa using e) q
section
variable{prog:Program}{w:World}{A:Around}{E:Value->Shared->Prop}{s:Shared}
def zbF{it t:Addr}{i:Nat}{items:Array Value}{x:Value}{Q:Value->Shared->Prop}(hit:s.heap.IsTupleIter it t i)(ht:s.heap.IsTuple t items)(hx:items[i]?=some x)
  (hQ:∀h',h'.IsTupleIter it t (i+1)->Heap.SameBut it s.heap h'->Q x { s with heap:=h' }):wpAny (model prog w) A (Builtin.SmallTypes.nextOf (.ref it)) Q E s:=by
 obtain⟨oi,gi,ci,di⟩:=id hit; obtain⟨ot,gt,_,nt,dt⟩:=ht; unfold Builtin.SmallTypes.nextOf;refine za (jz (name:=Str.ofString "__next__") hit.typeIs qj (jO qj hit.typeIs yt ?_ (ym _)));show wpAny _ _ (field (.ref it) 0 >>= _) _ _ s; refine za (jy gi di (x:=.ref t) rfl ?_)
 show wpAny _ _ (if (Value.ref t==Value.none)=true then _ else _) _ _ s; rw[kO (show ¬((Value.ref t==Value.none)=true) from zL)]
 show wpAny _ _ (field (.ref it) 1 >>= _) _ _ s; refine za (jy gi di (x:=.int i 0) rfl ?_)
 show wpAny _ _ (seqItems? (.ref t) >>= _) _ _ s; refine za (jK gt dt ?_)
 simp only[v7,hx]; refine za (wpAny_setField gi di (by simp) (zu ⟨x,rfl,zu (hQ _ ?_ (wG ..))⟩));exact⟨_,jP _ gi (Obj.isFreed_of_fields (Obj.data_mapFields di _)),(Obj.cls_mapFields ..).trans ci,by rw[Obj.data_mapFields di]; simp[rawInt]⟩
def zbU{it t:Addr}{i:Nat}{items:Array Value}{Q:Value->Shared->Prop}(hh:A.handled=none)(hit:s.heap.IsTupleIter it t i)(ht:s.heap.IsTuple t items)(hx:items[i]?=none)
  (hE:∀h' e,Heap.ExtBut it s.heap h'->(∃o,h'.get? e=some o/\o.cls=.type "StopIteration")->E (.ref e) { s with heap:=h' }):wpAny (model prog w) A (Builtin.SmallTypes.nextOf (.ref it)) Q E s:=by
 obtain⟨oi,gi,ci,di⟩:=id hit; obtain⟨ot,gt,_,nt,dt⟩:=ht; unfold Builtin.SmallTypes.nextOf;refine za (jz (name:=Str.ofString "__next__") hit.typeIs qj (jO qj hit.typeIs yt ?_ (ym _)));show wpAny _ _ (field (.ref it) 0 >>= _) _ _ s; refine za (jy gi di (x:=.ref t) rfl ?_)
 show wpAny _ _ (if (Value.ref t==Value.none)=true then _ else _) _ _ s; rw[kO (show ¬((Value.ref t==Value.none)=true) from zL)]
 show wpAny _ _ (field (.ref it) 1 >>= _) _ _ s; refine za (jy gi di (x:=.int i 0) rfl ?_)
 show wpAny _ _ (seqItems? (.ref t) >>= _) _ _ s; refine za (jK gt dt ?_)
 simp only[v7,hx]; refine za (qy (za (wpAny_setField gi di (by simp) ?_))); show wpAny _ _ (newExc (.type "StopIteration") [] >>= _) _ _ _
 refine za ?_; simp only[newExc,newTuple]; refine za (jh ?_ (by size_fits));refine za (m:=firstArgMember _ _) (wz (a:=Value.none) (by first | rfl | (simp only[firstArgMember]; rfl)) ?_); refine jh ?_ (by size_fits);simp only[raiseNew]; refine za (wpAny_handled ?_); first | rw[show A.in1.handled=none from hh] | rw[hh]
 refine za (zu (yo ?_)); exact hE _ _ (((wG ..).extBut.push _).push _) ⟨_,zH _ rfl,rfl⟩
end
def zgW(it a:Addr):Stp it a (λi h=>h.IsTupleIter it a i) (λh l=>h.IsTuple a l.toArray) where
 keep:=λp k=>p.at λo e=>k o e
 keepC:=λp k=>p.at λo e=>k o e
 obj:=λ⟨o,e,_,d⟩=>⟨o,e,λv z=>by rw[d] at z; cases z⟩
 item:=λp c e q=>zbF p c (by simpa using e) q
 last:=λhh p c e q=>zbU hh p c (by simpa using e) q
structure ZApart(z TI TO i1 i2 a1 a2:Addr):Prop where
 nd:[z,TI,TO,i1,i2].Nodup
 f1:a1∉[z,TI,TO,i1,i2]
 f2:a2∉[z,TI,TO,i1,i2]
noncomputable def ZSt(z TI TO i1 i2:Addr)(P1 P2:Nat->Heap->Prop)(f0:Value)(k1 k2:Nat)(h:Heap):Prop:=IsZip h z TI TO f0/\IsPair h TI (.ref i1) (.ref i2)/\(∃a b,IsPair h TO a b)/\P1 k1 h/\P2 k2 h
section
variable{prog:Program}{w:World}{A:Around}{E:Value->Shared->Prop}{s:Shared}{z TI TO i1 i2 a1 a2:Addr}{P1 P2:Nat->Heap->Prop}{C1 C2:Heap->List Value->Prop}
def zht(S1:Stp i1 a1 P1 C1)(S2:Stp i2 a2 P2 C2)(D:ZApart z TI TO i1 i2 a1 a2){k:Nat}{l1 l2:List Value}{x y:Value}{Q:Option Value->Shared->Prop}(st:ZSt z TI TO i1 i2 P1 P2 .none k k s.heap)(c1:C1 s.heap l1)(c2:C2 s.heap l2)(hx:l1[k]?=some x)(hy:l2[k]?=some y)
  (hQ:∀h',ZSt z TI TO i1 i2 P1 P2 (rawInt s.heap.objs.size) (k+1) (k+1) h'->h'.get? s.heap.objs.size=some { cls:=.type "tuple",data:=.seq #[x,y] }->(∀c o,c∉[z,TI,TO,i1,i2]->s.heap.get? c=some o->h'.get? c=some o)->Q (some (.ref s.heap.objs.size)) { s with heap:=h' }) :
  wpAny (model prog w) A (pyNext (.ref z)) Q E s:=by
 obtain⟨hz,hTI,⟨a,b,hTO⟩,p1,p2⟩:=st;have n:=D.nd;simp only[jj,zp,zm,zT,vU] at n;obtain⟨⟨n1,n2,n3,n4⟩,⟨n5,n6,n7⟩,⟨n8,n9⟩,n10,_⟩:=n;have g1:=D.f1; have g2:=D.f2;simp only[zp,zm,zT,vU] at g1 g2;obtain⟨g11,g12,g13,g14,g15⟩:=g1;obtain⟨g21,g22,g23,g24,g25⟩:=g2;have hT:s.TypeIs (.ref z) "zip":=⟨_,hz,rfl⟩;unfold pyNext;refine za (vM (jz (name:=Str.ofString "__next__") hT vW (jO vW hT F.entry_zip_next ?_ (F.args_zip_next_1 _))));show wpAny _ _ (field (.ref z) 2 >>= _) _ _ _; refine za (jy hz rfl (x:=.bool false) rfl ?_)
 show wpAny _ _ (field (.ref z) 3 >>= _) _ _ _; refine za (jy hz rfl (x:=.ref TI) rfl ?_)
 refine za (jK hTI rfl ?_); show wpAny _ _ (Builtin.SmallTypes.ownedTupleIsFree (.ref z) >>= _) _ _ _
 refine za ?_; unfold Builtin.SmallTypes.ownedTupleIsFree;refine za (jy hz rfl (x:=.none) rfl (zu ?_)); simp only[jb];refine za (qy ?_); refine za (jy hz rfl (x:=.ref TO) rfl ?_);refine za (j6 hz (by simp) λh1 q1 e1=>?_); replace q1:IsZip h1 z TI TO .ellipsis:=q1;refine za ?_; simp only[List.zipIdx_cons,List.zipIdx_nil,vI,List.forIn_nil];refine za (za (wK ?_)); show wpAny _ _ (Builtin.SmallTypes.nextOf (.ref i1) >>= _) _ _ _
 refine za (S1.item (S1.keep p1 λo e=>e1.extBut _ _ (kj n3) e) (S1.keepC c1 λo e=>e1.extBut _ _ g11 e) hx λh2 r1 e2=>zu ?_);have t2:IsPair h2 TO a b:=e2.extBut _ _ n8 (e1.extBut _ _ (kj n2) hTO);refine za (jK t2 rfl ?_); refine za (vZ t2 λh3 t3 e3=>?_);replace t3:IsPair h3 TO x b:=t3
 refine za (yp (zu ?_)); refine za (za (wK ?_)); show wpAny _ _ (Builtin.SmallTypes.nextOf (.ref i2) >>= _) _ _ _
 refine za (S2.item (S2.keep p2 λo e=>e3.extBut _ _ (kj n9) (e2.extBut _ _ (kj n10) (e1.extBut _ _ (kj n4) e))) (S2.keepC c2 λo e=>e3.extBut _ _ g23 (e2.extBut _ _ g24 (e1.extBut _ _ g21 e))) hy λh4 r2 e4=>zu ?_);have t4:IsPair h4 TO x b:=e4.extBut _ _ n9 t3;refine za (jK t4 rfl ?_); refine za (vZ t4 λh5 t5 e5=>?_);replace t5:IsPair h5 TO x y:=t5
 refine za (yp (zu (zu ?_))); refine za (jK t5 rfl ?_); refine za (wpAny_newTuple ?_);have sz:h5.objs.size=s.heap.objs.size:=by rw[e5.1,e4.1,e3.1,e2.1,e1.1]
 have all:∀c o,c∉[z,TI,TO,i1,i2]->s.heap.get? c=some o->h5.get? c=some o:=λc o hc e=>by
  simp only[zp,zm,zT,vU] at hc;exact e5.extBut _ _ hc.2.2.1 (e4.extBut _ _ hc.2.2.2.2 (e3.extBut _ _ hc.2.2.1 (e2.extBut _ _ hc.2.2.2.1 (e1.extBut _ _ hc.1 e))))
 have z5:IsZip h5 z TI TO .ellipsis:=e5.extBut _ _ n2 (e4.extBut _ _ n4 (e3.extBut _ _ n2 (e2.extBut _ _ n3 q1)));have ti5:IsPair h5 TI (.ref i1) (.ref i2):=e5.extBut _ _ n5 (e4.extBut _ _ n7 (e3.extBut _ _ n5 (e2.extBut _ _ n6 (e1.extBut _ _ (kj n1) hTI))));have u1:P1 (k+1) h5:=S1.keep r1 λo e=>e5.extBut _ _ (kj n8) (e4.extBut _ _ n10 (e3.extBut _ _ (kj n8) e))
 have u2:P2 (k+1) h5:=S2.keep r2 λo e=>e5.extBut _ _ (kj n9) e
 have zlt:z<h5.objs.size:=zy z5;show wpAny _ _ (Builtin.SmallTypes.ownedTupleHandOut (.ref z) (.ref h5.objs.size) >>= _) _ _ _
 refine za ?_; unfold Builtin.SmallTypes.ownedTupleHandOut;have z6:IsZip (h5.push { cls:=.type "tuple",data:=.seq #[x,y] }) z TI TO .ellipsis:=zb _ z5;refine za (j6 z6 (by simp) λh7 z7 e7=>?_); replace z7:IsZip h7 z TI TO (rawInt h5.objs.size):=z7;refine j6 z7 (by simp) λh8 z8 e8=>?_
 replace z8:IsZip h8 z TI TO (rawInt h5.objs.size):=z8
 have up:∀c o,c≠z->h5.get? c=some o->h8.get? c=some o:=λc o c1 e=>e8.extBut _ _ c1 (e7.extBut _ _ c1 (zb _ e))
 have t8:h8.get? h5.objs.size=some { cls:=.type "tuple",data:=.seq #[x,y] }:=e8.extBut _ _ (qi zlt) (e7.extBut _ _ (qi zlt) (zH _ rfl));rw[sz] at z8 t8;refine zu ⟨_,rfl,zu ?_⟩;show Q (some (.ref h5.objs.size)) _
 rw[sz];exact hQ h8 ⟨z8,up _ _ (kj n1) ti5,⟨x,y,up _ _ (kj n2) t5⟩,S1.keep u1 λo e=>up _ o (kj n3) e,S2.keep u2 λo e=>up _ o (kj n4) e⟩ t8 λc o hc e=>up c o (λq=>hc (by simp[q])) (all c o hc e)
def zh7(S1:Stp i1 a1 P1 C1)(S2:Stp i2 a2 P2 C2)(D:ZApart z TI TO i1 i2 a1 a2){k:Nat}{l1 l2:List Value}{Q:Option Value->Shared->Prop}(hh:A.handled=none)(st:ZSt z TI TO i1 i2 P1 P2 .none k k s.heap)(c1:C1 s.heap l1)(c2:C2 s.heap l2)(he:l1[k]?=none\/l2[k]?=none)
  (hQ:∀h',(∀c o,c∉[z,TI,TO,i1,i2]->s.heap.get? c=some o->h'.get? c=some o)->Q none { s with heap:=h' }):wpAny (model prog w) A (pyNext (.ref z)) Q E s:=by
 obtain⟨hz,hTI,⟨a,b,hTO⟩,p1,p2⟩:=st;have n:=D.nd;simp only[jj,zp,zm,zT,vU] at n;obtain⟨⟨n1,n2,n3,n4⟩,⟨n5,n6,n7⟩,⟨n8,n9⟩,n10,_⟩:=n;have g1:=D.f1; have g2:=D.f2;simp only[zp,zm,zT,vU] at g1 g2;obtain⟨g11,g12,g13,g14,g15⟩:=g1;obtain⟨g21,g22,g23,g24,g25⟩:=g2;have hT:s.TypeIs (.ref z) "zip":=⟨_,hz,rfl⟩;have stop:∀{h':Heap} {e:Addr},(∃o,h'.get? e=some o/\o.cls=.type "StopIteration")->(∀c o,c∉[z,TI,TO,i1,i2]->s.heap.get? c=some o->h'.get? c=some o)->
   wpAny (model prog w) A (isInstance (.ref e) (.type "StopIteration") >>= λx=>if x=true then pure none else throw (.ref e)) Q E { s with heap:=h' }:=λ{h' e} ⟨o,ho,hc⟩ kk=>
  za (qR (T:="StopIteration") (b:=true) ⟨o,ho,hc⟩ isSubtype_stop (zu (hQ _ kk)))
 unfold pyNext;refine za (vM (jz (name:=Str.ofString "__next__") hT vW (jO vW hT F.entry_zip_next ?_ (F.args_zip_next_1 _))));show wpAny _ _ (field (.ref z) 2 >>= _) _ _ _; refine za (jy hz rfl (x:=.bool false) rfl ?_)
 show wpAny _ _ (field (.ref z) 3 >>= _) _ _ _; refine za (jy hz rfl (x:=.ref TI) rfl ?_)
 refine za (jK hTI rfl ?_); show wpAny _ _ (Builtin.SmallTypes.ownedTupleIsFree (.ref z) >>= _) _ _ _
 refine za ?_; unfold Builtin.SmallTypes.ownedTupleIsFree;refine za (jy hz rfl (x:=.none) rfl (zu ?_)); simp only[jb];refine za (qy ?_); refine za (jy hz rfl (x:=.ref TO) rfl ?_);refine za (j6 hz (by simp) λh1 q1 e1=>?_); replace q1:IsZip h1 z TI TO .ellipsis:=q1;refine za ?_; simp only[List.zipIdx_cons,List.zipIdx_nil,vI,List.forIn_nil];refine za (za (wK ?_)); show wpAny _ _ (Builtin.SmallTypes.nextOf (.ref i1) >>= _) _ _ _
 have p1':=S1.keep (h':=h1) p1 λo e=>e1.extBut _ _ (kj n3) e
 have c1':=S1.keepC (h':=h1) c1 λo e=>e1.extBut _ _ g11 e
 cases hx:l1[k]? with
 | none=>
  refine za (S1.last hh p1' c1' hx λh2 e e2 ⟨oe,ge,ce⟩=>?_);have z2:IsZip h2 z TI TO .ellipsis:=e2 _ _ n3 q1;have ne:e≠z:=λq=>by subst q; rw[z2] at ge; cases ge; simp at ce
  refine j6 z2 (by simp) λh3 _ e3=>?_
  refine stop ⟨oe,e3.extBut _ _ ne ge,ce⟩ λc o hc g=>?_
  simp only[zp,zm,zT,vU] at hc;exact e3.extBut _ _ hc.1 (e2 _ _ hc.2.2.2.1 (e1.extBut _ _ hc.1 g))
 | some x=>
  have hy:l2[k]?=none:=by rcases he with h | h; rw[hx] at h; cases h; exact h
  refine za (S1.item p1' c1' hx λh2 r1 e2=>zu ?_);have t2:IsPair h2 TO a b:=e2.extBut _ _ n8 (e1.extBut _ _ (kj n2) hTO);refine za (jK t2 rfl ?_); refine za (vZ t2 λh3 t3 e3=>?_);refine za (yp (zu ?_)); refine za (za (wK ?_)); show wpAny _ _ (Builtin.SmallTypes.nextOf (.ref i2) >>= _) _ _ _
  refine za (S2.last hh (S2.keep p2 λo e=>e3.extBut _ _ (kj n9) (e2.extBut _ _ (kj n10) (e1.extBut _ _ (kj n4) e))) (S2.keepC c2 λo e=>e3.extBut _ _ g23 (e2.extBut _ _ g24 (e1.extBut _ _ g21 e))) hy λh4 e e4 ⟨oe,ge,ce⟩=>?_);have z4:IsZip h4 z TI TO .ellipsis:=e4 _ _ n4 (e3.extBut _ _ n2 (e2.extBut _ _ n3 q1));have ne:e≠z:=λq=>by subst q; rw[z4] at ge; cases ge; simp at ce
  refine j6 z4 (by simp) λh5 _ e5=>?_
  refine stop ⟨oe,e5.extBut _ _ ne ge,ce⟩ λc o hc g=>?_
  simp only[zp,zm,zT,vU] at hc;exact e5.extBut _ _ hc.1 (e4 _ _ hc.2.2.2.2 (e3.extBut _ _ hc.2.2.1 (e2.extBut _ _ hc.2.2.2.1 (e1.extBut _ _ hc.1 g))))
end
noncomputable def Itb(v:Value)(o:Obj)(C:Heap->Prop):Prop:=∀(prog:Program) (w:World) (A:Around) (E:Value->Shared->Prop) (s:Shared) (Q:Value->Shared->Prop),C s.heap->Q (.ref s.heap.objs.size) { s with heap:=s.heap.push o }->wpAny (model prog w) A (pyIter v) Q E s
def zhI(a:Addr)(l:List Value):Itb (.ref a) { cls:=.type "list_iterator",data:=.fields #[.ref a,.int 0 0] } (λh=>h.IsList a l.toArray):=λ_ _ _ _ _ _ c q=>qJ c q
def zgi(a:Addr)(l:List Value):Itb (.ref a) { cls:=.type "tuple_iterator",data:=.fields #[.ref a,.int 0 0] } (λh=>h.IsTuple a l.toArray):=λ_ _ _ _ _ _ c q=>wJ c q
section
variable{v1 v2:Value}{o1 o2:Obj}{C1 C2:Heap->Prop}
abbrev zp1(h:Heap)(o1:Obj):Heap:=h.push o1
abbrev zp2(h:Heap)(o1 o2:Obj):Heap:=(zp1 h o1).push o2
abbrev zp3(h:Heap)(o1 o2:Obj):Heap:=(zp2 h o1 o2).push { cls:=.type "tuple",data:=.seq #[.ref h.objs.size,.ref (zp1 h o1).objs.size] }
abbrev zp4(h:Heap)(o1 o2:Obj):Heap:=(zp3 h o1 o2).push { cls:=.type "tuple",data:=.seq #[.none,.none] }
abbrev zp5(h:Heap)(o1 o2:Obj):Heap:=(zp4 h o1 o2).push { cls:=.type "zip",data:=.fields #[.none,.bool false,.bool false,.ref (zp2 h o1 o2).objs.size,.ref (zp3 h o1 o2).objs.size] }
def zjY(r1:Itb v1 o1 C1)(r2:Itb v2 o2 C2) :
  Meets (Builtin.«zip.__new__» ⟨[.type "zip",v1,v2],[]⟩) (λ_ R s=>C1 s.heap/\C2 (s.heap.push o1)/\R (.ok (.ret (.ref (zp4 s.heap o1 o2).objs.size))) { s with heap:=zp5 s.heap o1 o2 }):=
 .of_wp λprog w A R s h=>by
  obtain⟨hp,g,d,tk,os⟩:=s; obtain⟨k1,k2,h⟩:=h;have hsub:=sub_zip;have q1:∀{A:Around} {E:Value->Shared->Prop} {Q:Value->Shared->Prop},Q (.ref hp.objs.size) ⟨hp.push o1,g,d,tk,os⟩->wpAny (model prog w) A (pyIter v1) Q E ⟨hp,g,d,tk,os⟩:=λq=>r1 prog w _ _ _ _ k1 q
  have q2:∀{A:Around} {E:Value->Shared->Prop} {Q:Value->Shared->Prop},Q (.ref (hp.push o1).objs.size) ⟨(hp.push o1).push o2,g,d,tk,os⟩->wpAny (model prog w) A (pyIter v2) Q E ⟨hp.push o1,g,d,tk,os⟩:=λq=>r2 prog w _ _ _ _ k2 q
  wp_walk using q1,q2
  exact⟨_,rfl,h⟩
end
section
variable{prog:Program}{w:World}{A:Around}{E:Value->Shared->Prop}{s:Shared}{v1 v2:Value}{o1 o2:Obj}{C1 C2:Heap->Prop}
def zih(r1:Itb v1 o1 C1)(r2:Itb v2 o2 C2){Q:Value->Shared->Prop}(k1:C1 s.heap)(k2:C2 (s.heap.push o1))(hf1:o1.isFreed=false)(hf2:o2.isFreed=false)
  (h:∀h',IsZip h' (s.heap.objs.size+4) (s.heap.objs.size+2) (s.heap.objs.size+3) .none->IsPair h' (s.heap.objs.size+2) (.ref s.heap.objs.size) (.ref (s.heap.objs.size+1))->
   IsPair h' (s.heap.objs.size+3) .none .none->h'.get? s.heap.objs.size=some o1->h'.get? (s.heap.objs.size+1)=some o2->(∀c o,s.heap.get? c=some o->h'.get? c=some o)->Q (.ref (s.heap.objs.size+4)) { s with heap:=h' }) :
  wpAny (model prog w) A (call (.type "zip") [v1,v2]) Q E s:=by
 refine callType_new F.called_zip (by decide) (F.typeCall_zip_2 _ _) (F.newCall_zip_2 _ _) (λobj=>F.args_object_init_3 obj _ _) F.entry_zip_new (zjY r1 r2) ⟨k1,k2,?_⟩;have y1:(zp1 s.heap o1).objs.size=s.heap.objs.size+1:=jQ ..;have y2:(zp2 s.heap o1 o2).objs.size=s.heap.objs.size+2:=by rw[jQ,y1]
 have y3:(zp3 s.heap o1 o2).objs.size=s.heap.objs.size+3:=by rw[jQ,y2]
 have y4:(zp4 s.heap o1 o2).objs.size=s.heap.objs.size+4:=by rw[jQ,y3]
 have b5:(zp5 s.heap o1 o2).get? (zp4 s.heap o1 o2).objs.size=some _:=zH _ rfl;have b4:(zp5 s.heap o1 o2).get? (zp3 s.heap o1 o2).objs.size=some _:=zb _ (zH _ rfl);have b3:(zp5 s.heap o1 o2).get? (zp2 s.heap o1 o2).objs.size=some _:=zb _ (zb _ (zH _ rfl));have b2:(zp5 s.heap o1 o2).get? (zp1 s.heap o1).objs.size=some _:=zb _ (zb _ (zb _ (zH _ hf2)));have b1:(zp5 s.heap o1 o2).get? s.heap.objs.size=some _:=zb _ (zb _ (zb _ (zb _ (zH _ hf1))));show _/\_
 rw[y2,y3,y4] at b5; rw[y1,y2] at b3; rw[y3] at b4; rw[y1] at b2; rw[y4];exact⟨⟨_,b5,rfl⟩,h _ b5 b3 b4 b1 b2 λc o x=>zb _ (zb _ (zb _ (zb _ (zb _ x))))⟩
end
def zaU{X:Cx}{pins:List (Addr×Obj)}{σ:L2.St}{H:Hp}{s:Shared}{h':Heap}{t':Nat}{fp:List Addr}{p:Addr}{o:HO}(I:Inv X pins σ H s)(k:∀b o,b∉fp->s.heap.get? b=some o->h'.get? b=some o)(hf:∀b∈fp,FpOk X pins H b)
  (hp:s.heap.objs.size<=p) (new:ObjOk X.prog X.w (upd H p o) h' p o):Inv X pins σ (upd H p o) { s with heap:=h',toks:=t' }:=by
 have hn:H p=none:=I.hok.fresh hp;have away:∀b u,H b=some u->b∉fp:=λb u e z=>by rw[(hf b z).1] at e; cases e
 have lt:∀b u,s.heap.get? b=some u->b≠p:=λb u e=>zO (zK (zy e) hp)
 refine I.step (g':=s.gens) (d':=s.drawn) (ch:=fp) (λb hb=>⟨(hf b hb).2.2.2.1,(hf b hb).2.1,(hf b hb).2.2.2.2.1,(hf b hb).2.2.2.2.2⟩) (λb o _ _ hc e _=>k b o hc e) (λb o _ _ hc e _=>⟨o.slots,k b o hc e⟩) (λb u _ e n=>by rw[yU (lt b u e)]; exact n)
  (λb o hc e=>⟨o,k b o hc e⟩) (λb xs e=>by rw[yU (xu e hn)]; exact e) (λb u v e=>by rw[yU (xu e hn)]; exact e) (λb ps e=>⟨#[],by rw[yU (xu e hn),e]; simp⟩) (λm hm=>?_) (λb u e=>?_) I.bare
 .obtain⟨o,es,ep,ho,r⟩:=hm
  exact⟨o,es,ep,k _ o (λz=>(hf _ z).2.1 rfl) ho,r⟩
 .by_cases hb:b=p
  .subst hb; rw[xJ] at e; cases e; exact new
  .rw[yU hb] at e
   refine(I.hok b u e).stay (λc v hc q=>k c v ?_ q) (λc q=>by rw[yU (xu q hn)]; exact q) λc xs q=>by rw[yU (xu q hn)]; exact q
   rcases hc with z | z
   .rw[z]; exact away b u e
   .exact away c _ z
noncomputable def SqX(K:PySem.W.Frag)(tp:Bool)(H:Hp)(a:Addr)(xs:List V):Prop:=if tp=true then SqT K H a xs else SqL K H a xs
noncomputable def Ctn(tp:Bool)(a:Addr)(h:Heap)(l:List Value):Prop:=if tp=true then h.IsTuple a l.toArray else h.IsList a l.toArray
noncomputable def Pit(tp:Bool)(it a:Addr)(i:Nat)(h:Heap):Prop:=if tp=true then h.IsTupleIter it a i else h.IsListIter it a i
noncomputable def itO(tp:Bool)(a:Addr):Obj:=if tp=true then { cls:=.type "tuple_iterator",data:=.fields #[.ref a,.int 0 0] } else { cls:=.type "list_iterator",data:=.fields #[.ref a,.int 0 0] }
def xW(tp:Bool)(it a:Addr):Stp it a (Pit tp it a) (Ctn tp a):=by
 cases tp
 .exact zhr it a
 .exact zgW it a
def zfR(tp:Bool)(a:Addr)(l:List Value):Itb (.ref a) (itO tp a) (λh=>Ctn tp a h l):=by
 cases tp
 .exact zhI a l
 .exact zgi a l
theorem zbR(tp:Bool)(a:Addr):(itO tp a).isFreed=false:=by cases tp<;>rfl
def zcL{tp:Bool}{it a:Addr}{h:Heap}(e:h.get? it=some (itO tp a)):Pit tp it a 0 h:=by
 cases tp
 .exact⟨_,e,rfl,rfl⟩
 .exact⟨_,e,rfl,rfl⟩
section
variable{X:Cx}{pins:List (Addr×Obj)}{σ:L2.St}{H:Hp}{s:Shared}
def uF{tp:Bool}{a:Addr}{xs:List V}(I:Inv X pins σ H s)(h:SqX X.K tp H a xs):∃l,Vals xs l/\Ctn tp a s.heap l:=by
 cases tp
 .obtain⟨its,r,p,_⟩:=I.list (show SqL X.K H a xs from h)
  exact⟨its,r,p.isList⟩
 .obtain⟨its,r,p,_⟩:=I.tuple (show SqT X.K H a xs from h)
  exact⟨its,r,p⟩
def zcI{tp:Bool}{a:Addr}{xs ys:List V}(I:Inv X pins σ H s)(h:SqX X.K tp H a xs)(h':SqX X.K tp H a ys):xs=ys:=by
 cases tp
 .exact I.list_inj (show SqL X.K H a xs from h) h'
 .exact I.tuple_inj (show SqT X.K H a xs from h) h'
def uV{tp:Bool}{a b:Addr}{xs:List V}(I:Inv X pins σ H s)(h:SqX X.K tp H a xs)(f:FpOk X pins H b):a≠b:=by
 have k:∀o,X.K.lookup a=some o->a≠b:=λo e z=>by
  subst z;have eb:X.base.get? a=some o:=I.mod.kin _ _ e;rcases f.2.2.2.1 with q | q
  .exact I.ok.noex _ _ eb q
  .exact absurd (zK (zy eb) (zG I.ok.bsz q)) (jL _)
 have r:∀u,Rd H a u->a≠b:=λu q=>by
  rcases q with q | ⟨o,q⟩<;>exact xu q f.1
 cases tp
 .rcases(show SqL X.K H a xs from h) with q | ⟨o,_,_,e,_⟩
  .exact r _ q
  .exact k o e
 .rcases(show SqT X.K H a xs from h) with q | ⟨o,_,_,e,_⟩
  .exact r _ q
  .exact k o e
end
noncomputable def Itz (K : PySem.W.Frag) (t1 t2 : Bool) (a1 a2 : Addr) : It :=
  ⟨λi H => ∃ xs ys x y, SqX K t1 H a1 xs /\ SqX K t2 H a2 ys /\ xs[i]? = some x /\ ys[i]? = some y,
   λi H v H' => ∃ p x y, H p = none /\ v = .ref p /\ H' = upd H p (.tup [x, y]) /\ (∀ xs, SqX K t1 H a1 xs -> xs[i]? = some x) /\ ∀ ys, SqX K t2 H a2 ys -> ys[i]? = some y,
   λi H => ∃ xs ys, SqX K t1 H a1 xs /\ SqX K t2 H a2 ys /\ (xs.length <= i \/ ys.length <= i)⟩
def zhn{P:Program}{w:World}{K:PySem.W.Frag}{elts:List Expr}{n:Nat}{tpos:Pos}(t1 t2:Bool)(z TI TO i1 i2 a1 a2:Addr)(nd:[z,TI,TO,i1,i2].Nodup) :
  Turn P w K (.Tuple elts n tpos) (Itz K t1 t2 a1 a2) [z,TI,TO,i1,i2] z (λi h=>ZSt z TI TO i1 i2 (Pit t1 i1 a1) (Pit t2 i2 a2) .none i i h) where
 mem:=by simp
 obj:=λi h st b hb=>by
  obtain⟨hz,hTI,⟨a,b',hTO⟩,p1,p2⟩:=st;simp only[zp,zm,zT] at hb;rcases hb with rfl | rfl | rfl | rfl | rfl
  .exact⟨_,hz,λv q=>by cases q⟩
  .exact⟨_,hTI,λv q=>by cases q⟩
  .exact⟨_,hTO,λv q=>by cases q⟩
  .exact(xW t1 _ a1).obj p1
  .exact(xW t2 _ a2).obj p2
 keep:=λi h h' st k=>by
  obtain⟨hz,hTI,⟨a,b',hTO⟩,p1,p2⟩:=st;exact⟨k z (by simp) _ hz,k TI (by simp) _ hTI,⟨a,b',k TO (by simp) _ hTO⟩,(xW t1 i1 a1).keep p1 λo e=>k i1 (by simp) o e,(xW t2 i2 a2).keep p2 λo e=>k i2 (by simp) o e⟩
 item:=by
  intro X hP hw hK hc i pins s σ H E I hf st hg;subst hP hw hK;obtain⟨xs,ys,x,y,d1,d2,hx,hy⟩:=hg;obtain⟨l1,r1,c1⟩:=uF I d1;obtain⟨l2,r2,c2⟩:=uF I d2;obtain⟨u1,e1,ru1⟩:=r1.get hx;obtain⟨u2,e2,ru2⟩:=r2.get hy;have D:ZApart z TI TO i1 i2 a1 a2:=⟨nd,λq=>uV I d1 (hf _ q) rfl,λq=>uV I d2 (hf _ q) rfl⟩;refine zht (xW t1 i1 a1) (xW t2 i2 a2) D st c1 c2 e1 e2 λh' st' ht kp=>⟨_,rfl,?_⟩
  obtain⟨hz,hTI,⟨a,b',hTO⟩,p1,p2⟩:=st';have n:=nd;simp only[jj,zp,zm,zT,vU] at n;obtain⟨⟨n1,n2,n3,n4⟩,_⟩:=n;refine wpAny_letOwnedTupleGo_zip hz λh2 hz2 sb=>?_
  have zlt:z<s.heap.objs.size:=by obtain⟨q,_⟩:=st; exact zy q
  have ht2:h2.get? s.heap.objs.size=some { cls:=.type "tuple",data:=.seq #[u1,u2] }:=sb.extBut _ _ (qi zlt) ht;have I2:Inv X pins σ (upd H s.heap.objs.size (.tup [x,y])) { s with heap:=h2 }:=zaU (t':=s.toks) (fp:=[z,TI,TO,i1,i2]) I (λb o hb e=>sb.extBut _ _ (λq=>hb (by simp[q])) (kp b o hb e)) hf (zF _)
   ⟨by show 2<=sizeLine; decide,[u1,u2],.cons ru1 (.cons ru2 .nil),⟨_,ht2,rfl,_,rfl⟩,⟨_,ht2,rfl⟩⟩
  refine⟨.ref s.heap.objs.size,_,I2,rfl,⟨_,x,y,I.hok.fresh (zF _),rfl,rfl,λxs' q=>by rw[zcI I q d1]; exact hx,λys' q=>by rw[zcI I q d2]; exact hy⟩,?_,λb hb=>?_⟩
  .exact⟨hz2,sb.extBut _ _ (kj n1) hTI,⟨a,b',sb.extBut _ _ (kj n2) hTO⟩,(xW t1 i1 a1).keep p1 λo e=>sb.extBut _ _ (kj n3) e,(xW t2 i2 a2).keep p2 λo e=>sb.extBut _ _ (kj n4) e⟩
  .obtain⟨o,ho,_⟩:∃o,s.heap.get? b=some o/\True:=by
    obtain⟨hz0,hTI0,⟨a0,b0,hTO0⟩,p10,p20⟩:=st;simp only[zp,zm,zT] at hb;rcases hb with rfl | rfl | rfl | rfl | rfl
    .exact⟨_,hz0,trivial⟩
    .exact⟨_,hTI0,trivial⟩
    .exact⟨_,hTO0,trivial⟩
    .obtain⟨o,q,_⟩:=(xW t1 _ a1).obj p10; exact⟨o,q,trivial⟩
    .obtain⟨o,q,_⟩:=(xW t2 _ a2).obj p20; exact⟨o,q,trivial⟩
   rw[yU (zO (zy ho))];exact(hf b hb).1
 done:=by
  intro X hP hw hK hc i pins s σ H E I hf st hg;subst hP hw hK;obtain⟨xs,ys,d1,d2,he⟩:=hg;obtain⟨l1,r1,c1⟩:=uF I d1;obtain⟨l2,r2,c2⟩:=uF I d2;have D:ZApart z TI TO i1 i2 a1 a2:=⟨nd,λq=>uV I d1 (hf _ q) rfl,λq=>uV I d2 (hf _ q) rfl⟩;refine zh7 (xW t1 i1 a1) (xW t2 i2 a2) D (I.ok.hd hc) st c1 c2 ?_ λh' kp=>⟨rfl,zcg (t':=s.toks) I kp hf⟩
  rcases he with he | he
  .exact .inl (jX (by rw[<-r1.length]; exact he))
  .exact .inr (jX (by rw[<-r2.length]; exact he))
 self:=λ_ _ _ _ _ st h=>wpAny_pyIter_zip st.1 h
noncomputable def zbC(h:MH)(w:W):Option (List W):=match w with
 | .tup l=>some l
 | .fls l=>some l
 | _=>none
noncomputable def zipW(ws:List W):M Src:=λh=>match ws with
 | [x,y]=>match zbC h x,zbC h y with
  | some l,some l'=>some (.items ((l.zip l').map λp=>.tup [p.1,p.2]),h)
  | _,_=>none
 | _=>none
noncomputable def iZip(ms:List ME):MI:=λρ=>bnd (xX ms ρ) zipW
section
variable{X:Cx}{cl:Cl}{elts:List Expr}{n:Nat}{tpos p pos:Pos}{e1 e2:Expr}{ms:List ME}
def zb4{K:PySem.W.Frag}{μ:List Addr}{H:Hp}{h:MH}{w:W}{v:V}{l:List W}(r:RW K μ H w v)(e:zbC h w=some l):∃tp a vs,v=.ref a/\RWs K μ H l vs/\SqX K tp H a vs/\(∀μ2 H2 h2,HR K cl μ H h->Ext μ H μ2 H2->HR K cl μ2 H2 h2->SqX K tp H2 a vs):=by
 unfold zbC at e;split at e
 .cases e
  obtain⟨a,vs,rfl,sa,ra⟩:=r.tup_of;exact⟨true,a,vs,rfl,ra,sa,λμ2 H2 h2 R E R2=>SqT.ext R E sa⟩
 .cases e
  cases r with | @fls a vs l sa ra=>
  exact⟨false,a,vs,rfl,ra,sa.sq,λμ2 H2 h2 R E R2=>(SqF.ext E sa).sq⟩
 .cases e
def zj6(hm:X.mg "zip" = none)(ha:SA X cl [e1,e2] ms)(hg:Gl X "zip":=by rfl)(hst:starEach [e1,e2] X.env=(false,eval e1 X.env)::starEach [e2] X.env:=by rfl)(hpl:(backTo pos (starEach [e2] X.env)).any (·.1)=false:=by rfl) :
  SI X cl (.Tuple elts n tpos) (.Call (.Name "zip" p) [e1,e2] [] pos) (iZip ms):=by
 rintro pins s σ H R I ⟨μ,h,ρ,src,h',R0,er,e,k⟩;obtain⟨ws,h1,e1',e⟩:=yM e;have hv:bootBuiltins "zip" = some (.type "zip"):=by decide +kernel
 refine jE (zaa I hg hm hv ?_ (by decide) (by decide));refine jr (thn (ha pos pins s σ H (λvs H1=>∃μ1,Ext μ H μ1 H1/\HR X.K cl μ1 H1 h1/\RWs X.K μ1 H1 ws vs) I ⟨μ,h,ρ,ws,h1,R0,er,e1',λμ1 H1 vs E1 R1 rs=>⟨μ1,E1,R1,rs⟩⟩) λus s1 ⟨vs,H1,I1,r1,μ1,E1,R1,rs⟩=>?_) hst hpl;unfold zipW at e;split at e
 .rename_i x y
  split at e
  .rename_i l l' q1 q2
   cases e;cases rs with | cons rx t=>cases t with | cons ry t=>cases t with | nil=>
   obtain⟨t1,a1,xs,rfl,ra1,d1,f1⟩:=zb4 (cl:=cl) rx q1;obtain⟨t2,a2,ys,rfl,ra2,d2,f2⟩:=zb4 (cl:=cl) ry q2;obtain⟨u1,u2,rfl,ru1,ru2⟩:=vals2 r1;cases ru1;cases ru2;obtain⟨l1,v1,c1⟩:=uF I1 d1;obtain⟨l2,v2,c2⟩:=uF I1 d2;refine zih (zfR t1 a1 l1) (zfR t2 a2 l2) c1 ((xW t2 0 a2).keepC c2 λo e=>zb _ e) (zbR t1 a1) (zbR t2 a2) λh2 b5 b3 b4 b1 b2 kp=>?_
   refine wpAny_pyIter_zip b5 ?_;have nd:[s1.heap.objs.size+4,s1.heap.objs.size+2,s1.heap.objs.size+3,s1.heap.objs.size,s1.heap.objs.size+1].Nodup:=by
    simp only[jj,zp,zm,zT,vU,List.nodup_nil,and_true,not_false_eq_true];omega
   refine⟨_,_,_,_,H1,rfl,I1.kept (t':=s1.toks) kp,zhn t1 t2 _ _ _ _ _ a1 a2 nd,⟨b5,b3,⟨_,_,b4⟩,zcL b1,zcL b2⟩,λb hb=>?_,k μ1 H1 _ E1 R1 ?_⟩
   .have hge:s1.heap.objs.size<=b:=by
     simp only[zp,zm,zT] at hb;rcases hb with rfl | rfl | rfl | rfl | rfl<;>omega
    exact I1.fpOk hge (I1.hok.fresh hge)
   .intro μ2 H2 h3 E2 R2 i
    have d1':=f1 μ2 H2 h3 R1 E2 R2;have d2':=f2 μ2 H2 h3 R1 E2 R2;have ra1':=ra1.ext R1 E2;have ra2':=ra2.ext R1 E2;refine⟨λw ew=>?_,λes=>?_⟩
    .have ew':((l.zip l').map λp=>W.tup [p.1,p.2])[i]?=some w:=zN ew
     rw[kW] at ew';cases ez:(l.zip l')[i]? with
     | none=>rw[ez] at ew'; cases ew'
     | some pr=>
      rw[ez] at ew';cases ew';obtain⟨ea,eb⟩:=List.getElem?_zip_eq_some.mp ez;obtain⟨vx,evx,rvx⟩:=ra1'.get ea;obtain⟨vy,evy,rvy⟩:=ra2'.get eb;refine⟨⟨xs,ys,vx,vy,d1',d2',evx,evy⟩,λv H3 yl=>?_⟩;obtain⟨pp,x',y',hp,rfl,rfl,w1,w2⟩:=yl;have z1:=w1 xs d1';have z2:=w2 ys d2';rw[evx] at z1; rw[evy] at z2;cases z1; cases z2;exact⟨.side hp,R2.side hp,.tup (SqT.of xJ) (.cons (rvx.ext R2 (.side hp)) (.cons (rvy.ext R2 (.side hp)) .nil))⟩
    .have es':((l.zip l').map λp=>W.tup [p.1,p.2])[i]?=none:=zN es
     have hl:=jk.mp es';rw[kE,List.length_zip] at hl;refine⟨xs,ys,d1',d2',?_⟩;rw[<-ra1.length,<-ra2.length];omega
  .cases e
 .cases e
end
noncomputable def zbp:List W->Option (List Bool)
 | []=>some []
 | .bl b::r=>match zbp r with
  | some l=>some (b::l)
  | none=>none
 | _=>none
noncomputable def intsOf:List W->Option (List Int)
 | []=>some []
 | .int b::r=>match intsOf r with
  | some l=>some (b::l)
  | none=>none
 | _=>none
noncomputable def zcv(f:List Bool->Bool)(ws:List W):M W:=λh=>match ws with
 | [w]=>match uo h w with
  | some l=>match zbp l with
   | some bs=>some (.bl (f bs),h)
   | none=>none
  | none=>none
 | _=>none
noncomputable def allW:List W->M W:=zcv λl=>l.all id
noncomputable def anyW:List W->M W:=zcv λl=>l.any id
noncomputable def sumL:List Int->Int
 | []=>0
 | i::r=>i+sumL r
noncomputable def sumW(ws:List W):M W:=λh=>match ws with
 | [w]=>match uo h w with
  | some l=>match intsOf l with
   | some bs=>some (.int (sumL bs),h)
   | none=>none
  | none=>none
 | _=>none
section
variable{K:PySem.W.Frag}{μ:List Addr}{H:Hp}
theorem zdO:∀{l:List W} {vs:List V} {us:List Value} {bs:List Bool},zbp l=some bs->RWs K μ H l vs->Vals vs us->us=bs.map Value.bool
 | [],_,_,_,e,.nil,.nil=>by cases e; rfl
 | .bl b::r,_,_,_,e,.cons rb rr,.cons tb tr=>by
  unfold zbp at e;split at e
  .rename_i l e'
   cases e;cases rb;cases tb;rw[zdO e' rr tr];rfl
  .cases e
 | .non::r,_,_,_,e,_,_=>by cases e
 | .int _::r,_,_,_,e,_,_=>by cases e
 | .str _::r,_,_,_,e,_,_=>by cases e
 | .tup _::r,_,_,_,e,_,_=>by cases e
 | .fls _::r,_,_,_,e,_,_=>by cases e
 | .ref _::r,_,_,_,e,_,_=>by cases e
 | .fdc _::r,_,_,_,e,_,_=>by cases e
 | .fn _::r,_,_,_,e,_,_=>by cases e
theorem zcV:∀{l:List W} {vs:List V} {us:List Value} {bs:List Int},intsOf l=some bs->RWs K μ H l vs->Vals vs us->us.length=bs.length/\∀i u,us[i]?=some u->∃t,u=Value.int (bs.getD i 0) t
 | [],_,_,_,e,.nil,.nil=>by cases e; exact⟨rfl,λi u e=>by simp at e⟩
 | .int b::r,_,_,_,e,.cons rb rr,.cons tb tr=>by
  unfold intsOf at e;split at e
  .rename_i l e'
   cases e;cases rb;obtain⟨t,rfl⟩:=tb;obtain⟨h1,h2⟩:=zcV e' rr tr;refine⟨by simp[h1],λi u e=>?_⟩;cases i with
   | zero=>simp at e; subst e; exact⟨t,rfl⟩
   | succ i=>simpa using h2 i u (by simpa using e)
  .cases e
 | .non::r,_,_,_,e,_,_=>by cases e
 | .bl _::r,_,_,_,e,_,_=>by cases e
 | .str _::r,_,_,_,e,_,_=>by cases e
 | .tup _::r,_,_,_,e,_,_=>by cases e
 | .fls _::r,_,_,_,e,_,_=>by cases e
 | .ref _::r,_,_,_,e,_,_=>by cases e
 | .fdc _::r,_,_,_,e,_,_=>by cases e
 | .fn _::r,_,_,_,e,_,_=>by cases e
end
def zeu(a b:List Int):sumL (a++b)=sumL a+sumL b:=by
 induction a with
 | nil=>simp[sumL]
 | cons x r ih=>simp only[zY,sumL,ih]; omega
theorem preSum_eq(bs:List Int):∀n,n<=bs.length->preSum (λi=>bs.getD i 0) n=sumL (bs.take n)
 | 0,_=>by simp[preSum,sumL]
 | n+1,h=>by
  have ih:=preSum_eq bs n ∅;have:preSum (λi=>bs.getD i 0) (n+1)=preSum (λi=>bs.getD i 0) n+bs.getD n 0:=rfl;rw[this,ih,List.take_succ,zeu];simp[z9 (show n<bs.length by omega),sumL]
section
variable{X:Cx}{cl:Cl}
def zd1{pins:List (Addr×Obj)}{s:Shared}{σ:L2.St}{H:Hp}{a:Addr}{vs:List V}{A:Around}{E:Value->Shared->Prop}{R:Value->Shared->Prop}(I:Inv X pins σ H s)(sq:SqL X.K H a vs\/SqT X.K H a vs)(hh:A.handled=none)
  (k:∀(us:List Value) (it:Addr) (fp wr:List Addr) (St:Nat->Heap->Prop) (h1:Heap),Vals vs us->Walks X.prog X.w A it fp wr us.length (λi v=>us[i]?=some v) St->St 0 h1->(∀b∈fp,b<h1.objs.size)->
   (∀b∈wr,s.heap.objs.size<=b)->(∀b o,s.heap.get? b=some o->h1.get? b=some o)->R (.ref it) { s with heap:=h1 }) :
  wpAny (model X.prog X.w) A (pyIter (.ref a)) R E s:=by
 rcases sq with sq | sq
 .obtain⟨its,rv,p,hz⟩:=I.list sq
  refine qJ p.isList ?_;have hlt:a<s.heap.objs.size:=by obtain⟨o,ho,_⟩:=p.isList; exact zy ho
  have W0:=yF (prog:=X.prog) (w:=X.w) hh s.heap.objs.size a (zO hlt) its.toArray;have W1:Walks X.prog X.w A s.heap.objs.size [s.heap.objs.size,a] [s.heap.objs.size] its.length (λi v=>its[i]?=some v) (λi h=>h.IsListIter s.heap.objs.size a i/\h.IsList a its.toArray):=by simpa using W0
  refine k its _ _ _ _ _ rv W1 ⟨⟨_,zH _ rfl,rfl,rfl⟩,p.isList.at λo e=>zb _ e⟩ (λb hb=>?_) (λb hb=>?_) λb o e=>zb _ e
  .simp only[zp,zm,zT] at hb
   simp only[jQ];rcases hb with rfl | rfl
   .exact jV _
   .exact vg hlt
  .simp only[zp,zm,zT] at hb
   rw[hb];exact zF _
 .obtain⟨its,rv,p,hz⟩:=I.tuple sq
  refine wJ (show s.heap.IsTuple a its.toArray from p) ?_;have hlt:a<s.heap.objs.size:=by obtain⟨o,ho,_⟩:=id p; exact zy ho
  have p':s.heap.IsTuple a its.toArray:=p;have W0:=Walks.tuple (prog:=X.prog) (w:=X.w) hh s.heap.objs.size a (zO hlt) its.toArray;have W1:Walks X.prog X.w A s.heap.objs.size [s.heap.objs.size,a] [s.heap.objs.size] its.length (λi v=>its[i]?=some v) (λi h=>h.IsTupleIter s.heap.objs.size a i/\h.IsTuple a its.toArray):=by simpa using W0
  refine k its _ _ _ _ _ rv W1 ⟨⟨_,zH _ rfl,rfl,rfl⟩,p'.at λo e=>zb _ e⟩ (λb hb=>?_) (λb hb=>?_) λb o e=>zb _ e
  .simp only[zp,zm,zT] at hb
   simp only[jQ];rcases hb with rfl | rfl
   .exact jV _
   .exact vg hlt
  .simp only[zp,zm,zT] at hb
   rw[hb];exact zF _
def zci{pins:List (Addr×Obj)}{s:Shared}{σ:L2.St}{H:Hp}{h1 h2:Heap}{tk:Nat}{wr:List Addr}(I:Inv X pins σ H s)(k1:∀b o,s.heap.get? b=some o->h1.get? b=some o)(hw:∀b∈wr,s.heap.objs.size<=b)(k2:∀b o,b∉wr->h1.get? b=some o->h2.get? b=some o) :
  Inv X pins σ H { s with heap:=h2,toks:=tk }:=
 I.kept (t':=tk) λb o e=>k2 b o (λz=>absurd (zy e) (Nat.not_lt.mpr (hw b z))) (k1 b o e)
def zcp{f:List Bool->Bool}{id:String}(hcall:∀{A:Around} {E:Value->Shared->Prop} {s:Shared} {x:Value} {Q:Value->Shared->Prop},A.handled=none->wpAny (model X.prog X.w) A.in1 (pyIter x) (λit s₂=>∃I fp wr n P St tr,it=.ref I/\Walks X.prog X.w A.in1 I fp wr n P St/\St 0 s₂.heap/\TruthOf X.prog X.w A.in1 P tr /\
   ∀h' tk,(∀b o,b∉wr->s₂.heap.get? b=some o->h'.get? b=some o)->Q (.bool (f ((List.range n).map tr))) { s₂ with heap:=h',toks:=tk }) E s->wpAny (model X.prog X.w) A (call (.builtin id) [x]) Q E s) (hc:X.calm=true):xN X (.builtin id) (rMs X.K cl (zcv f)):=by
 rintro pins s σ H xs us Q I rs ⟨μ,h,ws,w,h',R,ax,e,k⟩;unfold zcv at e;split at e
 .split at e
  .rename_i l el
   split at e
   .rename_i bs eb
    cases e;cases ax with | cons r t=>cases t with | nil=>
    obtain⟨a,vs,rfl,sa,ra⟩:=uX R r el;obtain⟨u,rfl,ru⟩:=rs.one;cases ru;have hh:=I.ok.hd hc;refine hcall hh (zd1 (A:=X.A.in1) I sa hh λus it fp wr St h1 rv W hst hfp hwr k1=>?_);have hu:=zdO eb ra rv;subst hu;refine⟨it,fp,wr,_,_,St,λi=>bs.getD i false,rfl,W,hst,?_,λh2 tk k2=>?_⟩
    .intro i v s Q E hP hQ
     rw[kW] at hP;cases eb:bs[i]? with
     | none=>rw[eb] at hP; cases hP
     | some b=>
      rw[eb] at hP;cases hP;have:bs.getD i false=b:=by simp[List.getD,eb]
      have hQ':Q (bs.getD i false) s:=hQ;rw[this] at hQ';exact jA hQ'
    .have e2:(List.range (bs.map Value.bool).length).map (λi=>bs.getD i false)=bs:=by
      apply List.ext_getElem
      .simp
      .intro i h1 h2; simp at h1; simp[h1]
     rw[e2];exact⟨.bl _,H,(show Inv X pins σ H { s with heap:=h2,toks:=tk } from zci I k1 hwr k2),rfl,k.pure R (.bl _)⟩
   .cases e
  .cases e
 .cases e
def zhi(hc:X.calm=true):xN X (.builtin "all") (rMs X.K cl allW):=by
 refine zcp (λ{A E s x Q} hh h=>call_all_walk (jU h (λit s₂ h₂=>?_) λ_ _ e=>e)) hc;obtain⟨I,fp,wr,n,P,St,tr,rfl,W,hst,htr,hQ⟩:=h₂;refine⟨I,fp,wr,n,P,St,tr,rfl,W,hst,htr,λh' tk hk=>?_⟩;have:=hQ h' tk hk;rw[List.all_map] at this;exact this
def zgt(hc:X.calm=true):xN X (.builtin "any") (rMs X.K cl anyW):=by
 refine zcp (λ{A E s x Q} hh h=>call_any_walk (jU h (λit s₂ h₂=>?_) λ_ _ e=>e)) hc;obtain⟨I,fp,wr,n,P,St,tr,rfl,W,hst,htr,hQ⟩:=h₂;refine⟨I,fp,wr,n,P,St,tr,rfl,W,hst,htr,λh' tk hk=>?_⟩;have:=hQ h' tk hk;rw[List.any_map] at this;exact this
def zgB(hc:X.calm=true):xN X (.builtin "sum") (rMs X.K cl sumW):=by
 rintro pins s σ H xs us Q I rs ⟨μ,h,ws,w,h',R,ax,e,k⟩;unfold sumW at e;split at e
 .split at e
  .rename_i l el
   split at e
   .rename_i bs eb
    cases e;cases ax with | cons r t=>cases t with | nil=>
    obtain⟨a,vs,rfl,sa,ra⟩:=uX R r el;obtain⟨u,rfl,ru⟩:=rs.one;cases ru;have hh:=I.ok.hd hc;refine call_sum_walkG (zd1 (A:=X.A.in1) I sa hh λus it fp wr St h1 rv W hst hfp hwr k1=>?_);obtain⟨hl,hv⟩:=zcV eb ra rv;refine⟨it,fp,wr,_,_,St,λi=>bs.getD i 0,rfl,W,hst,hfp,hv,λh2 tk t' k2=>?_⟩;rw[hl,preSum_eq bs _ (zF _),List.take_length];exact⟨.int _,H,(show Inv X pins σ H { s with heap:=h2,toks:=tk } from zci I k1 hwr k2),⟨t',rfl⟩,k.pure R (.int _)⟩
   .cases e
  .cases e
 .cases e
def boot_all:bootBuiltins "all" = some (.builtin "all"):=by decide +kernel
def boot_any:bootBuiltins "any" = some (.builtin "any"):=by decide +kernel
def boot_sum:bootBuiltins "sum" = some (.builtin "sum"):=by decide +kernel
def zeE:bootBuiltins "int" = some (.type Ty.int.name):=by decide +kernel
def zeG:bootBuiltins "str" = some (.type Ty.str.name):=by decide +kernel
def zhN:bootBuiltins "bool" = some (.type Ty.bool.name):=by decide +kernel
def zc9:bootBuiltins "tuple" = some (.type Ty.tuple.name):=by decide +kernel
def zbZ:bootBuiltins "list" = some (.type Ty.list.name):=by decide +kernel
def zd2:bootBuiltins "dict" = some (.type Ty.dict.name):=by decide +kernel
end
noncomputable abbrev ltW:W->W->M W:=cmpI λi j=>decide (i<j)
noncomputable abbrev leW:W->W->M W:=cmpI λi j=>decide (i<=j)
noncomputable abbrev gtW:W->W->M W:=cmpI λi j=>decide (j<i)
noncomputable abbrev geW:W->W->M W:=cmpI λi j=>decide (j<=i)
noncomputable abbrev augI:W->W->M W:=λx y=>match x,y with | .int i,.int j=>λh=>some (.int (i+j),h) | _,_=>λ_=>none
noncomputable def Itc(x:Str):It:=
 ⟨λi _=>i<x.cps.size,λi H v H'=>H'=H/\∃c,x.cps[i]?=some c/\v=.str ⟨#[c]⟩,λi _=>x.cps.size<=i⟩
section
variable{P:Program}{w:World}{K:PySem.W.Frag}{tg:Expr}
def zgh{T:String}(hn:["enumerate","zip","dict_itemiterator","dict_reverseitemiterator","odict_iterator","itertools.zip_longest","itertools.pairwise"].contains T=false)(it:Addr)(x:Str)(t:Tok)
  (W:∀A:Around,A.handled=none->Walks P w A it [it] [it] x.cps.size (SignAt x) (λi h=>h.IsStrIter it T x t i))
  (sf:∀(A:Around) (i:Nat) (s:Shared) (Q:Value->Shared->Prop) (E:Value->Shared->Prop),s.heap.IsStrIter it T x t i->Q (.ref it) s->wpAny (model P w) A (pyIter (.ref it)) Q E s) :
  Turn P w K tg (Itc x) [it] it (λi h=>i<=x.cps.size/\h.IsStrIter it T x t i) where
 mem:=by simp
 obj:=λi h st b hb=>by
  have e:b=it:=by simpa using hb
  subst e;obtain⟨_,o,e,c,d⟩:=st;exact⟨o,e,λv z=>by rw[d] at z; cases z⟩
 keep:=λi h h' st k=>by
  obtain⟨hi,o,e,c,d⟩:=st;exact⟨hi,o,k it (by simp) o e,c,d⟩
 item:=by
  intro X hP hw hK hc i pins s σ H E I hf st hg;subst hP hw hK;obtain⟨f0,f1,f2,f3,f4,f5⟩:=hf it (by simp);refine(W X.A (I.ok.hd hc)).item i s _ _ hg st.2 λv h' tk hv st' kk=>?_
  obtain⟨c,u,hcx,rfl⟩:=hv;have I1:Inv X pins σ H { s with heap:=h',toks:=tk }:=I.turned (t':=tk) (λb o hb e=>kk b o (by simpa using hb) e) f0 f1 f3 f4 f5;obtain⟨o,e,cc,d⟩:=id st';exact⟨_,rfl,zdp (s:={ s with heap:=h',toks:=tk }) e cc d hn ⟨.str ⟨#[c]⟩,H,I1,⟨u,rfl⟩,⟨rfl,c,hcx,rfl⟩,⟨hg,st'⟩,λb hb=>(hf b hb).1⟩⟩
 done:=by
  intro X hP hw hK hc i pins s σ H E I hf st hg;subst hP hw hK;obtain⟨f0,f1,f2,f3,f4,f5⟩:=hf it (by simp);have hi:i=x.cps.size:=Nat.le_antisymm st.1 hg;have st2:=st.2;rw[hi] at st2;exact(W X.A (I.ok.hd hc)).done s _ _ st2 λh' tk kk=>⟨rfl,I.turned (t':=tk) (λb o hb e=>kk b o (by simpa using hb) e) f0 f1 f3 f4 f5⟩
 self:=λA i s Q E st h=>sf A i s Q E st.2 h
end
noncomputable def signs(x:Str):List W:=x.cps.toList.map λc=>.str ⟨#[c]⟩
noncomputable def iStr(m:ME):MI:=λρ=>bnd (m ρ) λw h=>match w with
 | .str x=>some (.items (signs x),h)
 | _=>none
section
variable{X:Cx}{cl:Cl}{tg e:Expr}{m:ME}
def zjC{K:PySem.W.Frag}{μ:List Addr}{H:Hp}{x:Str}:JR K cl (Itc x) (.items (signs x)) μ H:=by
 intro μ2 H2 h2 E2 R2 i;refine⟨λw ew=>?_,λes=>?_⟩
 .have ew':(signs x)[i]?=some w:=zN ew
  unfold signs at ew';rw[kW] at ew';cases ec:x.cps.toList[i]? with
  | none=>rw[ec] at ew'; cases ew'
  | some c=>
   rw[ec] at ew';cases ew';have ec':x.cps[i]?=some c:=by rw[<-yu]; exact ec
   refine⟨(Array.getElem?_eq_some_iff.mp ec').1,λv H3 y=>?_⟩;obtain⟨rfl,c',hc',rfl⟩:=y;rw[ec'] at hc';cases hc';exact⟨.refl,R2,.str _⟩
 .have es':(signs x)[i]?=none:=zN es
  have:=jk.mp es';unfold signs at this;rw[kE,qQ] at this;exact this
def zkQ(he:SE X cl e m):SI X cl tg e (iStr m):=by
 rintro pins s σ H R I ⟨μ,h,ρ,src,h',R0,er,e,k⟩;obtain⟨x,h1,e1,e⟩:=yM e;refine thn (he pins s σ H (λv H1=>∃μ1,Ext μ H μ1 H1/\HR X.K cl μ1 H1 h1/\RW X.K μ1 H1 x v) I ⟨μ,h,ρ,x,h1,R0,er,e1,λμ1 H1 v E1 R1 r=>⟨μ1,E1,R1,r⟩⟩) λu s1 ⟨v,H1,I1,r1,μ1,E1,R1,rv⟩=>?_
 cases x with
 | str z=>
  cases e;cases rv.str_of;obtain⟨tk,rfl⟩:=r1;have fin:∀{o:Obj} {T:String},["enumerate","zip","dict_itemiterator","dict_reverseitemiterator","odict_iterator","itertools.zip_longest","itertools.pairwise"].contains T=false->(∀A:Around,A.handled=none->Walks X.prog X.w A s1.heap.objs.size [s1.heap.objs.size] [s1.heap.objs.size] z.cps.size (SignAt z) (λi h=>h.IsStrIter s1.heap.objs.size T z tk i))->
    (∀(A:Around) (i:Nat) (s:Shared) (Q:Value->Shared->Prop) (E:Value->Shared->Prop),s.heap.IsStrIter s1.heap.objs.size T z tk i->Q (.ref s1.heap.objs.size) s->wpAny (model X.prog X.w) A (pyIter (.ref s1.heap.objs.size)) Q E s)->
    (s1.heap.push o).IsStrIter s1.heap.objs.size T z tk 0->PIE X pins σ tg R (.ref s1.heap.objs.size) { s1 with heap:=s1.heap.push o }:=λ{o T} hn W sf st=>
   ⟨_,[s1.heap.objs.size],_,_,H1,rfl,I1.kept (t':=s1.toks) λb o e=>zb _ e,zgh hn _ z tk W sf,⟨vO _,st⟩,λb hb=>by
    have e:b=s1.heap.objs.size:=by simpa using hb
    subst e
    exact I1.fpOk (zF _) (I1.hok.fresh (zF _)),k μ1 H1 _ E1 R1 zjC⟩
  cases ha:z.cps.all (· < 128)
  .exact wpAny_pyIter_wide ha (fin (T:="str_iterator") (by decide) (λA' hA=>Walks.strWide hA _ z tk) (λA i s Q E st q=>wpAny_pyIter_striter_wide st q) ⟨_,zH _ rfl,rfl,rfl⟩)
  .exact wpAny_pyIter_ascii ha (fin (T:="str_ascii_iterator") (by decide) (λA' hA=>Walks.strAscii hA _ z tk) (λA i s Q E st q=>wpAny_pyIter_striter_ascii st q) ⟨_,zH _ rfl,rfl,rfl⟩)
 | _=>cases e
end
structure Glob(K:PySem.W.Frag)(mg:Str->Option Value)(x:Str)(w:W):Prop where
 ex:∃(v:V) (u:Value),mg x=some u/\RelV v u/\∀μ H,RW K μ H w v
def Glob.se{X:Cx}{cl:Cl}{x:Str}{w:W}{pos:Pos}(G:Glob X.K X.mg x w)(hg:Gl X x:=by rfl)(hd:(x==("__debug__":Str))=false:=by decide):SE X cl (.Name x pos) (eC w):=by
 obtain⟨v,u,hm,r,rw⟩:=G.ex;exact ziV hm r rw hg hd
mutual
inductive KW(K:PySem.W.Frag):W->Value->Prop
 | int {i:Int} {t:Tok}:KW K (.int i) (.int i t)
 | str {i:Str} {t:Tok}:KW K (.str i) (.str i t)
 | fn {a:Addr}:KW K (.fn a) (.ref a)
 | tup {a:Addr} {l:List W} {o:Obj} {its:Array Value} {n:Nat}:K.lookup a=some o->(o.cls=.type "tuple" /\ o.dict=none)->o.data=.seq its n->its.size<=sizeLine->KWs K l its.toList->KW K (.tup l) (.ref a)
inductive KWs(K:PySem.W.Frag):List W->List Value->Prop
 | nil:KWs K [] []
 | cons {w:W} {v:Value} {l:List W} {vs:List Value}:KW K w v->KWs K l vs->KWs K (w::l) (v::vs)
end
mutual
theorem KW.rw{K:PySem.W.Frag}:∀{w:W} {u:Value},KW K w u->∃v,RelV v u/\∀μ H,RW K μ H w v
 | _,_,.int (i:=i) (t:=t)=>⟨.int i,⟨t,rfl⟩,λ_ _=>.int _⟩
 | _,_,.str (i:=i) (t:=t)=>⟨.str i,⟨t,rfl⟩,λ_ _=>.str _⟩
 | _,_,.fn (a:=a)=>⟨.ref a,rfl,λ_ _=>.fn⟩
 | _,_,.tup (a:=a) e c d z r=>by
  obtain⟨vs,rv,rr⟩:=KWs.rw r;exact⟨.ref a,rfl,λμ H=>.tup (.inr ⟨_,_,_,e,c,d,z,rv⟩) (rr μ H)⟩
theorem KWs.rw{K:PySem.W.Frag}:∀{l:List W} {us:List Value},KWs K l us->∃vs,Vals vs us/\∀μ H,RWs K μ H l vs
 | _,_,.nil=>⟨[],.nil,λ_ _=>.nil⟩
 | _,_,.cons r t=>by
  obtain⟨v,r1,r2⟩:=KW.rw r;obtain⟨vs,t1,t2⟩:=KWs.rw t;exact⟨v::vs,.cons r1 t1,λμ H=>.cons (r2 μ H) (t2 μ H)⟩
end
def KW.glob{K:PySem.W.Frag}{mg:Str->Option Value}{x:Str}{w:W}{u:Value}(hm:mg x=some u)(k:KW K w u):Glob K mg x w:=by
 obtain⟨v,r1,r2⟩:=k.rw;exact⟨v,u,hm,r1,r2⟩
inductive TabRel(K:PySem.W.Frag):List (Str×W)->List DictEntry->Prop
 | nil:TabRel K [] []
 | cons {k:Str} {t:Tok} {w:W} {hs:Int} {v:Value} {l:List (Str×W)} {es:List DictEntry} {e:DictEntry}:e.key=.str k t->KW K w e.val->TabRel K l es->TabRel K ((k,w)::l) (e::es)
structure TabOk(K:PySem.W.Frag)(P:Params)(mg:Str->Option Value)(x:Str)(l:List (Str×W)):Prop where
 ex:∃(a:Addr) (es:Array DictEntry) (n:Nat),mg x=some (.ref a)/\K.lookup a=some ⟨.type "dict",none,.dict es n,#[]⟩/\PySem.W.KeysLit P es.toList/\(a==sysModules)=false/\TabRel K l es.toList
theorem TabRel.find{K:PySem.W.Frag}{k:Str}:∀{l:List (Str×W)} {es:List DictEntry},TabRel K l es->match l.lookup k with
  | some w=>∃v,(es.find? λe=>Value.isStrOf k e.key).map (·.val)=some v/\KW K w v
  | none=>(es.find? λe=>Value.isStrOf k e.key).map (·.val)=none
 | _,_,.nil=>rfl
 | _,_,.cons (k:=k') (l:=l) (es:=es) (e:=e) hk r t=>by
  have ih:=TabRel.find (k:=k) t;rw[jD];by_cases q:k=k'
  .subst q
   have e1:(k==k)=true:=by simp
   have e2:Value.isStrOf k e.key=true:=by rw[hk]; simp[Value.isStrOf]
   simp only[e1,jl,e2];exact⟨_,rfl,r⟩
  .have e1:(k==k')=false:=by simpa using q
   have e2:Value.isStrOf k e.key=false:=by rw[hk]; simp[Value.isStrOf]; exactλz=>q z.symm
   simp only[e1,jl,e2];exact ih
noncomputable def tabIn(neg:Bool)(l:List (Str×W))(w:W):M W:=λh=>match w with
 | .str k=>some (.bl (if neg then !(l.lookup k).isSome else (l.lookup k).isSome),h)
 | _=>none
noncomputable def zac(l:List (Str×W))(w:W):M W:=λh=>match w with
 | .str k=>match l.lookup k with
  | some v=>some (v,h)
  | none=>none
 | _=>none
section
variable{X:Cx}{cl:Cl}{a:Expr}{ma:ME}{x:Str}{l:List (Str×W)}{p pos:Pos}
def TabOk.at{pins:List (Addr×Obj)}{s:Shared}{σ:L2.St}{H:Hp}{d:Addr}{es:Array DictEntry}{n:Nat}(I:Inv X pins σ H s)(hl:X.K.lookup d=some ⟨.type "dict",none,.dict es n,#[]⟩)(hk:PySem.W.KeysLit X.w.params es.toList) :
  s.heap.MapOf (strKind X.prog X.w) d (λk=>findBy Value.isStrOf es k):=PySem.W.mapOf_K I.kIn hl hk
def zgI{op:CmpOp}(neg:Bool)(ho:∀{A:Around} {E:Value->Shared->Prop} {s:Shared} {d:Addr} {f:Str->Option Value} {k:Str} {t:Tok} {Q:Value->Shared->Prop},(d==sysModules)=false->s.heap.MapOf (strKind X.prog X.w) d f->Q (.bool (if neg then !(f k).isSome else (f k).isSome)) { s with toks:=s.toks+1 }->wpAny (model X.prog X.w) A (compareOp op (.str k t) (.ref d)) Q E s)
  (T:TabOk X.K X.w.params X.mg x l) (ha:SE X cl a ma) (hm:behindInMarks op (.Name x p)=false) (hg:Gl X x) (hd:(x==("__debug__":Str))=false):SE X cl (.Compare a [op] [.Name x p] pos) (eUn (tabIn neg l) ma):=by
 obtain⟨d,es,n,e1,e2,e3,e4,e5⟩:=T.ex;have hop:OpR X (compareOp op) (λx y H Q=>∃k,x=.str k/\y=.ref d/\Q (.bl (if neg then !(l.lookup k).isSome else (l.lookup k).isSome)) H):=by
  rintro pins s σ H x y v u Q I rx ry ⟨k,rfl,rfl,q⟩;obtain⟨t,rfl⟩:=rx;cases ry;refine ho e4 (TabOk.at I e2 e3) ?_;have fk:(findBy Value.isStrOf es k).isSome=(l.lookup k).isSome:=by
   have:=e5.find (k:=k);unfold findBy;rw[<-qY];cases ek:l.lookup k with
   | none=>rw[ek] at this; rw[this]; rfl
   | some w=>rw[ek] at this; obtain⟨v,e,_⟩:=this; rw[e]; rfl
  rw[fk];exact⟨.bl _,H,I.tok _,rfl,q⟩
 refine PE.wk (zeD hop ha (zbz hg e1 (show RelV (.ref d) (.ref d) from rfl) hd) hm) λσ H Q ⟨μ,h,ρ,w,h',R,er,e,k⟩=>?_
 obtain⟨y,h1,f1,e⟩:=yM e;refine⟨μ,h,ρ,y,h1,R,er,f1,λμ1 H1 vx E1 R1 rx=>?_⟩;unfold tabIn at e;split at e
 .cases e
  exact⟨_,rx.str_of,rfl,k μ1 H1 _ E1 R1 (.bl _)⟩
 .cases e
def zhv(hu:X.A.units+64<cLine)(T:TabOk X.K X.w.params X.mg x l)(ha:SE X cl a ma)(hm:behindInMarks .In (.Name x p)=false:=by first | exact nomark _ | rfl)(hg:Gl X x:=by rfl)(hd:(x==("__debug__":Str))=false:=by decide):SE X cl (.Compare a [.In] [.Name x p] pos) (eUn (tabIn false l) ma):=
 zgI false (λ{A E s d f k t Q} h1 h2 h3=>wpAny_in_of (wR X.prog X.w k t) h1 h2 h3) T ha hm hg hd
def zhb(hu:X.A.units+64<cLine)(T:TabOk X.K X.w.params X.mg x l)(ha:SE X cl a ma)(hm:behindInMarks .NotIn (.Name x p)=false:=by first | exact nomark _ | rfl)(hg:Gl X x:=by rfl)(hd:(x==("__debug__":Str))=false:=by decide):SE X cl (.Compare a [.NotIn] [.Name x p] pos) (eUn (tabIn true l) ma):=
 zgI true (λ{A E s d f k t Q} h1 h2 h3=>wpAny_notIn_of (wR X.prog X.w k t) h1 h2 h3) T ha hm hg hd
def zg9(hu:X.A.units+64<cLine)(T:TabOk X.K X.w.params X.mg x l)(ha:SE X cl a ma)(hs:zaL a:=by exactλ_ _=>rfl)(hg:Gl X x:=by rfl)(hd:(x==("__debug__":Str))=false:=by decide):SE X cl (.Subscript (.Name x p) a pos) (eUn (zac l) ma):=by
 obtain⟨d,es,n,e1,e2,e3,e4,e5⟩:=T.ex;have hix:IxR X (λx y H Q=>∃k w,x=.ref d/\y=.str k/\l.lookup k=some w/\∀v,(∀μ H,RW X.K μ H w v)->Q v H):=by
  rintro value slice pins s σ H x y v u Q I rx ry ⟨k,w,rfl,rfl,el,q⟩ hs;cases rx;obtain⟨t,rfl⟩:=ry;have hm:=TabOk.at I e2 e3;have:=e5.find (k:=k);rw[el] at this;obtain⟨v0,ev,kw⟩:=this;obtain⟨v1,r1,r2⟩:=kw.rw;refine tail_any hm.typeIs slot_dict_getitem.lookup (wpAny_getItem_of (v:=v0) (wR X.prog X.w k t) hm ?_ ⟨v1,H,I.tok _,r1,q v1 r2⟩) hs;unfold findBy;rw[<-qY];exact ev
 refine PE.wk (zir hix (zbz hg e1 (show RelV (.ref d) (.ref d) from rfl) hd) ha hs) λσ H Q ⟨μ,h,ρ,w,h',R,er,e,k⟩=>?_
 obtain⟨y,h1,f1,e⟩:=yM e;refine⟨μ,h,ρ,y,h1,R,er,f1,λμ1 H1 vx E1 R1 rx=>?_⟩;unfold zac at e;split at e
 .split at e
  .rename_i k' w' el
   cases e;exact⟨_,_,rfl,rx.str_of,el,λv hv=>k μ1 H1 _ E1 R1 (hv μ1 H1)⟩
  .cases e
 .cases e
end
noncomputable def keyOf:W->Option Key
 | .int i=>some (.inl i)
 | .str x=>some (.inr x)
 | _=>none
noncomputable def valW(l:List (Key×W))(k:Key):Option W:=(l.find? λkv=>decide (kv.1=k)).map (·.2)
noncomputable def putW(l:List (Key×W))(k:Key)(v:W):List (Key×W):=
 if (l.any λkv=>decide (kv.1=k))=true then l.map (λkv=>if kv.1=k then (kv.1,v) else kv) else l++[(k,v)]
noncomputable def uI(l more:List (Key×W)):List (Key×W):=more.foldl (λacc kv=>putW acc kv.1 kv.2) l
noncomputable def zay(h:MH):W->Option (List (Key×W))
 | .fdc l=>some l
 | .ref n=>match h[n]? with
  | some (.dic l)=>some l
  | _=>none
 | _=>none
inductive PR(K:PySem.W.Frag)(μ:List Addr)(H:Hp):List (Key×W)->List (Key×V)->Prop
 | nil:PR K μ H [] []
 | cons {k:Key} {w:W} {v:V} {l:List (Key×W)} {l':List (Key×V)}:RW K μ H w v->PR K μ H l l'->PR K μ H ((k,w)::l) ((k,v)::l')
section
variable{K:PySem.W.Frag}{cl:Cl}{μ μ':List Addr}{H H':Hp}{h:MH}
theorem RKs.pr:∀{l:List (Key×W)} {l':List (Key×V)},RKs K μ H l l'->PR K μ H l l'
 | [],[],_=>.nil
 | [],_::_,⟨k,_⟩=>by simp at k
 | _::_,[],⟨k,_⟩=>by simp at k
 | (k1,w)::l,(k2,v)::l',⟨k,r⟩=>by
  simp only[zz,vJ] at k;obtain⟨rfl,k⟩:=k;simp only[zz] at r;cases r with | cons r t=>exact .cons r (RKs.pr ⟨k,t⟩)
theorem PR.rk:∀{l:List (Key×W)} {l':List (Key×V)},PR K μ H l l'->RKs K μ H l l'
 | _,_,.nil=>⟨rfl,.nil⟩
 | _,_,.cons r t=>⟨by simp[t.rk.1],.cons r t.rk.2⟩
theorem PR.len:∀{l:List (Key×W)} {l':List (Key×V)},PR K μ H l l'->l.length=l'.length
 | _,_,.nil=>rfl
 | _,_,.cons _ t=>ql (· + 1) t.len
theorem PR.val{k:Key}:∀{l:List (Key×W)} {l':List (Key×V)},PR K μ H l l'->match valW l k with
  | some w=>∃v,valV l' k=some v/\RW K μ H w v
  | none=>valV l' k=none
 | _,_,.nil=>rfl
 | _,_,.cons (k:=k') (l:=l) (l':=l') (w:=w) (v:=v) r t=>by
  have ih:=PR.val (k:=k) t;by_cases q:k'=k
  .have e1:valW ((k',w)::l) k=some w:=by simp[valW,jl,q]
   rw[e1];exact⟨v,by simp[valV,jl,q],r⟩
  .have e1:valW ((k',w)::l) k=valW l k:=by simp[valW,jl,q]
   have e2:valV ((k',v)::l') k=valV l' k:=by simp[valV,jl,q]
   rw[e1,e2];exact ih
theorem PR.any{k:Key}:∀{l:List (Key×W)} {l':List (Key×V)},PR K μ H l l'->(l.any λkv=>decide (kv.1=k))=(l'.any λkv=>decide (kv.1=k))
 | _,_,.nil=>rfl
 | _,_,.cons _ t=>by simp only[qp]; rw[t.any]
theorem PR.map{k:Key}{w:W}{v:V}(r:RW K μ H w v):∀{l:List (Key×W)} {l':List (Key×V)},PR K μ H l l'->PR K μ H (l.map λkv=>if kv.1=k then (kv.1,w) else kv) (l'.map λkv=>if kv.1=k then (kv.1,v) else kv)
 | _,_,.nil=>.nil
 | _,_,.cons (k:=k') q t=>by
  simp only[zz];by_cases z:k'=k
  .simp only[z,jb]; exact .cons r (t.map r)
  .simp only[z,qC]; exact .cons q (t.map r)
theorem PR.app:∀{l m:List (Key×W)} {l' m':List (Key×V)},PR K μ H l l'->PR K μ H m m'->PR K μ H (l++m) (l'++m')
 | _,_,_,_,.nil,s=>s
 | _,_,_,_,.cons r t,s=>.cons r (t.app s)
def PR.put{k:Key}{w:W}{v:V}{l:List (Key×W)}{l':List (Key×V)}(p:PR K μ H l l')(r:RW K μ H w v):PR K μ H (putW l k w) (putK l' k v):=by
 unfold putW putK;rw[<-p.any (k:=k)];split
 .exact p.map r
 .exact p.app (.cons r .nil)
def PR.merge{more:List (Key×W)}{more':List (Key×V)}{l:List (Key×W)}{l':List (Key×V)}(q:PR K μ H more more')(p:PR K μ H l l'):PR K μ H (uI l more) (zaq l' more'):=by
 induction q generalizing l l' with
 | nil=>exact p
 | cons r t ih=>exact ih (p.put r)
theorem PR.ext(R:HR K cl μ H h)(E:Ext μ H μ' H'):∀{l:List (Key×W)} {l':List (Key×V)},PR K μ H l l'->PR K μ' H' l l'
 | _,_,.nil=>.nil
 | _,_,.cons r t=>.cons (r.ext R E) (t.ext R E)
def zbO{w:W}{v:V}{l:List (Key×W)}(R:HR K cl μ H h)(r:RW K μ H w v)(e:zay h w=some l):∃a l',v=.ref a/\Rd H a (.dK l')/\PR K μ H l l':=by
 cases r with
 | @fdc a l0 l' ws vs s kk e1 e2 rs=>cases e; subst e1; subst e2; exact⟨a,l',rfl,s.1,RKs.pr ⟨kk,rs⟩⟩
 | @ref n a hn=>
  simp only[zay] at e;split at e
  .rename_i l' ho
   cases e;obtain⟨l2,hv,rs⟩:=R.ob n a _ hn ho;exact⟨a,l2,rfl,.inl hv,RKs.pr rs⟩
  .cases e
 | _=>cases e
theorem zbj{w:W}{v:V}{k:Key}(r:RW K μ H w v)(e:keyOf w=some k):v=kV k:=by
 cases r<;>cases e<;>rfl
theorem KQ.fdc{l:List (Key×W)}{l':List (Key×V)}{Q:VK}{p:Addr}(k:KQ K cl μ H h (.fdc l) Q)(R:HR K cl μ H h)(pr:PR K μ H l l')(hp:H p=none):Q (.ref p) (upd H p (.dK l')):=
 k μ _ _ (.side hp) (R.side hp) (.fdc ⟨.inl xJ,R.fresh hp⟩ (pr.rk.1) rfl rfl ((pr.ext R (.side hp)).rk.2))
end
noncomputable def zct(md mk mv:ME):ME:=λρ=>bnd (md ρ) λx h=>if (zay h x).isSome=true then bnd (mk ρ) (λy=>bnd (mv ρ) λz h=>match zay h x,keyOf y with
  | some l,some k=>some ((valW l k).getD z,h)
  | _,_=>none) h else none
section
variable{X:Cx}{cl:Cl}{o a b:Expr}{mo ma mb:ME}{apos cpos pos:Pos}
def zhZ(hu:X.A.units+64<cLine)(ho:SE X cl o mo)(ha:SE X cl a ma)(hb:SE X cl b mb)(m:M2 X o "get" apos a b cpos:=by exact⟨rfl,rfl,rfl,rfl⟩):SE X cl (.Call (.Attribute o "get" apos) [a,b] [] cpos) (zct mo ma mb):=
 PE.wk (zh4 ∅ ho ha hb m) λσ H Q q0=>by
  obtain⟨μ,h,ρ,w,h',R,er,e,k⟩:=q0;obtain⟨x,h1,e1,e⟩:=yM e;split at e
  .rename_i hd
   obtain⟨y,h2,e2,e⟩:=yM e;obtain⟨z,h3,e3,e⟩:=yM e;refine⟨μ,h,ρ,x,h1,R,er,e1,λμ1 H1 vx E1 R1 rx=>?_⟩;obtain⟨l0,hd⟩:=qg.mp hd;obtain⟨d,l',rfl,rd,_⟩:=zbO R1 rx hd;refine⟨d,rfl,.inl ⟨l',rd⟩,μ1,h1,ρ,y,h2,R1,er.ext R E1,e2,λμ2 H2 vy E2 R2 ry=>⟨μ2,h2,ρ,z,h3,R2,(er.ext R E1).ext R1 E2,e3,λμ3 H3 vz E3 R3 rz=>?_⟩⟩;split at e
   .rename_i l k' el ek
    cases e;obtain⟨d2,l2,ed,rd2,pr⟩:=zbO R3 ((rx.ext R1 E2).ext R2 E3) el;cases ed;have hk:=zbj ry ek;subst hk;refine⟨valV l2 k',.inl ⟨l2,k',rd2,rfl,rfl⟩,?_⟩;have E:=E1.trans (E2.trans E3);have:=pr.val (k:=k');cases ev:valW l k' with
    | none=>rw[ev] at this k; rw[this]; exact k μ3 H3 _ E R3 rz
    | some w0=>rw[ev] at this k; obtain⟨v0,e0,r0⟩:=this; rw[e0]; exact k μ3 H3 _ E R3 r0
   .cases e
  .cases e
def zi9:SE X cl (.Dict [] [] pos) (eC (.fdc [])):=
 PE.wk zdL λσ H Q q0=>by
  obtain⟨μ,h,ρ,w,h',R,er,e,k⟩:=q0;cases e;exactλp hp=>k.fdc R .nil hp
noncomputable def ziA:ME:=λ_ h=>some (.ref h.length,h++[.dic []])
def zia:SE X cl (.Dict [] [] pos) ziA:=
 PE.wk zdL λσ H Q q0=>by
  obtain⟨μ,h,ρ,w,h',R,er,e,k⟩:=q0;cases e;exactλp hp=>k (μ++[p]) _ _ (.new hp) (R.new hp ⟨[],xJ,rfl,.nil⟩) (.ref (by rw[<-R.len]; simp))
end
def zhG{prog:Program}{w:World}{A:Around}{it a:Addr}{P:Nat->Heap->Prop}{C:Heap->List Value->Prop}(S:Stp it a P C)(hh:A.handled=none)(hne:a≠it)(l:List Value) :
  Draws prog w A it [it,a] l.length (λi v=>l[i]?=some v) (λi h=>P i h/\C h l) where
 live:=λ_ _ st=>let ⟨o,ho,_⟩:=S.obj st.1; ⟨o,ho⟩
 frame:=λ_ _ _ st hk=>⟨S.keep st.1 λo e=>hk it (by simp) o e,S.keepC st.2 λo e=>hk a (by simp) o e⟩
 item:=λi s Q E hi st hQ=>S.item st.1 st.2 (x:=l[i]) (by simp[hi]) λh' hit' hs'=>hQ _ h' s.toks (by simp[hi]) ⟨hit',S.keepC st.2 λo e=>hs'.extBut _ _ hne e⟩ hs'
 done:=λs Q E st hE=>S.last hh st.1 st.2 (by simp) hE
section
variable{prog:Program}{w:World}{A:Around}{E:Value->Shared->Prop}{s:Shared}
def zgg{e it a:Addr}{P:Nat->Heap->Prop}{C:Heap->List Value->Prop}(S:Stp it a P C){i:Nat}{l:List Value}{j:Int}{old:Value}{Q:Option Value->Shared->Prop}(hh:A.handled=none)
  (he:IsEnum s.heap e it j old) (p:P i s.heap) (c:C s.heap l) (hx:l[i]?=none) (hQ:∀h',Heap.ExtBut it s.heap h'->Q none { s with heap:=h' }):wpAny (model prog w) A (pyNext (.ref e)) Q E s:=by
 have hT:s.TypeIs (.ref e) "enumerate":=⟨_,he,rfl⟩;unfold pyNext;refine za (vM (jz (name:=Str.ofString "__next__") hT F.slot_enumerate_next (jO F.slot_enumerate_next hT F.entry_enumerate_next ?_ (F.args_enumerate_next_1 _))));show wpAny _ _ (field (.ref e) 2 >>= _) _ _ _; refine za (jy he rfl (x:=.ref it) rfl ?_)
 refine za (S.last hh p c hx λh' x he' hx'=>?_);obtain⟨o,ho,hc⟩:=hx'; refine za (qR (T:="StopIteration") (b:=true) ⟨o,ho,hc⟩ isSubtype_stop ?_); exact zu (hQ _ he')
end
def zhq{v:Value}{o:Obj}{C:Heap->Prop}(r:Itb v o C) :
  Meets (Builtin.«enumerate.__new__» ⟨[.type "enumerate",v],[]⟩) (λ_ R s=>C s.heap/\R (.ok (.ret (.ref (s.heap.push o).objs.size))) { s with heap:=(s.heap.push o).push { cls:=.type "enumerate",data:=.fields #[.none,.bool false,.ref s.heap.objs.size,rawInt 0,.none,.none] } }):=
 .of_wp λprog w A R s h=>by
  obtain⟨hp,g,d,tk,os⟩:=s; obtain⟨k1,h⟩:=h;have hsub:=sub_enumerate;have q1:∀{A:Around} {E:Value->Shared->Prop} {Q:Value->Shared->Prop},Q (.ref hp.objs.size) ⟨hp.push o,g,d,tk,os⟩->wpAny (model prog w) A (pyIter v) Q E ⟨hp,g,d,tk,os⟩:=λq=>r prog w _ _ _ _ k1 q
  wp_walk
  refine wpAny_stack_any λst=>zu ?_
  split
  .rename_i c _ _ _ _ _
   cases (c==Value.type "enumerate")<;>(wp_walk using q1; exact⟨_,rfl,h⟩)
  .wp_walk using q1
   exact⟨_,rfl,h⟩
section
variable{prog:Program}{w:World}{A:Around}{E:Value->Shared->Prop}{s:Shared}
def zg8{v:Value}{o:Obj}{C:Heap->Prop}(r:Itb v o C){Q:Value->Shared->Prop}(k1:C s.heap)(hf:o.isFreed=false)
  (h:∀h',IsEnum h' (s.heap.objs.size+1) s.heap.objs.size 0 .none->h'.get? s.heap.objs.size=some o->(∀c o,s.heap.get? c=some o->h'.get? c=some o)->Q (.ref (s.heap.objs.size+1)) { s with heap:=h' }) :
  wpAny (model prog w) A (call (.type "enumerate") [v]) Q E s:=by
 refine callType_new F.called_enumerate (by decide) (F.typeCall_enumerate_1 _) (F.newCall_enumerate_1 _) (λobj=>F.args_object_init_2 obj _) F.entry_enumerate_new (zhq r) ⟨k1,?_⟩;have hz:(s.heap.push o).objs.size=s.heap.objs.size+1:=jQ ..;have b2:((s.heap.push o).push { cls:=.type "enumerate",data:=.fields #[.none,.bool false,.ref s.heap.objs.size,rawInt 0,.none,.none] }).get? (s.heap.push o).objs.size=some _:=zH _ rfl;have b1:((s.heap.push o).push { cls:=.type "enumerate",data:=.fields #[.none,.bool false,.ref s.heap.objs.size,rawInt 0,.none,.none] }).get? s.heap.objs.size=some _:=zb _ (zH _ hf);show _/\_
 rw[hz] at b2 ⊢;exact⟨⟨_,b2,rfl⟩,h _ b2 b1 λc o x=>zb _ (zb _ x)⟩
end
noncomputable def Ite (K : PySem.W.Frag) (tp : Bool) (a : Addr) : It :=
  ⟨λi H => ∃ xs x, SqX K tp H a xs /\ xs[i]? = some x,
   λi H v H' => ∃ p x, H p = none /\ v = .ref p /\ H' = upd H p (.tup [.int i, x]) /\ (∀ xs, SqX K tp H a xs -> xs[i]? = some x),
   λi H => ∃ xs, SqX K tp H a xs /\ xs.length <= i⟩
def zg0{P:Program}{w:World}{K:PySem.W.Frag}{elts:List Expr}{n:Nat}{tpos:Pos}(tp:Bool)(e it a:Addr)(hne:e≠it) :
  Turn P w K (.Tuple elts n tpos) (Ite K tp a) [e,it] e (λi h=>(∃old,IsEnum h e it i old)/\Pit tp it a i h) where
 mem:=by simp
 obj:=λi h st b hb=>by
  obtain⟨⟨old,he⟩,p⟩:=st;simp only[zp,zm,zT] at hb;rcases hb with rfl | rfl
  .exact⟨_,he,λv q=>by cases q⟩
  .exact(xW tp _ a).obj p
 keep:=λi h h' st k=>by
  obtain⟨⟨old,he⟩,p⟩:=st;exact⟨⟨old,k e (by simp) _ he⟩,(xW tp it a).keep p λo q=>k it (by simp) o q⟩
 item:=by
  intro X hP hw hK hc i pins s σ H E I hf st hg;subst hP hw hK;obtain⟨xs,x,d,hx⟩:=hg;obtain⟨⟨old,he⟩,p⟩:=st;obtain⟨l,r,c⟩:=uF I d;obtain⟨u,eu,ru⟩:=r.get hx;have ae:a≠e:=uV I d (hf e (by simp));have ai:a≠it:=uV I d (hf it (by simp));refine wpAny_pyNext_enum_itemD (zhG (A:=X.A.in1) (xW tp it a) (I.ok.hd hc) ai l) he ⟨p,c⟩ (zJ.mp eu).1 hne (by simp[hne,kj ae]) λx' h' tk hP ho hst' hT hsz hk=>⟨_,rfl,?_⟩
  rw[eu] at hP;cases hP;refine wpAny_letOwnedTupleGo_enum ho λh2 he2 hs2=>?_
  have elt:e<s.heap.objs.size:=zy he;have hT2:h2.get? s.heap.objs.size=some { cls:=.type "tuple",data:=.seq #[.int i tk,u] }:=hs2.extBut _ _ (qi elt) hT;have I2:Inv X pins σ (upd H s.heap.objs.size (.tup [.int i,x])) { s with heap:=h2,toks:=tk+1 }:=zaU (t':=tk+1) (fp:=[e,it]) I (λb o hb q=>hs2.extBut _ _ (λz=>hb (by simp[z])) (hk b o (λz=>hb (by simp[z])) (λz=>hb (by simp[z])) q)) hf (zF _)
   ⟨by show 2<=sizeLine; decide,[.int i tk,u],.cons ⟨tk,rfl⟩ (.cons ru .nil),⟨_,hT2,rfl,_,rfl⟩,⟨_,hT2,rfl⟩⟩
  refine⟨.ref s.heap.objs.size,_,I2,rfl,⟨_,x,I.hok.fresh (zF _),rfl,rfl,λxs' q=>by rw[zcI I q d]; exact hx⟩,⟨⟨_,he2⟩,(xW tp it a).keep hst'.1 λo q=>hs2.extBut _ _ (kj hne) q⟩,λb hb=>?_⟩;obtain⟨o,q⟩:∃o,s.heap.get? b=some o:=by
   simp only[zp,zm,zT] at hb;rcases hb with rfl | rfl
   .exact⟨_,he⟩
   .obtain⟨o,q,_⟩:=(xW tp _ a).obj p; exact⟨o,q⟩
  rw[yU (zO (zy q))];exact(hf b hb).1
 done:=by
  intro X hP hw hK hc i pins s σ H E I hf st hg;subst hP hw hK;obtain⟨xs,d,hx⟩:=hg;obtain⟨⟨old,he⟩,p⟩:=st;obtain⟨l,r,c⟩:=uF I d;exact zgg (xW tp it a) (I.ok.hd hc) he p c (jX (by rw[<-r.length]; exact hx)) λh' hx'=>⟨rfl,zcg (t':=s.toks) (fp:=[e,it]) I (λb o hb q=>hx' b o (λz=>hb (by simp[z])) q) hf⟩
 self:=λ_ _ _ _ _ st h=>by obtain⟨⟨old,he⟩,_⟩:=st; exact wpAny_pyIter_enum he h
noncomputable def numbered(l:List W):List W:=l.zipIdx.map λp=>.tup [.int (p.2:Nat),p.1]
noncomputable def ziC(ws:List W):M Src:=λh=>match ws with
 | [x]=>match zbC h x with
  | some l=>some (.items (numbered l),h)
  | none=>none
 | _=>none
noncomputable def zfs(ms:List ME):MI:=λρ=>bnd (xX ms ρ) ziC
def zbe(l:List W)(i:Nat):(numbered l)[i]?=(l[i]?).map λw=>.tup [.int (i:Nat),w]:=by
 unfold numbered;rw[kW,List.getElem?_zipIdx];cases l[i]?<;>simp
section
variable{X:Cx}{cl:Cl}{elts:List Expr}{n:Nat}{tpos p pos:Pos}{e1:Expr}{ms:List ME}
def ziX(hm:X.mg "enumerate" = none)(ha:SA X cl [e1] ms)(hg:Gl X "enumerate":=by rfl)(hst:starEach [e1] X.env=(false,eval e1 X.env)::starEach [] X.env:=by rfl)(hpl:(backTo pos (starEach [] X.env)).any (·.1)=false:=by rfl) :
  SI X cl (.Tuple elts n tpos) (.Call (.Name "enumerate" p) [e1] [] pos) (zfs ms):=by
 rintro pins s σ H R I ⟨μ,h,ρ,src,h',R0,er,e,k⟩;obtain⟨ws,h1,e1',e⟩:=yM e;have hv:bootBuiltins "enumerate" = some (.type "enumerate"):=by decide +kernel
 refine jE (zaa I hg hm hv ?_ (by decide) (by decide));refine jr (thn (ha pos pins s σ H (λvs H1=>∃μ1,Ext μ H μ1 H1/\HR X.K cl μ1 H1 h1/\RWs X.K μ1 H1 ws vs) I ⟨μ,h,ρ,ws,h1,R0,er,e1',λμ1 H1 vs E1 R1 rs=>⟨μ1,E1,R1,rs⟩⟩) λus s1 ⟨vs,H1,I1,r1,μ1,E1,R1,rs⟩=>?_) hst hpl;unfold ziC at e;split at e
 .rename_i x
  split at e
  .rename_i l q1
   cases e;cases rs with | cons rx t=>cases t with | nil=>
   obtain⟨t1,a1,xs,rfl,ra1,d1,f1⟩:=zb4 (cl:=cl) rx q1;obtain⟨u1,rfl,ru1⟩:=r1.one;cases ru1;obtain⟨l1,v1,c1⟩:=uF I1 d1;refine zg8 (zfR t1 a1 l1) c1 (zbR t1 a1) λh2 b2 b1 kp=>?_
   refine wpAny_pyIter_enum b2 ?_;refine⟨_,_,_,_,H1,rfl,I1.kept (t':=s1.toks) kp,zg0 t1 _ _ a1 (Nat.succ_ne_self _),⟨⟨_,b2⟩,zcL b1⟩,λb hb=>?_,k μ1 H1 _ E1 R1 ?_⟩
   .have hge:s1.heap.objs.size<=b:=by
     simp only[zp,zm,zT] at hb;rcases hb with rfl | rfl<;>omega
    exact I1.fpOk hge (I1.hok.fresh hge)
   .intro μ2 H2 h3 E2 R2 i
    have d1':=f1 μ2 H2 h3 R1 E2 R2;have ra1':=ra1.ext R1 E2;refine⟨λw ew=>?_,λes=>?_⟩
    .have ew':(numbered l)[i]?=some w:=zN ew
     rw[zbe] at ew';cases ez:l[i]? with
     | none=>rw[ez] at ew'; cases ew'
     | some w0=>
      rw[ez] at ew';cases ew';obtain⟨vx,evx,rvx⟩:=ra1'.get ez;refine⟨⟨xs,vx,d1',evx⟩,λv H3 yl=>?_⟩;obtain⟨pp,x',hp,rfl,rfl,w1⟩:=yl;have z1:=w1 xs d1';rw[evx] at z1;cases z1;exact⟨.side hp,R2.side hp,.tup (SqT.of xJ) (.cons (.int _) (.cons (rvx.ext R2 (.side hp)) .nil))⟩
    .have es':(numbered l)[i]?=none:=zN es
     rw[zbe] at es';refine⟨xs,d1',?_⟩;rw[<-ra1.length];cases ez:l[i]? with
     | none=>exact jk.mp ez
     | some w0=>rw[ez] at es'; cases es'
  .cases e
 .cases e
end
end ML
section
namespace ML
open PySem PySem.Spec PyProof.Rows L2
end ML
namespace ML
open PySem PySem.Spec PyProof.Rows L2
noncomputable def strsOf:List W->Option (List Str)
 | []=>some []
 | .str b::r=>match strsOf r with
  | some l=>some (b::l)
  | none=>none
 | _=>none
end ML
end
section
namespace ML
open PySem PySem.Spec PyProof.Rows L2
noncomputable def keysOf:List (W×W)->Option (List (Key×W))
 | []=>some []
 | (x,y)::r=>match keyOf x,keysOf r with
  | some k,some l=>some ((k,y)::l)
  | _,_=>none
noncomputable def revW(w:W):M W:=λh=>match w with
 | .tup l=>some (.tup l.reverse,h)
 | w=>match getL h w with
  | some l=>some (.fls l.reverse,h)
  | none=>none
noncomputable def pairsOf:List W->Option (List (W×W))
 | []=>some []
 | .tup [x,y]::r=>match pairsOf r with
  | some l=>some ((x,y)::l)
  | none=>none
 | _=>none
noncomputable def zbx(ws:List W):M W:=λh=>match ws with
 | [w]=>match zay h w with
  | some l=>some (.fdc l,h)
  | none=>match getL h w with
   | some l=>match pairsOf l with
    | some ps=>match keysOf ps with
     | some ks=>if ks.length<=1000 then some (.fdc (uI [] ks),h) else none
     | none=>none
    | none=>none
   | none=>none
 | _=>none
end ML
end
namespace ML
open PySem PySem.Spec PyProof.Rows L2
def zjT{T:String}(h:T="list" \/ T="tuple" \/ T="zip"):typeLookup (.type T) "keys" = pure none:=by
 rcases h with rfl | rfl | rfl<;>(rw[vR,qL]; kernel_rfl)
def ziR{T:String}(h:T="list" \/ T="tuple" \/ T="zip"):typeLookup (.type T) "__getattr__" = pure none:=by
 rcases h with rfl | rfl | rfl<;>(rw[vR,qL]; kernel_rfl)
def zbY:isSubtype (.type "AttributeError") (.type "AttributeError")=pure true:=by rw[isSubtype_type]; kernel_rfl
section
variable{prog:Program}{w:World}{A:Around}{E:Value->Shared->Prop}{s:Shared}
theorem zjQ{e:Addr}{v0 v1 v2 v3 v4 v5 o name:Value}{Q:Unit->Shared->Prop}(he:s.heap.get? e=some { cls:=.type "AttributeError",data:=.fields #[v0,v1,v2,v3,v4,v5,rawInt 0,rawInt 0] })
  (hq:∀h' ob,Heap.ExtBut e s.heap h'->h'.get? e=some ob->ob.cls=.type "AttributeError"->Q () { s with heap:=h' }):wpAny (model prog w) A (noteAttr (.ref e) o name) Q E s:=by
 have hT:s.TypeIs (.ref e) "AttributeError":=⟨_,he,rfl⟩;unfold noteAttr;refine za ?_;unfold lacksNameAndObj;refine za (qR hT zbY ?_);simp only[Bool.not_true,jC,qC];refine za (wpAny_load he ?_);refine zu ?_;simp only[jb];refine za (qy (za (j8 hT ?_)));show wpAny _ _ (layMembers e 6 #[name,o]) _ _ s
 unfold layMembers;refine za (wpAny_load he ?_);refine wpAny_update he (hq _ _ (wG ..).extBut (jP _ he ?_) ?_)
 .rfl
 .rfl
def zfq{α:Type}{o:Value}{x msg:Str}{Q:α->Shared->Prop}(hh:A.handled=none)(hm:msg.length<=sizeLine)
  (hq:∀h' tk' e,(∀b ob,s.heap.get? b=some ob->h'.get? b=some ob)->(∃ob,h'.get? e=some ob/\ob.cls=.type "AttributeError")->E (.ref e) { s with heap:=h',toks:=tk' }):wpAny (model prog w) A (raiseAttrError o x msg:Sem α) Q E s:=by
 unfold raiseAttrError;refine za (wpAny_mkStr (za ?_) hm);unfold newExc newTuple;refine za (jh ?_);refine za (m:=firstArgMember _ _) (wz (a:=Value.none) (by first | rfl | kernel_rfl) ?_);refine jh ?_;refine za (wpAny_mkText (za ?_));refine zjQ (zH _ rfl) λh' ob hx ho hc=>?_
 unfold raiseNew;refine za (wpAny_handled ?_);rw[hh];first
  | refine yo ?_
  | refine za (zu (yo ?_))
 refine hq _ _ _ (λb ob' hb=>hx b ob' ?_ (zb _ (zb _ hb))) ⟨ob,ho,hc⟩;refine zO (zK (zy hb) ?_);simp
end
section
variable{prog:Program}{w:World}{A:Around}{E:Value->Shared->Prop}{h:Heap}{g:Array GenState}{d:Drawn}{t:Nat}{os:OsState}{a:Addr}{items:Array Value}{n:Nat}{sl:Array (Option Value)}{dd:Option Addr}
noncomputable def errK(h:Heap)(g:Array GenState)(d:Drawn)(os:OsState)(E:Value->Shared->Prop):Prop:=∀h' tk' e,(∀b ob,h.get? b=some ob->h'.get? b=some ob)->(∃ob,h'.get? e=some ob/\ob.cls=.type "AttributeError")->E (.ref e) ⟨h',g,d,tk',os⟩
set_option maxHeartbeats 1000000 in
def zg5{tk:Tok}{Q:Fin->Shared->Prop}(hh:A.handled=none)(hx:h.get? a=some { cls:=.type "list",dict:=none,data:=.seq items n,slots:=sl })(hq:errK h g d os E) :
  wpAny (model prog w) A (Builtin.«object.__getattribute__» ⟨[.ref a,.str "keys" tk],[]⟩) Q E ⟨h,g,d,t,os⟩:=by
 have hT:(⟨h,g,d,t,os⟩:Shared).TypeIs (.ref a) "list":=⟨_,hx,rfl⟩;have f4:=zjT (T:="list") (.inl rfl);repeat (any_goals (first | assumption | wp_step))
 refine zfq hh ⋯ λh' tk' e k1 k2=>hq h' tk' e k1 k2
def zei{tk:Tok}{Q:Value->Shared->Prop}(hh:A.handled=none)(hx:h.get? a=some { cls:=.type "list",dict:=none,data:=.seq items n,slots:=sl })(hq:errK h g d os E):wpAny (model prog w) A (getAttrBy (.ref a) (.str "keys" tk) false) Q E ⟨h,g,d,t,os⟩:=by
 have hT:(⟨h,g,d,t,os⟩:Shared).TypeIs (.ref a) "list":=⟨_,hx,rfl⟩;have f2:=vK.lookup;have f3:=vK.bind (.ref a);unfold getAttrBy;refine kZ (za (j8 hT (za (wz f2 ?_))));show wpAny _ _ (getAttrByItsOwn (.ref a) (.str "keys" tk) (.type "list") (.builtin "list.__getattribute__") false false) _ _ _
 unfold getAttrByItsOwn;refine za (zu ?_);refine za (vM ?_);refine kZ ?_;show wpAny _ _ (boundAndCalled (.builtin "list.__getattribute__") (.ref a) (.str "keys" tk)) _ _ _
 unfold boundAndCalled;refine za (wz f3 ?_);refine jO vK hT F.entry_list_ga ?_ (F.args_list_getattribute_2 _ _);refine zg5 hh hx λh' tk' e k1 k2=>?_
 obtain⟨ob,ho,hc⟩:=k2;have hTe:(⟨h',g,d,tk',os⟩:Shared).TypeIs (.ref e) "AttributeError":=⟨_,ho,hc⟩;show wpAny _ _ (getattributeRaised (.ref a) (.str "keys" tk) (.type "list") (.ref e) none false false) _ _ _
 unfold getattributeRaised;refine za (qR hTe zbY ?_);simp only[jb];refine za (wz (show hookBehind (.type "list") none=pure none from ziR (.inl rfl)) ?_);show wpAny _ _ (attributeErrorLeaves (.ref a) (.str "keys" tk) (.ref e) false false) _ _ _
 unfold attributeErrorLeaves;simp only[Bool.not_false,jb];exact yo (hq h' tk' e k1 ⟨ob,ho,hc⟩)
def zdA{Q:Option Value->Shared->Prop}(hh:A.handled=none)(hx:h.get? a=some { cls:=.type "list",dict:=none,data:=.seq items n,slots:=sl })(hq:∀h' tk',(∀b ob,h.get? b=some ob->h'.get? b=some ob)->Q none ⟨h',g,d,tk',os⟩):wpAny (model prog w) A (getAttr? (.ref a) "keys") Q E ⟨h,g,d,t,os⟩:=by
 unfold getAttr? getAttrBy?;refine za (wpAny_mkText ?_);refine za (vM (zei hh hx λh' tk' e k1 k2=>?_));obtain⟨ob,ho,hc⟩:=k2;refine za (qR (T:="AttributeError") (b:=true) ⟨ob,ho,hc⟩ zbY ?_);exact zu (hq h' tk' k1)
end
def zdd:entryFor table "dict.update.loop" = some Builtin.«dict.update.loop»:=entryFor_of_tree (by kernel_rfl)
def zax:plainId "dict.update.loop" = true:=by decide +kernel
section
variable{prog:Program}{w:World}{A:Around}{R:Result->Shared->Prop}{I D:Addr}{fp wr:List Addr}{n:Nat}{P:Nat->Value->Prop}{St:Nat->Heap->Prop}{h0:Heap}{us:List Value}{kvs:List (Key×Value)}
noncomputable def zcO(knd:KeyKind prog w Key)(h:Heap)(us:List Value)(kvs:List (Key×Value)):Prop:=us.length=kvs.length/\∀(i:Nat) (u:Value) (kv:Key×Value),us[i]?=some u->kvs[i]?=some kv->∃T k,u=.ref T/\IsTup h T #[k,kv.2]/\knd.is kv.1 k=true
def zh3(knd:KeyKind prog w Key)(W:Walks prog w A.in1 I fp wr us.length (λi v=>us[i]?=some v) St)(hDf:D∉fp)(hD0:h0.get? D=none)(hw0:∀b∈wr,h0.get? b=none)(hp:zcO knd h0 us kvs)(hz:kvs.length<=1000) :
  ∀(k i:Nat) (tk:Tok) (s:Shared),us.length-i=k->i<=us.length->St i s.heap->s.heap.DictOf knd D (merged [] (kvs.take i))->(∀b o,h0.get? b=some o->s.heap.get? b=some o)->
   (∀h' tk',h'.DictOf knd D (merged [] kvs)->(∀b o,h0.get? b=some o->h'.get? b=some o)->R (.ok (.ret .none)) { s with heap:=h',toks:=tk' })->
   codeAny (model prog w) A (.builtin "dict.update.loop" ⟨[.ref D,.ref I,.int i tk,.none],[]⟩) R s:=by
 have hDw:D∉wr:=λh=>hDf (W.sub _ h)
 intro k;induction k with
 | zero=>
  intro i tk s hk hi hst hd h0k hR;obtain rfl:i=us.length:=by omega
  refine codeAny_builtin zdd ?_;rw[Around.under_plainId zax _];show wpAny _ A.in1 (pyNext (.ref I) >>= _) _ _ s; refine za (W.done s _ _ hst λh' tk' kk=>?_)
  show wpAny _ A.in1 (Builtin.Dict.addKeywords D [] >>= _) _ _ _
  refine za (zu (zu (hR h' tk' ?_ λb o e=>kk b o (λz=>by rw[hw0 b z] at e; cases e) (h0k b o e))));rw[hp.1,List.take_length] at hd;obtain⟨o,es,ep,ho,rest⟩:=hd;exact⟨o,es,ep,kk D o hDw ho,rest⟩
 | succ k ih=>
  intro i tk s hk hi hst hd h0k hR;have hlt:i<us.length:=by omega
  refine codeAny_builtin zdd ?_;rw[Around.under_plainId zax _];show wpAny _ A.in1 (pyNext (.ref I) >>= _) _ _ s; refine za (W.item i s _ _ hlt hst λv h' tk' hv hst' kk=>?_)
  have hkl:i<kvs.length:=by rw[<-hp.1]; exact hlt
  obtain⟨T,key,rfl,hT,hk1⟩:=hp.2 i v kvs[i] hv (z9 hkl);have keep:∀b o,h0.get? b=some o->h'.get? b=some o:=λb o e=>kk b o (λz=>by rw[hw0 b z] at e; cases e) (h0k b o e)
  have hT':IsTup h' T #[key,kvs[i].2]:=by obtain⟨o,ho,r⟩:=hT; exact⟨o,keep T o ho,r⟩
  have hd':h'.DictOf knd D (merged [] (kvs.take i)):=by obtain⟨o,es,ep,ho,rest⟩:=hd; exact⟨o,es,ep,kk D o hDw ho,rest⟩
  show wpAny _ A.in1 (holding [Value.ref T] _ >>= _) _ _ _
  refine za (kZ (za (wpAny_tryCatch ?_)));unfold Builtin.Dict.pairItems;refine za (j8 hT'.typeIs ?_);rw[zW (by decide)];obtain⟨oT,hoT,hcT,nT,hdT⟩:=hT';refine za (jK hoT hdT (zu ?_));show wpAny _ _ (holding [key,kvs[i].2] (dictSet D key kvs[i].2)) _ _ _
  refine kZ ?_;unfold dictSet;try with_reducible refine kZ ?_
  refine za (knd.pyHash hk1 ?_);refine wpAny_dictSetHashed_pairs (s:={ s with heap:=h',toks:=tk'+1 }) hk1 hd' (λh2 hd2 sb=>?_) (by have:=merged_length_le ([]:List (Key×Value)) (kvs.take i); rw[vo] at this; simp at this; exact zG (zG this ∅) (show 1000<=sizeLine by decide));refine zu ⟨wL zax _,ih (i+1) _ _ ∅ hlt (W.frame _ _ _ hst' λb hb o e=>?_) ?_ (λb o e=>?_) λh3 tk3 hd3 k3=>?_⟩
  .rw[sb.2 b (λz:b=D=>hDf (by rw[<-z]; exact hb))]; exact e
  .rw[merged_take_succ [] kvs i kvs[i] (z9 hkl)]; exact hd2
  .rw[sb.2 b (λz:b=D=>by rw[z,hD0] at e; cases e)]; exact keep b o e
  .exact hR h3 tk3 hd3 k3
end
section
variable{prog:Program}{w:World}{A:Around}{E:Value->Shared->Prop}{s:Shared}{us:List Value}{kvs:List (Key×Value)}{l:Addr}{n:Nat}{sl:Array (Option Value)}
def zcD(knd:KeyKind prog w Key)(hh:A.handled=none)(hl:s.heap.get? l=some { cls:=.type "list",dict:=none,data:=.seq us.toArray n,slots:=sl })(hp:zcO knd s.heap us kvs)(hz:kvs.length<=1000){Q:Value->Shared->Prop}
  (h:∀h' tk',h'.DictOf knd s.heap.objs.size (merged [] kvs)->(∀b o,s.heap.get? b=some o->h'.get? b=some o)->Q (.ref s.heap.objs.size) { s with heap:=h',toks:=tk' }):wpAny (model prog w) A (call (.type "dict") [.ref l]) Q E s:=by
 refine callType_codes (Q₁:=λobj s₁=>obj=.ref s.heap.objs.size/\s₁={ s with heap:=s.heap.push { cls:=.type "dict",data:=.dict #[] } }) F.kt_called_dict (F.kt_typeCall_dict_1 _) F.entry_dict_init (kt_code_dict_new _ ⟨rfl,rfl⟩) ?_;rintro obj s₁ ⟨rfl,rfl⟩;have hnew:(s.heap.push { cls:=.type "dict",data:=.dict #[] }).DictOf knd s.heap.objs.size []:=Heap.DictOf.new s.heap;refine⟨hnew.typeIs,F.args_dict_init_2 _ _,?_⟩;unfold Builtin.«dict.__init__»;refine za ?_;unfold Builtin.Dict.selfAndRest;refine za (wpAny_notOrdered_dict hnew.typeIs ?_);show wpAny _ _ (pure (s.heap.objs.size,[Value.ref l])) _ _ _
 refine zu ?_;show wpAny _ _ (Builtin.Dict.updateFrom "dict.__init__" s.heap.objs.size (.ref l) [] .none) _ _ _
 unfold Builtin.Dict.updateFrom;have hl1:(s.heap.push { cls:=.type "dict",data:=.dict #[] }).get? l=some _:=zb _ hl;refine za (j8 (T:="list") ⟨_,hl1,rfl⟩ ?_);rw[zW (by decide)];have hh2:A.in1.in1.handled=none:=by simpa using hh
 refine za (zdA hh2 hl1 λh1 tk1 k1=>?_);simp only[Option.isNone_none,jb];have hl2:=k1 _ _ hl1;have hL:h1.IsList l us.toArray:=⟨_,hl2,rfl,n,rfl⟩;refine za (qy ?_);refine za (qJ hL ?_);have k0:∀b o,s.heap.get? b=some o->h1.get? b=some o:=λb o e=>k1 b o (zb _ e)
 have hDlt:s.heap.objs.size<h1.objs.size:=by obtain⟨o,es,ep,ho,_⟩:=hnew; exact zy (k1 _ _ ho)
 have hllt:l<s.heap.objs.size:=zy hl;have hd1:h1.DictOf knd s.heap.objs.size []:=by obtain⟨o,es,ep,ho,rest⟩:=hnew; exact⟨o,es,ep,k1 _ _ ho,rest⟩
 have hne:l≠h1.objs.size:=zO (yq hllt hDlt);have W0:=yF (prog:=prog) (w:=w) (A:=A.in1.in1) (by simpa using hh) h1.objs.size l hne us.toArray;have W1:Walks prog w A.in1.in1 h1.objs.size [h1.objs.size,l] [h1.objs.size] us.length (λi v=>us[i]?=some v) (λi h=>h.IsListIter h1.objs.size l i/\h.IsList l us.toArray):=by simpa using W0
 refine zu ⟨wL zax _,zh3 (h0:=s.heap) knd W1 ?_ ?_ ?_ hp hz us.length 0 _ _ rfl (vO _) ⟨⟨_,zH _ rfl,rfl,rfl⟩,hL.at λo e=>zb _ e⟩ ?_ (λb o e=>zb _ (k0 b o e)) λh' tk' hd' k'=>?_⟩
 .simp only[zp,zm,zT,vU]
  exact⟨zO hDlt,qi hllt⟩
 .exact v8 (zF _)
 .intro b hb
  simp only[zp,zm,zT] at hb;rw[hb];exact v8 (wu hDlt)
 .obtain⟨o,es,ep,ho,rest⟩:=hd1
  exact⟨o,es,ep,zb _ ho,rest⟩
 .exact⟨rfl,h h' tk' hd' k'⟩
end
end ML
namespace ML
open PySem PySem.Spec PyProof.Rows L2
section
variable{X:Cx}{cl:Cl}
theorem zdW{K:PySem.W.Frag}{μ:List Addr}{H:Hp}:∀{l:List W} {vs:List V} {ps:List (W×W)} {ks:List (Key×W)},RWs K μ H l vs->pairsOf l=some ps->keysOf ps=some ks->
  ∃ks':List (Key×V),PR K μ H ks ks'/\vs.length=ks'.length/\∀(i:Nat) (v:V) (kv:Key×V),vs[i]?=some v->ks'[i]?=some kv->∃T,v=.ref T/\SqT K H T [kV kv.1,kv.2]
 | [],_,_,_,.nil,e1,e2=>by
  cases e1; cases e2;exact⟨[],.nil,rfl,λi v kv e=>by simp at e⟩
 | w::l,_,ps,ks,.cons (v:=v) r t,e1,e2=>by
  have hw:∃x y,w=.tup [x,y]:=by
   unfold pairsOf at e1;split at e1
   .rename_i hd; cases hd
   .rename_i x y r' hd; cases hd; exact⟨x,y,rfl⟩
   .cases e1
  obtain⟨x,y,rfl⟩:=hw;unfold pairsOf at e1;split at e1
  .rename_i l' e3
   cases e1;unfold keysOf at e2;split at e2
   .rename_i k lk e4 e5
    cases e2;obtain⟨ks',p,hl,hi⟩:=zdW t e3 e5;obtain⟨T,vs2,rfl,sq,rr⟩:=r.tup_of;cases rr with | cons r1 rr=>cases rr with | @cons _ v2 _ _ r2 rr=>cases rr with | nil=>
    have:=zbj r1 e4;subst this;refine⟨(k,v2)::ks',.cons r2 p,by simp[hl],λi v kv ev ek=>?_⟩;cases i with
    | zero=>simp at ev ek; subst ev; subst ek; exact⟨T,rfl,sq⟩
    | succ i=>exact hi i v kv (by simpa using ev) (by simpa using ek)
   .cases e2
  .cases e1
theorem pairs_at{pins:List (Addr×Obj)}{s:Shared}{σ:L2.St}{H:Hp}(I:Inv X pins σ H s):∀{vs:List V} {its:List Value} {ks':List (Key×V)},Vals vs its->vs.length=ks'.length->
  (∀(i:Nat) (v:V) (kv:Key×V),vs[i]?=some v->ks'[i]?=some kv->∃T,v=.ref T/\SqT X.K H T [kV kv.1,kv.2])->∃kvs,KV ks' kvs/\zcO (xK X.prog X.w) s.heap its kvs
 | _,_,[],.nil,_,_=>⟨[],.nil,rfl,λi u kv e=>by simp at e⟩
 | _,_,_::_,.nil,hl,_=>by simp at hl
 | _,_,[],.cons _ _,hl,_=>by simp at hl
 | _,_,(k,v2)::ks',.cons (a:=v) (b:=u) r t,hl,hi=>by
  obtain⟨kvs,q1,q2,q3⟩:=pairs_at I t (by simpa using hl) λi v kv e1 e2=>hi (i+1) v kv (by simpa using e1) (by simpa using e2)
  obtain⟨T,rfl,sq⟩:=hi 0 v (k,v2) (by simp) (by simp);obtain⟨it2,rv,ht,_⟩:=I.tuple sq;obtain⟨u1,u2,rfl,ru1,ru2⟩:=vals2 rv;cases r;refine⟨(k,u2)::kvs,.cons ⟨rfl,ru2⟩ q1,by simp[q2],λi u kv e1 e2=>?_⟩;cases i with
  | zero=>simp at e1 e2; subst e1; subst e2; exact⟨T,u1,rfl,ht,zdt ru1⟩
  | succ i=>exact q3 i u kv (by simpa using e1) (by simpa using e2)
def zfv(hc:X.calm=true):xN X (.type "dict") (rMs X.K cl zbx):=by
 rintro pins s σ H xs us Q I rs ⟨μ,h,ws,w,h',R,ax,e,k⟩;unfold zbx at e;split at e
 .cases ax with | cons r t=>cases t with | nil=>
  obtain⟨u,rfl,ru⟩:=rs.one;split at e
  .rename_i l el
   cases e;obtain⟨a,l',rfl,rd,pr⟩:=zbO R r el;cases ru;exact zhl I rd λp s' hp I'=>⟨.ref p,_,I',rfl,k.fdc R pr hp⟩
  .split at e
   .rename_i l el
    split at e
    .rename_i ps ep
     split at e
     .rename_i ks ek
      split at e
      .rename_i hlen
       cases e;obtain⟨a,vs,rfl,sa,ra⟩:=xV R r el;cases ru;obtain⟨ks',pr,hl,hi⟩:=zdW ra ep ek;obtain⟨its,rv,⟨⟨oc,od,odt,osl⟩,n,g1,g2,g3,g4⟩,_⟩:=I.list sa;simp only at g2 g3 g4;subst g2 g3 g4;obtain⟨kvs,q1,q2⟩:=pairs_at I rv hl hi;have hkl:ks'.length=kvs.length:=q1.length;refine zcD (xK X.prog X.w) (I.ok.hd hc) g1 q2 (by rw[<-hkl,<-pr.len]; exact hlen) λh2 tk dd kp=>?_
       have rel:KV (zaq [] ks') (merged [] kvs):=q1.merge .nil;have hz:(zaq [] ks').length<=sizeLine:=by
        have h1:=za8 ks' [];rw[zU] at h1;rw[qK];have:=pr.len;omega
       exact⟨.ref _,_,I.laid (a:=s.heap.objs.size) (o:=.dK (zaq [] ks')) (t':=tk) kp (zF _) (zdU hz (jG.mpr (kj (zO I.big))) rel dd),rfl,k.fdc R (pr.merge .nil) (I.hok.fresh (zF _))⟩
      .cases e
     .cases e
    .cases e
   .cases e
 .cases e
end
end ML
section
namespace ML
open PySem PySem.Spec PyProof.Rows L2
def zla{P:Program}{w:World}{K:PySem.W.Frag}{mg:Str->Option Value}{base:Heap}{cl:Cl}{x qual:Str}{st:Stmt}{sc:Scope}{bd:List Stmt}{f:Addr}{fd:FuncData}{N ps:List Str}{k np ns:Nat}{b:MS}(F:Fun K x qual st f fd)(hsc:xf st=sc)(hbd:xQ st=bd)(S:FnScope N ps sc)(hnp:ps.length=np)(hns:N.length-np=ns)
  (hb:∀(cdv:Value) (A:Around) (outer:List Env) (s:Shared) (H:Hp) (E:XK),Room k (A.deeper (envOfC qual sc s.heap.objs.size f cdv))->
   SB (cxOf CX0 P w K mg base N qual sc f cdv A outer s H E).nox cl bd b):FnOk P w K mg base CX0 (k+1) f fd ps (spM K cl (gc (fnM np ns b))):=by
 subst hsc hbd;exact zlV F S hnp hns hb
noncomputable def visB(sc:Scope)(x:Str):Bool:=match sc.names.lookup x with
 | some .local=>true
 | some .cell=>true
 | some .free=>true
 | _=>false
noncomputable def locB(sc:Scope)(x:Str):Bool:=match sc.names.lookup x with
 | some .local=>true
 | some .cell=>true
 | _=>false
noncomputable def varB(sc:Scope)(N:List Str)(i:Nat)(x:Str):Bool:=N[i]?==some x&&visB sc x && !(x==("__debug__":Str)) && !(x==("__classdict__":Str))
noncomputable def setB(sc:Scope)(N:List Str)(i:Nat)(x:Str):Bool:=N[i]?==some x&&locB sc x
noncomputable def setC(sc:Scope)(N:List Str)(i:Nat)(x:Str):Bool:=N[i]?==some x&&sc.names.lookup x==some .local
noncomputable def glB(sc:Scope)(x:Str):Bool:=sc.names.lookup x==some .globalImplicit && !(x==("__debug__":Str)) && !(x==("__name__":Str))
section
variable{X:Cx}{cl:Cl}{x:Str}{pos pos' p:Pos}{sc:Scope}{N:List Str}{i:Nat}{e:Expr}{m:ME}
def zj1(h:visB sc x=true):Vis sc x:=by
 unfold visB at h;split at h
 .rename_i q; exact .inl q
 .rename_i q; exact .inr (.inl q)
 .rename_i q; exact .inr (.inr q)
 .cases h
def zbt(h:locB sc x=true):Loc sc x:=by
 unfold locB at h;split at h
 .rename_i q; exact .inl q
 .rename_i q; exact .inr q
 .cases h
def v_(h:varB sc N i x=true)(hs:X.env.scope=sc:=by rfl)(hN:X.N=N:=by rfl):SE X cl (.Name x pos) (eVar i):=by
 unfold varB at h;simp only[zg,qz,jf] at h;exact zkh i (by rw[hN]; exact h.1.1.1) (by rw[hs]; exact zj1 h.1.1.2) h.1.2 h.2
def g_(h:setB sc N i x=true)(hNd:N.Nodup)(hs:X.env.scope=sc:=by rfl)(hN:X.N=N:=by rfl)(hf:X.fn x=true:=by rfl):SG X cl (.Name x pos) (gNm i):=by
 unfold setB at h;simp only[zg,qz] at h;exact zeV i (by rw[hN]; exact hNd) (by rw[hN]; exact h.1) (by rw[hs]; exact zbt h.2) (.inl hf)
def gc_(h:setC sc N i x=true)(hNd:N.Nodup)(hs:X.env.scope=sc:=by rfl)(hN:X.N=N:=by rfl):SG X cl (.Name x pos) (gNm i):=by
 unfold setC at h;simp only[zg,qz] at h;exact zeV i (by rw[hN]; exact hNd) (by rw[hN]; exact h.1) (by rw[hs]; exact .inl h.2) (.inr (by rw[hs]; exact h.2))
def s_(h:setB sc N i x=true)(hNd:N.Nodup)(he:SE X cl e m)(hs:X.env.scope=sc:=by rfl)(hN:X.N=N:=by rfl)(hf:X.fn x=true:=by rfl)(hsw:swapsWith e (some (.Name x pos')) pos.line X.env=pure false:=by rfl):SS X cl (.Assign [.Name x pos'] e pos) (sAsg m (gNm i)):=by
 unfold setB at h;simp only[zg,qz] at h;exact zk5 i (by rw[hN]; exact hNd) he (by rw[hN]; exact h.1) (by rw[hs]; exact zbt h.2) hsw (.inl hf)
def au_{op:Operator}{f:W->W->M W}(h:setB sc N i x=true)(hNd:N.Nodup)(ho:PIp X op (rM X.K cl f))(he:SE X cl e m)(hs:X.env.scope=sc:=by rfl)(hN:X.N=N:=by rfl)(hf:X.fn x=true:=by rfl):SS X cl (.AugAssign (.Name x pos') op e pos) (sAug i f m):=by
 unfold setB at h;simp only[zg,qz] at h;exact zlf i (by rw[hN]; exact hNd) ho he (by rw[hN]; exact h.1) (by rw[hs]; exact zbt h.2) (.inl hf)
def xn(h:glB sc x=true)(hs:X.env.scope=sc):Gl X x/\(x==("__debug__":Str))=false/\x≠"__name__":=by
 unfold glB at h;simp only[zg,qz,jf] at h;refine⟨?_,h.1.2,λz=>?_⟩
 .show X.env.scope.names.lookup x=_
  rw[hs]; exact h.1.1
 .have:=h.2; rw[z] at this; simp at this
variable{k:Nat}{f:Addr}{fd:FuncData}{ps:List Str}{es:List Expr}{g:List W->M W}{ms:List ME}{id:String}
def c_(h:glB sc x=true)(F:FnOk X.prog X.w X.K X.mg X.base CX0 k f fd ps (spM X.K cl g))(hr:Room k X.A)(hm:X.mg x=some (.ref f))(hk:PySem.W.keepIn X.K (.ref f)=true)(hb:Binds X.K fd ps [])
  (ha:SA X cl (e::es) ms) (hs:X.env.scope=sc:=by rfl) (hst:starEach (e::es) X.env=(false,eval e X.env)::starEach es X.env:=by rfl) (hpl:(backTo pos (starEach es X.env)).any (·.1)=false:=by rfl):SE X cl (.Call (.Name x p) (e::es) [] pos) (yJ g ms):=
 zi5 F hr hm hk hb ha (xn h hs).1 (xn h hs).2.1 hst hpl
def c0_(h:glB sc x=true)(F:FnOk X.prog X.w X.K X.mg X.base CX0 k f fd ps (spM X.K cl g))(hr:Room k X.A)(hm:X.mg x=some (.ref f))(hk:PySem.W.keepIn X.K (.ref f)=true)(hb:Binds X.K fd ps [])
 (hs:X.env.scope=sc:=by rfl):SE X cl (.Call (.Name x p) [] [] pos) (yJ g []):=zhj F hr hm hk hb (xn h hs).1 (xn h hs).2.1
def cB_(h:glB sc x=true)(hc:xN X (.builtin id) (rMs X.K cl g))(hm:X.mg x=none)(hv:bootBuiltins x=some (.builtin id))(ha:SA X cl (e::es) ms)(hs:X.env.scope=sc:=by rfl)(hst:starEach (e::es) X.env=(false,eval e X.env)::starEach es X.env:=by rfl)(hpl:(backTo pos (starEach es X.env)).any (·.1)=false:=by rfl) :
 SE X cl (.Call (.Name x p) (e::es) [] pos) (yJ g ms):=zhA hc hm hv ha (xn h hs).1 (xn h hs).2.2 (xn h hs).2.1 hst hpl
def cT_(h:glB sc x=true)(hc:xN X (.type id) (rMs X.K cl g))(hm:X.mg x=none)(hv:bootBuiltins x=some (.type id))(ha:SA X cl (e::es) ms)(hs:X.env.scope=sc:=by rfl)(hst:starEach (e::es) X.env=(false,eval e X.env)::starEach es X.env:=by rfl)(hpl:(backTo pos (starEach es X.env)).any (·.1)=false:=by rfl) :
 SE X cl (.Call (.Name x p) (e::es) [] pos) (yJ g ms):=zfW hc hm hv ha (xn h hs).1 (xn h hs).2.2 (xn h hs).2.1 hst hpl
def gb_{w:W}(h:glB sc x=true)(G:Glob X.K X.mg x w)(hs:X.env.scope=sc:=by rfl):SE X cl (.Name x pos) (eC w):=G.se (xn h hs).1 (xn h hs).2.1
def isi_(T:Ty){y:Str}{p2:Pos}{a:Expr}{ma:ME}(h:glB sc "isinstance" = true)(h2:glB sc y=true)(ha:SE X cl a ma)(hi:X.mg "isinstance" = none)(ht:X.mg y=none)(hv:bootBuiltins y=some (.type T.name))(hs:X.env.scope=sc:=by rfl)
  (hs1:starEach [a,.Name y p2] X.env=(false,eval a X.env)::starEach [.Name y p2] X.env:=by rfl) (hs2:starEach [.Name y p2] X.env=(false,eval (.Name y p2) X.env)::starEach [] X.env:=by rfl)
  (hpl:(backTo pos (starEach [.Name y p2] X.env)).any (·.1)=false:=by rfl):SE X cl (.Call (.Name "isinstance" p) [a,.Name y p2] [] pos) (eUn (isW T) ma):=
 zkD T ha hi ht hv (xn h hs).1 (xn h2 hs).1 (xn h2 hs).2.2 (xn h2 hs).2.1 hs1 hs2 hpl
variable{a:Expr}{ma:ME}{l:List (Str×W)}
def tI_(h:glB sc x=true)(hu:X.A.units+64<cLine)(T:TabOk X.K X.w.params X.mg x l)(ha:SE X cl a ma)(hs:X.env.scope=sc:=by rfl)(hm:behindInMarks .In (.Name x p)=false:=by first | exact nomark _ | rfl):SE X cl (.Compare a [.In] [.Name x p] pos) (eUn (tabIn false l) ma):=zhv hu T ha hm (xn h hs).1 (xn h hs).2.1
def tN_(h:glB sc x=true)(hu:X.A.units+64<cLine)(T:TabOk X.K X.w.params X.mg x l)(ha:SE X cl a ma)(hs:X.env.scope=sc:=by rfl)(hm:behindInMarks .NotIn (.Name x p)=false:=by first | exact nomark _ | rfl):SE X cl (.Compare a [.NotIn] [.Name x p] pos) (eUn (tabIn true l) ma):=zhb hu T ha hm (xn h hs).1 (xn h hs).2.1
def tG_(h:glB sc x=true)(hu:X.A.units+64<cLine)(T:TabOk X.K X.w.params X.mg x l)(ha:SE X cl a ma)(hs:X.env.scope=sc:=by rfl)(hp:zaL a:=by exactλ_ _=>rfl):SE X cl (.Subscript (.Name x p) a pos) (eUn (zac l) ma):=zg9 hu T ha hp (xn h hs).1 (xn h hs).2.1
def rng_{tg:Expr}(h:glB sc "range" = true)(hm:X.mg "range" = none)(ha:SA X cl [e] ms)(hs:X.env.scope=sc:=by rfl)(hst:starEach [e] X.env=[(false,eval e X.env)]:=by rfl):SI X cl tg (.Call (.Name "range" p) [e] [] pos) (iRng ms):=zkX hm ha (xn h hs).1 hst
def enu_{elts:List Expr}{n:Nat}{tpos:Pos}(h:glB sc "enumerate" = true)(hm:X.mg "enumerate" = none)(ha:SA X cl [e] ms)(hs:X.env.scope=sc:=by rfl)(hst:starEach [e] X.env=(false,eval e X.env)::starEach [] X.env:=by rfl)(hpl:(backTo pos (starEach [] X.env)).any (·.1)=false:=by rfl) :
 SI X cl (.Tuple elts n tpos) (.Call (.Name "enumerate" p) [e] [] pos) (zfs ms):=ziX hm ha (xn h hs).1 hst hpl
def zip_{elts:List Expr}{n:Nat}{tpos:Pos}{e2:Expr}(h:glB sc "zip" = true)(hm:X.mg "zip" = none)(ha:SA X cl [e,e2] ms)(hs:X.env.scope=sc:=by rfl)(hst:starEach [e,e2] X.env=(false,eval e X.env)::starEach [e2] X.env:=by rfl)(hpl:(backTo pos (starEach [e2] X.env)).any (·.1)=false:=by rfl) :
 SI X cl (.Tuple elts n tpos) (.Call (.Name "zip" p) [e,e2] [] pos) (iZip ms):=zj6 hm ha (xn h hs).1 hst hpl
end
end ML
namespace ML
open PySem PySem.Spec PyProof.Rows L2
section
variable{X:Cx}{cl:Cl}{a:Expr}{ma:ME}{x:Str}{l:List (Str×W)}{p pos:Pos}{sc:Scope}
def zgJ{op:CmpOp}(neg:Bool)(ho:∀{A:Around} {E:Value->Shared->Prop} {s:Shared} {d:Addr} {f:Str->Option Value} {k:Str} {t:Tok} {Q:Value->Shared->Prop},(d==sysModules)=false->s.heap.MapOf (strKind X.prog X.w) d f->Q (.bool (if neg then !(f k).isSome else (f k).isSome)) { s with toks:=s.toks+1 }->wpAny (model X.prog X.w) A (compareOp op (.str k t) (.ref d)) Q E s)
  (T:TabOk X.K X.w.params X.mg x l) (ha:SE X cl a ma) (hm:behindInMarks op (.Name x p)=false) (hg:Gl X x) (hd:(x==("__debug__":Str))=false):ST X cl (.Compare a [op] [.Name x p] pos) (tVal (eUn (tabIn neg l) ma)):=by
 obtain⟨d,es,n,e1,e2,e3,e4,e5⟩:=T.ex;have hop:OpR X (compareOp op) (λx y H Q=>∃k,x=.str k/\y=.ref d/\Q (.bl (if neg then !(l.lookup k).isSome else (l.lookup k).isSome)) H):=by
  rintro pins s σ H x y v u Q I rx ry ⟨k,rfl,rfl,q⟩;obtain⟨t,rfl⟩:=rx;cases ry;refine ho e4 (TabOk.at I e2 e3) ?_;have fk:(findBy Value.isStrOf es k).isSome=(l.lookup k).isSome:=by
   have:=e5.find (k:=k);unfold findBy;rw[<-qY];cases ek:l.lookup k with
   | none=>rw[ek] at this; rw[this]; rfl
   | some w=>rw[ek] at this; obtain⟨v,e,_⟩:=this; rw[e]; rfl
  rw[fk];exact⟨.bl _,H,I.tok _,rfl,q⟩
 refine PT.wk (zeB hop ha (zbz hg e1 (show RelV (.ref d) (.ref d) from rfl) hd) hm) λσ H Q q=>?_
 obtain⟨μ,h,ρ,w,h',R,er,e,k⟩:=zaA q;obtain⟨y,h1,f1,e⟩:=yM e;refine⟨μ,h,ρ,y,h1,R,er,f1,λμ1 H1 vx E1 R1 rx=>?_⟩;unfold tabIn at e;split at e
 .cases e
  exact⟨_,rx.str_of,rfl,k μ1 H1 _ E1 R1 (.bl _)⟩
 .cases e
def tIt_(h:glB sc x=true)(hu:X.A.units+64<cLine)(T:TabOk X.K X.w.params X.mg x l)(ha:SE X cl a ma)(hs:X.env.scope=sc:=by rfl)(hm:behindInMarks .In (.Name x p)=false:=by first | exact nomark _ | rfl):ST X cl (.Compare a [.In] [.Name x p] pos) (tVal (eUn (tabIn false l) ma)):=
 zgJ false (λ{A E s d f k t Q} h1 h2 h3=>wpAny_in_of (wR X.prog X.w k t) h1 h2 h3) T ha hm (xn h hs).1 (xn h hs).2.1
def tNt_(h:glB sc x=true)(hu:X.A.units+64<cLine)(T:TabOk X.K X.w.params X.mg x l)(ha:SE X cl a ma)(hs:X.env.scope=sc:=by rfl)(hm:behindInMarks .NotIn (.Name x p)=false:=by first | exact nomark _ | rfl):ST X cl (.Compare a [.NotIn] [.Name x p] pos) (tVal (eUn (tabIn true l) ma)):=
 zgJ true (λ{A E s d f k t Q} h1 h2 h3=>wpAny_notIn_of (wR X.prog X.w k t) h1 h2 h3) T ha hm (xn h hs).1 (xn h hs).2.1
end
end ML
end
namespace ML
open PySem PySem.Spec PyProof.Rows L2
noncomputable def zdY(l:List Str):Bool:=decide l.Nodup
def ziI{l:List Str}(h:zdY l=true:=by kernel_rfl):l.Nodup:=jZ h
structure FTxt(K:PySem.W.Frag)(mg:Str->Option Value)(x:Str)(st:Stmt)(ps:List Str)(a:Addr)(d:FuncData):Prop where
 F:Fun K x x st a d
 B:Binds K d ps []
 m:mg x=some (.ref a)
def zea{K:PySem.W.Frag}{x y:Str}{st:Stmt}{f:Addr}{fd:FuncData}(F:Fun K x x st f fd)
  (hb:∀(kV doc pm:Value) (an:Option Addr) (cdv ct:Value) (us:List Value),us.length=[y].length->bindArgs (PySem.W.fnOf x x (uG st) (xQ st) (xf st) .none kV doc pm an cdv ct) ⟨us,[]⟩=pure ([y].zip us)):∀(s:Shared) (v:Value),BindsTo s fd ⟨[v],[]⟩ [(y,v)]:=by
 intro s v;obtain⟨oc,od,kV,doc,pm,an,cdv,ct,osl,rfl,lk,hcd⟩:=F.ex;exact .of_eq (hb kV doc pm an cdv ct [v] rfl)
noncomputable def spL(P:Program)(w:World)(f:List W->M W)(K:PySem.W.Frag):Sp:=spM K ⟨λ_=>0,P,w⟩ f
def zlc{P:Program}{w:World}{f:List W->M W}(hf:∀ns:List Int,ns.length<=63->∃h',f [.fls (ns.map W.int)] []=some (.bl true,h'))(K:PySem.W.Frag)(H:Hp)(a:Addr)(ns:List Int)(hl:ns.length<=63)(hS:SqL K H a (ns.map V.int)):spL P w f K [.ref a] H (λv _=>v=.bl true) λ_ _ _=>False:=by
 obtain⟨h',e⟩:=hf ns hl;refine⟨[],[],[.fls (ns.map W.int)],.bl true,h',⟨rfl,List.nodup_nil,λn a o e=>by simp at e⟩,.cons (.fls ?_ (RWs.ints ns)) .nil,e,λμ' H' v E R r=>r.bl_of⟩;rcases hS with hS | hS
 .exact .inl ⟨hS,by simp⟩
 .exact .inr hS
noncomputable def zmz(x y:W):M W:=λh=>match zay h x,keyOf y with
 | some l,some k=>match valW l k with
  | some w=>some (w,h)
  | none=>none
 | _,_=>none
noncomputable def putM(x y v:W):M W:=λh=>match x with
 | .ref n=>match h[n]? with
  | some (.dic l)=>match keyOf y with
   | some k=>if l.length<cap then some (.non,h.set n (.dic (putW l k v))) else none
   | none=>none
  | some (.lst l)=>match y with
   | .int i=>match ixN l.length i with
    | some j=>some (.non,h.set n (.lst (l.set j v)))
    | none=>none
   | _=>none
  | _=>none
 | _=>none
noncomputable def gPut(mo mi:ME):MG:=λv ρ=>bnd (mo ρ) λx=>bnd (mi ρ) λy=>bnd (putM x y v) λ_ h=>some (ρ,h)
section
variable{X:Cx}{cl:Cl}{o i:Expr}{mo mi:ME}{pos:Pos}
inductive rPut(K:PySem.W.Frag)(cl:Cl)(o:V)(i:V)(v:V)(H:Hp)(Q:Hp->Prop):Prop
 | mk (μ:List Addr) (h:MH) (wo:W) (wi:W) (wv:W) (w:W) (h':MH) (p0:HR K cl μ H h) (p1:RW K μ H wo o) (p2:RW K μ H wi i) (p3:RW K μ H wv v) (p4:putM wo wi wv h=some (w,h')) (p5:∀μ' H',Ext μ H μ' H'->HR K cl μ' H' h'->Q H'):rPut K cl o i v H Q
def zmt(hu:X.A.units+64<cLine):PSet X (rPut X.K cl):=by
 rintro pins s σ H o i v ov iv u Q I ro ri rv ⟨μ,h,wo,wi,wv,w,h',R,ao,ai,av,e,k⟩;unfold putM at e;split at e
 .rename_i n
  cases ao with | @ref _ p hn=>
  split at e
  .rename_i l ho
   split at e
   .rename_i kk ek
    split at e
    .rename_i hl
     cases e;obtain⟨l',hp,rk⟩:=R.ob n p _ hn ho;have pr:=RKs.pr rk;have hk:=zbj ai ek;subst hk;cases ro;have hl':l'.length<sizeLine:=by rw[<-pr.len]; exact zK hl ut
     refine jU (zhe ∅ I (.inl ⟨l',kk,hp,rfl,hl',rfl⟩) ri rv λs' I'=>?_) (λ_ _ z=>z) λ_ _ z=>z
     have E:Ext μ H μ (upd H p (.dK (putK l' kk v))):=Ext.put hn;exact⟨_,I',k μ _ E (R.put hn ⟨_,xJ,((pr.put av).ext R E).rk⟩)⟩
    .cases e
   .cases e
  .rename_i l ho
   split at e
   .rename_i j
    split at e
    .rename_i j' ej
     cases e;obtain⟨vs,hp,rs⟩:=R.ob n p _ hn ho;have hi:=ai.int_of;subst hi;have E:Ext μ H μ (upd H p (.lst (vs.set j' v))):=Ext.put hn;refine set_list pins s σ H _ _ v ov iv u Q I ro ri rv ⟨p,vs,j,j',rfl,rfl,hp,by rw[<-rs.length]; exact ej,k μ _ E (R.put hn ⟨_,xJ,(RWs.set av _ rs).ext R E⟩)⟩
    .cases e
   .cases e
  .cases e
 .cases e
def zkZ(hu:X.A.units+64<cLine)(ho:SE X cl o mo)(hi:SE X cl i mi)
  (ha:∀v,assign (.Subscript o i pos) X.env v=(do
   let ov <-holding [v] (eval o X.env)
   let iv <-holding [v,ov] (eval i X.env)
   standAt pos
   holding [v,ov,iv] (setItem ov iv v)
   release [v,ov,iv] []):=by intro _; rfl):SG X cl (.Subscript o i pos) (gPut mo mi):=
 PG.wk (zkz ho hi (zmt hu) ha) λv σ H Q q0=>by
  obtain⟨μ,h,ρ,w,ρ',h',R,er,rv,e,k⟩:=q0;obtain⟨x,h1,e1,e⟩:=yM e;obtain⟨y,h2,e2,e⟩:=yM e;obtain⟨z,h3,e3,e⟩:=yM e;cases e;refine⟨μ,h,ρ,x,h1,R,er,e1,λμ1 H1 vx E1 R1 rx=>⟨μ1,h1,ρ,y,h2,R1,er.ext R E1,e2,λμ2 H2 vy E2 R2 ry=>?_⟩⟩;refine⟨μ2,h2,x,y,w,z,_,R2,rx.ext R1 E2,ry,(rv.ext R E1).ext R1 E2,e3,λμ3 H3 E3 R3=>?_⟩;exact k μ3 H3 σ (E1.trans (E2.trans E3)) R3 (((er.ext R E1).ext R1 E2).ext R2 E3)
end
noncomputable def slM(x:W)(lo hi:Option Int):M W:=λh=>match getL h x with
 | some l=>some (.ref h.length,h++[.lst (cutW l lo hi)])
 | none=>none
noncomputable def eSlM(a:ME)(lo hi:Option ME):ME:=λρ=>bnd (a ρ) λx=>bnd (uZ lo ρ) λl=>bnd (uZ hi ρ) λu=>slM x l u
section
variable{X:Cx}{cl:Cl}{a:Expr}{ma:ME}{pos p2:Pos}
def zj7{lo hi:Option Expr}{ml mh:Option ME}(ha:SE X cl a ma)(hl:SO X cl lo ml)(hh:SO X cl hi mh):SE X cl (.Subscript a (.Slice lo hi none p2) pos) (eSlM ma ml mh):=by
 have hr:SlR X (λx lo hi H Q=>∃μ h wx w h',HR X.K cl μ H h/\RW X.K μ H wx x/\slM wx lo hi h=some (w,h')/\KQ X.K cl μ H h' w Q):=by
  rintro pins s σ H x v vl vu lo hi sl Q I rx hs pl pu ⟨μ,h,wx,w,h',R,ax,e,k⟩;unfold slM at e;split at e
  .rename_i l el
   cases e;obtain⟨a,vs,rfl,sa,ra⟩:=xV R ax el;exact zeK pins s σ H _ v vl vu lo hi sl Q I rx hs pl pu ⟨a,vs,rfl,sa,λp hp=>k.lst R (ra.cutW lo hi) hp⟩
  .cases e
 refine PE.wk (zdN hr ha hl hh) λσ H Q ⟨μ,h,ρ,w,h',R,er,e,k⟩=>?_
 obtain⟨x,h1,e1,e⟩:=yM e;obtain⟨l,h2,e2,e⟩:=yM e;obtain⟨u,h3,e3,e⟩:=yM e
 exact⟨μ,h,ρ,x,h1,R,er,e1,λμ1 H1 vx E1 R1 rx=>⟨μ1,h1,ρ,l,h2,R1,er.ext R E1,e2,λμ2 H2 E2 R2=>⟨μ2,h2,ρ,u,h3,R2,(er.ext R E1).ext R1 E2,e3,λμ3 H3 E3 R3=>
  ⟨μ3,h3,x,w,h',R3,(rx.ext R1 E2).ext R2 E3,e,k.ext (E1.trans (E2.trans E3))⟩⟩⟩⟩
end
noncomputable def noStar:Expr->Bool
 | .Starred ..=>false
 | _=>true
noncomputable def zcl:Expr->Bool
 | .ListComp ..=>false
 | .SetComp ..=>false
 | .DictComp ..=>false
 | _=>true
noncomputable def zdk:Expr->Bool
 | .Set ..=>false
 | _=>true
noncomputable def ziG:Expr->Bool
 | .Tuple ..=>false
 | _=>true
noncomputable def zbs:Expr->Bool
 | .Slice ..=>false
 | _=>true
noncomputable def plainT:Expr->Bool
 | .UnaryOp ..=>false
 | .BoolOp ..=>false
 | .IfExp ..=>false
 | .Compare ..=>false
 | _=>true
noncomputable def zgu:Expr->Bool
 | .Call ..=>false
 | _=>true
section
variable{e tg o:Expr}{es:List Expr}{env:Env}{pos:Pos}
def yW(h:noStar e=true):starEach (e::es) env=(false,eval e env)::starEach es env:=by
 cases e<;>first | (cases h; done) | kernel_rfl
theorem zaY:starEach [] env=[]:=by kernel_rfl
theorem zaw(h:noStar e=true):backTo pos (starEach (e::es) env)=(false,eval e env)::backTo pos (starEach es env):=by
 rw[yW h]; rfl
theorem xH:∀{es:List Expr},es.all noStar=true->(backTo pos (starEach es env)).any (·.1)=false
 | [],_=>by rw[zaY]; rfl
 | e::es,h=>by
  rw[jt,zg] at h;rw[zaw h.1,qp,xH h.2];rfl
theorem zdR:∀{es:List Expr},es.all noStar=true->(backTo pos (starEach es env)).all (λx=>!x.1)=true
 | [],_=>by rw[zaY]; rfl
 | e::es,h=>by
  rw[jt,zg] at h;rw[zaw h.1,jt,zdR h.2];rfl
def zbi(h:es.all noStar=true)(hl:decide (es.length<30)=true):((backTo pos (starEach es env)).all (λx=>!x.1)&&(backToKw pos (keywordEach [] env)).all (λx=>x.1.isSome)
   && decide (es.length+([]:List Keyword).length+(if ([]:List Keyword).isEmpty then 0 else 1)<30))=true:=by
 rw[zdR h];have:(keywordEach [] env)=[]:=by kernel_rfl
 rw[this];simpa[backToKw] using hl
theorem zb5{t:Option Expr}{l:Nat}(h:zcl e=true):swapsWith e t l env=pure false:=by
 cases e<;>first | (cases h; done) | rfl
theorem ze4{ts:List Expr}{n:Nat}{p:Pos}(h:ziG e=true):swappedStores [.Tuple ts n p] e env=pure none:=by
 cases e<;>first | (cases h; done) | rfl
def uJ(h:noStar e=true):assignEach (e::es) env=(false,assign e env)::assignEach es env:=by
 cases e<;>first | (cases h; done) | kernel_rfl
theorem zae:assignEach [] env=[]:=by kernel_rfl
theorem zcn:∀{es:List Expr},es.all noStar=true->(assignEach es env).length=es.length
 | [],_=>by rw[zae]; rfl
 | e::es,h=>by
  rw[jt,zg] at h;rw[uJ h.1,zr,zcn h.2];rfl
theorem zbK:∀{es:List Expr},es.all noStar=true->(assignEach es env).findIdx? (·.1)=none
 | [],_=>by rw[zae]; rfl
 | e::es,h=>by
  rw[jt,zg] at h;rw[uJ h.1,List.findIdx?_cons,zbK h.2];rfl
theorem u9(h:zdk e=true):∀x,foldedSetIterable e env x=pure x:=by
 intro x;cases e<;>first | (cases h; done) | rfl
theorem zaj{a:Str}{whole:Sem Value}(h:zgu o=true):attributeBase o a env whole=whole:=by
 cases o<;>first | (cases h; done) | rfl
def zhT(h:plainT e=true):∀whole,isTrue e env whole=(do let v <-whole; standAt e.pos; holding [v] (truthy v)):=by
 intro whole;cases e<;>first | (cases h; done) | kernel_rfl
theorem ziz(h:zbs e=true):zaL e:=by
 intro o i;cases e<;>first | (cases h; done) | rfl
end
structure RC where
 sc:Scope
 N:List Str
 inC:Bool
 fns:List (Str×(List W->M W))
 con:List (Str×W)
 tab:List (Str×List (Str×W))
 bin:List Str
 own:List Str
 txt:List Str
 cmp:List ((Nat×Nat)×List Str)
noncomputable def FnAt(P:Program)(w:World)(K:PySem.W.Frag)(mg:Str->Option Value)(base:Heap)(cl:Cl)(k:Nat)(x:Str)(g:List W->M W):Prop:=
 ∃f fd ps,FnOk P w K mg base CX0 k f fd ps (spM K cl g)/\mg x=some (.ref f)/\PySem.W.keepIn K (.ref f)=true/\Binds K fd ps []
noncomputable def AllOf{α:Type}(P:Str->α->Prop):List (Str×α)->Prop
 | []=>True
 | (x,g)::r=>P x g/\AllOf P r
theorem AllOf.at{α:Type}{P:Str->α->Prop}{x:Str}{g:α}:∀{l:List (Str×α)},AllOf P l->l.lookup x=some g->P x g
 | [],_,e=>by cases e
 | (y,g')::r,h,e=>by
  rw[jD] at e;cases q:x==y with
  | true=>rw[q] at e; cases e; rw[eq_of_beq q]; exact h.1
  | false=>rw[q] at e; exact AllOf.at h.2 e
noncomputable def AllNone(mg:Str->Option Value):List Str->Prop
 | []=>True
 | x::r=>mg x=none/\AllNone mg r
theorem AllNone.at{mg:Str->Option Value}{x:Str}:∀{l:List Str},AllNone mg l->x∈l->mg x=none
 | y::r,h,e=>by
  rcases zp.mp e with rfl | e
  .exact h.1
  .exact AllNone.at h.2 e
structure BaseOk(P:Program)(w:World)(K:PySem.W.Frag)(mg:Str->Option Value)(base:Heap)(cl:Cl)(k:Nat)(Γ:RC):Prop where
 fns:AllOf (FnAt P w K mg base cl k) Γ.fns
 con:AllOf (Glob K mg) Γ.con
 tab:AllOf (TabOk K w.params mg) Γ.tab
 bin:AllNone mg Γ.bin
 pw:cl.P=P/\cl.w=w
structure Fits(Γ:RC)(cl:Cl)(k:Nat)(X:Cx):Prop where
 sc:X.env.scope=Γ.sc
 N:X.N=Γ.N
 nd:X.N.Nodup
 fn:Γ.inC=false->∀x,X.fn x=true
 kind:Γ.sc.kind=.function
 calm:X.calm=true
 pass:PassesOwn (model X.prog X.w) X.A X.env X.xe
 room:Room k X.A
 base:BaseOk X.prog X.w X.K X.mg X.base cl k Γ
noncomputable def ixOf(x:Str):List Str->Option Nat
 | []=>none
 | y::r=>if y==x then some 0 else (ixOf x r).map (· + 1)
noncomputable def zfo(Γ:RC)(x:Str):Option ME:=match ixOf x Γ.N with
 | some i=>if varB Γ.sc Γ.N i x=true then some (eVar i) else none
 | none=>match Γ.con.lookup x with
  | some w=>if glB Γ.sc x=true then some (eC w) else none
  | none=>none
noncomputable def zd3:Const->Option ME
 | .none=>some (eC .non)
 | .bool b=>some (eC (.bl b))
 | .int i=>some (eC (.int i))
 | .str x=>some (eC (.str x))
 | _=>none
noncomputable def opB(mu:Bool):Operator->Option (W->W->M W)
 | .Add=>match mu with
  | true=>some addM
  | false=>some addW
 | .Sub=>some subW
 | .Mult=>some mulW
 | .Mod=>some modW
 | .FloorDiv=>some divW
 | .Pow=>some powW
 | _=>none
noncomputable def opC:CmpOp->Option (W->W->M W)
 | .Eq=>some (eqW false)
 | .NotEq=>some (eqW true)
 | .In=>some (inW false)
 | .NotIn=>some (inW true)
 | .Lt=>some ltW
 | .LtE=>some leW
 | .Gt=>some gtW
 | .GtE=>some geW
 | .Is=>some (zaT true)
 | .IsNot=>some (zaT false)
noncomputable def xTg1(Γ:RC):Expr->Option MG
 | .Name x _=>match ixOf x Γ.N with
  | some i=>match Γ.inC with
   | true=>if setC Γ.sc Γ.N i x=true then some (gNm i) else none
   | false=>if setB Γ.sc Γ.N i x=true then some (gNm i) else none
  | none=>none
 | _=>none
noncomputable def xTg(Γ:RC):Expr->Option MG
 | .Tuple es _ _=>if es.all noStar=true then (mapO (xTg1 Γ) es).map gTp else none
 | e=>xTg1 Γ e
noncomputable def tgN:Expr->Nat
 | .Tuple es _ _=>es.length
 | _=>1
section
variable{Γ:RC}{cl:Cl}{k:Nat}{X:Cx}{x:Str}{m:ME}{pos:Pos}
def zhQ(F:Fits Γ cl k X)(h:zfo Γ x=some m):SE X cl (.Name x pos) m:=by
 unfold zfo at h;split at h
 .split at h
  .rename_i i _ q
   cases h;exact v_ q F.sc F.N
  .cases h
 .split at h
  .rename_i w e
   split at h
   .rename_i q
    cases h;exact gb_ q (F.base.con.at e) F.sc
   .cases h
  .cases h
def zf1{c:Const}{j:Nat}(h:zd3 c=some m):SE X cl (.Constant c j pos) m:=by
 unfold zd3 at h;split at h
 .cases h; exact zke
 .cases h; exact zl0
 .cases h; exact zlw
 .cases h; exact zkE
 .cases h
def zkv{mu:Bool}{op:Operator}{f:W->W->M W}(h:opB mu op=some f):OpR X (binaryOp op) (rM X.K cl f):=by
 unfold opB at h;split at h
 .split at h
  .cases h; exact zjW
  .cases h; exact zjc
 .cases h; exact zjm
 .cases h; exact zjk
 .cases h; exact zjU
 .cases h; exact ziU
 .cases h; exact zjF
 .cases h
def zaO{op:CmpOp}{f:W->W->M W}(hu:X.A.units+64<cLine)(h:opC op=some f):OpR X (compareOp op) (rM X.K cl f):=by
 cases op<;>cases h
 .exact zlN hu
 .exact zls hu
 .exact zj5
 .exact zlz
 .exact zkI
 .exact zlF
 .exact zlp
 .exact zgD
 .exact zkq hu
 .exact zhc hu
def zeJ{e:Expr}{g:MG}(F:Fits Γ cl k X)(h:xTg1 Γ e=some g):SG X cl e g:=by
 unfold xTg1 at h;split at h
 .rename_i x p
  split at h
  .rename_i i _
   split at h
   .split at h
    .rename_i q
     cases h;exact gc_ q (F.N▸F.nd) F.sc F.N
    .cases h
   .rename_i c
    split at h
    .rename_i q
     cases h;exact g_ q (F.N▸F.nd) F.sc F.N (F.fn c _)
    .cases h
  .cases h
 .cases h
def zbb{α β:Type}{f:α->Option β}{x:α}{r:List α}{ys:List β}(h:mapO f (x::r)=some ys):∃y zs,f x=some y/\mapO f r=some zs/\ys=y::zs:=by
 unfold mapO at h;split at h
 .rename_i y zs e1 e2
  cases h;exact⟨y,zs,e1,e2,rfl⟩
 .cases h
theorem zeY(F:Fits Γ cl k X):∀{es:List Expr} {gs:List MG},es.all noStar=true->mapO (xTg1 Γ) es=some gs->SGs X cl es gs
 | [],gs,_,h=>by cases h; exact ziT
 | e::es,gs,hn,h=>by
  obtain⟨g,gs',h1,h2,rfl⟩:=zbb h;rw[jt,zg] at hn;exact zhU (zeJ F h1) (zeY F hn.2 h2) (by rw[uJ hn.1]; rfl)
theorem zdJ{α β:Type}{f:α->Option β}:∀{l:List α} {ys:List β},mapO f l=some ys->ys.length=l.length
 | [],ys,h=>by cases h; rfl
 | x::r,ys,h=>by
  obtain⟨y,zs,_,h2,rfl⟩:=zbb h;rw[zr,zr,zdJ h2]
def zdM{e:Expr}{g:MG}(F:Fits Γ cl k X)(h:xTg Γ e=some g):SG X cl e g:=by
 unfold xTg at h;split at h
 .rename_i es n p
  split at h
  .rename_i hn
   rw[zf] at h;obtain⟨gs,h1,rfl⟩:=h;exact zkd F.calm (zeY F hn h1) (by rw[zcn hn,zdJ h1]) (zbK hn)
  .cases h
 .exact zeJ F h
end
theorem ze0:∀{l:List W} {k:List Str},strsOf l=some k->l=k.map .str
 | [],k,e=>by cases e; rfl
 | .str b::r,k,e=>by
  unfold strsOf at e;split at e
  .rename_i l' e'
   cases e;rw[ze0 e']; rfl
  .cases e
 | .non::r,k,e=>by cases e
 | .bl _::r,k,e=>by cases e
 | .int _::r,k,e=>by cases e
 | .tup _::r,k,e=>by cases e
 | .fls _::r,k,e=>by cases e
 | .ref _::r,k,e=>by cases e
 | .fdc _::r,k,e=>by cases e
 | .fn _::r,k,e=>by cases e
noncomputable def joinM(x:W)(ws:List W):M W:=λh=>match x,ws with
 | .str z,[y]=>match (getL h y).bind strsOf with
  | some l=>if JoinOk z l=true then some (.str (Txt.join z l),h) else none
  | none=>none
 | _,_=>none
noncomputable def splitM(x:W)(ws:List W):M W:=λh=>match x,ws with
 | .str z,[.str y]=>if (y.length==0)=false/\z.length<=100000 then some (.fls ((Txt.split z y).map .str),h) else none
 | _,_=>none
noncomputable def uB(f:W->List W->M W)(o:ME)(ms:List ME):ME:=λρ=>bnd (o ρ) λx h=>match x with
 | .str _=>bnd (xX ms ρ) (λws=>f x ws) h
 | _=>none
section
variable{prog:Program}{w:World}{A:Around}{E:Value->Shared->Prop}{s:Shared}{x y:Str}{t u:Tok}{Q:Value->Shared->Prop}
open Builtin Builtin.Str in
def zgE(hy:(y.length==0)=false)(hsz:x.length+2<=sizeLine)
  (h:∀(l:List (Str×Tok)) k,l.map (·.1)=Txt.split x y->Q (.ref s.heap.objs.size) { s with heap:=s.heap.push { cls:=.type "list",data:=.seq (strValues l).toArray },toks:=k }):wpAny (model prog w) A (call (.builtin "str.split") [.str x t,.str y u]) Q E s:=by
 have hn:(partsBetween x (occurrences x y 0 x.length (x.length+1)) y.length).length<=sizeLine:=by
  have e1:=StrLaws.occ_length_le x y 0 x.length (x.length+1);rw[length_partsBetween]; omega
 cases h1:(decide (x.length<y.length)||decide (Builtin.Str.strKind x<Builtin.Str.strKind y))
 .cases hf:(occurrences x y 0 x.length (x.length+1)).isEmpty
  .refine jY yf (vC _ _ _) wY (wO _ _) (meets_str_split_sep x y t u h1 hy hf ∅ hn) ?_
   show wants Q E _ { s with toks:=_,heap:=s.heap.push { cls:=.type "list",data:=.seq (strsFrom s.toks (partsBetween x (occurrences x y 0 x.length (x.length+1)) y.length)).toArray } }
   rw[strsFrom_eq];exact h (PySem.numbered s.toks _) _ ((numbered_texts _ _).trans ((kO (vN h1)).trans (kO (vN hf))).symm)
  .exact jY yf (vC _ _ _) wY (wO _ _) (meets_str_split_not_found x y t u h1 hy hf) (h [(x,t)] s.toks ((kO (vN h1)).trans (zW hf)).symm)
 .exact jY yf (vC _ _ _) wY (wO _ _) (meets_str_split_cannot_occur x y t u h1) (h [(x,t)] s.toks (zW h1).symm)
end
section
variable{X:Cx}{cl:Cl}{o e:Expr}{es:List Expr}{mo:ME}{ms:List ME}{apos cpos:Pos}{pins:List (Addr×Obj)}{σ:L2.St}{H:Hp}{s:Shared}{μ:List Addr}
theorem zdc:∀{k:List Str} {vs:List V} {us:List Value},RWs X.K μ H (k.map .str) vs->Vals vs us->∃l:List (Str×Tok),us=strValues l/\l.map (·.1)=k
 | [],_,_,.nil,.nil=>⟨[],rfl,rfl⟩
 | x::k,_,_,.cons r rs,.cons v vs=>by
  cases r;obtain⟨t,rfl⟩:=v;obtain⟨l,rfl,rfl⟩:=zdc rs vs;exact⟨(x,t)::l,rfl,rfl⟩
theorem zcY:∀(l:List (Str×Tok)),∃vs,RWs X.K μ H ((l.map (·.1)).map .str) vs/\Vals vs (strValues l)
 | []=>⟨[],.nil,.nil⟩
 | (x,t)::l=>by
  obtain⟨vs,a,b⟩:=zcY l;exact⟨.str x::vs,.cons (.str x) a,.cons ⟨t,rfl⟩ b⟩
def zie:MtM X "str.join" (rMm X.K cl joinM):=by
 rintro pins s σ H x xs v us Q I rx rs ⟨μ,h,wx,ws,w,h',R,ax,as,e,k⟩;unfold joinM at e;split at e
 .rename_i z y
  split at e
  .rename_i l el
   split at e
   .rename_i ok
    cases e;obtain⟨l0,e1,e2⟩:=zj.mp el;have el':=ze0 e2;subst el';cases ax.str_of;obtain⟨t,rfl⟩:=rx;cases as with | cons r tt=>cases tt with | nil=>
    obtain⟨d,vs,rfl,sq,ra⟩:=xV R r e1;cases rs with | cons r1 r2=>
    cases r2;cases r1;obtain⟨its,rv,⟨ob,n,g1,g2,g3,g4⟩,_⟩:=I.list sq;obtain⟨ls,rfl,rfl⟩:=zdc ra rv;refine SC.join (l:=ls) ⟨ob,g1,g2,n,g4⟩ rfl ok λt' kk=>⟨.str _,H,I.tok _,⟨t',rfl⟩,k.pure R (.str _)⟩
   .cases e
  .cases e
 .cases e
def zgM:MtM X "str.split" (rMm X.K cl splitM):=by
 rintro pins s σ H x xs v us Q I rx rs ⟨μ,h,wx,ws,w,h',R,ax,as,e,k⟩;unfold splitM at e;split at e
 .rename_i z y
  split at e
  .rename_i ok
   cases e;cases ax.str_of;obtain⟨t,rfl⟩:=rx;cases as with | cons r tt=>cases tt with | nil=>
   cases r.str_of;cases rs with | cons r1 r2=>
   cases r2;obtain⟨u,rfl⟩:=r1;refine zgE ok.1 (by rw[qK]; have:=ok.2; omega) λl kk el=>?_
   obtain⟨vs,q1,q2⟩:=zcY (X:=X) (μ:=μ) (H:=H) l;rw[el] at q1;have lv:vs.length=(Txt.split z y).length:=by rw[q2.length,<-el]; simp[strValues]
   have sp:=PyProof.Rows.split_le z y;refine⟨.ref s.heap.objs.size,_,I.laid (o:=.lst vs) (t':=kk) (λ_ _ q=>zb _ q) (zF _) ⟨by rw[lv,qK]; have:=ok.2; omega,_,0,q2,zH _ rfl⟩,rfl,?_⟩;exact KQ.fls k R q1 (I.hok.fresh (zF _))
  .cases e
 .cases e
def zdE{name:Str}{id:String}{f:W->List W->M W}(slot:Slot "str" name id)(ty:typeOf (.builtin id)=pure (.type "method_descriptor"))(mt:MtM X id (rMm X.K cl f))(ho:SE X cl o mo)(ha:SA X cl (e::es) ms)(hbase:attributeBase o name X.env (eval o X.env)=eval o X.env)
  (hfew:((backTo cpos (starEach (e::es) X.env)).all (λx=>!x.1)&&(backToKw cpos (keywordEach [] X.env)).all (λx=>x.1.isSome)&&decide ((e::es).length+([]:List Keyword).length+(if ([]:List Keyword).isEmpty then 0 else 1)<30))=true)
  (hline:(apos.endLine==cpos.line)=true) (hs:starEach (e::es) X.env=(false,eval e X.env)::starEach es X.env) (hplain:(backTo cpos (starEach es X.env)).any (·.1)=false):SE X cl (.Call (.Attribute o name apos) (e::es) [] cpos) (uB f mo ms):=by
 rintro pins s σ H Q I ⟨μ,h,ρ,w,h',R,er,q,k⟩;obtain⟨x,h1,e1,q⟩:=yM q;split at q
 .rename_i z
  obtain⟨ws,h2,e2,q⟩:=yM q;refine wpAny_Call_method_late hbase hfew hline rfl (thn (ho pins s σ H (λv H1=>∃μ1,Ext μ H μ1 H1/\HR X.K cl μ1 H1 h1/\RW X.K μ1 H1 (.str z) v) I ⟨μ,h,ρ,_,h1,R,er,e1,λμ1 H1 v E1 R1 r=>⟨μ1,E1,R1,r⟩⟩) λv s1 ⟨vx,H1,I1,r1,μ1,E1,R1,rv⟩=>?_);cases rv.str_of;have r1':=r1;obtain⟨t,rfl⟩:=r1;refine⟨"str",id,F.plainAttrs_str,slot,ty,vC _ _ _,(λ_ e=>nomatch e),?_⟩;have hA:=ha cpos pins s1 σ H1 (λxs H2=>∃μ2,Ext μ1 H1 μ2 H2/\HR X.K cl μ2 H2 h2/\RWs X.K μ2 H2 ws xs) I1 ⟨μ1,h1,ρ,ws,h2,R1,er.ext R E1,e2,λμ2 H2 xs E2 R2 rs=>⟨μ2,E2,R2,rs⟩⟩;rw[hs] at hA ⊢;refine qI (by show(false||(backTo cpos (starEach es X.env)).any (·.1))=false; rw[hplain]<;>rfl) (v9 (thn hA λus s2 ⟨xs,H2,I2,r2,μ2,E2,R2,rs⟩=>?_));exact mt pins s2 σ H2 (.str z) xs _ us Q I2 r1' r2 ⟨μ2,h2,.str z,ws,w,h',R2,rv.ext R1 E2,rs,q,k.ext (E1.trans E2)⟩
 .cases q
end
end ML
namespace ML
open PySem PySem.W PySem.Spec PyProof.Rows L2
section
variable{prog:Program}{w:World}{A:Around}{E:Value->Shared->Prop}{s:Shared}{r l:Addr}{items:Array Value}
def zcB{α:Type}{c:Bool}{X Y:Sem α}{Q:α->Shared->Prop}(hc:c=false)(h:wpAny (model prog w) A Y Q E s):wpAny (model prog w) A (if c=true then X else Y) Q E s:=by
 rw[hc,kO (by simp)]; exact h
def zkV{α:Type}{c:Bool}{X Y:Sem α}{Q:α->Shared->Prop}(hc:c=true)(h:wpAny (model prog w) A X Q E s):wpAny (model prog w) A (if c=true then X else Y) Q E s:=by
 rw[hc,zW rfl]; exact h
def zjb:typeLookup (.type "list_reverseiterator") "__len__" = pure none:=by rw[vR,qL]; kernel_rfl
def zhx:typeLookup (.type "list_reverseiterator") "__length_hint__" = pure (some (.builtin "list_reverseiterator.__length_hint__")):=by rw[vR,qL]; kernel_rfl
def zhK{Q:Bool->Shared->Prop}(hT:s.TypeIs (.ref r) "list_reverseiterator")(h:Q false s):wpAny (model prog w) A (Builtin.List.listLengthHint (.ref r)) Q E s:=by
 unfold Builtin.List.listLengthHint;refine za (wpAny_specialOf hT zjb ?_);dsimp only;refine zcB ⋯ ?_;refine zcB ⋯ ?_;refine wpAny_bind (wpAny_specialOf hT zhx ?_);dsimp only;generalize hid:("list_reverseiterator.__length_hint__":String)=idl;rw[show splitId idl=some ("list_reverseiterator","__length_hint__") from by subst hid; decide +kernel];subst hid;dsimp only;refine wpAny_bind (wpAny_isInstance (b:=true) hT (by rw[isSubtype_type]; kernel_rfl) ?_);rw[kO (by decide)];refine zkV ⋯ ?_;refine zcB ⋯ ?_;exact zu h
def zfQ{R:Result->Shared->Prop}(hh:A.handled=none)(hit:s.heap.IsRevIter r l ((items.size:Int)-1))(hl:s.heap.IsList l items)(hne:l≠r)(S:Addr)(hSr:S≠r)(hSl:S≠l)(c0:Nat)(hS:s.heap.get? S=some { cls:=.type "list",data:=.seq #[] c0 })(hn:items.size<=sizeLine)
  (hR:∀h' tk c',(∀b o,b≠S->b≠r->s.heap.get? b=some o->h'.get? b=some o)->h'.get? S=some { cls:=.type "list",dict:=none,data:=.seq items.reverse c',slots:=#[] }->R (.ok (.ret .none)) { s with heap:=h',toks:=tk }) :
  wpAny (model prog w) A.in1 (Builtin.List.listExtendWith (.ref S) (.ref r) .none)
   (λfin s'=>match fin with | .done f=>R (.ok f) s' | .again c'=>c'.quiet=true/\codeAny (model prog w) A c' R s') (λe s'=>R (.error e) s') s:=by
 have hSf:S∉[r,l]:=by simp only[zp,zm,zT,vU]; exact⟨hSr,hSl⟩
 have W:=Walks.listRev (prog:=prog) (w:=w) (A:=A.in1) hh r l hne items;have e0:(items.size:Int)-1-((0:Nat):Int)=(items.size:Int)-1:=by omega
 have key:∀(h:Heap) (c1:Nat),h.IsRevIter r l ((items.size:Int)-1)->h.IsList l items->(∀b o,b≠S->b≠r->s.heap.get? b=some o->h.get? b=some o)->
   h.get? S=some { cls:=.type "list",data:=.seq #[] c1 }->codeAny (model prog w) A (.builtin "list.extend.loop" ⟨[.ref S,.ref r,.none],[]⟩) R { s with heap:=h }:=by
  intro h c1 q1 q2 hk hS1;refine codeAny_extend_loopS W.toS hn S hSf .none items.size 0 _ #[] c1 rfl (vO _) ⟨vO _,by rw[e0]; exact q1,q2⟩ hS1 (ItemsOf.nil _) λs' acc' c' hm hS' hacc=>?_
  rw[Moved.eq_with hm];have er:acc'=items.reverse:=by
   apply Array.ext
   .rw[hacc.1,Array.size_reverse]
   .intro j a1 a2
    have:items[items.size-1-j]?=some acc'[j]:=hacc.2 j acc'[j] (by simp[a1]);rw[Array.getElem_reverse];rw[Array.getElem?_eq_getElem (by rw[hacc.1] at a1; omega)] at this;exact(zN this).symm
  subst er;refine hR s'.heap s'.toks c' (λb o hb hb2 e=>hm.heap b o (λhmem=>?_) (hk b o hb hb2 e)) hS';rcases zp.mp hmem with e' | hmem
  .exact hb e'
  .exact hb2 (qX.mp hmem)
 unfold Builtin.List.listExtendWith;refine za (j8 hit.typeIs ?_);have h1:Builtin.List.listSameRef (.ref S) (.ref r)=false:=by simp[Builtin.List.listSameRef,hSr]
 refine zcB (by rw[h1]; rfl) ?_;refine za (wpAny_pyIter_revIter hit ?_);refine za (kZ (zhK hit.typeIs ?_));refine wpAny_ite_split (λ_=>?_) (λ_=>zu ⟨wL wU _,key s.heap c0 hit hl (λb o _ _ e=>e) hS⟩);refine za (qy ?_);refine za ?_;show wpAny _ _ (updateSeq S (·.push .none) >>= λ_=>updateSeq S (·.pop)) _ _ _
 refine za (q9 hS rfl ?_);have hS2:=jP (Obj.mapSeq (·.push Value.none)) hS rfl;refine q9 hS2 rfl ?_;have hS3:=jP (Obj.mapSeq (·.pop)) hS2 rfl;have oth:∀b o,b≠S->s.heap.get? b=some o->((s.heap.update S (Obj.mapSeq (·.push Value.none))).update S (Obj.mapSeq (·.pop))).get? b=some o:=λb o hb e=>(j5 _ _ (kj hb)).trans ((j5 _ _ (kj hb)).trans e)
 exact zu ⟨wL wU _,key _ _ (hit.at λo e=>oth _ _ (kj hSr) e) (hl.at λo e=>oth _ _ (kj hSl) e) (λb o hb _ e=>oth b o hb e) hS3⟩
def zig{Q:Value->Shared->Prop}(hh:A.handled=none)(hit:s.heap.IsRevIter r l ((items.size:Int)-1))(hl:s.heap.IsList l items)(hne:l≠r)(hn:items.size<=sizeLine)
  (hQ:∀h' tk c',(∀b o,b≠r->s.heap.get? b=some o->h'.get? b=some o)->h'.get? s.heap.objs.size=some { cls:=.type "list",dict:=none,data:=.seq items.reverse c',slots:=#[] }->Q (.ref s.heap.objs.size) { s with heap:=h',toks:=tk }) :
  wpAny (model prog w) A (call (.type "list") [.ref r]) Q E s:=by
 have ltr:r<s.heap.objs.size:=by obtain⟨o,e,_⟩:=hit; exact zy e
 have ltl:l<s.heap.objs.size:=by obtain⟨o,e,_⟩:=hl; exact zy e
 refine callType_codes (Q₁:=λobj s1=>obj=.ref s.heap.objs.size/\s1={ s with heap:=s.heap.push { cls:=.type "list",data:=.seq #[] } }) PySem.F.called_list (PySem.F.typeCall_list_1 _) PySem.F.entry_list_init (code_list_new _ ⟨rfl,rfl⟩) λobj s1 h1=>?_
 obtain⟨rfl,rfl⟩:=h1;have hS:(s.heap.push { cls:=.type "list",data:=.seq #[] }).get? s.heap.objs.size=some { cls:=.type "list",data:=.seq #[] }:=zH _ rfl;refine⟨⟨_,hS,rfl⟩,PySem.F.args_list_init_2 _ _,?_⟩;show wpAny _ _ (do let old <-Builtin.List.listItems (.ref s.heap.objs.size); Builtin.List.listUpdate (.ref s.heap.objs.size) (λ_=>#[]); letGo old.toList.reverse; Builtin.List.listExtendWith (.ref s.heap.objs.size) (.ref r) .none) _ _ _
 refine za ?_;unfold Builtin.List.listItems;refine za (jK hS rfl (zu ?_));show wpAny _ _ (updateSeq s.heap.objs.size (λ_=>#[]) >>= λ_=>letGo (#[]:Array Value).toList.reverse >>= λ_=>Builtin.List.listExtendWith (.ref s.heap.objs.size) (.ref r) .none) _ _ _
 refine za (q9 hS rfl ?_);have hS2:=jP (Obj.mapSeq (λ_=>(#[]:Array Value))) hS rfl;have oth:∀b o,b≠s.heap.objs.size->s.heap.get? b=some o->((s.heap.push { cls:=.type "list",data:=.seq #[] }).update s.heap.objs.size (Obj.mapSeq (λ_=>(#[]:Array Value)))).get? b=some o:=
  λb o hb e=>(j5 _ _ (kj hb)).trans (zb _ e)
 refine za (yp ?_);refine zfQ (A:=A.in1) hh (hit.at λo e=>oth _ _ (zO ltr) e) (hl.at λo e=>oth _ _ (zO ltl) e) hne _ (qi ltr) (qi ltl) _ hS2 hn λh' tk c' hk hS'=>?_
 exact⟨rfl,hQ h' tk c' (λb o hb e=>hk b o (zO (zy e)) hb (oth b o (zO (zy e)) e)) hS'⟩
end
noncomputable def revL(w:W):M W:=λh=>(getL h w).bind λl=>if l.length<=1000 then some (.fls l.reverse,h) else none
theorem RWs.rev{K:PySem.W.Frag}{μ:List Addr}{H:Hp}:∀{l:List W} {vs:List V},RWs K μ H l vs->RWs K μ H l.reverse vs.reverse
 | _,_,.nil=>.nil
 | _,_,.cons r rs=>by
  rw[jd,jd];exact(RWs.rev rs).append (.cons r .nil)
theorem zdQ:∀{vs:List V} {us:List Value},Vals vs us->Vals vs.reverse us.reverse
 | _,_,.nil=>.nil
 | _,_,.cons r rs=>by
  rw[jd,jd];exact(zdQ rs).append (.cons r .nil)
section
variable{X:Cx}{cl:Cl}{a:Expr}{ma:ME}{p p2 p3 pos:Pos}
def zjq(hc:X.calm=true)(hl:X.mg "list" = none)(hs:X.mg "reversed" = none)(ha:SE X cl a ma)(hg:Gl X "list")(hg2:Gl X "reversed")
  (he1:starEach [a] X.env=(false,eval a X.env)::starEach [] X.env) (hpl1:(backTo p3 (starEach [] X.env)).any (·.1)=false)
  (he2:starEach [.Call (.Name "reversed" p2) [a] [] p3] X.env=(false,eval (.Call (.Name "reversed" p2) [a] [] p3) X.env)::starEach [] X.env) (hpl2:(backTo pos (starEach [] X.env)).any (·.1)=false) :
  SE X cl (.Call (.Name "list" p) [.Call (.Name "reversed" p2) [a] [] p3] [] pos) (eUn revL ma):=by
 rintro pins s σ H Q I ⟨μ,h,ρ,w,h',R,er,e,k⟩;obtain⟨x,h1,e1,e⟩:=yM e;have hv:bootBuiltins "reversed" = some (.type "reversed"):=by decide +kernel
 have hv2:bootBuiltins "list" = some (.type "list"):=by decide +kernel
 refine jE (zaa I hg hl hv2 ?_ (by decide) (by decide));refine jr ?_ he2 hpl2;rw[he2];show wpAny _ _ (spliced ((false,eval (.Call (.Name "reversed" p2) [a] [] p3) X.env)::backTo pos (starEach [] X.env))) _ _ s
 have h0:∀{q:Pos},backTo q (starEach [] X.env)=[]:=λ{q}=>rfl
 rw[h0];refine qD ?_;refine jE (zaa I hg2 hs hv ?_ (by decide) (by decide));refine jr ?_ he1 hpl1;rw[he1];show wpAny _ _ (spliced ((false,eval a X.env)::backTo p3 (starEach [] X.env))) _ _ s
 rw[h0];refine qD (thn (ha pins s σ H (λv H1=>∃μ1,Ext μ H μ1 H1/\HR X.K cl μ1 H1 h1/\RW X.K μ1 H1 x v) I ⟨μ,h,ρ,x,h1,R,er,e1,λμ1 H1 v E1 R1 r=>⟨μ1,E1,R1,r⟩⟩) λu s1 ⟨v,H1,I1,r1,μ1,E1,R1,rv⟩=>vL ?_);obtain⟨l,el,e⟩:=zj.mp (show(getL h1 x).bind _=some (w,h') from e);by_cases ok:l.length<=1000
 .rw[zW ok] at e
  cases e;obtain⟨d,vs,rfl,sq,ra⟩:=xV R1 rv el;cases r1;obtain⟨its,rvs,⟨o,n,g1,g2,g3,g4⟩,_⟩:=I1.list sq;have hl1:s1.heap.IsList d its.toArray:=⟨o,g1,g2,n,g4⟩;have lt:d<s1.heap.objs.size:=zy g1;have lenI:its.length=l.length:=by rw[<-rvs.length,ra.length]
  refine call_reversed_list hl1 ?_;have keep1:∀b ob,s1.heap.get? b=some ob->(s1.heap.push (revObj d ((its.toArray.size:Int)-1))).get? b=some ob:=λb ob q=>zb _ q
  refine vL (zig (s:={ s1 with heap:=s1.heap.push (revObj d ((its.toArray.size:Int)-1)) }) (items:=its.toArray) (I1.ok.hd hc) ⟨_,zH _ rfl,rfl,rfl⟩ (hl1.push _) (zO lt) (by simp[qK]; omega) λh2 tk c' kp ob=>?_);have sz:(s1.heap.push (revObj d ((its.toArray.size:Int)-1))).objs.size=s1.heap.objs.size+1:=jQ ..;have keep2:∀b ob,s1.heap.get? b=some ob->h2.get? b=some ob:=λb ob q=>kp b ob (zO (zy q)) (keep1 b ob q)
  have le1:s1.heap.objs.size<=(s1.heap.push (revObj d ((its.toArray.size:Int)-1))).objs.size:=by rw[sz]; exact qM _
  have q2:=zdQ rvs;refine⟨.ref _,_,I1.laid (o:=.lst vs.reverse) (t':=tk) keep2 le1 ⟨by rw[qN,rvs.length,lenI,qK]; omega,_,c',q2,by simpa using ob⟩,rfl,?_⟩;exact KQ.fls (k.ext E1) R1 ra.rev (I1.hok.fresh le1)
 .rw[kO ok] at e; cases e
end
end ML
namespace ML
open PySem PySem.Spec PyProof.Rows L2
noncomputable def za4(E:Expr->Option ME)(es:List Expr):Option (List ME):=if es.all noStar=true then mapO E es else none
noncomputable def zah(Γ:RC)(x:Str):Bool:=Γ.bin.any (· == x)
noncomputable def tyOf(x:Str):Option Ty:=if x=="int" then some .int else if x=="str" then some .str else if x=="bool" then some .bool else if x=="tuple" then some .tuple else if x=="list" then some .list else if x=="dict" then some .dict else none
noncomputable def zb3(mu:Bool)(x:Str):Option (List W->M W):=
 if x=="len" then some lenW else if x=="all" then some allW else if x=="any" then some anyW else if x=="sum" then some sumW
 else if x=="int" then some intW else if x=="str" then some strW else if x=="tuple" then some zab else if x=="dict" then some zbx
 else if x=="list" then (match mu with
  | true=>some zfJ
  | false=>some zaC)
 else none
noncomputable def zdC:List Expr->Option Expr
 | [.Call (.Name y _) [a] [] _]=>if y=="reversed" then some a else none
 | _=>none
noncomputable def zdB(Γ:RC):List Expr->Option (Expr×Ty)
 | [a,.Name y _]=>if (glB Γ.sc y&&zah Γ y&&noStar a)=true then (tyOf y).map λT=>(a,T) else none
 | _=>none
noncomputable def zek(Γ:RC)(E:Expr->Option ME)(mu:Bool)(x:Str)(as:List Expr):Option ME:=
 if x=="isinstance" then (zdB Γ as).bind λp=>(E p.1).map (eUn (isW p.2))
 else match as with
  | []=>none
  | _::_=>(zb3 mu x).bind λg=>(za4 E as).map (yJ g)
noncomputable def zef(Γ:RC)(E:Expr->Option ME)(mu:Bool)(x:Str)(as:List Expr):Option ME:=
 if glB Γ.sc x=true then (match Γ.fns.lookup x with
  | some g=>(za4 E as).map (yJ g)
  | none=>if zah Γ x=true then (match zdC as with
    | some a=>if (x=="list" && glB Γ.sc "reversed" && zah Γ "reversed" && noStar a)=true then (E a).map (eUn revL) else none
    | none=>zek Γ E mu x as) else none) else none
noncomputable def zfS(E EM:Expr->Option ME)(o:Expr)(m:Str)(apos:Pos)(as:List Expr)(pos:Pos):Option ME:=
 if (zgu o&&(apos.endLine==pos.line)&&as.all noStar&&decide (as.length<30))=true then (E o).bind λmo=>match as with
  | []=>if m=="pop" then some (yR popM mo []) else none
  | a::r=>if m=="append" then (mapO EM (a::r)).map (yR xP mo)
   else if m=="extend" then (mapO E (a::r)).map (yR uE mo)
   else if m=="join" then (mapO E (a::r)).map (uB joinM mo)
   else if m=="split" then (mapO E (a::r)).map (uB splitM mo)
   else if m=="get" then (match r with
    | [b]=>(E a).bind λma=>(E b).map (zct mo ma)
    | _=>none)
   else none
 else none
section
variable{Γ:RC}{cl:Cl}{k:Nat}{X:Cx}{x:Str}{m:ME}{pos p:Pos}{E:Expr->Option ME}{as:List Expr}{mu:Bool}
theorem uR:∀{es:List Expr} {ms:List ME},(∀e m,E e=some m->SE X cl e m)->es.all noStar=true->mapO E es=some ms->SA X cl es ms
 | [],ms,_,_,h=>by cases h; exact zb9
 | e::es,ms,hE,hn,h=>by
  obtain⟨m,ms',h1,h2,rfl⟩:=zbb h;rw[jt,zg] at hn;exact zaQ (hE _ _ h1) (uR hE hn.2 h2) (yW hn.1)
def zat{es:List Expr}{ms:List ME}(hE:∀e m,E e=some m->SE X cl e m)(h:za4 E es=some ms):es.all noStar=true/\SA X cl es ms:=by
 unfold za4 at h;split at h
 .rename_i hn
  exact⟨hn,uR hE hn h⟩
 .cases h
def u5(F:Fits Γ cl k X)(h:zah Γ x=true):X.mg x=none:=by
 unfold zah at h;obtain⟨y,hy,e⟩:=List.any_eq_true.mp h;rw[<-eq_of_beq e];exact F.base.bin.at hy
def zi0{T:Ty}(h:tyOf x=some T):bootBuiltins x=some (.type T.name):=by
 unfold tyOf at h;split at h
 .rename_i q; rw[eq_of_beq q]; cases h; exact zeE
 split at h
 .rename_i q; rw[eq_of_beq q]; cases h; exact zeG
 split at h
 .rename_i q; rw[eq_of_beq q]; cases h; exact zhN
 split at h
 .rename_i q; rw[eq_of_beq q]; cases h; exact zc9
 split at h
 .rename_i q; rw[eq_of_beq q]; cases h; exact zbZ
 split at h
 .rename_i q; rw[eq_of_beq q]; cases h; exact zd2
 .cases h
def zeq{e:Expr}{es:List Expr}{ms:List ME}{g:List W->M W}(F:Fits Γ cl k X)(hg:glB Γ.sc x=true)(hb:zah Γ x=true)(h:zb3 mu x=some g)(hn:(e::es).all noStar=true)(ha:SA X cl (e::es) ms):SE X cl (.Call (.Name x p) (e::es) [] pos) (yJ g ms):=by
 have hm:=u5 F hb;rw[jt,zg] at hn;have h1:=yW (es:=es) (env:=X.env) hn.1;have h2:=xH (pos:=pos) (env:=X.env) hn.2;unfold zb3 at h;split at h
 .rename_i q; have q:=eq_of_beq q; subst q; cases h; exact cB_ hg zgn hm PySem.boot_len ha F.sc h1 h2
 split at h
 .rename_i q; have q:=eq_of_beq q; subst q; cases h; exact cB_ hg (zhi F.calm) hm ML.boot_all ha F.sc h1 h2
 split at h
 .rename_i q; have q:=eq_of_beq q; subst q; cases h; exact cB_ hg (zgt F.calm) hm ML.boot_any ha F.sc h1 h2
 split at h
 .rename_i q; have q:=eq_of_beq q; subst q; cases h; exact cB_ hg (zgB F.calm) hm ML.boot_sum ha F.sc h1 h2
 split at h
 .rename_i q; have q:=eq_of_beq q; subst q; cases h; exact cT_ hg zgf hm zeE ha F.sc h1 h2
 split at h
 .rename_i q; have q:=eq_of_beq q; subst q; cases h; exact cT_ hg zf0 hm zeG ha F.sc h1 h2
 split at h
 .rename_i q; have q:=eq_of_beq q; subst q; cases h; exact cT_ hg zex hm zc9 ha F.sc h1 h2
 split at h
 .rename_i q; have q:=eq_of_beq q; subst q; cases h; exact cT_ hg (zfv F.calm) hm zd2 ha F.sc h1 h2
 split at h
 .rename_i q
  have q:=eq_of_beq q; subst q;split at h
  .cases h; exact cT_ hg zfb hm zbZ ha F.sc h1 h2
  .cases h; exact cT_ hg zfa hm zbZ ha F.sc h1 h2
 .cases h
def zhg{a:Expr}{T:Ty}(h:zdB Γ as=some (a,T)):∃y p2,as=[a,.Name y p2]/\glB Γ.sc y=true/\zah Γ y=true/\noStar a=true/\tyOf y=some T:=by
 unfold zdB at h;split at h
 .rename_i a' y p2
  split at h
  .rename_i q
   rw[zf] at h;obtain⟨T',e,z⟩:=h;cases z;simp only[zg] at q;exact⟨y,p2,rfl,q.1.1,q.1.2,q.2,e⟩
  .cases h
 .cases h
def zf8(F:Fits Γ cl k X)(hE:∀e m,E e=some m->SE X cl e m)(hg:glB Γ.sc x=true)(hb:zah Γ x=true)(h:zek Γ E mu x as=some m):SE X cl (.Call (.Name x p) as [] pos) m:=by
 unfold zek at h;split at h
 .rename_i q
  have q:=eq_of_beq q; subst q;rw[zj] at h;obtain⟨⟨a,T⟩,e,h⟩:=h;rw[zf] at h;obtain⟨ma,e2,rfl⟩:=h;obtain⟨y,p2,rfl,g2,b2,ns,ty⟩:=zhg e;exact isi_ T hg g2 (hE _ _ e2) (u5 F hb) (u5 F b2) (zi0 ty) F.sc (yW ns) (yW rfl) (xH rfl)
 .split at h
  .cases h
  .rw[zj] at h
   obtain⟨g,e,h⟩:=h;rw[zf] at h;obtain⟨ms,e2,rfl⟩:=h;obtain⟨hn,ha⟩:=zat hE e2;exact zeq F hg hb e hn ha
def zhf{a:Expr}(h:zdC as=some a):∃p2 p3,as=[.Call (.Name "reversed" p2) [a] [] p3]:=by
 unfold zdC at h;split at h
 .rename_i y p2 a' p3
  split at h
  .rename_i q
   cases h;rw[eq_of_beq q];exact⟨p2,p3,rfl⟩
  .cases h
 .cases h
def zgT(F:Fits Γ cl k X)(hE:∀e m,E e=some m->SE X cl e m)(h:zef Γ E mu x as=some m):SE X cl (.Call (.Name x p) as [] pos) m:=by
 unfold zef at h;split at h
 .rename_i hg
  split at h
  .rename_i g e
   rw[zf] at h;obtain⟨ms,e2,rfl⟩:=h;obtain⟨hn,ha⟩:=zat hE e2;obtain⟨f,fd,ps,fo,hm,hk,hb⟩:=F.base.fns.at e;cases as with
   | nil=>
    have:ms=[]:=by
     cases e2; rfl
    subst this;exact c0_ hg fo F.room hm hk hb F.sc
   | cons a r=>
    rw[jt,zg] at hn;exact c_ hg fo F.room hm hk hb ha F.sc (yW hn.1) (xH hn.2)
  .split at h
   .rename_i hb
    split at h
    .rename_i a e
     split at h
     .rename_i q
      simp only[zg] at q;rw[zf] at h;obtain⟨ma,e2,rfl⟩:=h;obtain⟨p2,p3,rfl⟩:=zhf e;have hx:=eq_of_beq q.1.1.1;subst hx;exact zjq F.calm (u5 F hb) (u5 F q.1.2) (hE _ _ e2) (xn hg F.sc).1 (xn q.1.1.2 F.sc).1 (yW q.2) (xH rfl) (yW rfl) (xH rfl)
     .cases h
    .exact zf8 F hE hg hb h
   .cases h
 .cases h
def zhW{o:Expr}{nm:Str}{apos:Pos}(F:Fits Γ cl k X){EM:Expr->Option ME}(hE:∀e m,E e=some m->SE X cl e m)(hM:∀e m,EM e=some m->SE X cl e m)(h:zfS E EM o nm apos as pos=some m):SE X cl (.Call (.Attribute o nm apos) as [] pos) m:=by
 unfold zfS at h;split at h
 .rename_i q
  simp only[zg] at q;obtain⟨⟨⟨q1,q2⟩,q3⟩,q4⟩:=q;rw[zj] at h;obtain⟨mo,eo,h⟩:=h;split at h
  .split at h
   .rename_i z
    rw[eq_of_beq z];cases h;exact zkk (hE _ _ eo) (zaj q1) q2
   .cases h
  .rename_i a r
   have hn:=q3;rw[jt,zg] at hn;split at h
   .rename_i z
    rw[eq_of_beq z];rw[zf] at h;obtain⟨ms,e2,rfl⟩:=h;exact zgr (hE _ _ eo) (uR hM q3 e2) (zaj q1) (zbi q3 q4) q2 (yW hn.1) (xH hn.2)
   split at h
   .rename_i z
    rw[eq_of_beq z];rw[zf] at h;obtain⟨ms,e2,rfl⟩:=h;exact zgS (hE _ _ eo) (uR hE q3 e2) (zaj q1) (zbi q3 q4) q2 (yW hn.1) (xH hn.2)
   split at h
   .rename_i z
    rw[eq_of_beq z];rw[zf] at h;obtain⟨ms,e2,rfl⟩:=h;exact zdE PySem.F.slot_str_join PySem.F.type_str_join zie (hE _ _ eo) (uR hE q3 e2) (zaj q1) (zbi q3 q4) q2 (yW hn.1) (xH hn.2)
   split at h
   .rename_i z
    rw[eq_of_beq z];rw[zf] at h;obtain⟨ms,e2,rfl⟩:=h;exact zdE PySem.F.slot_str_split PySem.F.type_str_split zgM (hE _ _ eo) (uR hE q3 e2) (zaj q1) (zbi q3 q4) q2 (yW hn.1) (xH hn.2)
   split at h
   .rename_i z
    rw[eq_of_beq z];split at h
    .rename_i b
     rw[zj] at h;obtain⟨ma,e1,h⟩:=h;rw[zf] at h;obtain⟨mb,e2,rfl⟩:=h;have hb:noStar b=true:=by simpa using hn.2
     exact zhZ F.room.units (hE _ _ eo) (hE _ _ e1) (hE _ _ e2) ⟨zaj q1,zbi q3 q4,q2,by rw[zaw hn.1,zaw hb,zaY]; rfl⟩
    .cases h
   .cases h
 .cases h
end
noncomputable def zgx(Γ:RC):Expr->Bool
 | .Constant (.str _) _ _=>true
 | .Name x _=>Γ.txt.any (· == x)
 | _=>false
noncomputable def zix(Γ:RC):Expr->Bool
 | .Subscript e (.Slice _ _ _ _) _=>zgx Γ e
 | e=>zgx Γ e
noncomputable def isTup:Expr->Bool
 | .Tuple ..=>true
 | _=>false
noncomputable def zd7(Γ:RC)(E:Expr->Option ME)(tg:Expr)(x:Str)(as:List Expr):Option MI:=
 if (glB Γ.sc x&&zah Γ x&&as.all noStar)=true then (match as with
  | [e]=>if x=="range" then (E e).map λm=>iRng [m]
   else if (x=="enumerate" && isTup tg)=true then (E e).map λm=>zfs [m]
   else none
  | [e,e2]=>if (x=="zip" && isTup tg)=true then (E e).bind λm=>(E e2).map λm2=>iZip [m,m2] else none
  | _=>none) else none
noncomputable def zgP(Γ:RC)(E:Expr->Option ME)(tg:Expr):Expr->Option MI
 | .Call (.Name x _) as [] _=>zd7 Γ E tg x as
 | _=>none
noncomputable def zdo(Γ:RC)(E:Expr->Option ME)(tg it:Expr):Option MI:=match zgP Γ E tg it with
 | some m=>some m
 | none=>(E it).map λm=>match zix Γ it with
  | true=>iStr m
  | false=>iSeq m
section
variable{Γ:RC}{cl:Cl}{k:Nat}{X:Cx}{x:Str}{pos p:Pos}{E:Expr->Option ME}{as:List Expr}{tg it:Expr}{mi:MI}
def zem(h:isTup tg=true):∃es n tp,tg=.Tuple es n tp:=by
 unfold isTup at h;split at h
 .exact⟨_,_,_,rfl⟩
 .cases h
def zf6(F:Fits Γ cl k X)(hE:∀e m,E e=some m->SE X cl e m)(h:zd7 Γ E tg x as=some mi):SI X cl tg (.Call (.Name x p) as [] pos) mi:=by
 unfold zd7 at h;split at h
 .rename_i q
  simp only[zg] at q;obtain⟨⟨q1,q2⟩,q3⟩:=q;split at h
  .rename_i e
   have hn:noStar e=true:=by simpa using q3
   split at h
   .rename_i z
    have z:=eq_of_beq z; subst z;rw[zf] at h;obtain⟨m,e1,rfl⟩:=h;exact rng_ q1 (u5 F q2) (zaQ (hE _ _ e1) zb9 (yW hn)) F.sc (by rw[yW hn,zaY])
   split at h
   .rename_i z
    rw[zg] at z;obtain⟨es,n,tp,rfl⟩:=zem z.2;have z:=eq_of_beq z.1; subst z;rw[zf] at h;obtain⟨m,e1,rfl⟩:=h;exact enu_ q1 (u5 F q2) (zaQ (hE _ _ e1) zb9 (yW hn)) F.sc (yW hn) (xH rfl)
   .cases h
  .rename_i e e2
   rw[jt,zg] at q3;have hn2:noStar e2=true:=by simpa using q3.2
   split at h
   .rename_i z
    rw[zg] at z;obtain⟨es,n,tp,rfl⟩:=zem z.2;have z:=eq_of_beq z.1; subst z;rw[zj] at h;obtain⟨m,e1,h⟩:=h;rw[zf] at h;obtain⟨m2,e3,rfl⟩:=h;exact zip_ q1 (u5 F q2) (zaQ (hE _ _ e1) (zaQ (hE _ _ e3) zb9 (yW hn2)) (yW q3.1)) F.sc (yW q3.1) (xH q3.2)
   .cases h
  .cases h
 .cases h
def zej(F:Fits Γ cl k X)(hE:∀e m,E e=some m->SE X cl e m)(h:zdo Γ E tg it=some mi):SI X cl tg it mi:=by
 unfold zdo at h;split at h
 .rename_i m e
  cases h;unfold zgP at e;split at e
  .exact zf6 F hE e
  .cases e
 .rw[zf] at h
  obtain⟨m,e1,h⟩:=h;cases q:zix Γ it with
  | true=>rw[q] at h; subst h; exact zkQ (hE _ _ e1)
  | false=>rw[q] at h; subst h; exact zk7 (hE _ _ e1)
end
noncomputable def zd6(T:Expr->Option MT):List Expr->Option MT
 | []=>some uO
 | [c]=>T c
 | _=>none
structure CompR where
 mi:MI
 nl:Nat
 ks:List Nat
 g:MG
 t:MT
 m:ME
noncomputable def RC.inner(Γ:RC)(scope:Scope)(N':List Str):RC:={ Γ with sc:=relS Γ.sc scope,N:=N',inC:=true }
noncomputable def zgm(Γ:RC)(E:RC->Bool->Expr->Option ME)(T:RC->Expr->Option MT)(elt tg it:Expr)(ifs:List Expr)(scope:Scope)(N':List Str):Option CompR:=
 if (zdk it&&zdY N')=true then (mapO (λx=>ixOf x Γ.N) (N'.drop (tgN tg))).bind λks=>
  if uQ Γ.sc Γ.N scope N' (tgN tg) ks=true then (zdo Γ (E Γ false) tg it).bind λmi=>(xTg (Γ.inner scope N') tg).bind λg=>(zd6 (T (Γ.inner scope N')) ifs).bind λt=>(E (Γ.inner scope N') false elt).map λm=>⟨mi,tgN tg,ks,g,t,m⟩
  else none
 else none
noncomputable def zdm(Γ:RC)(E:RC->Bool->Expr->Option ME)(T:RC->Expr->Option MT)(elt:Expr)(gens:List Comprehension)(scope:Scope)(pos:Pos):Option CompR:=match gens with
 | [⟨tg,it,ifs,ia⟩]=>match Γ.cmp.lookup (pos.line,pos.col) with
  | some N'=>if ia=0 then zgm Γ E T elt tg it ifs scope N' else none
  | none=>none
 | _=>none
section
variable{Γ:RC}{cl:Cl}{k:Nat}{X:Cx}{E:RC->Bool->Expr->Option ME}{T:RC->Expr->Option MT}{elt:Expr}{gens:List Comprehension}{scope:Scope}{pos:Pos}{r:CompR}
theorem Fits.inner(F:Fits Γ cl k X){N':List Str}(hN:N'.Nodup)(hk:scope.kind=.function)(cs:List (Str×Addr))(C:Addr)(s₀:Shared)(H₀:Hp)(ex:List Addr):Fits (Γ.inner scope N') cl k (cxC X scope cs C N' s₀ H₀ ex) where
 sc:=by
  show relabel scope X.env=relS Γ.sc scope
  rw[<-F.sc];rfl
 N:=rfl
 nd:=hN
 fn:=λh=>by cases h
 kind:=hk
 calm:=F.calm
 pass:=vV
 room:=F.room
 base:=⟨F.base.fns,F.base.con,F.base.tab,F.base.bin,F.base.pw⟩
def zgc{t:Expr->Option MT}{ifs:List Expr}{m:MT}(hT:∀e m,t e=some m->ST X cl e m)(h:zd6 t ifs=some m):STs X cl ifs m:=by
 unfold zd6 at h;split at h
 .cases h; exact zjO
 .exact zjj (hT _ _ h)
 .cases h
structure CompG(X:Cx)(cl:Cl)(elt:Expr)(gens:List Comprehension)(scope:Scope)(r:CompR):Prop where
 ex:∃tg it ifs N',gens=[⟨tg,it,ifs,0⟩]/\uQ X.env.scope X.N scope N' r.nl r.ks=true/\zdk it=true/\SI X cl tg it r.mi/\(∀cs C s₀ H₀ ex,SG (cxC X scope cs C N' s₀ H₀ ex) cl tg r.g)/\(∀cs C s₀ H₀ ex,STs (cxC X scope cs C N' s₀ H₀ ex) cl ifs r.t)/\∀cs C s₀ H₀ ex,SE (cxC X scope cs C N' s₀ H₀ ex) cl elt r.m
def zdx(F:Fits Γ cl k X)(hE:∀Γ X,Fits Γ cl k X->∀mu e m,E Γ mu e=some m->SE X cl e m)(hT:∀Γ X,Fits Γ cl k X->∀e m,T Γ e=some m->ST X cl e m)(h:zdm Γ E T elt gens scope pos=some r):CompG X cl elt gens scope r:=by
 unfold zdm at h;split at h
 .rename_i tg it ifs ia
  split at h
  .rename_i N' _
   split at h
   .rename_i z
    subst z;unfold zgm at h;split at h
    .rename_i q
     rw[zg] at q;rw[zj] at h;obtain⟨ks,e1,h⟩:=h;split at h
     .rename_i ok
      rw[zj] at h;obtain⟨mi,e2,h⟩:=h;rw[zj] at h;obtain⟨g,e3,h⟩:=h;rw[zj] at h;obtain⟨t,e4,h⟩:=h;rw[zf] at h;obtain⟨m,e5,rfl⟩:=h;have Fi:=λcs C s₀ H₀ ex=>F.inner (scope:=scope) (ziI q.2) (u6 ok).kind cs C s₀ H₀ ex
      exact⟨tg,it,ifs,N',rfl,by rw[F.sc,F.N]; exact ok,q.1,zej F (hE _ _ F false) e2,λcs C s₀ H₀ ex=>zdM (Fi cs C s₀ H₀ ex) e3,λcs C s₀ H₀ ex=>zgc (hT _ _ (Fi cs C s₀ H₀ ex)) e4,λcs C s₀ H₀ ex=>hE _ _ (Fi cs C s₀ H₀ ex) _ _ _ e5⟩
     .cases h
    .cases h
   .cases h
  .cases h
 .cases h
end
noncomputable def tabOf(Γ:RC):CmpOp->Expr->Option (Bool×List (Str×W))
 | .In,.Name x _=>if glB Γ.sc x=true then (Γ.tab.lookup x).map λl=>(false,l) else none
 | .NotIn,.Name x _=>if glB Γ.sc x=true then (Γ.tab.lookup x).map λl=>(true,l) else none
 | _,_=>none
noncomputable def zfD(Γ:RC)(E:Expr->Option ME)(a:Expr)(op:CmpOp)(b:Expr):Option ME:=match tabOf Γ op b with
 | some p=>(E a).map (eUn (tabIn p.1 p.2))
 | none=>if behindInMarks op b=true then none else (opC op).bind λf=>(E a).bind λma=>(E b).map λmb=>eOp f ma mb
noncomputable def zfx(E:Expr->Option ME)(a:Expr)(op op':CmpOp)(b c:Expr):Option ME:=
 if lastMarks [op,op'] [b,c]=true then none else (opC op).bind λf=>(opC op').bind λg=>(E a).bind λma=>(E b).bind λmb=>(E c).map λmc=>uU f g ma mb mc
noncomputable def xCmp(Γ:RC)(E:Expr->Option ME)(a:Expr)(ops:List CmpOp)(bs:List Expr):Option ME:=match ops,bs with
 | [op],[b]=>zfD Γ E a op b
 | [op,op'],[b,c]=>zfx E a op op' b c
 | _,_=>none
noncomputable def xOpt(E:Expr->Option ME):Option Expr->Option (Option ME)
 | none=>some none
 | some e=>(E e).map some
noncomputable def zdy(E:Expr->Option ME)(ma:ME)(lo hi st:Option Expr):Option ME:=match st with
 | none=>(xOpt E lo).bind λml=>(xOpt E hi).map λmh=>eSl ma ml mh
 | _=>none
noncomputable def zcK(Γ:RC)(E:Expr->Option ME)(a b:Expr):Option ME:=match a with
 | .Name x _=>if (glB Γ.sc x&&zbs b)=true then (match Γ.tab.lookup x with
  | some l=>(E b).map (eUn (zac l))
  | none=>none) else none
 | _=>none
noncomputable def xSub(Γ:RC)(E:Expr->Option ME)(a b:Expr):Option ME:=match zcK Γ E a b with
 | some m=>some m
 | none=>(E a).bind λma=>match b with
  | .Slice lo hi st _=>zdy E ma lo hi st
  | b=>(E b).map (eOp ixW ma)
noncomputable def zfG(Γ:RC)(E:Expr->Option ME)(a b:Expr):Bool->Option ME
 | false=>xSub Γ E a b
 | true=>match b with
  | .Slice lo hi none _=>(E a).bind λma=>(xOpt E lo).bind λml=>(xOpt E hi).map λmh=>eSlM ma ml mh
  | b=>xSub Γ E a b
noncomputable def zcw(op:BoolOp)(E:Expr->Option ME):List Expr->Option ME
 | []=>none
 | [a]=>E a
 | a::r=>(E a).bind λma=>(zcw op E r).map λmb=>match op with
  | .And=>eAnd ma mb
  | .Or=>eOr ma mb
noncomputable def zcx(op:BoolOp)(T:Expr->Option MT):List Expr->Option MT
 | []=>none
 | [a]=>T a
 | a::r=>(T a).bind λma=>(zcx op T r).map λmb=>match op with
  | .And=>zaV ma mb
  | .Or=>tOrM ma mb
noncomputable def zfA(E:Expr->Option ME)(mu:Bool)(ks:List (Option Expr))(vs:List Expr):Option ME:=match ks,vs with
 | [],[]=>match mu with
  | true=>some ziA
  | false=>some (eC (.fdc []))
 | _,_=>none
noncomputable def zce(mu:Bool)(r:CompR):ME:=match mu with
 | true=>zbo r.mi r.nl r.ks r.g r.t r.m
 | false=>uf r.mi r.nl r.ks r.g r.t r.m
noncomputable def ze9(E:RC->Bool->Expr->Option ME)(T:RC->Expr->Option MT)(Γ:RC)(mu:Bool):Expr->Option ME
 | .Name x _=>zfo Γ x
 | .Constant c _ _=>zd3 c
 | .UnaryOp .Not a _=>(E Γ false a).map eNot
 | .UnaryOp .USub a _=>(E Γ false a).map (eUn negW)
 | .BinOp a op b _=>(opB mu op).bind λf=>(E Γ false a).bind λma=>(E Γ false b).map (eOp f ma)
 | .Compare a ops bs _=>xCmp Γ (E Γ false) a ops bs
 | .BoolOp op vs _=>zcw op (E Γ false) vs
 | .IfExp t a b _=>(T Γ t).bind λmt=>(E Γ false a).bind λma=>(E Γ false b).map (eIf mt ma)
 | .Tuple es _ _=>(za4 (E Γ false) es).map (yJ tupW)
 | .List es _=>match mu with
  | true=>(za4 (E Γ true) es).map (yJ lstW)
  | false=>(za4 (E Γ false) es).map (yJ flsW)
 | .Dict ks vs _=>zfA (E Γ false) mu ks vs
 | .Subscript a b _=>zfG Γ (E Γ false) a b mu
 | .Call (.Name x _) as [] _=>zef Γ (E Γ false) mu x as
 | .Call (.Attribute o nm apos) as [] pos=>zfS (E Γ false) (E Γ true) o nm apos as pos
 | .ListComp elt gens scope pos=>(zdm Γ E T elt gens scope pos).map (zce mu)
 | _=>none
noncomputable def stepT(E:RC->Bool->Expr->Option ME)(T:RC->Expr->Option MT)(Γ:RC):Expr->Option MT
 | .BoolOp op vs _=>zcx op (T Γ) vs
 | .UnaryOp .Not a _=>(T Γ a).map um
 | .Compare a ops bs _=>(xCmp Γ (E Γ false) a ops bs).map tVal
 | e=>if plainT e=true then (E Γ false e).map tVal else none
noncomputable def cET:Nat->(RC->Bool->Expr->Option ME)×(RC->Expr->Option MT)
 | 0=>(λ_ _ _=>none,λ_ _=>none)
 | n+1=>(ze9 (cET n).1 (cET n).2,stepT (cET n).1 (cET n).2)
section
variable{Γ:RC}{cl:Cl}{k:Nat}{X:Cx}{m:ME}{pos p:Pos}{E:Expr->Option ME}{T:Expr->Option MT}{a b:Expr}{mu:Bool}
def zhF{op:CmpOp}(F:Fits Γ cl k X)(hE:∀e m,E e=some m->SE X cl e m)(h:zfD Γ E a op b=some m):SE X cl (.Compare a [op] [b] pos) m/\ST X cl (.Compare a [op] [b] pos) (tVal m):=by
 unfold zfD at h;split at h
 .rename_i q e
  rw[zf] at h;obtain⟨ma,e1,rfl⟩:=h;unfold tabOf at e;split at e
  .split at e
   .rename_i hg
    rw[zf] at e;obtain⟨l,e2,rfl⟩:=e;exact⟨tI_ hg F.room.units (F.base.tab.at e2) (hE _ _ e1) F.sc,tIt_ hg F.room.units (F.base.tab.at e2) (hE _ _ e1) F.sc⟩
   .cases e
  .split at e
   .rename_i hg
    rw[zf] at e;obtain⟨l,e2,rfl⟩:=e;exact⟨tN_ hg F.room.units (F.base.tab.at e2) (hE _ _ e1) F.sc,tNt_ hg F.room.units (F.base.tab.at e2) (hE _ _ e1) F.sc⟩
   .cases e
  .cases e
 .split at h
  .cases h
  .rename_i hm
   rw[Bool.not_eq_true] at hm;rw[zj] at h;obtain⟨f,e0,h⟩:=h;rw[zj] at h;obtain⟨ma,e1,h⟩:=h;rw[zf] at h;obtain⟨mb,e2,rfl⟩:=h;exact⟨zlu (zaO F.room.units e0) (hE _ _ e1) (hE _ _ e2) hm,zln (zaO F.room.units e0) (hE _ _ e1) (hE _ _ e2) hm⟩
def zh9{op op':CmpOp}{c:Expr}(F:Fits Γ cl k X)(hE:∀e m,E e=some m->SE X cl e m)(h:zfx E a op op' b c=some m):SE X cl (.Compare a [op,op'] [b,c] pos) m/\ST X cl (.Compare a [op,op'] [b,c] pos) (tVal m):=by
 unfold zfx at h;split at h
 .cases h
 .rename_i hm
  rw[Bool.not_eq_true] at hm;rw[zj] at h;obtain⟨f,e0,h⟩:=h;rw[zj] at h;obtain⟨g,e01,h⟩:=h;rw[zj] at h;obtain⟨ma,e1,h⟩:=h;rw[zj] at h;obtain⟨mb,e2,h⟩:=h;rw[zf] at h;obtain⟨mc,e3,rfl⟩:=h;exact⟨zho (zaO F.room.units e0) (zaO F.room.units e01) (hE _ _ e1) (hE _ _ e2) (hE _ _ e3) hm,zhE (zaO F.room.units e0) (zaO F.room.units e01) (hE _ _ e1) (hE _ _ e2) (hE _ _ e3) hm⟩
def zeC{ops:List CmpOp}{bs:List Expr}(F:Fits Γ cl k X)(hE:∀e m,E e=some m->SE X cl e m)(h:xCmp Γ E a ops bs=some m):SE X cl (.Compare a ops bs pos) m/\ST X cl (.Compare a ops bs pos) (tVal m):=by
 unfold xCmp at h;split at h
 .exact zhF F hE h
 .exact zh9 F hE h
 .cases h
def zby{o:Option Expr}{mo:Option ME}(hE:∀e m,E e=some m->SE X cl e m)(h:xOpt E o=some mo):SO X cl o mo:=by
 unfold xOpt at h;split at h
 .cases h; exact ziZ
 .rw[zf] at h
  obtain⟨m,e1,rfl⟩:=h;exact zjN (hE _ _ e1)
def zgj{ma:ME}{lo hi st:Option Expr}(hE:∀e m,E e=some m->SE X cl e m)(ha:SE X cl a ma)(h:zdy E ma lo hi st=some m):SE X cl (.Subscript a (.Slice lo hi st p) pos) m:=by
 unfold zdy at h;split at h
 .rw[zj] at h
  obtain⟨ml,e1,h⟩:=h;rw[zf] at h;obtain⟨mh,e2,rfl⟩:=h;exact zmy ha (zby hE e1) (zby hE e2)
 .cases h
def zfj(F:Fits Γ cl k X)(hE:∀e m,E e=some m->SE X cl e m)(h:zcK Γ E a b=some m):SE X cl (.Subscript a b pos) m:=by
 unfold zcK at h;split at h
 .split at h
  .rename_i q
   rw[zg] at q;split at h
   .rename_i l e
    rw[zf] at h;obtain⟨mb,e1,rfl⟩:=h;exact tG_ q.1 F.room.units (F.base.tab.at e) (hE _ _ e1) F.sc (ziz q.2)
   .cases h
  .cases h
 .cases h
def zeQ(F:Fits Γ cl k X)(hE:∀e m,E e=some m->SE X cl e m)(h:xSub Γ E a b=some m):SE X cl (.Subscript a b pos) m:=by
 unfold xSub at h;split at h
 .rename_i m' e
  cases h;exact zfj F hE e
 .rw[zj] at h
  obtain⟨ma,e1,h⟩:=h;split at h
  .exact zgj hE (hE _ _ e1) h
  .rename_i hb
   rw[zf] at h;obtain⟨mb,e2,rfl⟩:=h;refine zl1 (hE _ _ e1) (hE _ _ e2) (ziz ?_);cases b<;>first | rfl | exact absurd rfl (hb _ _ _ _)
def zhL{mu:Bool}(F:Fits Γ cl k X)(hE:∀e m,E e=some m->SE X cl e m)(h:zfG Γ E a b mu=some m):SE X cl (.Subscript a b pos) m:=by
 unfold zfG at h;split at h
 .exact zeQ F hE h
 .split at h
  .rw[zj] at h
   obtain⟨ma,e0,h⟩:=h;rw[zj] at h;obtain⟨ml,e1,h⟩:=h;rw[zf] at h;obtain⟨mh,e2,rfl⟩:=h;exact zj7 (hE _ _ e0) (zby hE e1) (zby hE e2)
  .exact zeQ F hE h
theorem zc2{op:BoolOp}(hE:∀e m,E e=some m->SE X cl e m):∀{vs:List Expr} {m:ME},zcw op E vs=some m->SE X cl (.BoolOp op vs pos) m
 | [],m,h=>by cases h
 | [a],m,h=>zkT (hE _ _ h)
 | a::b::r,m,h=>by
  unfold zcw at h;rw[zj] at h;obtain⟨ma,e1,h⟩:=h;rw[zf] at h;obtain⟨mb,e2,h⟩:=h;have ih:=zc2 hE e2;cases op with
  | And=>subst h; exact zk1 (hE _ _ e1) ih
  | Or=>subst h; exact zmp (hE _ _ e1) ih
theorem zc5{op:BoolOp}(hT:∀e m,T e=some m->ST X cl e m):∀{vs:List Expr} {m:MT},zcx op T vs=some m->SW X cl (.BoolOp op vs pos) m
 | [],m,h=>by cases h
 | [a],m,h=>by
  cases op with
  | And=>exact zjh (hT _ _ h)
  | Or=>exact zkW (hT _ _ h)
 | a::b::r,m,h=>by
  unfold zcx at h;rw[zj] at h;obtain⟨ma,e1,h⟩:=h;rw[zf] at h;obtain⟨mb,e2,h⟩:=h;have ih:=zc5 hT e2;cases op with
  | And=>subst h; exact zlB (hT _ _ e1) ih
  | Or=>subst h; exact zmc (hT _ _ e1) ih
def zhM{ks:List (Option Expr)}{vs:List Expr}(hE:∀e m,E e=some m->SE X cl e m)(h:zfA E mu ks vs=some m):SE X cl (.Dict ks vs pos) m:=by
 unfold zfA at h;split at h
 .split at h
  .cases h; exact zia
  .cases h; exact zi9
 .cases h
end
section
variable{Γ:RC}{cl:Cl}{k:Nat}{X:Cx}{m:ME}{pos p:Pos}{E:RC->Bool->Expr->Option ME}{T:RC->Expr->Option MT}{mu:Bool}
def zcS{elt:Expr}{gens:List Comprehension}{scope:Scope}{r:CompR}(F:Fits Γ cl k X)(g:CompG X cl elt gens scope r):SE X cl (.ListComp elt gens scope pos) (zce mu r):=by
 obtain⟨tg,it,ifs,N',rfl,ok,hs,hi,hg,ht,he⟩:=g.ex;cases mu with
 | true=>exact zhu _ _ N' r.nl r.ks F.calm ok hi hg ht he rfl rfl (u9 hs)
 | false=>exact zjg _ _ N' r.nl r.ks F.calm ok hi hg ht he rfl rfl (u9 hs)
def zii(hE:∀Γ X,Fits Γ cl k X->∀mu e m,E Γ mu e=some m->SE X cl e m)(hT:∀Γ X,Fits Γ cl k X->∀e m,T Γ e=some m->ST X cl e m)(F:Fits Γ cl k X){e:Expr}(h:ze9 E T Γ mu e=some m):SE X cl e m:=by
 have hE':=hE _ _ F;have hF:=hE' false;have hT':=hT _ _ F;unfold ze9 at h;split at h
 .exact zhQ F h
 .exact zf1 h
 .rw[zf] at h
  obtain⟨ma,e1,rfl⟩:=h;exact zlK (hF _ _ e1)
 .rw[zf] at h
  obtain⟨ma,e1,rfl⟩:=h;exact zmi zjv (hF _ _ e1)
 .rw[zj] at h
  obtain⟨f,e0,h⟩:=h;rw[zj] at h;obtain⟨ma,e1,h⟩:=h;rw[zf] at h;obtain⟨mb,e2,rfl⟩:=h;exact zlX (zkv e0) (hF _ _ e1) (hF _ _ e2)
 .exact(zeC F hF h).1
 .exact zc2 hF h
 .rw[zj] at h
  obtain⟨mt,e0,h⟩:=h;rw[zj] at h;obtain⟨ma,e1,h⟩:=h;rw[zf] at h;obtain⟨mb,e2,rfl⟩:=h;exact zmb (hT' _ _ e0) (hF _ _ e1) (hF _ _ e2)
 .rw[zf] at h
  obtain⟨ms,e1,rfl⟩:=h;exact zkL (zat hF e1).2
 .cases mu with
  | true=>
   obtain⟨ms,e1,rfl⟩:=zf.mp h;exact zkC (zat (hE' true) e1).2
  | false=>
   obtain⟨ms,e1,rfl⟩:=zf.mp h;exact zlr (zat hF e1).2
 .exact zhM hF h
 .exact zhL F hF h
 .exact zgT F hF h
 .exact zhW F hF (hE' true) h
 .rw[zf] at h
  obtain⟨r,e1,rfl⟩:=h;exact zcS F (zdx F hE hT e1)
 .cases h
def zh6(hE:∀Γ X,Fits Γ cl k X->∀mu e m,E Γ mu e=some m->SE X cl e m)(hT:∀Γ X,Fits Γ cl k X->∀e m,T Γ e=some m->ST X cl e m)(F:Fits Γ cl k X){e:Expr}{t:MT}(h:stepT E T Γ e=some t):ST X cl e t:=by
 have hF:=hE _ _ F false;have hT':=hT _ _ F;unfold stepT at h;split at h
 .exact zjl (zc5 hT' h)
 .rw[zf] at h
  obtain⟨ma,e1,rfl⟩:=h;exact zkb (hT' _ _ e1)
 .rw[zf] at h
  obtain⟨ma,e1,rfl⟩:=h;exact(zeC F hF e1).2
 .split at h
  .rename_i q
   rw[zf] at h;obtain⟨ma,e1,rfl⟩:=h;exact zkO (hF _ _ e1) (zhT q)
  .cases h
theorem zaJ:∀n,(∀Γ X,Fits Γ cl k X->∀mu e m,(cET n).1 Γ mu e=some m->SE X cl e m)/\(∀Γ X,Fits Γ cl k X->∀e m,(cET n).2 Γ e=some m->ST X cl e m)
 | 0=>⟨λ_ _ _ _ _ _ h=>(by cases h),λ_ _ _ _ _ h=>(by cases h)⟩
 | n+1=>⟨λΓ X F mu e m h=>zii (zaJ n).1 (zaJ n).2 F h,λΓ X F e m h=>zh6 (zaJ n).1 (zaJ n).2 F h⟩
end
def zkg{o i:Expr}{pos:Pos}{env:Env}(h:zbs i=true):∀v,assign (.Subscript o i pos) env v=(do
   let ov <-holding [v] (eval o env)
   let iv <-holding [v,ov] (eval i env)
   standAt pos
   holding [v,ov,iv] (setItem ov iv v)
   release [v,ov,iv] []):=by
 intro v;cases i<;>first | (cases h; done) | kernel_rfl
theorem zey{o i e:Expr}{p:Pos}{env:Env}:swappedStores [.Subscript o i p] e env=pure none:=rfl
noncomputable def zfr(Γ:RC)(x:Str):Bool:=Γ.own.any (· == x)
noncomputable def zdl(Γ:RC)(x:Str)(px:Pos)(scope:Scope)(cpos:Pos):Bool:=Γ.sc.names.lookup x==some .local&&px.line==cpos.line && !(scope.names.any λ(n,k)=>n==x&&(k==.local||k==.cell))
noncomputable def zfy(Γ:RC)(E:RC->Bool->Expr->Option ME)(T:RC->Expr->Option MT)(x:Str):Expr->Option ME
 | .ListComp elt gens scope cpos=>(zdm Γ E T elt gens scope cpos).map (zce (zfr Γ x))
 | v=>if zcl v=true then E Γ (zfr Γ x) v else none
noncomputable def xAsg(Γ:RC)(E:RC->Bool->Expr->Option ME)(T:RC->Expr->Option MT)(tg v:Expr):Option MS:=match tg with
 | .Name x _=>match ixOf x Γ.N with
  | some i=>if (setB Γ.sc Γ.N i x && !Γ.inC)=true then (zfy Γ E T x v).map λm=>sAsg m (gNm i) else none
  | none=>none
 | .Subscript o i p=>if (zcl v&&zbs i)=true then (E Γ false v).bind λm=>(E Γ false o).bind λmo=>(E Γ false i).map λmi=>sAsg m (gPut mo mi) else none
 | .Tuple es n p=>if ziG v=true then (E Γ false v).bind λm=>(xTg Γ (.Tuple es n p)).map λg=>sAsg m g else none
 | _=>none
noncomputable def xAug(Γ:RC)(E:RC->Bool->Expr->Option ME)(tg:Expr)(op:Operator)(v:Expr):Option MS:=match tg,op with
 | .Name x _,.Add=>match ixOf x Γ.N with
  | some i=>if (setB Γ.sc Γ.N i x && !Γ.inC)=true then (E Γ false v).map (sAug i augI) else none
  | none=>none
 | _,_=>none
noncomputable def zcu:MS:=λ_ _=>none
def zjf{X:Cx}{cl:Cl}{st:Stmt}:SS X cl st zcu:=by
 rintro pins s σ H D I ⟨μ,h,ρ,fl,h',R,er,e,k⟩;cases e
noncomputable def zfI(E:RC->Bool->Expr->Option ME)(T:RC->Expr->Option MT)(B:RC->List Stmt->Option MS)(Γ:RC):Stmt->Option MS
 | .Return (some e) _=>(E Γ false e).map sRet
 | .Pass _=>some yN
 | .Raise ..=>some zcu
 | .Expr e _=>if zcl e=true then (E Γ false e).map xY else none
 | .If c a b _=>(T Γ c).bind λt=>(B Γ a).bind λma=>(B Γ b).map (sIf t ma)
 | .While c body [] _=>(T Γ c).bind λt=>(B Γ body).map (uD t)
 | .For tg it body [] _=>if zdk it=true then (zdo Γ (E Γ false) tg it).bind λmi=>(xTg Γ tg).bind λg=>(B Γ body).map (sFor mi g) else none
 | .Assign [tg] v _=>xAsg Γ E T tg v
 | .AugAssign tg op v _=>xAug Γ E tg op v
 | _=>none
noncomputable def blk(S:Stmt->Option MS):List Stmt->Option MS
 | []=>some yN
 | [s]=>S s
 | s::r=>(S s).bind λa=>(blk S r).map (sSeq a)
noncomputable def cS:Nat->RC->Stmt->Option MS
 | 0=>λ_ _=>none
 | n+1=>zfI (cET 40).1 (cET 40).2 (λΓ=>blk (cS n Γ))
noncomputable def cB(Γ:RC)(bd:List Stmt):Option MS:=blk (cS 12 Γ) bd
section
variable{Γ:RC}{cl:Cl}{k:Nat}{X:Cx}{pos p:Pos}{E:RC->Bool->Expr->Option ME}{T:RC->Expr->Option MT}{B:RC->List Stmt->Option MS}{ms:MS}
theorem zfT{elt:Expr}{gens:List Comprehension}{scope:Scope}{cpos px:Pos}{x:Str}{l:Nat}{env:Env}:swapsWith (.ListComp elt gens scope cpos) (some (.Name x px)) l env=pure (env.blockKind==.function&&env.kindOf x==some .local&&px.line==cpos.line && !(scope.names.any λ(n,k)=>n==x&&(k==.local||k==.cell))):=rfl
def zik(hE:∀Γ X,Fits Γ cl k X->∀mu e m,E Γ mu e=some m->SE X cl e m)(hT:∀Γ X,Fits Γ cl k X->∀e m,T Γ e=some m->ST X cl e m)(F:Fits Γ cl k X)(hc:Γ.inC=false){x:Str}{i:Nat}{v:Expr}{m:ME}{px:Pos}(hb:setB Γ.sc Γ.N i x=true)(h:zfy Γ E T x v=some m):SS X cl (.Assign [.Name x px] v pos) (sAsg m (gNm i)):=by
 have hNd:=F.N▸F.nd;unfold zfy at h;split at h
 .rename_i elt gens scope cpos
  rw[zf] at h;obtain⟨r,e1,rfl⟩:=h;have g:=zdx F hE hT e1;have hk:X.env.blockKind=.function:=by
   unfold Env.blockKind;rw[F.sc,F.kind];rfl
  have hsw:=zfT (elt:=elt) (gens:=gens) (scope:=scope) (cpos:=cpos) (px:=px) (x:=x) (l:=pos.line) (env:=X.env);have he:(X.env.blockKind==.function&&X.env.kindOf x==some .local&&px.line==cpos.line && !(scope.names.any λ(n,k)=>n==x&&(k==.local||k==.cell)))=zdl Γ x px scope cpos:=by
   rw[hk];unfold zdl;rw[<-F.sc];rfl
  rw[he] at hsw;cases q:zdl Γ x px scope cpos with
  | false=>
   rw[q] at hsw;exact s_ hb hNd (zcS F g) F.sc F.N (F.fn hc _) hsw
  | true=>
   rw[q] at hsw;obtain⟨tg,it,ifs,N',rfl,ok,hs,hi,hg,ht,hee⟩:=g.ex;have hx:X.env.kindOf x=some .local:=by
    unfold zdl at q;simp only[zg,qz] at q;have:=q.1.1;rw[<-F.sc] at this;exact this
   have hix:X.N[i]?=some x:=by
    unfold setB at hb;simp only[zg,qz] at hb;rw[F.N];exact hb.1
   unfold zce;cases zfr Γ x with
   | true=>exact zhV i _ _ N' r.nl r.ks F.nd F.calm ok hi hg ht hee rfl rfl (u9 hs) hix hx hsw
   | false=>exact ziQ i _ _ N' r.nl r.ks F.nd F.calm ok hi hg ht hee rfl rfl (u9 hs) hix hx hsw
 .split at h
  .rename_i q
   exact s_ hb hNd (hE _ _ F _ _ _ h) F.sc F.N (F.fn hc _) (zb5 q)
  .cases h
theorem zgy{v:Expr}{es:List Expr}{n l:Nat}{p:Pos}{env:Env}:swapsWith v (some (.Tuple es n p)) l env=pure false:=by
 unfold swapsWith;cases v<;>rfl
def zja(hE:∀Γ X,Fits Γ cl k X->∀mu e m,E Γ mu e=some m->SE X cl e m)(hT:∀Γ X,Fits Γ cl k X->∀e m,T Γ e=some m->ST X cl e m)(F:Fits Γ cl k X){tg v:Expr}(h:xAsg Γ E T tg v=some ms):SS X cl (.Assign [tg] v pos) ms:=by
 unfold xAsg at h;split at h
 .split at h
  .split at h
   .rename_i q
    rw[zg,jf] at q;rw[zf] at h;obtain⟨m,e1,rfl⟩:=h;exact zik hE hT F q.2 q.1 e1
   .cases h
  .cases h
 .split at h
  .rename_i q
   rw[zg] at q;rw[zj] at h;obtain⟨m,e1,h⟩:=h;rw[zj] at h;obtain⟨mo,e2,h⟩:=h;rw[zf] at h;obtain⟨mi,e3,rfl⟩:=h;exact zgl (hE _ _ F _ _ _ e1) (zkZ F.room.units (hE _ _ F _ _ _ e2) (hE _ _ F _ _ _ e3) (zkg q.2)) ((show swapsWithSole [_] v pos.line X.env=swapsWith v (some _) pos.line X.env from rfl).trans (zb5 q.1)) zey (by rw[uJ rfl,zae]; rfl)
  .cases h
 .split at h
  .rename_i q
   rw[zj] at h;obtain⟨m,e1,h⟩:=h;rw[zf] at h;obtain⟨g,e2,rfl⟩:=h;exact zgl (hE _ _ F _ _ _ e1) (zdM F e2) ((show swapsWithSole [_] v pos.line X.env=swapsWith v (some _) pos.line X.env from rfl).trans zgy) (ze4 q) (by rw[uJ rfl,zae]; rfl)
  .cases h
 .cases h
def zjZ(hE:∀Γ X,Fits Γ cl k X->∀mu e m,E Γ mu e=some m->SE X cl e m)(F:Fits Γ cl k X){tg v:Expr}{op:Operator}(h:xAug Γ E tg op v=some ms):SS X cl (.AugAssign tg op v pos) ms:=by
 unfold xAug at h;split at h
 .split at h
  .split at h
   .rename_i q
    rw[zg,jf] at q;rw[zf] at h;obtain⟨m,e1,rfl⟩:=h;exact au_ q.1 (F.N▸F.nd) zjB (hE _ _ F _ _ _ e1) F.sc F.N (F.fn q.2 _)
   .cases h
  .cases h
 .cases h
def zhX(hE:∀Γ X,Fits Γ cl k X->∀mu e m,E Γ mu e=some m->SE X cl e m)(hT:∀Γ X,Fits Γ cl k X->∀e m,T Γ e=some m->ST X cl e m)(hB:∀Γ X,Fits Γ cl k X->∀b m,B Γ b=some m->SB X cl b m)(F:Fits Γ cl k X){st:Stmt}(h:zfI E T B Γ st=some ms):SS X cl st ms:=by
 have hF:=hE _ _ F false;have hT':=hT _ _ F;have hB':=hB _ _ F;unfold zfI at h;split at h
 .rw[zf] at h
  obtain⟨m,e1,rfl⟩:=h;exact zlO (hF _ _ e1)
 .cases h; exact zi6
 .cases h; exact zjf
 .split at h
  .rename_i q
   rw[zf] at h;obtain⟨m,e1,rfl⟩:=h;exact zje (hF _ _ e1) (zb5 q)
  .cases h
 .rw[zj] at h
  obtain⟨t,e0,h⟩:=h;rw[zj] at h;obtain⟨ma,e1,h⟩:=h;rw[zf] at h;obtain⟨mb,e2,rfl⟩:=h;exact zmu (hT' _ _ e0) (hB' _ _ e1) (hB' _ _ e2)
 .rw[zj] at h
  obtain⟨t,e0,h⟩:=h;rw[zf] at h;obtain⟨mb,e2,rfl⟩:=h;exact zhk (hT' _ _ e0) (hB' _ _ e2) F.pass
 .split at h
  .rename_i q
   rw[zj] at h;obtain⟨mi,e0,h⟩:=h;rw[zj] at h;obtain⟨g,e1,h⟩:=h;rw[zf] at h;obtain⟨mb,e2,rfl⟩:=h;exact zkn F.calm (zej F hF e0) (zdM F e1) (hB' _ _ e2) (u9 q) F.pass
  .cases h
 .exact zja hE hT F h
 .exact zjZ hE F h
 .cases h
theorem zdG{S:Stmt->Option MS}(hS:∀s m,S s=some m->SS X cl s m):∀{b:List Stmt} {m:MS},blk S b=some m->SB X cl b m
 | [],m,h=>by cases h; exact zlR
 | [s],m,h=>zkJ (hS _ _ h)
 | s::s'::r,m,h=>by
  unfold blk at h;rw[zj] at h;obtain⟨ma,e1,h⟩:=h;rw[zf] at h;obtain⟨mb,e2,rfl⟩:=h;exact zjL (hS _ _ e1) (zdG hS e2)
theorem zin:∀(n:Nat) (Γ:RC) (X:Cx),Fits Γ cl k X->∀s m,cS n Γ s=some m->SS X cl s m
 | 0,_,_,_,_,_,h=>by cases h
 | n+1,Γ,X,F,s,m,h=>zhX (zaJ 40).1 (zaJ 40).2 (λΓ X F b m h=>zdG (zin n Γ X F) h) F h
def zl3(F:Fits Γ cl k X){bd:List Stmt}(h:cB Γ bd=some ms):SB X cl bd ms:=zdG (zin 12 Γ X F) h
end
def zlH{P:Program}{w:World}{K:PySem.W.Frag}{mg:Str->Option Value}{base:Heap}{cl:Cl}{x qual:Str}{st:Stmt}{f:Addr}{fd:FuncData}{ps:List Str}{k np ns:Nat}{b:MS}(Γ:RC){bd:List Stmt}(F:Fun K x qual st f fd)(hsc:xf st=Γ.sc)(hbd:xQ st=bd)(S:FnScope Γ.N ps Γ.sc)(hnp:ps.length=np)(hns:Γ.N.length-np=ns)
  (hc:Γ.inC=false) (B:BaseOk P w K mg base cl k Γ) (hb:cB Γ bd=some b):FnOk P w K mg base CX0 (k+1) f fd ps (spM K cl (gc (fnM np ns b))):=
 zla F hsc hbd S hnp hns λcdv A outer s H E hr=>zl3 (k:=k) ⟨rfl,rfl,S.nd,λ_ _=>rfl,S.kind,rfl,vV,hr,⟨B.fns,B.con,B.tab,B.bin,B.pw⟩⟩ hb
structure Def where
 x:Str
 st:Stmt
 ps:List Str
 N:List Str
 own:List Str
 txt:List Str
 cmp:List ((Nat×Nat)×List Str)
noncomputable def zan(N ps:List Str)(sc:Scope):Bool:=sc.kind==.function && !sc.isCoroutine && !sc.isGenerator&&zdY N&&N.take ps.length==ps&&ps.all (locB sc)&&sc.names.all λy=>y.2 != .free
def zfL{N ps:List Str}{sc:Scope}(h:zan N ps sc=true):FnScope N ps sc:=by
 unfold zan at h;simp only[zg,jf,qz] at h;obtain⟨⟨⟨⟨⟨⟨h1,h2⟩,h3⟩,h4⟩,h5⟩,h6⟩,h7⟩:=h;exact⟨h1,h2,h3,ziI h4,h5,λx hx=>zbt (zV.mp h6 x hx),λy hy=>by simpa using zV.mp h7 y hy⟩
noncomputable def HB(x:Str)(st:Stmt)(ps:List Str)(us:List Value):Prop:=∀(kV doc pm:Value) (an:Option Addr) (cdv ct:Value),bindArgs (PySem.W.fnOf x x (uG st) (xQ st) (xf st) .none kV doc pm an cdv ct) ⟨us,[]⟩=pure (ps.zip us)
noncomputable def HBs(x:Str)(st:Stmt)(ps:List Str):Prop:=∀us:List Value,us.length=ps.length->HB x st ps us
section
variable{x:Str}{st:Stmt}{ps:List Str}
def hb1(h:∀a,HB x st ps [a])(hl:ps.length=1:=by rfl):HBs x st ps:=λus e=>match us,e.trans hl with
 | [_],_=>h _
def hb2(h:∀a b,HB x st ps [a,b])(hl:ps.length=2:=by rfl):HBs x st ps:=λus e=>match us,e.trans hl with
 | [_,_],_=>h _ _
def hb3(h:∀a b c,HB x st ps [a,b,c])(hl:ps.length=3:=by rfl):HBs x st ps:=λus e=>match us,e.trans hl with
 | [_,_,_],_=>h _ _ _
def hb4(h:∀a b c d,HB x st ps [a,b,c,d])(hl:ps.length=4:=by rfl):HBs x st ps:=λus e=>match us,e.trans hl with
 | [_,_,_,_],_=>h _ _ _ _
def hb5(h:∀a b c d e,HB x st ps [a,b,c,d,e])(hl:ps.length=5:=by rfl):HBs x st ps:=λus e=>match us,e.trans hl with
 | [_,_,_,_,_],_=>h _ _ _ _ _
end
noncomputable def zav(K:PySem.W.Frag)(mg:Str->Option Value)(d:Def):Prop:=∃a fd,FTxt K mg d.x d.st d.ps a fd
noncomputable def AllD(P:Def->Prop):List Def->Prop
 | []=>True
 | d::r=>P d/\AllD P r
noncomputable def RC.at(Γ:RC)(d:Def):RC:=⟨xf d.st,d.N,false,Γ.fns,Γ.con,Γ.tab,Γ.bin,d.own,d.txt,d.cmp⟩
section
variable{P:Program}{w:World}{K:PySem.W.Frag}{mg:Str->Option Value}{base:Heap}{cl:Cl}{n np ns:Nat}{Γ:RC}{d:Def}{b:MS}
def zeL{a:Addr}{fd:FuncData}(T:FTxt K mg d.x d.st d.ps a fd)(B:BaseOk P w K mg base cl n Γ)(hsc:zan d.N d.ps (xf d.st)=true)(hnp:d.ps.length=np)(hns:d.N.length-np=ns)(hb:cB (Γ.at d) (xQ d.st)=some b):FnOk P w K mg base CX0 (n+1) a fd d.ps (spM K cl (gc (fnM np ns b))):=
 zlH (Γ.at d) T.F rfl rfl (zfL hsc) hnp hns rfl ⟨B.fns,B.con,B.tab,B.bin,B.pw⟩ hb
def yV(T:zav K mg d)(B:BaseOk P w K mg base cl n Γ)(hsc:zan d.N d.ps (xf d.st)=true:=by kernel_rfl)(hnp:d.ps.length=np:=by rfl)(hns:d.N.length-np=ns:=by rfl)(hb:cB (Γ.at d) (xQ d.st)=some b:=by kernel_rfl):FnAt P w K mg base cl (n+1) d.x (gc (fnM np ns b)):=by
 obtain⟨a,fd,T⟩:=T;exact⟨a,fd,d.ps,zeL T B hsc hnp hns hb,T.m,T.F.kp,T.B⟩
def yO(T:zav K mg d):FnAt P w K mg base cl 0 d.x λ_ _=>none:=by
 obtain⟨a,fd,T⟩:=T;have no:∀vs H Q E,¬spM K cl (λ_ _=>none) vs H Q E:=λvs H Q E ⟨μ,h,ws,w,h2,R,rs,e,k⟩=>by cases e
 exact⟨a,fd,d.ps,⟨λvs H Q E h=>absurd h (no vs H Q E),λA outer s H args us vs Q E _ _ _ _ h=>absurd h (no vs H Q E)⟩,T.m,T.F.kp,T.B⟩
end
end ML
namespace ML
open PySem PySem.Spec PyProof.Rows PySem.W L2
noncomputable def Kw(h:Heap):PySem.W.Frag:=(List.range h.objs.size).filterMap λa=>(h.get? a).map λo=>(a,o)
theorem Kw.lookupAux(h:Heap)(a:Addr):∀l:List Nat,(l.filterMap λa=>(h.get? a).map λo=>(a,o)).lookup a=if a∈l then h.get? a else none
 | []=>by simp
 | b::l=>by
  cases q:h.get? b with
  | none=>
   rw[List.filterMap_cons_none (by rw[q]; rfl),Kw.lookupAux h a l];by_cases e:a=b
   .subst e; simp[q]
   .simp[e]
  | some o=>
   rw[List.filterMap_cons_some (b:=(b,o)) (by rw[q]; rfl),jD];by_cases e:a=b
   .subst e; simp[q]
   .have:(a==b)=false:=by simp[e]
    rw[this]; simp only[]; rw[Kw.lookupAux h a l]; simp[e]
theorem Kw.lookup{h:Heap}{a:Addr}:(Kw h).lookup a=h.get? a:=by
 unfold Kw;rw[Kw.lookupAux];split
 .rfl
 .rename_i n
  cases q:h.get? a with
  | none=>rfl
  | some o=>exact absurd (wV.mpr (zy q)) n
def Kw.in(h:Heap):(Kw h).In h:=λa o e=>Kw.lookup▸e
def zif{l:PySem.W.OpenLaw}{n k:Nat}{q:Program}{loose:List Str}{XP:(Str->Option Value)->Heap->Prop}{YP:World->Heap->Prop}{d:DefRec}{CX:CXT}{sp:World->PySem.W.Frag->Sp}{x:Str}
  (hn:l.most=some n) (hn2:n<=sizeLine) (hdf:d.params.defaults=[]) (hr:Room k callerA)
  (F:∀(w:World) (s₀:Shared) (mg mb:Str->Option Value) (fa:Addr) (h:Heap),Ground q loose [] XP w s₀ mg mb h->YP w h->mg d.name=some (.ref fa)->
   ∃fd:FuncData,(∀(s:Shared) (u:Value),BindsTo s fd ⟨[u],[]⟩ [(x,u)]) /\
    ∀base:Heap,(Kw h).In base->base.Ns mainGlobals mg->FnOk l.prog w (Kw h) mg base CX k fa fd [x] (sp w (Kw h)))
  (hsp:∀(w:World) (K:PySem.W.Frag) (H:Hp) (a:Addr) (ns:List Int),ns.length<=n->Only H->SqL K H a (ns.map V.int)->sp w K [.ref a] H (λv _=>v=.bl true) λ_ _ _=>False)
  (hCX:∀(H:Hp) (s:Shared) (e:Value) (s':Shared),CX [] H s (λ_ _ _=>False) e s'->False) :
  PySem.W.WalkO q loose XP YP l.row.toRowW d [] (λf vs=>PySem.call f vs):=by
 refine Att.attach_call hn hdf λw s₀ s₁ mg mb fa o pm cd doc a vs ns G Y ho hd hcd hmg hobj hints hlen hg=>?_
 obtain⟨fd,hb,hF⟩:=F w s₀ mg mb fa _ G Y hmg;exact zhO (Kw.in _) G.T.g G.T.b G.T.builtins G.T.nolimit hg hobj hints (zG hlen hn2) hr hF hb (λH hO hS=>hsp w _ H a ns hlen hO hS) λH e s'=>hCX H s₁ e s'
def txtG{q:Program}{loose:List Str}{R:WRecords}{XP:(Str->Option Value)->Heap->Prop}{w:World}{s₀:Shared}{mg mb:Str->Option Value}{h:Heap}(G:Ground q loose R XP w s₀ mg mb h){d:Def}
  (hd:(defOf q d.x).map (λp=>(p.1.name,p.1.params,p.1.body,p.1.scope,p.2))=some (d.x,uG d.st,xQ d.st,xf d.st,[])) (hb:HBs d.x d.st d.ps) (hf:(uG d.st).defaults=[]):zav (Kw h) mg d:=by
 obtain⟨⟨⟨n,p,b,sc,ps⟩,kw⟩,hq,e⟩:=zf.mp hd;cases e;obtain⟨a,o,pm,cd,doc,dV,kV,m,ho,hdt,hc,D⟩:=G.fn hq;obtain rfl:dV=.none:=Dflts.none D hf;obtain rfl:kV=.none:=Dflts.noKw D;have lk:(Kw h).lookup a=some ⟨o.cls,o.dict,.func (PySem.W.fnOf d.x d.x (uG d.st) (xQ d.st) (xf d.st) .none .none doc pm none cd .none),o.slots⟩:=by
  rw[Kw.lookup,ho];cases o;cases hdt;rfl
 have c:PySem.W.codeIn (Kw h) cd d.x=true:=by
  obtain⟨c,o',vs,t,rfl,e1,e2,e3⟩:=hc;unfold PySem.W.codeIn;simp only[Kw.lookup,e1];cases o';cases e2;simp only[];obtain⟨vs⟩:=vs;match vs,e3 with
  | [],e3=>cases e3
  | [_],e3=>cases e3
  | _::v::r,e3=>
   have e4:some v=some (Value.str d.x t):=by simpa using e3
   cases e4;simp
 have k:PySem.W.keepIn (Kw h) (.ref a)=true:=by
  unfold PySem.W.keepIn;simp only[lk]
 have F:=zj8 (st:=d.st) lk c k;exact⟨a,_,F,F.binds (λkV doc pm an cdv ct us hl=>hb us hl kV doc pm an cdv ct),m⟩
noncomputable def toW:Nat->Cn->W
 | 0,_=>.non
 | n+1,c=>match c with
  | .int i=>.int i
  | .str x=>.str x
  | .tup l=>.tup (l.map (toW n))
noncomputable def toT(l:List (Str×Cn)):List (Str×W):=l.map λp=>(p.1,toW 9 p.2)
def zhR{h:Heap}{v:Value}{its:Array Value}(e:zdr h v=some its):∃a o n,v=.ref a/\h.get? a=some o/\(o.cls=.type "tuple" /\ o.dict=none)/\o.data=.seq its n:=by
 cases v with
 | ref a=>
  obtain⟨⟨c,di,d,sl⟩,e1,e2⟩:=zj.mp e;cases c with
  | type t=>
   have e3:(if t="tuple" then (match d with | .seq its _=>if di.isNone then some its else none | _=>none) else none)=some its:=e2;by_cases q:t="tuple"
   .rw[zW q] at e3
    cases d with
    | seq its' n=>
     have e4:(if di.isNone then some its' else none)=some its:=e3;by_cases q2:di.isNone=true
     .rw[zW q2] at e4
      cases e4;exact⟨a,_,n,rfl,e1,⟨by rw[q],qZ.mp q2⟩,rfl⟩
     .rw[kO q2] at e4; cases e4
    | _=>cases e3
   .rw[kO q] at e3; cases e3
  | _=>cases e2
 | _=>cases e
def zj3{K:PySem.W.Frag}{p:Cn->Value->Bool}{f:Cn->W}(hp:∀w v,p w v=true->KW K (f w) v)(l:List Cn):∀vs:List Value,zaN p l vs=true->KWs K (l.map f) vs:=by
 induction l with
 | nil=>intro vs h; cases vs with | nil=>exact .nil | cons _ _=>cases h
 | cons w l ih=>
  intro vs h;cases vs with
  | nil=>cases h
  | cons v vs=>have h2:=ju.mp h; exact .cons (hp _ _ h2.1) (ih vs h2.2)
def zcZ{h:Heap}{K:PySem.W.Frag}(hK:∀b o,h.get? b=some o->K.lookup b=some o)(n:Nat):∀w v,zaS h n w v=true->KW K (toW n w) v:=by
 induction n with
 | zero=>intro w v e; cases e
 | succ n ih=>
  intro w v e;cases w with
  | int i=>cases v with
   | int j t=>cases eq_of_beq (show(i==j)=true from e); exact .int
   | _=>cases e
  | str x=>cases v with
   | str j t=>cases eq_of_beq (show(x==j)=true from e); exact .str
   | _=>cases e
  | tup l=>
   have e1:((zdr h v).any λits=>decide (its.size<=sizeLine)&&zaN (zaS h n) l its.toList)=true:=e;cases z:zdr h v with
   | none=>rw[z] at e1; cases e1
   | some its=>
    rw[z] at e1;obtain⟨a,o,m,rfl,e4,e5,e6⟩:=zhR z;have e7:=ju.mp e1;exact .tup (hK _ _ e4) e5 e6 (jZ e7.1) (zj3 ih _ _ e7.2)
def zgp{h:Heap}{v:Value}{es:Array DictEntry}(e:dictAt h v=some es):∃a n,v=.ref a/\h.get? a=some ⟨.type "dict",none,.dict es n,#[]⟩/\(a==sysModules)=false:=by
 cases v with
 | ref a=>
  obtain⟨⟨c,di,d,sl⟩,e1,e2⟩:=zj.mp e;cases c with
  | type t=>
   have e3:(if t="dict" then (match d with | .dict es _=>if di.isNone&&sl.isEmpty&&a != sysModules then some es else none | _=>none) else none)=some es:=e2;by_cases q:t="dict"
   .rw[zW q] at e3
    cases d with
    | dict es' n=>
     have e4:(if di.isNone&&sl.isEmpty&&a != sysModules then some es' else none)=some es:=e3;by_cases z:(di.isNone&&sl.isEmpty&&a != sysModules)=true
     .rw[zW z] at e4
      cases e4;have z1:=ju.mp z;have z2:=ju.mp z1.1;refine⟨a,n,rfl,?_,?_⟩
      .rw[e1,q,qZ.mp z2.1,Array.isEmpty_iff.mp z2.2]
      .have:=z1.2; rw[bne,jf] at this; exact this
     .rw[kO z] at e4; cases e4
    | _=>cases e3
   .rw[kO q] at e3; cases e3
  | _=>cases e2
 | _=>cases e
def tab_of{h:Heap}{K:PySem.W.Frag}(hK:∀b o,h.get? b=some o->K.lookup b=some o){P:Params}(l:List (Str×Cn)):∀es:List DictEntry,zaN (λp (e:DictEntry)=>isS p.1 e.key&&zaS h 9 p.2 e.val) l es=true->es.map (·.hash)=l.map (λp=>PyData.keyHash P p.1)->TabRel K (toT l) es/\PySem.W.KeysLit P es:=by
 induction l with
 | nil=>intro es a b; cases es with | nil=>exact⟨.nil,trivial⟩ | cons _ _=>cases a
 | cons p l ih=>
  intro es a b;cases es with
  | nil=>cases a
  | cons e es=>
   have a1:=ju.mp a;have a2:=ju.mp a1.1;have b1:=List.cons.inj b;obtain⟨r,t⟩:=ih es a1.2 b1.2;obtain⟨eh,ek,ev⟩:=e;cases ek with
   | str y t'=>
    have q:=eq_of_beq (show(p.1==y)=true from a2.1);subst q;exact⟨.cons (hs:=0) (v:=.none) rfl (zcZ hK _ _ _ a2.2) r,⟨_,_,rfl,b1.1⟩,t⟩
   | _=>cases a2.1
def zjH{h h₀:Heap}{mg:Str->Option Value}(G:h.Ns mainGlobals mg)(k:∀b o,h₀.get? b=some o->h.get? b=some o)(hn:h₀.isNs mainGlobals=true)(x:Str):mg x=h₀.nsMap mainGlobals x:=by
 obtain⟨o,es,ep,e1,e2,e3,e4⟩:=Heap.Ns.of_isNs hn;obtain⟨o',es',ep',f1,f2,f3,f4⟩:=G;have:=k _ _ e1;rw[f1] at this;cases this;rw[e2] at f2;cases f2;rw[<-f4 x,<-e4 x]
theorem zee{α β:Type}{P:Str->α->Prop}(f:β->α):∀{l:List (Str×β)},(∀p∈l,P p.1 (f p.2))->AllOf P (l.map λp=>(p.1,f p.2))
 | [],_=>trivial
 | (x,g)::r,h=>⟨h (x,g) (zx ..),zee f λp m=>h p (zq _ m)⟩
theorem none_of{mg:Str->Option Value}:∀{l:List Str},(∀x∈l,mg x=none)->AllNone mg l
 | [],_=>trivial
 | x::r,h=>⟨h x (zx ..),none_of λp m=>h p (zq _ m)⟩
def zlG{cons:List (Str×Cn)}{tabs:List (Str×List (Str×Cn))}{bins:List Str}{w:World}{h:Heap}{mg:Str->Option Value}(Y:(zfO cons tabs bins).says w h)(G:h.Ns mainGlobals mg) :
  AllOf (Glob (Kw h) mg) (toT cons)/\AllOf (TabOk (Kw h) w.params mg) (tabs.map λp=>(p.1,toT p.2))/\AllNone mg bins:=by
 obtain⟨h₀,k,b,t⟩:=Y;have hK:∀b o,h₀.get? b=some o->(Kw h).lookup b=some o:=λb o e=>by rw[Kw.lookup]; exact k _ _ e
 unfold seeB at b;simp only[zg,zV] at b;obtain⟨⟨b1,b2⟩,b3⟩:=b;have M:=zjH G k b1;refine⟨zee (toW 9) λp m=>?_,zee toT λp m=>?_,none_of λx m=>?_⟩
 .have e:=b2 p m
  cases q:h₀.nsMap mainGlobals p.1 with
  | none=>rw[q] at e; cases e
  | some v=>rw[q] at e; exact(zcZ hK _ _ _ e).glob ((M _).trans q)
 .have e:tabB h₀ p.2 (h₀.nsMap mainGlobals p.1)=(true,p.2.map λk=>PyData.keyHash w.params k.1):=by
   unfold seeT zfh at t;exact(List.map_inj_left.mp t) p m
  unfold tabB at e;cases q:h₀.nsMap mainGlobals p.1 with
  | none=>rw[q] at e; cases e
  | some v=>
   rw[q] at e;cases z:dictAt h₀ v with
   | none=>rw[wC,z] at e; cases e
   | some es=>
    rw[wC,z] at e;have e2:=Prod.mk.inj e;obtain⟨a,n,rfl,g,f⟩:=zgp z;obtain⟨r,kl⟩:=tab_of hK (P:=w.params) p.2 es.toList e2.1 e2.2;exact⟨a,es,n,(M _).trans q,hK _ _ g,kl,f,r⟩
 .have:=b3 x m
  rw[M];exact qZ.mp this
def walk_lawE{l:PySem.W.OpenLaw}{q:Program}{loose:List Str}{XP:(Str->Option Value)->Heap->Prop}{d:DefRec}{D:Def}{g:List W->M W}{b:MS}{Γ:RC}{ds:List Def}{y:Str}{ns room:Nat}{cons:List (Str×Cn)}{tabs:List (Str×List (Str×Cn))}(hc:toT cons=Γ.con)(ht:(tabs.map λp=>(p.1,toT p.2))=Γ.tab)(hn:l.most=some 63)(hdf:d.params.defaults=[])
  (hr:Room (room+1) callerA) (hx:D.x=d.name) (hps:D.ps=[y]) (hb:HBs D.x D.st D.ps) (hsc:zan D.N D.ps (xf D.st)=true) (hns:D.N.length-1=ns) (hB:cB (Γ.at D) (xQ D.st)=some b) (hg:g=gc (fnM 1 ns b))
  (main:∀ns:List Int,ns.length<=63->∃h',g [.fls (ns.map W.int)] []=some (.bl true,h'))
  (lvl:∀(w:World) (K:PySem.W.Frag) (mg:Str->Option Value) (base:Heap),AllD (zav K mg) ds->AllOf (Glob K mg) Γ.con->AllOf (TabOk K w.params mg) Γ.tab->AllNone mg Γ.bin->BaseOk l.prog w K mg base ⟨λ_=>0,l.prog,w⟩ room Γ)
  (F:∀(w:World) (s₀:Shared) (mg mb:Str->Option Value) (h:Heap),Ground q loose [] XP w s₀ mg mb h->zav (Kw h) mg D/\AllD (zav (Kw h) mg) ds):PySem.W.WalkO q loose XP (zfO cons tabs Γ.bin).says l.row.toRowW d [] (λf vs=>PySem.call f vs):=by
 refine zif (n:=63) (k:=room+1) (x:=y) (CX:=CX0) (sp:=λw=>spL l.prog w g) hn (by decide) hdf hr (λw s₀ mg mb fa h G Y hmg=>?_) (λw K H a ns hl _ hS=>zlc main K H a ns hl hS) λ_ _ _ _ z=>z
 obtain⟨⟨a,fd,T⟩,h1⟩:=F w s₀ mg mb h G;obtain⟨h2,h3,h4⟩:=zlG Y G.T.g;rw[hc] at h2;rw[ht] at h3;have e:=T.m.symm.trans (hx▸hmg);cases e;refine⟨fd,?_,λbase _ _=>?_⟩
 .have hb2:=λkV doc pm an cdv ct us hl=>hb us hl kV doc pm an cdv ct
  rw[hps] at hb2;exact zea T.F hb2
 .have:=zeL T (lvl w _ mg base h1 h2 h3 h4) hsc (np:=1) (by rw[hps]; rfl) hns hB
  rw[hps] at this;subst hg;exact this
end ML
namespace ML
open PySem L2
noncomputable def dt:Nat->W->Bool
 | 0,_=>false
 | _+1,.non=>true
 | _+1,.bl _=>true
 | _+1,.int _=>true
 | _+1,.str x=>PyData.strOk x&&decide (x.length<=1000)
 | n+1,.tup l=>decide (l.length<=1000)&&l.all (dt n)
 | n+1,.fls l=>decide (l.length<=1000)&&l.all (dt n)
 | _+1,.ref _=>false
 | _+1,.fdc _=>false
 | _+1,.fn _=>false
noncomputable def toD:Nat->W->PyData
 | 0,_=>.none
 | _+1,.non=>.none
 | _+1,.bl b=>.bool b
 | _+1,.int i=>.int i
 | _+1,.str x=>.str x
 | n+1,.tup l=>.tuple (l.map (toD n))
 | n+1,.fls l=>.list (l.map (toD n))
 | _+1,_=>.none
theorem xU{m:Nat}:∀{l:List W},(∀w∈l,low m w=true)->lows m l=true
 | [],_=>by unfold lows; rfl
 | w::r,h=>by
  unfold lows;rw[h w zx,xU λw hw=>h w (zq _ hw)];rfl
theorem ud{m:Nat}:∀{n:Nat} {w:W},dt n w=true->low m w=true
 | 0,_,h=>by cases h
 | n+1,.non,_=>by unfold low; rfl
 | n+1,.bl _,_=>by unfold low; rfl
 | n+1,.int _,_=>by unfold low; rfl
 | n+1,.str _,_=>by unfold low; rfl
 | n+1,.tup l,h=>by
  unfold dt at h;rw[zg] at h;unfold low;exact xU λw hw=>ud (zV.mp h.2 w hw)
 | n+1,.fls l,h=>by
  unfold dt at h;rw[zg] at h;unfold low;exact xU λw hw=>ud (zV.mp h.2 w hw)
 | n+1,.ref _,h=>by cases h
 | n+1,.fdc _,h=>by cases h
 | n+1,.fn _,h=>by cases h
theorem xR:∀{n m:Nat} {w:W},dt n w=true->n<=m->dt m w=true
 | 0,_,_,h,_=>by cases h
 | n+1,0,_,_,h=>by omega
 | n+1,m+1,.non,_,_=>rfl
 | n+1,m+1,.bl _,_,_=>rfl
 | n+1,m+1,.int _,_,_=>rfl
 | n+1,m+1,.str _,h,_=>h
 | n+1,m+1,.tup l,h,hn=>by
  unfold dt at h ⊢;rw[zg] at h ⊢;exact⟨h.1,zV.mpr λw hw=>xR (zV.mp h.2 w hw) ∅⟩
 | n+1,m+1,.fls l,h,hn=>by
  unfold dt at h ⊢;rw[zg] at h ⊢;exact⟨h.1,zV.mpr λw hw=>xR (zV.mp h.2 w hw) ∅⟩
 | n+1,m+1,.ref _,h,_=>by cases h
 | n+1,m+1,.fdc _,h,_=>by cases h
 | n+1,m+1,.fn _,h,_=>by cases h
theorem zcC{α β:Type}{f:α->Option β}{g:α->β}:∀{l:List α},(∀x∈l,f x=some (g x))->mapO f l=some (l.map g)
 | [],_=>rfl
 | x::r,h=>by
  unfold mapO;rw[h x zx,zcC λy hy=>h y (zq _ hy)];rfl
theorem uP{h:MH}:∀{n m:Nat} {w:W},dt n w=true->n<=m->xj m h w=some (toD n w)
 | 0,_,_,e,_=>by cases e
 | n+1,0,_,_,hn=>by omega
 | n+1,m+1,.non,_,_=>rfl
 | n+1,m+1,.bl _,_,_=>rfl
 | n+1,m+1,.int _,_,_=>rfl
 | n+1,m+1,.str x,e,_=>by
  unfold dt at e;rw[zg] at e;unfold xj;rw[zW e.1];rfl
 | n+1,m+1,.tup l,e,hn=>by
  unfold dt at e;rw[zg] at e;unfold xj;rw[zcC λw hw=>uP (zV.mp e.2 w hw) ∅];rfl
 | n+1,m+1,.fls l,e,hn=>by
  unfold dt at e;rw[zg] at e;unfold xj;rw[zcC λw hw=>uP (zV.mp e.2 w hw) ∅];rfl
 | n+1,m+1,.ref _,e,_=>by cases e
 | n+1,m+1,.fdc _,e,_=>by cases e
 | n+1,m+1,.fn _,e,_=>by cases e
def xF{f:List W->M W}{ws:List W}{h:MH}{w:W}{n:Nat}(e:f ws h=some (w,h))(d:dt n w=true):gc f ws h=some (w,h):=ug e (ud d) (kJ _)
def zgz{f:List W->M W}{ws:List W}{h t:MH}{w:W}{n:Nat}(e:f ws h=some (w,h++t))(d:dt n w=true):gc f ws h=some (w,h):=ug e (ud d) (jB _ _)
noncomputable def tyB(T:Ty):W->Bool
 | .bl _=>decide (T=.bool)||decide (T=.int)
 | .int _=>decide (T=.int)
 | .str _=>decide (T=.str)
 | .tup _=>decide (T=.tuple)
 | .fls _=>decide (T=.list)
 | _=>false
theorem xM{T:Ty}{n:Nat}{w:W}{h:MH}(d:dt n w=true):isW T w h=some (.bl (tyB T w),h):=by
 cases n with
 | zero=>cases d
 | succ n=>
  unfold isW isTy tyB;cases w with
  | ref _=>cases d
  | fdc _=>cases d
  | fn _=>cases d
  | non=>rfl
  | bl b=>simp only[tyW]; cases T<;>rfl
  | int b=>simp only[tyW]; cases T<;>rfl
  | str b=>simp only[tyW]; cases T<;>rfl
  | tup b=>simp only[tyW]; cases T<;>rfl
  | fls b=>simp only[tyW]; cases T<;>rfl
theorem xg(h:MH)(x y:Str):eqB h (.str x) (.str y)=some (x==y):=rfl
theorem xx(h:MH)(x y:Int):eqB h (.int x) (.int y)=some (x==y):=rfl
noncomputable def zcA:W->Bool
 | .tup []=>true
 | _=>false
def zeU{n m:Nat}{w:W}{l:List W}{h:MH}(d:dt n w=true)(hn:n<=60)(dl:dt m (.tup l)=true)(hm:m<=60):eqB h w (.tup l)=some (PyData.eqv (toD n w) (toD m (.tup l))):=by
 have e1:=uP (h:=h) d (show n<=deep from hn);have e2:=uP (h:=h) dl (show m<=deep from hm);unfold eqB;have:eqF w (.tup l)=none:=by unfold eqF; cases w<;>rfl
 rw[this,e1,e2]
def zeP{n:Nat}{w:W}{h:MH}(d:dt n w=true)(hn:n<=60):eqB h w (.tup [])=some (zcA w):=by
 rw[zeU d hn (m:=1) (by rfl) ∅];cases n with
 | zero=>cases d
 | succ n=>
  cases w with
  | ref _=>cases d
  | fdc _=>cases d
  | fn _=>cases d
  | tup l=>cases l<;>simp[toD,PyData.eqv,PyData.eqvAll,zcA]
  | _=>simp[toD,PyData.eqv,zcA]
noncomputable def xG(l:List Str):W->Bool
 | .str x=>l.any (· == x)
 | _=>false
noncomputable def yK(l:List Str):List W:=l.map .str
def zh0{n:Nat}{w:W}{l:List Str}{h:MH}{y:W}(d:dt n w=true)(hn:n<=60)(hl:l.all PyData.strOk=true)(hy:uo h y=some (yK l))(hns:∀z,y≠.str z):inB h w y=some (xG l w):=by
 have e1:=uP (h:=h) d (show n<=deep from hn);have e2:mapO (xj deep h) (yK l)=some (l.map .str):=by
  unfold yK;have:∀l:List Str,l.all PyData.strOk=true->mapO (xj deep h) (l.map .str)=some (l.map PyData.str):=by
   intro l;induction l with
   | nil=>intro _; rfl
   | cons x r ih=>
    intro hl;rw[jt,zg] at hl;simp only[zz];unfold mapO;have:xj deep h (.str x)=some (.str x):=by
     show xj (59+1) h (.str x)=_
     unfold xj;rw[zW hl.1]
    rw[this,ih hl.2]
  exact this l hl
 have e3:inB h w y=match uo h y with
  | some l=>match xj deep h w,mapO (xj deep h) l with
   | some d,some ds=>some (ds.any λe=>PyData.eqv e d)
   | _,_=>none
  | none=>none:=by
  unfold inB;split
  .rename_i j
   exact absurd rfl (hns _)
  .rfl
 rw[e3,hy];simp only[e1,e2];congr 1
 cases n with
 | zero=>cases d
 | succ n=>
  rw[List.any_map];cases w with
  | ref _=>cases d
  | fdc _=>cases d
  | fn _=>cases d
  | str x=>
   unfold xG;congr 1
  | _=>simp[toD,PyData.eqv,xG]
def uv{n:Nat}{w:W}{l:List Str}{h:MH}(d:dt n w=true)(hn:n<=60)(hl:l.all PyData.strOk=true):inB h w (.tup (yK l))=some (xG l w):=zh0 d hn hl rfl (λz=>nofun)
theorem zeX(h:MH)(x y:Str):inB h (.str x) (.str y)=some (zau y x):=rfl
theorem zcr{caps:En}{t:MT}{m:ME}{n0:Nat}{h:MH}(hn:h.length=n0)(p:W->Bool)(f:W->W):∀(l:List W) (acc:List W) (o:Option W),
  (∀w∈l,∀H',t (some w::caps) H'=some (p w,H'))->(∀w∈l,p w=true->∀H',m (some w::caps) H'=some (f w,H'))->acc.length+l.length<=cap->
  uM 1 (gNm 0) t m n0 l (o::caps) (h++[.lst acc])=some (h++[.lst (acc++(l.filter p).map f)])
 | [],acc,o,_,_,_=>by simp[uM]
 | w::l,acc,o,ht,hf,hl=>by
  have ih:=λacc'=>zcr (caps:=caps) (t:=t) (m:=m) hn p f l acc' none (λw hw=>ht w (zq _ hw)) (λw hw=>hf w (zq _ hw))
  have hb:blank 1 (some w::caps)=none::caps:=by simp[blank]
  unfold uM;have hg:gNm 0 w (o::caps) (h++[.lst acc])=some (some w::caps,h++[.lst acc]):=by simp[gNm]
  rw[hg];simp only;rw[ht w zx];simp only[zr] at hl;cases hp:p w with
  | false=>
   simp only;rw[hb,ih acc ∅];simp[vq,hp]
  | true=>
   simp only;rw[hf w zx hp];have e1:(h++[MO.lst acc])[n0]?=some (.lst acc):=by rw[<-hn]; simp
   have e2:(h++[MO.lst acc]).set n0 (.lst (acc++[f w]))=h++[.lst (acc++[f w])]:=by rw[<-hn,jM _ _ (zF _)]; simp
   simp only[e1];rw[zW ∅,hb,e2,ih (acc++[f w]) (by rw[zM]; simp; omega)];simp[vq,hp]
def zds{mi:MI}{ks:List Nat}{t:MT}{m:ME}{ρ:En}{h:MH}{l:List W}(p:W->Bool)(f:W->W)(hm:mi ρ h=some (.items l,h))(ht:∀w∈l,∀H',t (some w::ks.map λk=>(ρ[k]?).join) H'=some (p w,H'))
  (hf:∀w∈l,p w=true->∀H',m (some w::ks.map λk=>(ρ[k]?).join) H'=some (f w,H')) (hlow:∀w∈l,p w=true->low h.length (f w)=true) (hl:l.length<=cap):uf mi 1 ks (gNm 0) t m ρ h=some (.fls ((l.filter p).map f),h):=by
 have e:=zcr (caps:=ks.map λk=>(ρ[k]?).join) (t:=t) (m:=m) (h:=h) rfl p f l [] none ht hf (by simpa using hl);unfold uf za3;rw[hm];have er:(List.replicate 1 (none:Option W)++ks.map λk=>(ρ[k]?).join)=none::ks.map λk=>(ρ[k]?).join:=rfl
 simp only;rw[er,e];simp only[zR,zX (zF _),Nat.sub_self,ye];rw[zW];refine⟨jB _ _,xU λw hw=>?_⟩;obtain⟨w',h1,rfl⟩:=kY.mp hw;obtain⟨h2,h3⟩:=qm.mp h1;exact hlow w' h2 h3
theorem zbL{caps:En}{t:MT}{m:ME}{n0:Nat}{h:MH}(hn:h.length=n0)(p:W->W->Bool)(f:W->W->W):∀(l:List (W×W)) (acc:List W) (o1 o2:Option W),
  (∀w∈l,∀H',t (some w.1::some w.2::caps) H'=some (p w.1 w.2,H'))->(∀w∈l,p w.1 w.2=true->∀H',m (some w.1::some w.2::caps) H'=some (f w.1 w.2,H'))->acc.length+l.length<=cap->
  uM 2 (gTp [gNm 0,gNm 1]) t m n0 (l.map λw=>.tup [w.1,w.2]) (o1::o2::caps) (h++[.lst acc])=some (h++[.lst (acc++(l.filter λw=>p w.1 w.2).map λw=>f w.1 w.2)])
 | [],acc,_,_,_,_,_=>by simp[uM]
 | (a,b)::l,acc,o1,o2,ht,hf,hl=>by
  have ih:=λacc'=>zbL (caps:=caps) (t:=t) (m:=m) hn p f l acc' none none (λw hw=>ht w (zq _ hw)) (λw hw=>hf w (zq _ hw))
  have hb:blank 2 (some a::some b::caps)=none::none::caps:=by simp[blank,List.replicate]
  simp only[zz];unfold uM;have hg:gTp [gNm 0,gNm 1] (.tup [a,b]) (o1::o2::caps) (h++[.lst acc])=some (some a::some b::caps,h++[.lst acc]):=by simp[gTp,gTps,bnd,gNm]
  rw[hg];simp only;rw[ht (a,b) zx];simp only[zr] at hl;cases hp:p a b with
  | false=>
   simp only;rw[hb,ih acc ∅];simp[vq,hp]
  | true=>
   simp only;rw[hf (a,b) zx hp];have e1:(h++[MO.lst acc])[n0]?=some (.lst acc):=by rw[<-hn]; simp
   have e2:(h++[MO.lst acc]).set n0 (.lst (acc++[f a b]))=h++[.lst (acc++[f a b])]:=by rw[<-hn,jM _ _ (zF _)]; simp
   simp only[e1];rw[zW ∅,hb,e2,ih (acc++[f a b]) (by rw[zM]; simp; omega)];simp[vq,hp]
def zmq{mi:MI}{ks:List Nat}{t:MT}{m:ME}{ρ:En}{h:MH}{l:List (W×W)}(p:W->W->Bool)(f:W->W->W)(hm:mi ρ h=some (.items (l.map λw=>.tup [w.1,w.2]),h))(ht:∀w∈l,∀H',t (some w.1::some w.2::ks.map λk=>(ρ[k]?).join) H'=some (p w.1 w.2,H'))
  (hf:∀w∈l,p w.1 w.2=true->∀H',m (some w.1::some w.2::ks.map λk=>(ρ[k]?).join) H'=some (f w.1 w.2,H')) (hlow:∀w∈l,p w.1 w.2=true->low h.length (f w.1 w.2)=true) (hl:l.length<=cap):uf mi 2 ks (gTp [gNm 0,gNm 1]) t m ρ h=some (.fls ((l.filter λw=>p w.1 w.2).map λw=>f w.1 w.2),h):=by
 have e:=zbL (caps:=ks.map λk=>(ρ[k]?).join) (t:=t) (m:=m) (h:=h) rfl p f l [] none none ht hf (by simpa using hl);unfold uf za3;rw[hm];have er:(List.replicate 2 (none:Option W)++ks.map λk=>(ρ[k]?).join)=none::none::ks.map λk=>(ρ[k]?).join:=rfl
 simp only;rw[er,e];simp only[zR,zX (zF _),Nat.sub_self,ye];rw[zW];refine⟨jB _ _,xU λw hw=>?_⟩;obtain⟨w',h1,rfl⟩:=kY.mp hw;obtain⟨h2,h3⟩:=qm.mp h1;exact hlow w' h2 h3
noncomputable def zgZ(x letters:Str):Bool:=match x.cps.toList with
 | c::_=>zau letters ⟨#[c]⟩
 | []=>false
noncomputable def figs(x:Str):Bool:=x.cps.toList.all λc=>zau "0123456789" ⟨#[c]⟩
noncomputable def zdu(x:Str):Str:=Txt.slice x (some 1) none
noncomputable def zdj(x letters:Str):Bool:=decide (1<=x.length/\x.length<=4)&&zgZ x letters&&figs (zdu x)
noncomputable def isWord(letters:Str):W->Bool
 | .str x=>zdj x letters
 | _=>false
def zeR(x:Str):x.cps.toList.length=x.length:=by simp[Str.length]
def zjw{x:Str}{h:MH}(h1:1<=x.length)(h2:x.length<=cap):∃c r,x.cps.toList=c::r/\ixW (.str x) (.int 0) h=some (.str ⟨#[c]⟩,h):=by
 cases e:x.cps.toList with
 | nil=>have:=zeR x; rw[e] at this; simp at this; omega
 | cons c r=>
  refine⟨c,r,rfl,?_⟩;simp only[ixW,zW h2,atI,ixN,e];simp
end ML
namespace K80
open PySem PySem.Spec PyProof.Rows L2 ML
def top(i:Nat):Stmt:=PySem.Challenge.pw_shelfwork_k80_written.main.body.getD i (.Pass ⟨0,0,0,0⟩)
def zbn:W:=(.tup [.str "a",.str "b",.str "c",.str "d"])
def zap:W:=(.int 1008)
def xO:W:=(.int 3)
def uq:W:=(.int 60)
def xZ:W:=(.int 4)
def t_FORMS:List (Str×W):=[("number",(.tup [.int 2,.int 2])),("name",(.tup [.int 2,.int 2])),("read",(.tup [.int 2,.int 2])),("write",(.tup [.int 3,.int 2])),("add",(.tup [.int 3,.int 1])),("less",(.tup [.int 3,.int 1])),("then",(.tup [.int 3,.int 1])),("if",(.tup [.int 4,.int 1])),("loop",(.tup [.int 3,.int 1])),("let",(.tup [.int 4,.int 2])),("own",(.tup [.int 4,.int 2])),("say",(.tup [.int 2,.int 1])),("ask",(.tup [.int 1,.int 1])),("do",(.tup [.int 2,.int 2])),("call",(.tup [.int 4,.int 2]))]
structure Fs where
 f_has_form:List W->M W
 f_parts_of:List W->M W
 f_is_whole:List W->M W
 f_is_worth:List W->M W
 f_is_figures:List W->M W
 f_is_lettered:List W->M W
 f_is_name:List W->M W
 f_is_own_shelf:List W->M W
 f_is_handed_name:List W->M W
 f_is_shelf:List W->M W
 f_is_call:List W->M W
 f_is_deed_outside:List W->M W
 f_parts_with_known:List W->M W
 f_is_deed_where:List W->M W
 f_is_deed:List W->M W
 f_words_and_parts:List W->M W
 f_written:List W->M W
 f_meant:List W->M W
 f_thing_of:List W->M W
 f_read:List W->M W
 f_law_cell:List W->M W
 f_law_drawn:List W->M W
 f_law_leaf:List W->M W
 f_law_deed:List W->M W
 f_law_call:List W->M W
 f_law_rules:List W->M W
 f_law_words:List W->M W
 f_law_weight:List W->M W
 f_law_light:List W->M W
 f_law:List W->M W
noncomputable def b_f_has_form(F:Fs):MS:=(sSeq (sIf (tOrM (um (tVal (eUn (isW .tuple) (eVar 0)))) (tVal (eOp (eqW false) (yJ lenW [eVar 0]) (eC (.int 0)))))
 (sRet (eC (.bl false)))
 yN)
 (sSeq (sIf (tOrM (um (tVal (eUn (isW .str) (eOp ixW (eVar 0) (eC (.int 0)))))) (tVal (eUn (tabIn true t_FORMS) (eOp ixW (eVar 0) (eC (.int 0))))))
 (sRet (eC (.bl false)))
 yN)
 (sRet (eOp (eqW false) (yJ lenW [eVar 0]) (eOp ixW (eUn (zac t_FORMS) (eOp ixW (eVar 0) (eC (.int 0)))) (eC (.int 0)))))))
noncomputable def b_f_parts_of(F:Fs):MS:=(sSeq (sIf (tVal (eOp (eqW false) (eOp ixW (eVar 0) (eC (.int 0))) (eC (.str "call"))))
 (sRet (eOp addW (eOp ixW (eVar 0) (eC (.int 2))) (eOp ixW (eVar 0) (eC (.int 3)))))
 yN)
 (sRet (eSl (eVar 0) (some (eOp ixW (eUn (zac t_FORMS) (eOp ixW (eVar 0) (eC (.int 0)))) (eC (.int 1)))) none)))
noncomputable def b_f_is_whole(F:Fs):MS:=(sRet (eAnd (eUn (isW .int) (eVar 0)) (eNot (eUn (isW .bool) (eVar 0)))))
noncomputable def b_f_is_worth(F:Fs):MS:=(sRet (eAnd (yJ F.f_is_whole [eVar 0]) (uU leW leW (eC (.int 0)) (eVar 0) (eC zap))))
noncomputable def b_f_is_figures(F:Fs):MS:=(sRet (yJ allW [uf (iStr (eVar 0)) 1 [] (gNm 0) uO (eOp (inW false) (eVar 0) (eC (.str "0123456789")))]))
noncomputable def b_f_is_lettered(F:Fs):MS:=(sSeq (sIf (tOrM (um (tVal (eUn (isW .str) (eVar 0)))) (um (tVal (uU leW leW (eC (.int 1)) (yJ lenW [eVar 0]) (eOp addW (eC (.int 1)) (eC xO))))))
 (sRet (eC (.bl false)))
 yN)
 (sRet (eAnd (eOp (inW false) (eOp ixW (eVar 0) (eC (.int 0))) (eVar 1)) (yJ F.f_is_figures [eSl (eVar 0) (some (eC (.int 1))) none]))))
noncomputable def b_f_is_name(F:Fs):MS:=(sRet (yJ F.f_is_lettered [eVar 0,eC (.str "xyz")]))
noncomputable def b_f_is_own_shelf(F:Fs):MS:=(sRet (yJ F.f_is_lettered [eVar 0,eC (.str "pq")]))
noncomputable def b_f_is_handed_name(F:Fs):MS:=(sRet (yJ F.f_is_lettered [eVar 0,eC (.str "fg")]))
noncomputable def b_f_is_shelf(F:Fs):MS:=(sRet (eOr (eOp (inW false) (eVar 0) (eC zbn)) (eAnd (yJ F.f_is_own_shelf [eVar 0]) (eOp (inW false) (eVar 0) (eVar 1)))))
noncomputable def b_f_is_call(F:Fs):MS:=(sSeq (sAsg (eOp ixW (eVar 1) (eC (.int 1))) (gNm 2))
 (sSeq (sIf (tOrM (um (tVal (yJ F.f_is_whole [eVar 2]))) (um (tVal (uU leW ltW (eC (.int 0)) (eVar 2) (yJ lenW [eVar 0])))))
 (sRet (eC (.bl false)))
 yN)
 (sSeq (sIf (tOrM (um (tVal (eUn (isW .tuple) (eOp ixW (eVar 1) (eC (.int 2)))))) (um (tVal (eUn (isW .tuple) (eOp ixW (eVar 1) (eC (.int 3)))))))
 (sRet (eC (.bl false)))
 yN)
 (sSeq (sAsg (eOp ixW (eVar 0) (eVar 2)) (gNm 3))
 (sRet (eAnd (eOp (eqW false) (yJ lenW [eOp ixW (eVar 1) (eC (.int 2))]) (yJ lenW [eOp ixW (eVar 3) (eC (.int 0))])) (eOp (eqW false) (yJ lenW [eOp ixW (eVar 1) (eC (.int 3))]) (yJ lenW [eOp ixW (eVar 3) (eC (.int 1))]))))))))
noncomputable def b_f_is_deed_outside(F:Fs):MS:=(sSeq (sIf (um (tVal (yJ F.f_has_form [eVar 1])))
 (sRet (eC (.bl false)))
 yN)
 (sSeq (sAsg (eOp ixW (eVar 1) (eC (.int 0))) (gNm 3))
 (sSeq (sIf (tVal (eOp (eqW false) (eVar 3) (eC (.str "number"))))
 (sRet (yJ F.f_is_worth [eOp ixW (eVar 1) (eC (.int 1))]))
 yN)
 (sSeq (sIf (tVal (eOp (eqW false) (eVar 3) (eC (.str "name"))))
 (sRet (eAnd (yJ F.f_is_name [eOp ixW (eVar 1) (eC (.int 1))]) (eOp (inW false) (eOp ixW (eVar 1) (eC (.int 1))) (eVar 2))))
 yN)
 (sSeq (sIf (tVal (eOp (eqW false) (eVar 3) (eC (.str "do"))))
 (sRet (eAnd (yJ F.f_is_handed_name [eOp ixW (eVar 1) (eC (.int 1))]) (eOp (inW false) (eOp ixW (eVar 1) (eC (.int 1))) (eVar 2))))
 yN)
 (sSeq (sIf (tVal (eOp (inW false) (eVar 3) (yJ tupW [eC (.str "read"),eC (.str "write")])))
 (sRet (yJ F.f_is_shelf [eOp ixW (eVar 1) (eC (.int 1)),eVar 2]))
 yN)
 (sSeq (sIf (tVal (eOp (eqW false) (eVar 3) (eC (.str "let"))))
 (sRet (yJ F.f_is_name [eOp ixW (eVar 1) (eC (.int 1))]))
 yN)
 (sSeq (sIf (tVal (eOp (eqW false) (eVar 3) (eC (.str "own"))))
 (sRet (yJ F.f_is_own_shelf [eOp ixW (eVar 1) (eC (.int 1))]))
 yN)
 (sSeq (sIf (tVal (eOp (eqW false) (eVar 3) (eC (.str "call"))))
 (sRet (yJ F.f_is_call [eVar 0,eVar 1]))
 yN)
 (sRet (eC (.bl true))))))))))))
noncomputable def b_f_parts_with_known(F:Fs):MS:=(sSeq (sIf (tVal (eOp (inW false) (eOp ixW (eVar 0) (eC (.int 0))) (yJ tupW [eC (.str "let"),eC (.str "own")])))
 (sRet (yJ flsW [yJ tupW [eOp ixW (eVar 0) (eC (.int 2)),eVar 1],yJ tupW [eOp ixW (eVar 0) (eC (.int 3)),eOp addW (eVar 1) (yJ tupW [eOp ixW (eVar 0) (eC (.int 1))])]]))
 yN)
 (sRet (uf (iSeq (yJ F.f_parts_of [eVar 0])) 1 [1] (gNm 0) uO (yJ tupW [eVar 0,eVar 1]))))
noncomputable def b_f_is_deed_where(F:Fs):MS:=(sSeq (sAsg (eC (.int 0)) (gNm 3))
 (sSeq (sAsg (yJ lstW [yJ tupW [eVar 1,eVar 2]]) (gNm 4))
 (sSeq (uD (tVal (eOp gtW (yJ lenW [eVar 4]) (eC (.int 0))))
 (sSeq (sAsg (yR popM (eVar 4) []) (gNm 5))
 (sSeq (sAug 3 augI (eC (.int 1)))
 (sSeq (sIf (tOrM (tVal (eOp gtW (eVar 3) (eC uq))) (um (tVal (yJ F.f_is_deed_outside [eVar 0,eOp ixW (eVar 5) (eC (.int 0)),eOp ixW (eVar 5) (eC (.int 1))]))))
 (sRet (eC (.bl false)))
 yN)
 (xY (yR uE (eVar 4) [yJ F.f_parts_with_known [eOp ixW (eVar 5) (eC (.int 0)),eOp ixW (eVar 5) (eC (.int 1))]]))))))
 (sRet (eC (.bl true))))))
noncomputable def b_f_is_deed(F:Fs):MS:=(sRet (yJ F.f_is_deed_where [eVar 0,eVar 1,yJ tupW []]))
noncomputable def b_f_words_and_parts(F:Fs):MS:=(sSeq (sIf (tVal (eOp (eqW false) (eOp ixW (eVar 0) (eC (.int 0))) (eC (.str "call"))))
 (sSeq (sAsg (eOp addW (eOp addW (eOp addW (eOp addW (yJ flsW [eC (.str "[")]) (yJ zaC [eOp ixW (eVar 0) (eC (.int 2))])) (yJ flsW [eC (.str "]"),eC (.str "[")])) (yJ zaC [eOp ixW (eVar 0) (eC (.int 3))])) (yJ flsW [eC (.str "]")])) (gNm 1))
 (sRet (eOp addW (eOp addW (yJ flsW [eC (.str "("),eOp ixW (eVar 0) (eC (.int 0)),eOp ixW (eVar 0) (eC (.int 1))]) (eVar 1)) (yJ flsW [eC (.str ")")]))))
 yN)
 (sRet (eOp addW (eOp addW (yJ flsW [eC (.str "(")]) (yJ zaC [eVar 0])) (yJ flsW [eC (.str ")")]))))
noncomputable def yT:MT:=(tVal (eOp gtW (yJ lenW [eVar 2]) (eC (.int 0))))
noncomputable def yB(F:Fs):MS:=(sSeq (sAsg (yR popM (eVar 2) []) (gNm 3))
 (sIf (tVal (eUn (isW .tuple) (eVar 3)))
 (xY (yR uE (eVar 2) [eUn revL (yJ F.f_words_and_parts [eVar 3])]))
 (xY (yR xP (eVar 1) [yJ strW [eVar 3]]))))
noncomputable def b_f_written(F:Fs):MS:=sSeq (sAsg (yJ lstW []) (gNm 1)) (sSeq (sAsg (yJ lstW [eVar 0]) (gNm 2)) (sSeq (uD yT (yB F)) (sRet (uB joinM (eC (.str " ")) [eVar 1]))))
noncomputable def b_f_meant(F:Fs):MS:=(sSeq (sIf (zaV (tVal (uU leW leW (eC (.int 1)) (yJ lenW [eVar 0]) (eC xZ))) (tVal (yJ F.f_is_figures [eVar 0])))
 (sRet (yJ intW [eVar 0]))
 yN)
 (sRet (eVar 0)))
noncomputable def zC(F:Fs):MS:=(sSeq (sAsg (yR popM (eVar 1) []) (gNm 3))
 (xY (yR xP (eOp ixW (eVar 1) (eUn negW (eC (.int 1)))) [yJ zab [eVar 3]])))
noncomputable def zB(F:Fs):MS:=(sIf (tVal (eOp (inW false) (eVar 2) (yJ tupW [eC (.str "("),eC (.str "[")])))
 (xY (yR xP (eVar 1) [yJ lstW []]))
 (sIf (tVal (eOp (inW true) (eVar 2) (yJ tupW [eC (.str ")"),eC (.str "]")])))
 (xY (yR xP (eOp ixW (eVar 1) (eUn negW (eC (.int 1)))) [yJ F.f_meant [eVar 2]]))
 (sIf (tVal (eOp gtW (yJ lenW [eVar 1]) (eC (.int 1)))) (zC F) zcu)))
noncomputable def zE(F:Fs):MS:=(sSeq (sIf (tOrM (tVal (eOp (eqW true) (yJ lenW [eVar 1]) (eC (.int 1)))) (tVal (eOp (eqW true) (yJ lenW [eOp ixW (eVar 1) (eC (.int 0))]) (eC (.int 1)))))
 zcu
 yN)
 (sRet (eOp ixW (eOp ixW (eVar 1) (eC (.int 0))) (eC (.int 0)))))
noncomputable def b_f_thing_of(F:Fs):MS:=sSeq (sAsg (yJ lstW [yJ lstW []]) (gNm 1)) (sSeq (sFor (iSeq (eVar 0)) (gNm 2) (zB F)) (zE F))
noncomputable def b_f_read(F:Fs):MS:=(sSeq (sAsg (yJ F.f_thing_of [uB splitM (eVar 1) [eC (.str " ")]]) (gNm 2))
 (sSeq (sIf (tOrM (um (tVal (yJ F.f_is_deed [eVar 0,eVar 2]))) (tVal (eOp (eqW true) (yJ F.f_written [eVar 2]) (eVar 1))))
 zcu
 yN)
 (sRet (eVar 2))))
noncomputable def b_f_law_cell(F:Fs):MS:=(sSeq (sIf (tVal (eOp (eqW false) (eVar 0) (yJ flsW [])))
 (sRet (eOp mulW (eC (.int 7)) (eVar 1)))
 yN)
 (sRet (eOp addW (eOp ixW (eVar 0) (eOp modW (eVar 1) (yJ lenW [eVar 0]))) (eOp mulW (eC (.int 6553)) (eOp divW (eVar 1) (yJ lenW [eVar 0]))))))
noncomputable def b_f_law_drawn(F:Fs):MS:=(sSeq (sAsg (eOp modW (eOp addW (eOp mulW (eOp modW (yJ F.f_law_cell [eVar 0,eVar 1]) (eC (.int 2147483563))) (eC (.int 69069))) (eOp mulW (eC (.int 104723)) (eOp addW (eVar 1) (eC (.int 1))))) (eC (.int 2147483563))) (gNm 3))
 (sSeq (sAsg (eOp modW (eOp addW (eOp mulW (eVar 3) (eVar 3)) (eOp divW (eVar 3) (eC (.int 3)))) (eC (.int 2147483399))) (gNm 3))
 (sRet (eOp modW (eOp divW (eOp modW (eOp addW (eOp mulW (eVar 3) (eVar 3)) (eOp divW (eVar 3) (eC (.int 7)))) (eC (.int 2147483647))) (eC (.int 11))) (eVar 2)))))
noncomputable def LF0(F:Fs):MS:=(sAsg (eVar 2) (gTp [gNm 3,gNm 4,gNm 5]))
noncomputable def LF1(F:Fs):MS:=(sAsg (yJ F.f_law_drawn [eVar 0,eVar 1,eC (.int 8)]) (gNm 6))
noncomputable def LF2(F:Fs):MS:=(sIf (tVal (eOp ltW (eVar 6) (eC (.int 2))))
 (sRet (yJ tupW [eC (.str "number"),eOp ixW (yJ flsW [eC (.int 0),eC (.int 1),eC (.int 2),eC (.int 3),eC (.int 7),eC (.int 1008)]) (yJ F.f_law_drawn [eVar 0,eOp addW (eVar 1) (eC (.int 1)),eC (.int 6)])]))
 yN)
noncomputable def LF3(F:Fs):MS:=(sIf (zaV (tVal (eOp (eqW false) (eVar 6) (eC (.int 2)))) (tVal (eOp (eqW true) (eVar 3) (yJ tupW []))))
 (sRet (yJ tupW [eC (.str "name"),eOp ixW (eVar 3) (yJ F.f_law_drawn [eVar 0,eOp addW (eVar 1) (eC (.int 1)),yJ lenW [eVar 3]])]))
 yN)
noncomputable def LF4(F:Fs):MS:=(sIf (zaV (tVal (eOp (eqW false) (eVar 6) (eC (.int 3)))) (tVal (eOp (eqW true) (eVar 5) (yJ tupW []))))
 (sRet (yJ tupW [eC (.str "do"),eOp ixW (eVar 5) (yJ F.f_law_drawn [eVar 0,eOp addW (eVar 1) (eC (.int 1)),yJ lenW [eVar 5]])]))
 yN)
noncomputable def LF5(F:Fs):MS:=(sIf (tVal (eOp (eqW false) (eVar 6) (eC (.int 4))))
 (sRet (yJ tupW [eC (.str "ask")]))
 yN)
noncomputable def LF6(F:Fs):MS:=(sAsg (eOp addW (yJ tupW [eC (.str "a"),eC (.str "b"),eC (.str "c"),eC (.str "d")]) (eOp mulW (eVar 4) (eC (.int 3)))) (gNm 7))
noncomputable def LF7(F:Fs):MS:=(sRet (yJ tupW [eC (.str "read"),eOp ixW (eVar 7) (yJ F.f_law_drawn [eVar 0,eOp addW (eVar 1) (eC (.int 1)),yJ lenW [eVar 7]])]))
noncomputable def b_f_law_leaf(F:Fs):MS:=sSeq (LF0 F) (sSeq (LF1 F) (sSeq (LF2 F) (sSeq (LF3 F) (sSeq (LF4 F) (sSeq (LF5 F) (sSeq (LF6 F) (LF7 F)))))))
noncomputable def DS0(F:Fs):MS:=(sAsg (yJ F.f_law_drawn [eVar 0,eVar 1,eC (.int 15)]) (gNm 5))
noncomputable def DS1(F:Fs):MS:=(sIf (tOrM (tVal (eOp (eqW false) (eVar 2) (eC (.int 0)))) (tVal (eOp ltW (eVar 5) (eC (.int 2)))))
 (sRet (yJ F.f_law_leaf [eVar 0,eOp addW (eVar 1) (eC (.int 1)),eVar 3]))
 yN)
noncomputable def DS2(F:Fs):MS:=(sIf (zaV (tVal (eOp ltW (eVar 5) (eC (.int 4)))) (tVal (eOp (eqW true) (eVar 4) (yJ tupW []))))
 (sRet (yJ F.f_law_call [eVar 0,eVar 1,eVar 2,eVar 3,eVar 4]))
 yN)
noncomputable def DS3(F:Fs):MS:=(sAsg (yJ F.f_law_deed [eVar 0,eOp addW (eOp mulW (eVar 1) (eC (.int 3))) (eC (.int 7)),eOp subW (eVar 2) (eC (.int 1)),eVar 3,eVar 4]) (gNm 6))
noncomputable def DS4(F:Fs):MS:=(sIf (tVal (eOp ltW (eVar 5) (eC (.int 6))))
 (sSeq (sAsg (eOp addW (yJ tupW [eC (.str "a"),eC (.str "b"),eC (.str "c"),eC (.str "d")]) (eOp mulW (eOp ixW (eVar 3) (eC (.int 1))) (eC (.int 3)))) (gNm 7))
 (sRet (yJ tupW [eC (.str "write"),eOp ixW (eVar 7) (yJ F.f_law_drawn [eVar 0,eOp addW (eVar 1) (eC (.int 3)),yJ lenW [eVar 7]]),eVar 6])))
 yN)
noncomputable def DS5(F:Fs):MS:=(sIf (tVal (eOp (eqW false) (eVar 5) (eC (.int 6))))
 (sRet (yJ tupW [eC (.str "say"),eVar 6]))
 yN)
noncomputable def DS6(F:Fs):MS:=(sIf (tVal (eOp (eqW false) (eVar 5) (eC (.int 7))))
 (sSeq (sAsg (eOp ixW (yJ flsW [eC (.str "x"),eC (.str "y"),eC (.str "x1")]) (yJ F.f_law_drawn [eVar 0,eOp addW (eVar 1) (eC (.int 3)),eC (.int 3)])) (gNm 8))
 (sRet (yJ tupW [eC (.str "let"),eVar 8,eVar 6,yJ F.f_law_deed [eVar 0,eOp addW (eOp mulW (eVar 1) (eC (.int 3))) (eC (.int 23)),eOp subW (eVar 2) (eC (.int 1)),eOp addW (yJ tupW [eOp addW (eOp ixW (eVar 3) (eC (.int 0))) (yJ tupW [eVar 8])]) (eSl (eVar 3) (some (eC (.int 1))) none),eVar 4]])))
 yN)
noncomputable def DS7(F:Fs):MS:=(sIf (tVal (eOp (eqW false) (eVar 5) (eC (.int 8))))
 (sSeq (sAsg (eOp ixW (yJ flsW [eC (.str "p"),eC (.str "q")]) (yJ F.f_law_drawn [eVar 0,eOp addW (eVar 1) (eC (.int 3)),eC (.int 2)])) (gNm 8))
 (sSeq (sAsg (yJ tupW [eOp ixW (eVar 3) (eC (.int 0)),eOp addW (eOp ixW (eVar 3) (eC (.int 1))) (yJ tupW [eVar 8]),eOp ixW (eVar 3) (eC (.int 2))]) (gNm 9))
 (sRet (yJ tupW [eC (.str "own"),eVar 8,eVar 6,yJ F.f_law_deed [eVar 0,eOp addW (eOp mulW (eVar 1) (eC (.int 3))) (eC (.int 23)),eOp subW (eVar 2) (eC (.int 1)),eVar 9,eVar 4]]))))
 yN)
noncomputable def DS8(F:Fs):MS:=(sAsg (yJ F.f_law_deed [eVar 0,eOp addW (eOp mulW (eVar 1) (eC (.int 3))) (eC (.int 41)),eOp subW (eVar 2) (eC (.int 1)),eVar 3,eVar 4]) (gNm 10))
noncomputable def DS9(F:Fs):MS:=(sIf (tVal (eOp (eqW false) (eVar 5) (eC (.int 9))))
 (sRet (yJ tupW [eC (.str "if"),eVar 6,eVar 10,yJ F.f_law_deed [eVar 0,eOp addW (eOp mulW (eVar 1) (eC (.int 3))) (eC (.int 61)),eOp subW (eVar 2) (eC (.int 1)),eVar 3,eVar 4]]))
 yN)
noncomputable def DS10(F:Fs):MS:=(sRet (eOp addW (eOp ixW (yJ flsW [yJ tupW [eC (.str "then")],yJ tupW [eC (.str "add")],yJ tupW [eC (.str "less")],yJ tupW [eC (.str "loop")],yJ tupW [eC (.str "then")]]) (eOp subW (eVar 5) (eC (.int 10)))) (yJ tupW [eVar 6,eVar 10])))
noncomputable def b_f_law_deed(F:Fs):MS:=sSeq (DS0 F) (sSeq (DS1 F) (sSeq (DS2 F) (sSeq (DS3 F) (sSeq (DS4 F) (sSeq (DS5 F) (sSeq (DS6 F) (sSeq (DS7 F) (sSeq (DS8 F) (sSeq (DS9 F) (DS10 F))))))))))
noncomputable def CL0(F:Fs):MS:=(sAsg (yJ F.f_law_drawn [eVar 0,eOp addW (eVar 1) (eC (.int 3)),yJ lenW [eVar 4]]) (gNm 5))
noncomputable def CL1(F:Fs):MS:=(sAsg (yJ lenW [eOp ixW (eOp ixW (eVar 4) (eVar 5)) (eC (.int 0))]) (gNm 6))
noncomputable def CL2(F:Fs):MS:=(sAsg (yJ lstW []) (gNm 7))
noncomputable def CL3(F:Fs):MS:=(sFor (iRng [eOp addW (eVar 6) (yJ lenW [eOp ixW (eOp ixW (eVar 4) (eVar 5)) (eC (.int 1))])]) (gNm 8)
 (xY (yR xP (eVar 7) [yJ F.f_law_deed [eVar 0,eOp addW (eOp addW (eOp mulW (eVar 1) (eC (.int 3))) (eC (.int 7))) (eOp mulW (eC (.int 5)) (eVar 8)),eOp subW (eVar 2) (eC (.int 1)),eVar 3,eVar 4]])))
noncomputable def CL4(F:Fs):MS:=(sRet (yJ tupW [eC (.str "call"),eVar 5,yJ zab [eSl (eVar 7) none (some (eVar 6))],yJ zab [eSl (eVar 7) (some (eVar 6)) none]]))
noncomputable def b_f_law_call(F:Fs):MS:=sSeq (CL0 F) (sSeq (CL1 F) (sSeq (CL2 F) (sSeq (CL3 F) (CL4 F))))
noncomputable def RU0(F:Fs):MS:=(sAsg (yJ tupW []) (gNm 2))
noncomputable def RU1(F:Fs):MS:=(sFor (iRng [yJ F.f_law_drawn [eVar 0,eVar 1,eC (.int 3)]]) (gNm 3)
 (sSeq (sAsg (eOp ixW (yJ flsW [yJ tupW [],yJ tupW [eC (.str "x")],yJ tupW [eC (.str "y"),eC (.str "x")]]) (yJ F.f_law_drawn [eVar 0,eOp addW (eOp addW (eVar 1) (eC (.int 1))) (eOp mulW (eC (.int 5)) (eVar 3)),eC (.int 3)])) (gNm 4))
 (sSeq (sAsg (eOp ixW (yJ flsW [yJ tupW [],yJ tupW [eC (.str "f")],yJ tupW [eC (.str "f"),eC (.str "g1")]]) (yJ F.f_law_drawn [eVar 0,eOp addW (eOp addW (eVar 1) (eC (.int 2))) (eOp mulW (eC (.int 5)) (eVar 3)),eC (.int 3)])) (gNm 5))
 (sSeq (sAsg (yJ F.f_law_deed [eVar 0,eOp addW (eOp addW (eVar 1) (eC (.int 20))) (eOp mulW (eC (.int 7)) (eVar 3)),eC (.int 2),yJ tupW [eVar 4,yJ tupW [],eVar 5],eVar 2]) (gNm 6))
 (sAsg (eOp addW (eVar 2) (yJ tupW [yJ tupW [eVar 4,eVar 5,eVar 6]])) (gNm 2))))))
noncomputable def RU2(F:Fs):MS:=(sRet (eVar 2))
noncomputable def b_f_law_rules(F:Fs):MS:=sSeq (RU0 F) (sSeq (RU1 F) (RU2 F))
noncomputable def vB(F:Fs):MS:=(sAsg (eOp addW (eVar 2) (yJ F.f_law_words [eVar 3,eOr (eNot (eVar 1)) (eOp (eqW true) (eOp ixW (eVar 0) (eC (.int 0))) (eC (.str "call")))])) (gNm 2))
noncomputable def b_f_law_words(F:Fs):MS:=sSeq (sIf (um (tVal (eUn (isW .tuple) (eVar 0)))) (sRet (yJ flsW [yJ strW [eVar 0]])) yN)
 (sSeq (sAsg (yJ flsW []) (gNm 2)) (sSeq (sFor (iSeq (eVar 0)) (gNm 3) (vB F)) (sSeq (sIf (tVal (eVar 1))
 (sRet (eOp addW (eOp addW (yJ flsW [eC (.str "(")]) (eVar 2)) (yJ flsW [eC (.str ")")]))) yN)
 (sRet (eOp addW (eOp addW (yJ flsW [eC (.str "[")]) (eVar 2)) (yJ flsW [eC (.str "]")]))))))
noncomputable def w1(F:Fs):MS:=(sIf (tVal (eOp (inW false) (eVar 3) (yJ tupW [eC (.str "number"),eC (.str "name"),eC (.str "ask"),eC (.str "read")])))
 (sRet (eC (.int 1)))
 yN)
noncomputable def w2(F:Fs):MS:=(sIf (tVal (eOp (eqW false) (eVar 3) (eC (.str "do"))))
 (sRet (zct (eVar 2) (eOp ixW (eVar 1) (eC (.int 1))) (eC (.int 1))))
 yN)
noncomputable def w3(F:Fs):MS:=(sIf (tVal (eOp (eqW false) (eVar 3) (eC (.str "call"))))
 (sSeq (sAsg (yJ zbx [uf (iZip [eOp ixW (eOp ixW (eVar 0) (eOp ixW (eVar 1) (eC (.int 1)))) (eC (.int 1)),eOp ixW (eVar 1) (eC (.int 3))]) 2 [0,2] (gTp [gNm 0,gNm 1]) uO (yJ tupW [eVar 0,yJ F.f_law_weight [eVar 2,eVar 1,eVar 3]])]) (gNm 4))
 (sSeq (sAsg (yJ sumW [uf (iSeq (eOp ixW (eVar 1) (eC (.int 2)))) 1 [0,2] (gNm 0) uO (yJ F.f_law_weight [eVar 1,eVar 0,eVar 2])]) (gNm 5))
 (sRet (eOp addW (eOp addW (eC (.int 1)) (eVar 5)) (yJ F.f_law_weight [eVar 0,eOp ixW (eOp ixW (eVar 0) (eOp ixW (eVar 1) (eC (.int 1)))) (eC (.int 2)),eVar 4])))))
 yN)
noncomputable def w4(F:Fs):MS:=(sAsg (uf (iSeq (eSl (eVar 1) (some (eC (.int 1))) none)) 1 [0,2] (gNm 0) (tVal (eUn (isW .tuple) (eVar 0))) (yJ F.f_law_weight [eVar 1,eVar 0,eVar 2])) (gNm 6))
noncomputable def w5(F:Fs):MS:=(sIf (tVal (eOp (eqW false) (eVar 3) (eC (.str "loop"))))
 (sRet (eOp addW (eOp addW (eC (.int 1)) (eOp ixW (eVar 6) (eC (.int 0)))) (eOp mulW (eC (.int 3)) (eOp ixW (eVar 6) (eC (.int 1))))))
 yN)
noncomputable def w6(F:Fs):MS:=(sRet (eOp addW (eC (.int 1)) (yJ sumW [eVar 6])))
noncomputable def b_f_law_weight(F:Fs):MS:=sSeq (sAsg (eOp ixW (eVar 1) (eC (.int 0))) (gNm 3)) (sSeq (w1 F) (sSeq (w2 F) (sSeq (w3 F) (sSeq (w4 F) (sSeq (w5 F) (w6 F))))))
noncomputable def b_f_law_light(F:Fs):MS:=(sSeq (sAsg (yJ F.f_law_deed [eVar 0,eVar 1,eVar 2,yJ tupW [yJ tupW [],yJ tupW [],yJ tupW []],eVar 3]) (gNm 4))
 (sSeq (sIf (tVal (eOp gtW (yJ F.f_law_weight [eVar 3,eVar 4,eC (.fdc [])]) (eC (.int 80))))
 (sRet (yJ tupW [eC (.str "read"),eOp ixW (eC (.str "abcd")) (yJ F.f_law_drawn [eVar 0,eVar 1,eC (.int 4)])]))
 yN)
 (sRet (eVar 4))))
noncomputable def b_f_law(F:Fs):MS:=(sSeq (sAsg (yJ F.f_law_rules [eVar 0,eC (.int 1)]) (gNm 1))
 (sSeq (sAsg (yJ F.f_law_light [eVar 0,eC (.int 90),eC (.int 2),eVar 1]) (gNm 2))
 (sSeq (sAsg (yJ F.f_written [eVar 2]) (gNm 3))
 (sSeq (sIf (tVal (eOp (eqW true) (eVar 3) (uB joinM (eC (.str " ")) [yJ F.f_law_words [eVar 2,eC (.bl true)]])))
 (sRet (eC (.bl false)))
 yN)
 (sRet (eOr (eNot (yJ F.f_is_deed [eVar 1,eVar 2])) (eOp (eqW false) (yJ F.f_read [eVar 1,eVar 3]) (eVar 2))))))))
noncomputable def step(F:Fs):Fs where
 f_has_form:=gc (fnM 1 0 (b_f_has_form F))
 f_parts_of:=gc (fnM 1 0 (b_f_parts_of F))
 f_is_whole:=gc (fnM 1 0 (b_f_is_whole F))
 f_is_worth:=gc (fnM 1 0 (b_f_is_worth F))
 f_is_figures:=gc (fnM 1 0 (b_f_is_figures F))
 f_is_lettered:=gc (fnM 2 0 (b_f_is_lettered F))
 f_is_name:=gc (fnM 1 0 (b_f_is_name F))
 f_is_own_shelf:=gc (fnM 1 0 (b_f_is_own_shelf F))
 f_is_handed_name:=gc (fnM 1 0 (b_f_is_handed_name F))
 f_is_shelf:=gc (fnM 2 0 (b_f_is_shelf F))
 f_is_call:=gc (fnM 2 2 (b_f_is_call F))
 f_is_deed_outside:=gc (fnM 3 1 (b_f_is_deed_outside F))
 f_parts_with_known:=gc (fnM 2 0 (b_f_parts_with_known F))
 f_is_deed_where:=gc (fnM 3 3 (b_f_is_deed_where F))
 f_is_deed:=gc (fnM 2 0 (b_f_is_deed F))
 f_words_and_parts:=gc (fnM 1 1 (b_f_words_and_parts F))
 f_written:=gc (fnM 1 3 (b_f_written F))
 f_meant:=gc (fnM 1 0 (b_f_meant F))
 f_thing_of:=gc (fnM 1 3 (b_f_thing_of F))
 f_read:=gc (fnM 2 1 (b_f_read F))
 f_law_cell:=gc (fnM 2 0 (b_f_law_cell F))
 f_law_drawn:=gc (fnM 3 1 (b_f_law_drawn F))
 f_law_leaf:=gc (fnM 3 5 (b_f_law_leaf F))
 f_law_deed:=gc (fnM 5 6 (b_f_law_deed F))
 f_law_call:=gc (fnM 5 4 (b_f_law_call F))
 f_law_rules:=gc (fnM 2 5 (b_f_law_rules F))
 f_law_words:=gc (fnM 2 2 (b_f_law_words F))
 f_law_weight:=gc (fnM 3 4 (b_f_law_weight F))
 f_law_light:=gc (fnM 4 1 (b_f_law_light F))
 f_law:=gc (fnM 1 3 (b_f_law F))
def Fs.bot:Fs:=⟨λ_ _=>none,λ_ _=>none,λ_ _=>none,λ_ _=>none,λ_ _=>none,λ_ _=>none,λ_ _=>none,λ_ _=>none,λ_ _=>none,λ_ _=>none,λ_ _=>none,λ_ _=>none,λ_ _=>none,λ_ _=>none,λ_ _=>none,λ_ _=>none,λ_ _=>none,λ_ _=>none,λ_ _=>none,λ_ _=>none,λ_ _=>none,λ_ _=>none,λ_ _=>none,λ_ _=>none,λ_ _=>none,λ_ _=>none,λ_ _=>none,λ_ _=>none,λ_ _=>none,λ_ _=>none⟩
noncomputable def lv:Nat->Fs
 | 0=>.bot
 | n+1=>step (lv n)
def fns(F:Fs):List (Str×(List W->M W)):=[(("has_form":Str),F.f_has_form),(("parts_of":Str),F.f_parts_of),(("is_whole":Str),F.f_is_whole),(("is_worth":Str),F.f_is_worth),(("is_figures":Str),F.f_is_figures),(("is_lettered":Str),F.f_is_lettered),(("is_name":Str),F.f_is_name),(("is_own_shelf":Str),F.f_is_own_shelf),(("is_handed_name":Str),F.f_is_handed_name),(("is_shelf":Str),F.f_is_shelf),(("is_call":Str),F.f_is_call),(("is_deed_outside":Str),F.f_is_deed_outside),(("parts_with_known":Str),F.f_parts_with_known),(("is_deed_where":Str),F.f_is_deed_where),(("is_deed":Str),F.f_is_deed),(("words_and_parts":Str),F.f_words_and_parts),(("written":Str),F.f_written),(("meant":Str),F.f_meant),(("thing_of":Str),F.f_thing_of),(("read":Str),F.f_read),(("_law_cell":Str),F.f_law_cell),(("_law_drawn":Str),F.f_law_drawn),(("_law_leaf":Str),F.f_law_leaf),(("_law_deed":Str),F.f_law_deed),(("_law_call":Str),F.f_law_call),(("_law_rules":Str),F.f_law_rules),(("_law_words":Str),F.f_law_words),(("_law_weight":Str),F.f_law_weight),(("_law_light":Str),F.f_law_light),(("law":Str),F.f_law)]
def cons:List (Str×W):=[("SHELVES",zbn),("MOST_WORTH",zap),("MOST_FIGURES_names",xO),("MOST_DEEDS",uq),("MOST_FIGURES_texts",xZ)]
def tabs:List (Str×List (Str×W)):=[("FORMS",t_FORMS)]
def bins:List Str:=["all","bool","dict","int","isinstance","len","list","range","reversed","str","sum","tuple","zip"]
def rc(F:Fs):RC:=⟨⟨.function,[],false,false,[]⟩,[],false,fns F,cons,tabs,bins,[],[],[]⟩
def d_f_has_form:Def:=⟨"has_form",top 2,["thing"],["thing"],[],[],[]⟩
def d_f_parts_of:Def:=⟨"parts_of",top 3,["deed"],["deed"],[],[],[]⟩
def d_f_is_whole:Def:=⟨"is_whole",top 8,["thing"],["thing"],[],[],[]⟩
def d_f_is_worth:Def:=⟨"is_worth",top 9,["thing"],["thing"],[],[],[]⟩
def d_f_is_figures:Def:=⟨"is_figures",top 10,["text"],["text"],[],["text"],[((22,15),["sign"])]⟩
def d_f_is_lettered:Def:=⟨"is_lettered",top 11,["thing","letters"],["thing","letters"],[],[],[]⟩
def d_f_is_name:Def:=⟨"is_name",top 12,["thing"],["thing"],[],[],[]⟩
def d_f_is_own_shelf:Def:=⟨"is_own_shelf",top 13,["thing"],["thing"],[],[],[]⟩
def d_f_is_handed_name:Def:=⟨"is_handed_name",top 14,["thing"],["thing"],[],[],[]⟩
def d_f_is_shelf:Def:=⟨"is_shelf",top 17,["thing","known"],["thing","known"],[],[],[]⟩
def d_f_is_call:Def:=⟨"is_call",top 18,["rules","deed"],["rules","deed","number","rule"],[],[],[]⟩
def d_f_is_deed_outside:Def:=⟨"is_deed_outside",top 19,["rules","thing","known"],["rules","thing","known","word"],[],[],[]⟩
def d_f_parts_with_known:Def:=⟨"parts_with_known",top 20,["deed","known"],["deed","known"],[],[],[((67,11),["part","known"])]⟩
def d_f_is_deed_where:Def:=⟨"is_deed_where",top 21,["rules","thing","known"],["rules","thing","known","count","waiting","place"],["waiting"],[],[]⟩
def d_f_is_deed:Def:=⟨"is_deed",top 22,["rules","thing"],["rules","thing"],[],[],[]⟩
def d_f_words_and_parts:Def:=⟨"words_and_parts",top 28,["deed"],["deed","tuples"],[],[],[]⟩
def d_f_written:Def:=⟨"written",top 29,["deed"],["deed","words","waiting","thing"],["waiting","words"],[],[]⟩
def d_f_meant:Def:=⟨"meant",top 30,["word"],["word"],[],[],[]⟩
def d_f_thing_of:Def:=⟨"thing_of",top 31,["words"],["words","rows","word","row"],["rows"],[],[]⟩
def d_f_read:Def:=⟨"read",top 32,["rules","text"],["rules","text","thing"],[],[],[]⟩
def d_f_law_cell:Def:=⟨"_law_cell",top 34,["_law_script","_law_k"],["_law_script","_law_k"],[],[],[]⟩
def d_f_law_drawn:Def:=⟨"_law_drawn",top 35,["_law_script","_law_k","_law_many"],["_law_script","_law_k","_law_many","_law_cell_here"],[],[],[]⟩
def d_f_law_leaf:Def:=⟨"_law_leaf",top 36,["_law_script","_law_at","_law_known"],["_law_script","_law_at","_law_known","_law_names","_law_owns","_law_handed","_law_way","_law_shelves"],[],[],[]⟩
def d_f_law_deed:Def:=⟨"_law_deed",top 37,["_law_script","_law_at","_law_deep","_law_known","_law_rules_here"],["_law_script","_law_at","_law_deep","_law_known","_law_rules_here","_law_way","_law_one","_law_shelves","_law_word","_law_inner","_law_other"],[],[],[]⟩
def d_f_law_call:Def:=⟨"_law_call",top 38,["_law_script","_law_at","_law_deep","_law_known","_law_rules_here"],["_law_script","_law_at","_law_deep","_law_known","_law_rules_here","_law_number","_law_size","_law_parts","_law_k"],["_law_parts"],[],[]⟩
def d_f_law_rules:Def:=⟨"_law_rules",top 39,["_law_script","_law_at"],["_law_script","_law_at","_law_rules_here","_law_k","_law_names","_law_handed","_law_body"],[],[],[]⟩
def d_f_law_words:Def:=⟨"_law_words",top 42,["_law_thing","_law_is_deed_here"],["_law_thing","_law_is_deed_here","_law_found","_law_part"],[],[],[]⟩
def d_f_law_weight:Def:=⟨"_law_weight",top 43,["_law_rules_here","_law_deed_here","_law_handed"],["_law_rules_here","_law_deed_here","_law_handed","_law_word","_law_there","_law_parts","_law_inner"],[],[],[((209,17),["_law_part","_law_rules_here","_law_handed"]),((206,26),["_law_one","_law_part","_law_rules_here","_law_handed"]),((207,25),["_law_part","_law_rules_here","_law_handed"])]⟩
def d_f_law_light:Def:=⟨"_law_light",top 44,["_law_script","_law_at","_law_deep","_law_rules_here"],["_law_script","_law_at","_law_deep","_law_rules_here","_law_deed_here"],[],[],[]⟩
def d_f_law:Def:=⟨"law",top 45,["_law_script"],["_law_script","_law_rules_here","_law_deed_here","_law_told"],[],[],[]⟩
def defs:List Def:=[d_f_has_form,d_f_parts_of,d_f_is_whole,d_f_is_worth,d_f_is_figures,d_f_is_lettered,d_f_is_name,d_f_is_own_shelf,d_f_is_handed_name,d_f_is_shelf,d_f_is_call,d_f_is_deed_outside,d_f_parts_with_known,d_f_is_deed_where,d_f_is_deed,d_f_words_and_parts,d_f_written,d_f_meant,d_f_thing_of,d_f_read,d_f_law_cell,d_f_law_drawn,d_f_law_leaf,d_f_law_deed,d_f_law_call,d_f_law_rules,d_f_law_words,d_f_law_weight,d_f_law_light,d_f_law]
def lvl{P:Program}{w:World}{K:PySem.W.Frag}{mg:Str->Option Value}{base:Heap}(T:AllD (zav K mg) defs)(c:AllOf (Glob K mg) cons)(t:AllOf (TabOk K w.params mg) tabs)(z:AllNone mg bins):∀n,BaseOk P w K mg base ⟨λ_=>0,P,w⟩ n (rc (lv n)):=by
 obtain⟨T0,T1,T2,T3,T4,T5,T6,T7,T8,T9,T10,T11,T12,T13,T14,T15,T16,T17,T18,T19,T20,T21,T22,T23,T24,T25,T26,T27,T28,T29,-⟩:=T;intro n;induction n with
 | zero=>exact⟨⟨yO T0,yO T1,yO T2,yO T3,yO T4,yO T5,yO T6,yO T7,yO T8,yO T9,yO T10,yO T11,yO T12,yO T13,yO T14,yO T15,yO T16,yO T17,yO T18,yO T19,yO T20,yO T21,yO T22,yO T23,yO T24,yO T25,yO T26,yO T27,yO T28,yO T29,trivial⟩,c,t,z,⟨rfl,rfl⟩⟩
 | succ n ih=>exact⟨⟨yV (b:=b_f_has_form _) T0 ih,yV (b:=b_f_parts_of _) T1 ih,yV (b:=b_f_is_whole _) T2 ih,yV (b:=b_f_is_worth _) T3 ih,yV (b:=b_f_is_figures _) T4 ih,yV (b:=b_f_is_lettered _) T5 ih,yV (b:=b_f_is_name _) T6 ih,yV (b:=b_f_is_own_shelf _) T7 ih,yV (b:=b_f_is_handed_name _) T8 ih,yV (b:=b_f_is_shelf _) T9 ih,yV (b:=b_f_is_call _) T10 ih,yV (b:=b_f_is_deed_outside _) T11 ih,yV (b:=b_f_parts_with_known _) T12 ih,yV (b:=b_f_is_deed_where _) T13 ih,yV (b:=b_f_is_deed _) T14 ih,yV (b:=b_f_words_and_parts _) T15 ih,yV (b:=b_f_written _) T16 ih,yV (b:=b_f_meant _) T17 ih,yV (b:=b_f_thing_of _) T18 ih,yV (b:=b_f_read _) T19 ih,yV (b:=b_f_law_cell _) T20 ih,yV (b:=b_f_law_drawn _) T21 ih,yV (b:=b_f_law_leaf _) T22 ih,yV (b:=b_f_law_deed _) T23 ih,yV (b:=b_f_law_call _) T24 ih,yV (b:=b_f_law_rules _) T25 ih,yV (b:=b_f_law_words _) T26 ih,yV (b:=b_f_law_weight _) T27 ih,yV (b:=b_f_law_light _) T28 ih,yV (b:=b_f_law _) T29 ih,trivial⟩,c,t,z,⟨rfl,rfl⟩⟩
end K80
namespace K80
open PySem L2 ML
theorem zku{α:Type}{β:Type}{c:Prop}[Decidable c]{f g:α->β}{x:α}:(if c then f else g) x=if c then f x else g x:=by split<;>rfl
local macro_rules
 |`(tactic|simp![$l,*])=>`(tactic|simp[step,fnM,sSeq,sIf,sRet,xY,yN,sAsg,gNm,gTp,gTps,eVar,eC,eOp,eUn,yJ,xX,eAnd,eOr,eNot,eIf,uU,tVal,zaV,tOrM,um,asB,bnd,eqW,inW,zku,$l,*])
def zi1(l:List W)(f:W->Bool):zbp (l.map λw=>.bl (f w))=some (l.map f):=by
 induction l with
 | nil=>rfl
 | cons x r ih=>simp only[zz]; unfold zbp; rw[ih]
noncomputable def forms:List (Str×(Int×Int)):=[("number",(2,2)),("name",(2,2)),("read",(2,2)),("write",(3,2)),("add",(3,1)),("less",(3,1)),("then",(3,1)),("if",(4,1)),("loop",(3,1)),("let",(4,2)),("own",(4,2)),("say",(2,1)),("ask",(1,1)),("do",(2,2)),("call",(4,2))]
noncomputable def fm(x:Str):Option (Int×Int):=forms.lookup x
theorem zjd:t_FORMS=forms.map λp=>(p.1,.tup [.int p.2.1,.int p.2.2]):=rfl
theorem zgH{α β:Type}(f:α->β)(x:Str):∀l:List (Str×α),(l.map λp=>(p.1,f p.2)).lookup x=(l.lookup x).map f
 | []=>rfl
 | (k,v)::r=>by
  simp only[zz,jD];cases x==k with
  | true=>rfl
  | false=>exact zgH f x r
def t_fm(x:Str):t_FORMS.lookup x=(fm x).map λp=>W.tup [.int p.1,.int p.2]:=by
 rw[zjd];exact zgH (λp:Int×Int=>W.tup [.int p.1,.int p.2]) x forms
def xq{n:Nat}{l:List W}(d:dt n (.tup l)=true):∃m,n=m+1/\l.length<=1000/\∀w∈l,dt m w=true:=by
 cases n with
 | zero=>cases d
 | succ m=>
  unfold dt at d;rw[zg] at d;exact⟨m,rfl,jZ d.1,λw hw=>zV.mp d.2 w hw⟩
def ix0{x:W}{r:List W}{h:MH}:ixW (.tup (x::r)) (.int 0) h=some (x,h):=by simp[ixW,atI,ixN]
def ix1{x y:W}{r:List W}{h:MH}:ixW (.tup (x::y::r)) (.int 1) h=some (y,h):=by
 have:(1:Int)<(r.length:Int)+1+1:=by omega
 simp[ixW,atI,ixN,this]
def ix2{x y z:W}{r:List W}{h:MH}:ixW (.tup (x::y::z::r)) (.int 2) h=some (z,h):=by
 have:(2:Int)<(r.length:Int)+1+1+1:=by omega
 simp[ixW,atI,ixN,this]
def ix3{x y z u:W}{r:List W}{h:MH}:ixW (.tup (x::y::z::u::r)) (.int 3) h=some (u,h):=by
 have:(3:Int)<(r.length:Int)+1+1+1+1:=by omega
 simp[ixW,atI,ixN,this]
def ixn{l:List W}{i:Int}{h:MH}{w:W}(h0:0<=i)(h1:i<l.length)(e:l[i.toNat]?=some w):ixW (.tup l) (.int i) h=some (w,h):=by
 have hj:i.toNat<l.length:=by omega
 have:l[i.toNat]=w:=by rw[z9 hj] at e; exact zN e
 simp[ixW,atI,ixN,h0,h1,this]
noncomputable def yQ:W->List W
 | .tup (.str x::r)=>if x=="call" then (match r with
   | [_,.tup a,.tup b]=>a++b
   | _=>[]) else (match fm x with
   | some p=>r.drop (p.2.toNat-1)
   | none=>[])
 | _=>[]
def zb2{l:List W}{k:Nat}:cutW l (some (k:Int)) none=l.drop k:=by
 unfold cutW;have e1:HT.sIx l.length 0 (some (k:Int))=min k l.length:=by
  have:¬((k:Int)<0):=by omega
  simp[HT.sIx,this]
 have e2:HT.sIx l.length l.length none=l.length:=rfl;rw[e1,e2];have:l.drop (min k l.length)=l.drop k:=by
  by_cases h:k<=l.length
  .rw[Nat.min_eq_left h]
  .rw[Nat.min_eq_right ∅,wF,List.drop_of_length_le ∅]
 rw[this];apply yj
 rw[qb];omega
def zlD{x:Str}{p:Int×Int}(e:fm x=some p):1<=p.2/\p.2<=4:=by
 have:∀(l:List (Str×(Int×Int))),(l.all λq=>decide (1<=q.2.2/\q.2.2<=4))=true->l.lookup x=some p->1<=p.2/\p.2<=4:=by
  intro l;induction l with
  | nil=>intro _ e; cases e
  | cons q r ih=>
   obtain⟨k,v⟩:=q;intro h e;rw[jt,zg] at h;rw[jD] at e;split at e
   .cases e; exact jZ h.1
   .exact ih h.2 e
 exact this forms (by decide) e
def xm(ks:List Str):(yK ks).length=ks.length:=by simp[yK]
def zaB{n:Nat}{w:W}(d:dt (n+1) w=true):∀v∈yQ w,dt n v=true:=by
 intro v hv;unfold yQ at hv;split at hv
 .rename_i x r
  obtain⟨m,e,hl,hd⟩:=xq d;cases e;split at hv
  .split at hv
   .rename_i a b
    rename_i z0;cases n with
    | zero=>have:=hd (.tup a) (by simp); cases this
    | succ n=>
    obtain⟨m1,e1,la,da⟩:=xq (hd (.tup a) (by simp));obtain⟨m2,e2,lb,db⟩:=xq (hd (.tup b) (by simp));cases e1; cases e2;rcases zP.mp hv with h | h
    .exact xR (da v h) (qM _)
    .exact xR (db v h) (qM _)
   .simp at hv
  .split at hv
   .exact hd v (zq _ (j7 hv))
   .simp at hv
 .simp at hv
def zaW{n:Nat}{w:W}(d:dt n w=true):(yQ w).length<=2000:=by
 unfold yQ;split
 .rename_i x r
  obtain⟨m,rfl,hl,hd⟩:=xq d;split
  .split
   .rename_i a b
    obtain⟨m1,e1,la,da⟩:=xq (hd (.tup a) (by simp));obtain⟨m2,e2,lb,db⟩:=xq (hd (.tup b) (by simp));rw[zM];omega
   .simp
  .split
   .rw[qb]
    simp at hl;omega
   .simp
 .simp
def at0{α:Type}(h:List α)(o:α):(h++[o])[h.length]?=some o:=by simp
def set0{α:Type}(h:List α)(o o':α):(h++[o]).set h.length o'=h++[o']:=by rw[jM _ _ (zF _)]; simp
noncomputable def up:Nat->Fs->Fs
 | 0,F=>F
 | n+1,F=>step (up n F)
def yL{a b:MS}{ρ ρ':En}{h h':MH}(e:a ρ h=some (.nx ρ',h')):sSeq a b ρ h=b ρ' h':=by unfold sSeq; rw[e]
def uh{a b:MS}{ρ:En}{h h':MH}{w:W}(e:a ρ h=some (.ret w,h')):sSeq a b ρ h=some (.ret w,h'):=by unfold sSeq; rw[e]
def ixf0{a:W}{r:List W}{h:MH}:ixW (.fls (a::r)) (.int 0) h=some (a,h):=by simp[ixW,getL,atI,ixN]
def ixf1{a b:W}{r:List W}{h:MH}:ixW (.fls (a::b::r)) (.int 1) h=some (b,h):=by
 have:(1:Int)<(r.length:Int)+1+1:=by omega
 simp[ixW,getL,atI,ixN,this]
noncomputable abbrev th(x:Str)(r:List W):W:=.tup (.str x::r)
def zll{l:List W}{k:Nat}(hk:k<=l.length):cutW l none (some (k:Int))=l.take k:=by
 unfold cutW;have e1:HT.sIx l.length l.length (some (k:Int))=k:=by
  have:¬((k:Int)<0):=by omega
  simp[HT.sIx,this]; omega
 have e2:HT.sIx l.length 0 none=0:=rfl;rw[e1,e2]; simp
def ziv{x:W}{r:List W}:cutW (x::r) (some 1) none=r:=by
 have:=zb2 (l:=x::r) (k:=1);simpa using this
def ints_map(l:List W)(f:W->Int):intsOf (l.map λw=>.int (f w))=some (l.map f):=by
 induction l with
 | nil=>rfl
 | cons x r ih=>simp only[zz]; unfold intsOf; rw[ih]
def filter_true{α:Type}(l:List α):(l.filter λ_=>true)=l:=yE.mpr (by simp)
def zhJ{n:Nat}{l:List W}{h:MH}(d:dt n (.fls l)=true)(hn:n<=60):eqB h (.fls l) (.fls [])=some l.isEmpty:=by
 have e1:=uP (h:=h) d (show n<=deep from hn);have e2:=uP (h:=h) (show dt 1 (.fls [])=true from rfl) (show 1<=deep by decide);unfold eqB;simp only[eqF,e1,e2];congr 1
 cases n with
 | zero=>cases d
 | succ n=>
  cases l<;>simp[toD,PyData.eqv,PyData.eqvAll]
noncomputable def scr(ns:List Int):W:=.fls (ns.map W.int)
theorem zlC{ns:List Int}(h:ns.length<=63):dt 2 (scr ns)=true:=by
 unfold scr dt;rw[zg];refine⟨jN (by simp; omega),zV.mpr λw hw=>?_⟩;obtain⟨i,_,rfl⟩:=kY.mp hw;rfl
noncomputable def u0(ns:List Int)(k:Int):Int:=if ns=[] then 7*k else ns.getD (k%ns.length).toNat 0+6553*(k/ns.length)
def zlo{F:Fs}{ns:List Int}{k:Int}{h:MH}(hl:ns.length<=63):(step F).f_law_cell [scr ns,.int k] h=some (.int (u0 ns k),h):=by
 refine xF (n:=1) ?_ rfl;have eq:=zhJ (h:=h) (zlC hl) ∅;have sm:(small 7||small k)=true:=by rw[show small 7=true by decide]; rfl
 cases ns with
 | nil=>
  have eq':eqB h (scr []) (.fls [])=some true:=eq;simp![b_f_law_cell,flsW,cap,eq',mulW,sm,u0]
 | cons n r=>
  have eq':eqB h (scr (n::r)) (.fls [])=some false:=eq;have hp:(0:Int)<(r.length:Int)+1:=by omega
  have hb:(r.length:Int)+1<1073741824:=by simp at hl; omega
  have hm0:=qO k (show((r.length:Int)+1)≠0 by omega);have hm1:=qu k hp;have hlen:lenW [scr (n::r)] h=some (.int ((r.length:Int)+1),h):=by simp[lenW,scr,getL]
  have hix:ixW (scr (n::r)) (.int (k%((r.length:Int)+1))) h=some (.int ((n::r).getD (k%((r.length:Int)+1)).toNat 0),h):=by
   have hj:(k%((r.length:Int)+1)).toNat<(n::r).length:=by simp; omega
   have e1:((n::r).map W.int)[(k%((r.length:Int)+1)).toNat]?=some (.int ((n::r).getD (k%((r.length:Int)+1)).toNat 0)):=by
    rw[kW,z9 hj];simp only[Option.map_some,List.getD,z9 hj,Option.getD_some]
   have e2:atI ((n::r).map W.int) (k%((r.length:Int)+1))=some (.int ((n::r).getD (k%((r.length:Int)+1)).toNat 0)):=by
    unfold atI ixN;rw[zW hm0,zW (by simp; omega)];exact e1
   simp only[ixW,scr,getL,e2]
  have sm2:(small 6553||small (k/((r.length:Int)+1)))=true:=by rw[show small 6553=true by decide]; rfl
  simp![b_f_law_cell,flsW,cap,eq',hlen,modW,hp,hix,divW,hb,mulW,sm2,addW,addI,u0]
noncomputable def h1V(ns:List Int)(k:Int):Int:=(u0 ns k%2147483563*69069+104723*(k+1))%2147483563
noncomputable def h2V(ns:List Int)(k:Int):Int:=(h1V ns k*h1V ns k+h1V ns k/3)%2147483399
noncomputable def uA(ns:List Int)(k many:Int):Int:=(h2V ns k*h2V ns k+h2V ns k/7)%2147483647/11%many
def zb1{i:Int}(h0:0<=i)(h1:i<2147483648):small i=true:=by
 unfold small;exact jN ⟨by omega,by omega⟩
def zak{F:Fs}{ns:List Int}{k many:Int}{h:MH}(hl:ns.length<=63)(hm:0<many):(step (step F)).f_law_drawn [scr ns,.int k,.int many] h=some (.int (uA ns k many),h):=by
 refine xF (n:=1) ?_ rfl;have e:=λh=>zlo (F:=F) (k:=k) (h:=h) hl
 generalize step F=G at e;have a1:0<=h1V ns k/\h1V ns k<2147483563:=⟨qO _ ∅,qu _ ∅⟩;have a2:0<=h2V ns k/\h2V ns k<2147483399:=⟨qO _ ∅,qu _ ∅⟩;have c0:0<=u0 ns k%2147483563/\u0 ns k%2147483563<2147483563:=⟨qO _ ∅,qu _ ∅⟩;have s1:(small (u0 ns k%2147483563)||small 69069)=true:=by rw[zb1 c0.1 ∅]; rfl
 have s2:(small 104723||small (k+1))=true:=by rw[show small 104723=true by decide]; rfl
 have s3:(small (h1V ns k)||small (h1V ns k))=true:=by rw[zb1 a1.1 ∅]; rfl
 have s4:(small (h2V ns k)||small (h2V ns k))=true:=by rw[zb1 a2.1 ∅]; rfl
 have m1:∀h,mulW (.int (u0 ns k%2147483563)) (.int 69069) h=some (.int (u0 ns k%2147483563*69069),h):=λh=>by simp only[mulW,s1,jb]
 have m2:∀h,mulW (.int 104723) (.int (k+1)) h=some (.int (104723*(k+1)),h):=λh=>by simp only[mulW,s2,jb]
 have m3:∀h,mulW (.int (h1V ns k)) (.int (h1V ns k)) h=some (.int (h1V ns k*h1V ns k),h):=λh=>by simp only[mulW,s3,jb]
 have m4:∀h,mulW (.int (h2V ns k)) (.int (h2V ns k)) h=some (.int (h2V ns k*h2V ns k),h):=λh=>by simp only[mulW,s4,jb]
 have f1:(u0 ns k%2147483563*69069+104723*(k+1))%2147483563=h1V ns k:=rfl;have f2:(h1V ns k*h1V ns k+h1V ns k/3)%2147483399=h2V ns k:=rfl;have f3:(h2V ns k*h2V ns k+h2V ns k/7)%2147483647/11%many=uA ns k many:=rfl;have b1:(sAsg (eOp modW (eOp addW (eOp mulW (eOp modW (yJ G.f_law_cell [eVar 0,eVar 1]) (eC (.int 2147483563))) (eC (.int 69069))) (eOp mulW (eC (.int 104723)) (eOp addW (eVar 1) (eC (.int 1))))) (eC (.int 2147483563))) (gNm 3)) [some (scr ns),some (.int k),some (.int many),none] h=some (.nx [some (scr ns),some (.int k),some (.int many),some (.int (h1V ns k))],h):=by
  simp![e,modW,m1,m2,addW,addI,f1]
 have b2:(sAsg (eOp modW (eOp addW (eOp mulW (eVar 3) (eVar 3)) (eOp divW (eVar 3) (eC (.int 3)))) (eC (.int 2147483399))) (gNm 3)) [some (scr ns),some (.int k),some (.int many),some (.int (h1V ns k))] h=some (.nx [some (scr ns),some (.int k),some (.int many),some (.int (h2V ns k))],h):=by
  simp![modW,m3,divW,addW,addI,f2]
 have b3:(sRet (eOp modW (eOp divW (eOp modW (eOp addW (eOp mulW (eVar 3) (eVar 3)) (eOp divW (eVar 3) (eC (.int 7)))) (eC (.int 2147483647))) (eC (.int 11))) (eVar 2))) [some (scr ns),some (.int k),some (.int many),some (.int (h2V ns k))] h=some (.ret (.int (uA ns k many)),h):=by
  simp![modW,m4,divW,addW,addI,hm,f3]
 have row:b_f_law_drawn G [some (scr ns),some (.int k),some (.int many),none] h=some (.ret (.int (uA ns k many)),h):=by
  unfold b_f_law_drawn;rw[yL b1,yL b2,b3]
 simp only[fnM,zr,zU,jb,zz,jx,List.replicate,zY,zR];simp only[row]
def yP{ns:List Int}{k many:Int}(hm:0<many):0<=uA ns k many/\uA ns k many<many:=⟨qO _ ∅,qu _ hm⟩
def vocab:List Str:=["number","name","read","write","add","less","then","if","loop","let","own","say","ask","do","call","a","b","c","d","p","q","x","y","x1","f","g1"]
def zep:∀x∈vocab,(PyData.strOk x&&decide (x.length<=1000))=true:=by decide +kernel
noncomputable def pl:Nat->W->Bool
 | 0,_=>false
 | _+1,.int i=>decide (0<=i)&&decide (i<=1008)
 | _+1,.str x=>vocab.contains x
 | n+1,.tup l=>decide (l.length<=4)&&l.all (pl n)
 | _+1,_=>false
def ur{n:Nat}{l:List W}(d:pl n (.tup l)=true):∃m,n=m+1/\l.length<=4/\∀w∈l,pl m w=true:=by
 cases n with
 | zero=>cases d
 | succ m=>
  unfold pl at d;rw[zg] at d;exact⟨m,rfl,jZ d.1,λw hw=>zV.mp d.2 w hw⟩
def uz{n:Nat}{l:List W}(hl:l.length<=4)(h:∀w∈l,pl n w=true):pl (n+1) (.tup l)=true:=by
 unfold pl;rw[zg];exact⟨jN hl,zV.mpr h⟩
def zaX{n:Nat}{l:List W}(hl:l.length<=1000)(h:∀w∈l,dt n w=true):dt (n+1) (.tup l)=true:=by
 unfold dt;rw[zg];exact⟨jN hl,zV.mpr h⟩
theorem ul:∀{n:Nat} {w:W},pl n w=true->dt n w=true
 | 0,_,h=>by cases h
 | n+1,.non,h=>by cases h
 | n+1,.bl _,h=>by cases h
 | n+1,.int _,_=>rfl
 | n+1,.str x,h=>zep x (by unfold pl at h; simpa using h)
 | n+1,.tup l,h=>by
  obtain⟨m,e,hl,hd⟩:=ur h;cases e;exact zaX ∅ λw hw=>ul (hd w hw)
 | n+1,.fls _,h=>by cases h
 | n+1,.ref _,h=>by cases h
 | n+1,.fdc _,h=>by cases h
 | n+1,.fn _,h=>by cases h
theorem yZ:∀{n m:Nat} {w:W},pl n w=true->n<=m->pl m w=true
 | 0,_,_,h,_=>by cases h
 | n+1,0,_,_,h=>by omega
 | n+1,m+1,.non,h,_=>by cases h
 | n+1,m+1,.bl _,h,_=>by cases h
 | n+1,m+1,.int _,h,_=>h
 | n+1,m+1,.str _,h,_=>h
 | n+1,m+1,.tup l,h,hn=>by
  obtain⟨m',e,hl,hd⟩:=ur h;cases e;exact uz hl λw hw=>yZ (hd w hw) ∅
 | n+1,m+1,.fls _,h,_=>by cases h
 | n+1,m+1,.ref _,h,_=>by cases h
 | n+1,m+1,.fdc _,h,_=>by cases h
 | n+1,m+1,.fn _,h,_=>by cases h
noncomputable def six:List Str:=["a","b","c","d","p","q"]
inductive Sh(rl:List W)(k:Nat)(H:List Str):W->Prop
 | number (i:Int):Sh rl k H (th "number" [.int i])
 | name (v:Str):Sh rl k H (th "name" [.str v])
 | read (v:Str) (hv:v∈six):Sh rl k H (th "read" [.str v])
 | doo (v:Str) (hv:v∈H):Sh rl k H (th "do" [.str v])
 | ask:Sh rl k H (th "ask" [])
 | write (v:Str) (hv:v∈six) (a:List W):Sh rl k H (th "write" [.str v,.tup a])
 | say (a:List W):Sh rl k H (th "say" [.tup a])
 | lett (v:Str) (a b:List W):Sh rl k H (th "let" [.str v,.tup a,.tup b])
 | own (v:Str) (hv:v="p" \/ v="q") (a b:List W):Sh rl k H (th "own" [.str v,.tup a,.tup b])
 | add (a b:List W):Sh rl k H (th "add" [.tup a,.tup b])
 | less (a b:List W):Sh rl k H (th "less" [.tup a,.tup b])
 | thenn (a b:List W):Sh rl k H (th "then" [.tup a,.tup b])
 | loop (a b:List W):Sh rl k H (th "loop" [.tup a,.tup b])
 | iff (a b c:List W):Sh rl k H (th "if" [.tup a,.tup b,.tup c])
 | call (i:Nat) (a b:List W) (hi:i<k) (ns:List W) (hs:List Str) (body:W) (e:rl[i]?=some (.tup [.tup ns,.tup (yK hs),body])) (lb:b.length=hs.length):Sh rl k H (th "call" [.int i,.tup a,.tup b])
inductive Pn:W->Prop
 | mk (x:Str) (r:List W) (p:Int×Int) (hc:(x==("call":Str))=false) (hf:fm x=some p) (hp:r.filter (tyB .tuple)=yQ (th x r)):Pn (th x r)
def Sh.split{rl:List W}{k:Nat}{H:List Str}{w:W}(h:Sh rl k H w):Pn w\/∃(i:Nat) (a b:List W) (ns:List W) (hs:List Str) (body:W),w=th "call" [.int i,.tup a,.tup b]/\i<k/\rl[i]?=some (.tup [.tup ns,.tup (yK hs),body]):=by
 have key:∀(x:Str) (p:Int×Int),(x==("call":Str))=false->fm x=some p->∀r:List W,r.filter (tyB .tuple)=r.drop (p.2.toNat-1)->Pn (th x r):=by
  intro x p hc hf r hr;refine .mk x r p hc hf ?_;simp only[yQ,hc,hf,hr];rfl
 cases h with
 | number i=>exact .inl (key _ (2,2) ⋯ ⋯ _ (by simp[tyB]))
 | name v=>exact .inl (key _ (2,2) ⋯ ⋯ _ (by simp[tyB]))
 | read v hv=>exact .inl (key _ (2,2) ⋯ ⋯ _ (by simp[tyB]))
 | doo v hv=>exact .inl (key _ (2,2) ⋯ ⋯ _ (by simp[tyB]))
 | ask=>exact .inl (key _ (1,1) ⋯ ⋯ _ (by simp))
 | write v hv a=>exact .inl (key _ (3,2) ⋯ ⋯ _ (by simp[tyB]))
 | say a=>exact .inl (key _ (2,1) ⋯ ⋯ _ (by simp[tyB]))
 | lett v a b=>exact .inl (key _ (4,2) ⋯ ⋯ _ (by simp[tyB]))
 | own v hv a b=>exact .inl (key _ (4,2) ⋯ ⋯ _ (by simp[tyB]))
 | add a b=>exact .inl (key _ (3,1) ⋯ ⋯ _ (by simp[tyB]))
 | less a b=>exact .inl (key _ (3,1) ⋯ ⋯ _ (by simp[tyB]))
 | thenn a b=>exact .inl (key _ (3,1) ⋯ ⋯ _ (by simp[tyB]))
 | loop a b=>exact .inl (key _ (3,1) ⋯ ⋯ _ (by simp[tyB]))
 | iff a b c=>exact .inl (key _ (4,1) ⋯ ⋯ _ (by simp[tyB]))
 | call i a b hi ns hs body e lb=>exact .inr ⟨i,a,b,ns,hs,body,rfl,hi,e⟩
def uH(i:Int)(a b:List W):yQ (th "call" [.int i,.tup a,.tup b])=a++b:=by simp[yQ]
noncomputable def okd(rl:List W)(k:Nat)(H:List Str):Nat->W->Prop
 | 0,_=>False
 | n+1,w=>Sh rl k H w/\∀p∈yQ w,okd rl k H n p
theorem zdH{rl:List W}{k:Nat}{H:List Str}:∀{n m:Nat} {w:W},okd rl k H n w->n<=m->okd rl k H m w
 | 0,_,_,h,_=>by cases h
 | n+1,0,_,_,h=>by omega
 | n+1,m+1,w,h,hn=>⟨h.1,λp hp=>zdH (h.2 p hp) ∅⟩
noncomputable def HdOk(l:List (Key×W)):Prop:=∀p∈l,∃v,p.2=.int v
def zjJ{l:List (Key×W)}{k:Key}{v:Int}(h:HdOk l):HdOk (putW l k (.int v)):=by
 intro p hp;unfold putW at hp;split at hp
 .obtain⟨q,hq,rfl⟩:=kY.mp hp
  split
  .exact⟨v,rfl⟩
  .exact h q hq
 .rcases zP.mp hp with z | z
  .exact h p z
  .simp at z; subst z; exact⟨v,rfl⟩
theorem zc3:∀{more l:List (Key×W)},HdOk l->HdOk more->HdOk (uI l more)
 | [],l,h,_=>h
 | (k,w)::r,l,h,hm=>by
  obtain⟨v,e⟩:=hm (k,w) zx;simp only at e;subst e;have:=zc3 (more:=r) (l:=putW l k (.int v)) (zjJ h) λp hp=>hm p (zq _ hp)
  exact this
def zjV{l:List (Key×W)}{k:Key}(h:HdOk l):∃v,(valW l k).getD (.int 1)=.int v:=by
 unfold valW;cases e:l.find? λkv=>decide (kv.1=k) with
 | none=>exact⟨1,rfl⟩
 | some p=>
  obtain⟨v,hv⟩:=h p (List.mem_of_find?_eq_some e);exact⟨v,by simp[hv]⟩
structure RulesGood(rl:List W):Prop where
 g:∀i,i<rl.length->∃(ns:List W) (hs:List Str) (body:W),rl[i]?=some (.tup [.tup ns,.tup (yK hs),body])/\dt 60 body=true/\okd rl i hs 3 body/\hs.length<=4
noncomputable def WOk(G:Fs)(rl:List W)(k n:Nat):Prop:=∀(Hd:List Str) (w:W) (hd:List (Key×W)),okd rl k Hd n w->dt 60 w=true->HdOk hd->∃v:Int,∀h,G.f_law_weight [.tup rl,w,.fdc hd] h=some (.int v,h)
noncomputable def wv(G:Fs)(rl:List W)(hd:List (Key×W))(w:W):Int:=match G.f_law_weight [.tup rl,w,.fdc hd] [] with
 | some (.int v,_)=>v
 | _=>0
def WOk.at{G:Fs}{rl:List W}{k n:Nat}(H:WOk G rl k n){Hd:List Str}{w:W}{hd:List (Key×W)}(o:okd rl k Hd n w)(d:dt 60 w=true)(q:HdOk hd)(h:MH):G.f_law_weight [.tup rl,w,.fdc hd] h=some (.int (wv G rl hd w),h):=by
 obtain⟨v,e⟩:=H _ w hd o d q;unfold wv;rw[e []];exact e h
noncomputable def four:List Str:=["number","name","ask","read"]
noncomputable abbrev ρw(rl:List W)(w:W)(hd:List (Key×W))(x:Str)(o4 o5 o6:Option W):En:=[some (.tup rl),some w,some (.fdc hd),some (.str x),o4,o5,o6]
theorem zcf(F:Fs):b_f_law_weight F=sSeq (sAsg (eOp ixW (eVar 1) (eC (.int 0))) (gNm 3)) (sSeq (w1 F) (sSeq (w2 F) (sSeq (w3 F) (sSeq (w4 F) (sSeq (w5 F) (w6 F)))))):=rfl
def in4{x:Str}{h:MH}{n:Nat}(d:dt n (.str x)=true)(hn:n<=60):inB h (.str x) (.tup [.str "number",.str "name",.str "ask",.str "read"])=some (xG four (.str x)):=uv (l:=four) d hn ⋯
def zk0{F:Fs}{rl:List W}{w:W}{hd:List (Key×W)}{x:Str}{h:MH}{n:Nat}(d:dt n (.str x)=true)(hn:n<=60)(q:xG four (.str x)=true):w1 F (ρw rl w hd x none none none) h=some (.ret (.int 1),h):=by
 have c4:(4:Nat)<=cap:=by decide
 have e:=in4 (h:=h) d hn;rw[q] at e;simp![w1,tupW,c4,e]
def zdq{F:Fs}{rl:List W}{w:W}{hd:List (Key×W)}{x:Str}{h:MH}{n:Nat}(d:dt n (.str x)=true)(hn:n<=60)(q:xG four (.str x)=false):w1 F (ρw rl w hd x none none none) h=some (.nx (ρw rl w hd x none none none),h):=by
 have c4:(4:Nat)<=cap:=by decide
 have e:=in4 (h:=h) d hn;rw[q] at e;simp![w1,tupW,c4,e]
def zfu{F:Fs}{rl:List W}{w:W}{hd:List (Key×W)}{x:Str}{h:MH}(q:(x==("do":Str))=false):w2 F (ρw rl w hd x none none none) h=some (.nx (ρw rl w hd x none none none),h):=by
 simp![w2,xg,q]
def ziu{F:Fs}{rl:List W}{w:W}{hd:List (Key×W)}{x:Str}{h:MH}(q:(x==("call":Str))=false):w3 F (ρw rl w hd x none none none) h=some (.nx (ρw rl w hd x none none none),h):=by
 simp![w3,xg,q]
def zgN(l:List (Str×W))(f:W->Int):pairsOf (l.map λp=>.tup [.str p.1,.int (f p.2)])=some (l.map λp=>(.str p.1,.int (f p.2))):=by
 induction l with
 | nil=>rfl
 | cons x r ih=>simp only[zz]; unfold pairsOf; rw[ih]
theorem zib(l:List (Str×W))(f:W->Int):keysOf (l.map λp=>(W.str p.1,W.int (f p.2)))=some (l.map λp=>(.inr p.1,.int (f p.2))):=by
 induction l with
 | nil=>rfl
 | cons x r ih=>simp only[zz]; unfold keysOf; rw[ih]; rfl
def zhz(hs:List Str)(b:List W):(yK hs).zip b=(hs.zip b).map λp=>(W.str p.1,p.2):=by
 induction hs generalizing b with
 | nil=>rfl
 | cons x r ih=>
  cases b with
  | nil=>rfl
  | cons y b=>simp only[yK,zz,List.zip_cons_cons,zz] at ih ⊢; rw[ih]
theorem zc1:∀{a b:List Str},yK a=yK b->a=b
 | [],[],_=>rfl
 | [],y::b,h=>by simp[yK] at h
 | x::a,[],h=>by simp[yK] at h
 | x::a,y::b,h=>by
  simp only[yK,zz,vJ,W.str.injEq] at h;rw[h.1,zc1 (a:=a) (b:=b) h.2]
def zfZ{m:ME}{g:MG}{ρ ρ':En}{h h' h2:MH}{w:W}(e1:m ρ h=some (w,h'))(e2:g w ρ h'=some (ρ',h2)):sAsg m g ρ h=some (.nx ρ',h2):=by
 unfold sAsg; rw[e1]; simp only[e2]
def zdS{f:List W->M W}{m:ME}{ρ:En}{h h':MH}{w:W}(e:m ρ h=some (w,h')):yJ f [m] ρ h=f [w] h':=by
 simp[yJ,xX,bnd,e]
def zes{G:Fs}{rl:List W}{k n:Nat}(hr:RulesGood rl)(hk:k<=rl.length)(H:WOk G rl k n)(HB:∀i,i<k->WOk G rl i 3):WOk (step G) rl k (n+1):=by
 intro Hd w hd o d q;suffices hs:∃v:Int,∀h,b_f_law_weight G [some (.tup rl),some w,some (.fdc hd),none,none,none,none] h=some (.ret (.int v),h) by
  obtain⟨v,e⟩:=hs;refine⟨v,λh=>xF (n:=1) ?_ rfl⟩;simp only[fnM,zr,zU,jb,zz,jx,List.replicate,zY,zR];simp only[e h]
 have dp:∀v∈yQ w,dt 60 v=true:=λv hv=>xR (zaB (n:=59) d v hv) ∅
 have lp:=zaW d;have start:∀x r,w=th x r->∀h,(sAsg (eOp ixW (eVar 1) (eC (.int 0))) (gNm 3)) [some (.tup rl),some w,some (.fdc hd),none,none,none,none] h=some (.nx (ρw rl w hd x none none none),h):=by
  intro x r e h;subst e;simp![ix0]
 have dx:∀x r,w=th x r->dt 59 (.str x)=true:=by
  intro x r e;subst e;obtain⟨m,e,hl,hd⟩:=xq d;cases e;exact hd _ zx
 have leaf:∀x r,w=th x r->xG four (.str x)=true->∃v:Int,∀h,b_f_law_weight G [some (.tup rl),some w,some (.fdc hd),none,none,none,none] h=some (.ret (.int v),h):=by
  intro x r e hx;refine⟨1,λh=>?_⟩;rw[zcf,yL (start x r e h),uh (zk0 (dx x r e) ∅ hx)]
 have inner:∀x r,w=th x r->r.filter (tyB .tuple)=yQ w->∀h,w4 G (ρw rl w hd x none none none) h=some (.nx (ρw rl w hd x none none (some (.fls ((yQ w).map λv=>.int (wv G rl hd v))))),h):=by
  intro x r e hq h;have c:=zds (mi:=iSeq (eSl (eVar 1) (some (eC (.int 1))) none)) (ks:=[0,2]) (t:=tVal (eUn (isW .tuple) (eVar 0))) (m:=yJ G.f_law_weight [eVar 1,eVar 0,eVar 2]) (ρ:=ρw rl w hd x none none none) (h:=h) (l:=r) (tyB .tuple) (λv=>.int (wv G rl hd v))
   (by subst e; simp![iSeq,eSl,uZ,slW,srcOf,ziv])
   (λv hv H'=>by
    subst e;obtain⟨m,e,hl,hd'⟩:=xq d
    simp![xM (hd' v (zq _ hv))])
   (λv hv hy H'=>by
    have hv':v∈yQ w:=by rw[<-hq]; exact qm.mpr ⟨hv,hy⟩
    simp![H.at (o.2 v hv') (dp v hv') q H'])
   (λv hv _=>by unfold low; rfl)
   (by
    subst e;obtain⟨m,e,hl,hd'⟩:=xq d;have:r.length<=1000:=by simp at hl; omega
    exact zG this (by decide))
  rw[hq] at c;unfold w4 sAsg;rw[c];simp![]
 have other:∀x r,w=th x r->xG four (.str x)=false->(x==("do":Str))=false->(x==("loop":Str))=false->Pn w->∃v:Int,∀h,b_f_law_weight G [some (.tup rl),some w,some (.fdc hd),none,none,none,none] h=some (.ret (.int v),h):=by
  intro x r e h1 h2 h3 hp;refine⟨1+sumL ((yQ w).map λv=>wv G rl hd v),λh=>?_⟩;cases hp with
  | mk x' r' p hc hf hq=>
   cases e;have e2:=ints_map (yQ (th x r)) λv=>wv G rl hd v
   rw[zcf,yL (start x r rfl h),yL (zdq (dx x r rfl) ∅ h1),yL (zfu h2),yL (ziu hc),yL (inner x r rfl hq h),
    yL (ρ':=ρw rl (th x r) hd x none none (some (.fls ((yQ (th x r)).map λv=>.int (wv G rl hd v))))) (h':=h) (by simp![w5,xg,h3])]
   simp![w6,sumW,uo,getL,e2,addW,addI]
 have osh:=o.1;have osp:=o.1.split;cases osh with
 | number i=>exact leaf _ _ rfl ⋯
 | name v=>exact leaf _ _ rfl ⋯
 | read v=>exact leaf _ _ rfl ⋯
 | ask=>exact leaf _ _ rfl ⋯
 | doo v=>
  obtain⟨u,hu⟩:=zjV (k:=.inr v) q;refine⟨u,λh=>?_⟩;rw[zcf,yL (start _ _ rfl h),yL (zdq (dx _ _ rfl) ∅ ⋯)];refine uh ?_;simp![w2,xg,zct,zay,ix1,keyOf,hu]
 | write v a=>
  rcases osp with hp | ⟨_,_,_,_,_,_,e,_,_⟩
  .exact other _ _ rfl ⋯ ⋯ ⋯ hp
  .cases e
 | say a=>
  rcases osp with hp | ⟨_,_,_,_,_,_,e,_,_⟩
  .exact other _ _ rfl ⋯ ⋯ ⋯ hp
  .cases e
 | lett v a b=>
  rcases osp with hp | ⟨_,_,_,_,_,_,e,_,_⟩
  .exact other _ _ rfl ⋯ ⋯ ⋯ hp
  .cases e
 | own v a b=>
  rcases osp with hp | ⟨_,_,_,_,_,_,e,_,_⟩
  .exact other _ _ rfl ⋯ ⋯ ⋯ hp
  .cases e
 | add a b=>
  rcases osp with hp | ⟨_,_,_,_,_,_,e,_,_⟩
  .exact other _ _ rfl ⋯ ⋯ ⋯ hp
  .cases e
 | less a b=>
  rcases osp with hp | ⟨_,_,_,_,_,_,e,_,_⟩
  .exact other _ _ rfl ⋯ ⋯ ⋯ hp
  .cases e
 | thenn a b=>
  rcases osp with hp | ⟨_,_,_,_,_,_,e,_,_⟩
  .exact other _ _ rfl ⋯ ⋯ ⋯ hp
  .cases e
 | iff a b c=>
  rcases osp with hp | ⟨_,_,_,_,_,_,e,_,_⟩
  .exact other _ _ rfl ⋯ ⋯ ⋯ hp
  .cases e
 | loop a b=>
  have ep:yQ (th "loop" [.tup a,.tup b])=[.tup a,.tup b]:=by
   simp[yQ,show(("loop":Str)=="call")=false by decide +kernel,show fm "loop" = some (3,1) by decide +kernel]
  refine⟨1+wv G rl hd (.tup a)+3*wv G rl hd (.tup b),λh=>?_⟩;have hin:=inner _ _ rfl (by rw[ep]; simp[tyB]) h;rw[ep] at hin;rw[zcf,yL (start _ _ rfl h),yL (zdq (dx _ _ rfl) ∅ ⋯),yL (zfu ⋯),yL (ziu ⋯),yL hin];refine uh ?_;have sm:(small 3||small (wv G rl hd (.tup b)))=true:=by rw[show small 3=true by decide]; rfl
  simp![w5,xg,ixf0,ixf1,addW,addI,mulW,sm]
 | call i a b hi ns hs body e=>
  obtain⟨ns',hs',body',e',db,ob,hl4⟩:=hr.g i ∅;have eb:hs=hs'/\body=body':=by
   rw[e] at e';injection e' with e';injection e' with e';simp only[vJ,W.tup.injEq,and_true] at e';refine⟨?_,e'.2.2⟩;have:=e'.2.1;exact zc1 this
  obtain⟨rfl,rfl⟩:=eb;obtain⟨m,em,hl,hd'⟩:=xq d;cases em;obtain⟨m1,e1,la,da⟩:=xq (hd' (.tup a) (by simp));obtain⟨m2,e2,lb,dbb⟩:=xq (hd' (.tup b) (by simp));rw[uH] at dp;have op:=o.2;rw[uH] at op;have ei:∀h,ixW (.tup rl) (.int (i:Int)) h=some (.tup [.tup ns,.tup (yK hs),body],h):=λh=>ixn ∅ ∅ (by simpa using e)
  have ok2:HdOk (uI [] ((hs.zip b).map λp=>(Sum.inr p.1,W.int (wv G rl hd p.2)))):=by
   refine zc3 (λp hp=>by simp at hp) λp hp=>?_
   obtain⟨z,_,rfl⟩:=kY.mp hp;exact⟨_,rfl⟩
  refine⟨1+sumL (a.map λv=>wv G rl hd v)+wv G rl (uI [] ((hs.zip b).map λp=>(Sum.inr p.1,W.int (wv G rl hd p.2)))) body,λh=>?_⟩;have c2:(2:Nat)<=cap:=by decide
  have hzl:(hs.zip b).length<=4:=by rw[List.length_zip]; omega
  have cz:=zmq (mi:=iZip [eOp ixW (eOp ixW (eVar 0) (eOp ixW (eVar 1) (eC (.int 1)))) (eC (.int 1)),eOp ixW (eVar 1) (eC (.int 3))]) (ks:=[0,2]) (t:=uO) (m:=yJ tupW [eVar 0,yJ G.f_law_weight [eVar 2,eVar 1,eVar 3]]) (ρ:=ρw rl (th "call" [.int i,.tup a,.tup b]) hd "call" none none none) (h:=h) (l:=(hs.zip b).map λp=>(W.str p.1,p.2)) (λ_ _=>true) (λx y=>.tup [x,.int (wv G rl hd y)])
   (by simp![iZip,ix0,ix1,ix3,ei,zipW,zbC,zhz])
   (λv hv H'=>rfl)
   (λv hv _ H'=>by
    obtain⟨p,hp,rfl⟩:=kY.mp hv;have hb:p.2∈b:=(vG (show(p.1,p.2)∈hs.zip b from hp)).2;have hb':p.2∈a++b:=zP.mpr (.inr hb)
    simp![H.at (op _ hb') (dp _ hb') q H',tupW,c2])
   (λv hv _=>by
    obtain⟨p,hp,rfl⟩:=kY.mp hv
    simp[low,lows])
   (by rw[kE]; exact zG hzl (by decide))
  rw[filter_true,List.map_map] at cz;have cs:=zds (mi:=iSeq (eOp ixW (eVar 1) (eC (.int 2)))) (ks:=[0,2]) (t:=uO) (m:=yJ G.f_law_weight [eVar 1,eVar 0,eVar 2]) (ρ:=ρw rl (th "call" [.int i,.tup a,.tup b]) hd "call" (some (.fdc (uI [] ((hs.zip b).map λp=>(Sum.inr p.1,W.int (wv G rl hd p.2)))))) none none) (h:=h) (l:=a) (λ_=>true) (λv=>.int (wv G rl hd v))
   (by simp![iSeq,ix2,srcOf])
   (λv hv H'=>rfl)
   (λv hv _ H'=>by
    have hb':v∈a++b:=zP.mpr (.inl hv)
    simp![H.at (op _ hb') (dp _ hb') q H'])
   (λv hv _=>by unfold low; rfl)
   (zG la (by decide))
  rw[filter_true] at cs;have e3:=ints_map a λv=>wv G rl hd v
  have pm:=zgN (hs.zip b) λv=>wv G rl hd v
  have km:=zib (hs.zip b) λv=>wv G rl hd v
  have body_ok:=(HB i hi).at (hd:=uI [] ((hs.zip b).map λp=>(Sum.inr p.1,W.int (wv G rl hd p.2)))) ob db ok2 h;have hz1000:(hs.zip b).length<=1000:=by omega
  rw[zcf,yL (start _ _ rfl h),yL (zdq (dx _ _ rfl) ∅ ⋯),yL (zfu ⋯)];refine uh ?_;have s1:(sAsg (yJ zbx [uf (iZip [eOp ixW (eOp ixW (eVar 0) (eOp ixW (eVar 1) (eC (.int 1)))) (eC (.int 1)),eOp ixW (eVar 1) (eC (.int 3))]) 2 [0,2] (gTp [gNm 0,gNm 1]) uO (yJ tupW [eVar 0,yJ G.f_law_weight [eVar 2,eVar 1,eVar 3]])]) (gNm 4)) (ρw rl (th "call" [.int i,.tup a,.tup b]) hd "call" none none none) h=some (.nx (ρw rl (th "call" [.int i,.tup a,.tup b]) hd "call" (some (.fdc (uI [] ((hs.zip b).map λp=>(Sum.inr p.1,W.int (wv G rl hd p.2)))))) none none),h):=by
   refine zfZ ((zdS cz).trans ?_) rfl;have:(List.map ((λw:W×W=>W.tup [w.fst,W.int (wv G rl hd w.snd)])∘λp:Str×W=>(W.str p.fst,p.snd)) (hs.zip b))=(hs.zip b).map λp=>.tup [.str p.1,.int (wv G rl hd p.2)]:=rfl
   rw[this];simp only[zbx,zay,getL,pm,km];rw[kE,zW hz1000]
  have s2:(sAsg (yJ sumW [uf (iSeq (eOp ixW (eVar 1) (eC (.int 2)))) 1 [0,2] (gNm 0) uO (yJ G.f_law_weight [eVar 1,eVar 0,eVar 2])]) (gNm 5)) (ρw rl (th "call" [.int i,.tup a,.tup b]) hd "call" (some (.fdc (uI [] ((hs.zip b).map λp=>(Sum.inr p.1,W.int (wv G rl hd p.2)))))) none none) h=some (.nx (ρw rl (th "call" [.int i,.tup a,.tup b]) hd "call" (some (.fdc (uI [] ((hs.zip b).map λp=>(Sum.inr p.1,W.int (wv G rl hd p.2)))))) (some (.int (sumL (a.map λv=>wv G rl hd v)))) none),h):=by
   refine zfZ ((zdS cs).trans ?_) rfl;simp only[sumW,uo,getL,e3]
  have t:tVal (eOp (eqW false) (eVar 3) (eC (.str "call"))) (ρw rl (th "call" [.int i,.tup a,.tup b]) hd "call" none none none) h=some (true,h):=by simp![xg]
  unfold w3 sIf;simp only[t,jb];rw[yL s1,yL s2];simp![ix0,ix1,ix2,ei,body_ok,addW,addI]
theorem za1{rl:List W}(hr:RulesGood rl)(F:Fs):∀(m k n:Nat),3*k+n<=m->n<=3->k<=rl.length->WOk (up m F) rl k n
 | m,k,0,_,_,_=>by intro Hd w hd o; cases o
 | 0,k,n+1,h,_,_=>by omega
 | m+1,k,n+1,h,hn,hk=>zes hr hk (za1 hr F m k n ∅ ∅ hk) λi hi=>za1 hr F m i 3 ∅ ∅ ∅
theorem zj4(F:Fs):b_f_law_leaf F=sSeq (LF0 F) (sSeq (LF1 F) (sSeq (LF2 F) (sSeq (LF3 F) (sSeq (LF4 F) (sSeq (LF5 F) (sSeq (LF6 F) (LF7 F))))))):=rfl
noncomputable def wd(l:List Str):Prop:=∀v∈l,pl 1 (.str v)=true
noncomputable abbrev kn(N O H:List Str):W:=.tup [.tup (yK N),.tup (yK O),.tup (yK H)]
def zgq{l:List W}{i:Int}(h0:0<=i)(h1:i<l.length):∃v∈l,atI l i=some v:=by
 have hj:i.toNat<l.length:=by omega
 exact⟨l[i.toNat],List.getElem_mem hj,by unfold atI ixN; rw[zW h0,zW h1]; simp[hj]⟩
def zaM{l:List W}{i:Int}(h0:0<=i)(h1:i<l.length):∃v∈l,∀h,ixW (.fls l) (.int i) h=some (v,h):=by
 obtain⟨v,hv,e⟩:=zgq h0 h1;exact⟨v,hv,λh=>by simp[ixW,getL,e]⟩
def zeh{l:List W}{i:Int}(h0:0<=i)(h1:i<l.length):∃v∈l,∀h,ixW (.tup l) (.int i) h=some (v,h):=by
 obtain⟨v,hv,e⟩:=zgq h0 h1;exact⟨v,hv,λh=>by simp[ixW,e]⟩
def zbq{l:List Str}{i:Int}(h0:0<=i)(h1:i<l.length):∃v∈l,∀h,ixW (.tup (yK l)) (.int i) h=some (.str v,h):=by
 obtain⟨v,hv,e⟩:=zeh (l:=yK l) h0 (by rw[xm]; exact h1);unfold yK at hv;obtain⟨x,hx,rfl⟩:=kY.mp hv;exact⟨x,hx,e⟩
def zeH{l:List Str}(h:wd l)(hl:l.length<=4):pl 2 (.tup (yK l))=true:=by
 refine uz (by rw[xm]; exact hl) λw hw=>?_
 unfold yK at hw;obtain⟨x,hx,rfl⟩:=kY.mp hw;exact h x hx
def zjt{l:List Str}(h:wd l)(hl:l.length<=1000):dt 2 (.tup (yK l))=true:=by
 refine zaX (by rw[xm]; exact hl) λw hw=>?_
 unfold yK at hw;obtain⟨x,hx,rfl⟩:=kY.mp hw;exact ul (h x hx)
theorem zfl(l:List Str):zcA (.tup (yK l))=l.isEmpty:=by cases l<;>rfl
def zbJ{l:List Str}{h:MH}(hw:wd l)(hl:l.length<=1000):eqB h (.tup (yK l)) (.tup [])=some l.isEmpty:=by
 rw[zeP (zjt hw hl) ∅,zfl]
def pl2{x v:W}(hx:pl 1 x=true)(hv:pl 1 v=true):pl 2 (.tup [x,v])=true:=uz (by simp) λw hw=>by
 simp only[zp,zm,zT] at hw;rcases hw with rfl | rfl<;>assumption
def uw{x:Str}{p:Int×Int}{r:List W}(hc:(x==("call":Str))=false)(hf:fm x=some p)(hr:r.drop (p.2.toNat-1)=[]):yQ (th x r)=[]:=by
 simp[yQ,hc,hf,hr]
noncomputable def wo(l:List Str):Prop:=∀v∈l,v="p" \/ v="q"
def zft{l:List Str}(h:wo l):wd l:=λv hv=>by rcases h v hv with rfl | rfl<;>decide +kernel
noncomputable def shel(O:List Str):List Str:=([("a":Str),"b","c","d"]:List Str)++(O++(O++O))
def zeT(O:List Str):[W.str "a",.str "b",.str "c",.str "d"]++(List.replicate 3 (yK O)).flatten=yK (shel O):=by
 simp[shel,yK,List.replicate]
def zeA{O:List Str}(h:wd O):wd (shel O):=by
 intro v hv;unfold shel at hv;rcases zP.mp hv with z | z
 .simp only[zp,zm,zT] at z
  rcases z with rfl | rfl | rfl | rfl<;>decide +kernel
 .rcases zP.mp z with z | z
  .exact h v z
  .rcases zP.mp z with z | z<;>exact h v z
def zdI{O:List Str}(h:wo O):∀v∈shel O,v∈six:=by
 intro v hv;have o:v∈O->v∈six:=λq=>by rcases h v q with rfl | rfl<;>decide +kernel
 unfold shel at hv;rcases zP.mp hv with z | z
 .have:∀x∈([("a":Str),"b","c","d"]:List Str),x∈six:=by decide +kernel
  exact this v z
 .rcases zP.mp z with z | z
  .exact o z
  .rcases zP.mp z with z | z<;>exact o z
def zdK(O:List Str):(shel O).length=4+3*O.length:=by simp[shel]; omega
def zgQ{F:Fs}{ns:List Int}{a:Int}{N O H:List Str}{rl:List W}{k:Nat}(hl:ns.length<=63)(hN:wd N)(hO':wo O)(hH:wd H)(lN:N.length<=100)(lO:O.length<=100)(lH:H.length<=100) :
  ∃w,(∀h,(step (step (step F))).f_law_leaf [scr ns,.int a,kn N O H] h=some (w,h))/\pl 2 w=true/\okd rl k H 1 w:=by
 have hO:=zft hO';have e:=λ(k many:Int) (h:MH) (hm:0<many)=>zak (F:=F) (k:=k) (many:=many) (h:=h) hl hm
 generalize step (step F)=G at e;suffices hs:∃w,(∀h,b_f_law_leaf G [some (scr ns),some (.int a),some (kn N O H),none,none,none,none,none] h=some (.ret w,h))/\pl 2 w=true/\okd rl k H 1 w by
  obtain⟨w,e,p,o⟩:=hs;refine⟨w,λh=>xF (n:=2) ?_ (ul p),p,o⟩;simp only[fnM,zr,zU,jb,zz,jx,List.replicate,zY,zR];simp only[e h]
 have c1':(1:Nat)<=cap:=by decide
 have c2':(2:Nat)<=cap:=by decide
 have c4':(4:Nat)<=cap:=by decide
 have c6':(6:Nat)<=cap:=by decide
 have s0:∀h,LF0 G [some (scr ns),some (.int a),some (kn N O H),none,none,none,none,none] h=some (.nx [some (scr ns),some (.int a),some (kn N O H),some (.tup (yK N)),some (.tup (yK O)),some (.tup (yK H)),none,none],h):=λh=>by
  simp![LF0]
 have s1:∀h,LF1 G [some (scr ns),some (.int a),some (kn N O H),some (.tup (yK N)),some (.tup (yK O)),some (.tup (yK H)),none,none] h=some (.nx [some (scr ns),some (.int a),some (kn N O H),some (.tup (yK N)),some (.tup (yK O)),some (.tup (yK H)),some (.int (uA ns a 8)),none],h):=λh=>by
  simp![LF1,e a 8 _ ∅]
 generalize uA ns a 8=d at s1;have row:∀h,b_f_law_leaf G [some (scr ns),some (.int a),some (kn N O H),none,none,none,none,none] h=sSeq (LF2 G) (sSeq (LF3 G) (sSeq (LF4 G) (sSeq (LF5 G) (sSeq (LF6 G) (LF7 G))))) [some (scr ns),some (.int a),some (kn N O H),some (.tup (yK N)),some (.tup (yK O)),some (.tup (yK H)),some (.int d),none] h:=λh=>by
  rw[zj4,yL (s0 h),yL (s1 h)]
 by_cases k2:d<2
 .obtain⟨v,hv,ev⟩:=zaM (l:=[.int 0,.int 1,.int 2,.int 3,.int 7,.int 1008]) (yP (ns:=ns) (k:=a+1) (many:=6) ∅).1 (by simpa using (yP (ns:=ns) (k:=a+1) (many:=6) ∅).2)
  refine⟨th "number" [v],λh=>?_,?_,?_⟩
  .rw[row]
   refine uh ?_;simp![LF2,cmpI,k2,flsW,c6',addW,addI,e (a+1) 6 _ ∅,ev,tupW,c2']
  .refine pl2 ⋯ ?_
   simp only[zp,zm,zT] at hv;rcases hv with rfl | rfl | rfl | rfl | rfl | rfl<;>rfl
  .have:∃i,v=.int i:=by
    simp only[zp,zm,zT] at hv;rcases hv with rfl | rfl | rfl | rfl | rfl | rfl<;>exact⟨_,rfl⟩
   obtain⟨i,rfl⟩:=this;refine⟨.number i,λp hp=>?_⟩;rw[uw (p:=(2,2)) ⋯ ⋯ rfl] at hp;simp at hp
 have p2:∀h,LF2 G [some (scr ns),some (.int a),some (kn N O H),some (.tup (yK N)),some (.tup (yK O)),some (.tup (yK H)),some (.int d),none] h=some (.nx [some (scr ns),some (.int a),some (kn N O H),some (.tup (yK N)),some (.tup (yK O)),some (.tup (yK H)),some (.int d),none],h):=λh=>by
  simp![LF2,cmpI,k2]
 have eN:=λh=>zbJ (h:=h) hN ∅
 have eH:=λh=>zbJ (h:=h) hH ∅
 have leafS:∀(v:Str),v∈six->okd rl k H 1 (th "read" [.str v]):=λv hv6=>⟨.read v hv6,λp hp=>by
  rw[uw (p:=(2,2)) ⋯ ⋯ rfl] at hp
  simp at hp⟩
 by_cases k3:(d==2)=true/\N.isEmpty=false
 .have hp:(0:Int)<(N.length:Int):=by
   cases N with
   | nil=>simp at k3
   | cons _ _=>simp only[zr]; omega
  obtain⟨v,hv,ev⟩:=zbq (l:=N) (yP (ns:=ns) (k:=a+1) (many:=N.length) hp).1 (yP (ns:=ns) (k:=a+1) (many:=N.length) hp).2;refine⟨th "name" [.str v],λh=>?_,?_,?_⟩
  .rw[row,yL (p2 h)]
   refine uh ?_;simp![LF3,xx,k3.1,k3.2,eN,tupW,lenW,xm,addW,addI,e (a+1) N.length _ hp,ev,c2']
  .exact pl2 ⋯ (hN v hv)
  .refine⟨.name v,λp hp=>?_⟩
   rw[uw (p:=(2,2)) ⋯ ⋯ rfl] at hp;simp at hp
 have p3:∀h,LF3 G [some (scr ns),some (.int a),some (kn N O H),some (.tup (yK N)),some (.tup (yK O)),some (.tup (yK H)),some (.int d),none] h=some (.nx [some (scr ns),some (.int a),some (kn N O H),some (.tup (yK N)),some (.tup (yK O)),some (.tup (yK H)),some (.int d),none],h):=λh=>by
  cases q1:(d==2) with
  | false=>simp![LF3,xx,q1]
  | true=>
   have q2:N.isEmpty=true:=by
    cases q:N.isEmpty with
    | true=>rfl
    | false=>exact absurd ⟨q1,q⟩ k3
   simp![LF3,xx,q1,eN,tupW,q2]
 by_cases k4:(d==3)=true/\H.isEmpty=false
 .have hp:(0:Int)<(H.length:Int):=by
   cases H with
   | nil=>simp at k4
   | cons _ _=>simp only[zr]; omega
  obtain⟨v,hv,ev⟩:=zbq (l:=H) (yP (ns:=ns) (k:=a+1) (many:=H.length) hp).1 (yP (ns:=ns) (k:=a+1) (many:=H.length) hp).2;refine⟨th "do" [.str v],λh=>?_,?_,?_⟩
  .rw[row,yL (p2 h),yL (p3 h)]
   refine uh ?_;simp![LF4,xx,k4.1,k4.2,eH,tupW,lenW,xm,addW,addI,e (a+1) H.length _ hp,ev,c2']
  .exact pl2 ⋯ (hH v hv)
  .refine⟨.doo v hv,λp hp=>?_⟩
   rw[uw (p:=(2,2)) ⋯ ⋯ rfl] at hp;simp at hp
 have p4:∀h,LF4 G [some (scr ns),some (.int a),some (kn N O H),some (.tup (yK N)),some (.tup (yK O)),some (.tup (yK H)),some (.int d),none] h=some (.nx [some (scr ns),some (.int a),some (kn N O H),some (.tup (yK N)),some (.tup (yK O)),some (.tup (yK H)),some (.int d),none],h):=λh=>by
  cases q1:(d==3) with
  | false=>simp![LF4,xx,q1]
  | true=>
   have q2:H.isEmpty=true:=by
    cases q:H.isEmpty with
    | true=>rfl
    | false=>exact absurd ⟨q1,q⟩ k4
   simp![LF4,xx,q1,eH,tupW,q2]
 cases k5:(d==4) with
 | true=>
  refine⟨th "ask" [],λh=>?_,by decide +kernel,?_⟩
  .rw[row,yL (p2 h),yL (p3 h),yL (p4 h)]
   refine uh ?_;simp![LF5,xx,k5,tupW,c1']
  .refine⟨.ask,λp hp=>?_⟩
   rw[uw (p:=(1,1)) ⋯ ⋯ rfl] at hp;simp at hp
 | false=>
  have hp:(0:Int)<((shel O).length:Int):=by rw[zdK]; omega
  obtain⟨v,hv,ev⟩:=zbq (l:=shel O) (yP (ns:=ns) (k:=a+1) (many:=(shel O).length) hp).1 (yP (ns:=ns) (k:=a+1) (many:=(shel O).length) hp).2;have c7:4+(List.replicate 3 (yK O)).flatten.length<=cap:=by
   have:(List.replicate 3 (yK O)).flatten.length=3*O.length:=by simp[List.replicate,yK]; omega
   rw[this];exact zG (show 4+3*O.length<=400 by omega) (by decide)
  have hs3:(yK O).length<=1000:=by rw[xm]; omega
  refine⟨th "read" [.str v],λh=>?_,pl2 ⋯ (zeA hO v hv),leafS v (zdI hO' v hv)⟩;have p6:LF6 G [some (scr ns),some (.int a),some (kn N O H),some (.tup (yK N)),some (.tup (yK O)),some (.tup (yK H)),some (.int d),none] h=some (.nx [some (scr ns),some (.int a),some (kn N O H),some (.tup (yK N)),some (.tup (yK O)),some (.tup (yK H)),some (.int d),some (.tup (yK (shel O)))],h):=by
   rw[<-zeT];have m:∀h,mulW (.tup (yK O)) (.int 3) h=some (.tup (List.replicate 3 (yK O)).flatten,h):=λh=>by
    simp only[mulW];rw[zW ⟨by omega,by omega,hs3⟩];rfl
   have ad:∀h,addW (.tup [.str "a",.str "b",.str "c",.str "d"]) (.tup (List.replicate 3 (yK O)).flatten) h=some (.tup ([.str "a",.str "b",.str "c",.str "d"]++(List.replicate 3 (yK O)).flatten),h):=λh=>by
    simp only[addW,addI,zr,zU];rw[zW c7]
   generalize (List.replicate 3 (yK O)).flatten=Z at m ad;simp![LF6,tupW,c4',m,ad]
  rw[row,yL (p2 h),yL (p3 h),yL (p4 h),yL (ρ':=[some (scr ns),some (.int a),some (kn N O H),some (.tup (yK N)),some (.tup (yK O)),some (.tup (yK H)),some (.int d),none]) (h':=h) (by simp![LF5,xx,k5]),yL p6];simp![LF7,lenW,xm,addW,addI,e (a+1) (shel O).length _ hp,ev,tupW,c2']
theorem zlA(F:Fs):b_f_law_deed F=sSeq (DS0 F) (sSeq (DS1 F) (sSeq (DS2 F) (sSeq (DS3 F) (sSeq (DS4 F) (sSeq (DS5 F) (sSeq (DS6 F) (sSeq (DS7 F) (sSeq (DS8 F) (sSeq (DS9 F) (DS10 F)))))))))):=rfl
noncomputable def zam(G:Fs)(ns:List Int)(rl:List W)(d:Nat):Prop:=∀(a:Int) (N O H:List Str),wd N->wo O->wd H->N.length+d<=20->O.length+d<=20->H.length<=20->
 ∃w,(∀h,G.f_law_deed [scr ns,.int a,.int (d:Int),kn N O H,.tup rl] h=some (w,h))/\pl (2+2*d) w=true/\okd rl rl.length H (d+1) w
noncomputable def zgV(G:Fs)(ns:List Int)(rl:List W)(d:Nat):Prop:=∀(a:Int) (N O H:List Str),wd N->wo O->wd H->N.length+d<=20->O.length+d<=20->H.length<=20->
 ∃w,(∀h,G.f_law_call [scr ns,.int a,.int ((d:Int)+1),kn N O H,.tup rl] h=some (w,h))/\pl (2+2*(d+1)) w=true/\okd rl rl.length H (d+2) w
theorem Sh.tup{rl:List W}{k:Nat}{H:List Str}{w:W}(h:Sh rl k H w):∃l,w=.tup l:=by cases h<;>exact⟨_,rfl⟩
theorem okd.tup{rl:List W}{k n:Nat}{H:List Str}{w:W}(h:okd rl k H n w):∃l,w=.tup l:=by
 cases n with
 | zero=>cases h
 | succ n=>exact h.1.tup
def zaK{rl:List W}{k n:Nat}{H:List Str}{x:Str}{p:Int×Int}{r:List W}(sh:Sh rl k H (th x r))(hc:(x==("call":Str))=false)(hf:fm x=some p)(hr:∀q∈r.drop (p.2.toNat-1),okd rl k H n q):okd rl k H (n+1) (th x r):=by
 refine⟨sh,λq hq=>hr q ?_⟩;have e:yQ (th x r)=r.drop (p.2.toNat-1):=by simp[yQ,hc,hf]
 rw[<-e];exact hq
def zjA{l:List Str}{v:Str}(h:wd l)(hv:pl 1 (.str v)=true):wd (l++[v]):=by
 intro u hu;rcases zP.mp hu with z | z
 .exact h u z
 .simp at z; subst z; exact hv
def zjE{l:List Str}{v:Str}(h:wo l)(hv:v="p" \/ v="q"):wo (l++[v]):=λu hu=>by
 rcases zP.mp hu with z | z
 .exact h u z
 .rw[qX.mp z]; exact hv
def zcb(l:List Str)(v:Str):yK l++[.str v]=yK (l++[v]):=by simp[yK]
def zag{t:MT}{A b:MS}{ρ:En}{h h':MH}{w:W}(e:t ρ h=some (true,h))(eA:A ρ h=some (.ret w,h')):sSeq (sIf t A yN) b ρ h=some (.ret w,h'):=by
 refine uh ?_;unfold sIf; rw[e]; simp only[jb]; exact eA
theorem zg4{t:MT}{A b:MS}{ρ:En}{h:MH}(e:t ρ h=some (false,h)):sSeq (sIf t A yN) b ρ h=b ρ h:=by
 refine yL ?_;unfold sIf; rw[e]; rfl
def zj2{t:MT}{A:MS}{ρ:En}{h h':MH}{f:Fl}(e:t ρ h=some (true,h))(eA:A ρ h=some (f,h')):sIf t A yN ρ h=some (f,h'):=by
 unfold sIf; rw[e]; simp only[jb]; exact eA
theorem zdn{t:MT}{A:MS}{ρ:En}{h:MH}(e:t ρ h=some (false,h)):sIf t A yN ρ h=some (.nx ρ,h):=by
 unfold sIf; rw[e]; rfl
noncomputable abbrev ρD(ns:List Int)(a:Int)(d:Int)(K:W)(rl:List W)(o5 o6 o7 o8 o9 o10:Option W):En:=[some (scr ns),some (.int a),some (.int d),some K,some (.tup rl),o5,o6,o7,o8,o9,o10]
def t_lt{i j:Nat}{ρ:En}{h:MH}{d:Int}{m:Int}(e:ρ[i]?=some (some (.int d))):tVal (eOp ltW (eVar i) (eC (.int m))) ρ h=some (decide (d<m),h):=by simp![e,cmpI]
def t_eq{i:Nat}{ρ:En}{h:MH}{d:Int}{m:Int}(e:ρ[i]?=some (some (.int d))):tVal (eOp (eqW false) (eVar i) (eC (.int m))) ρ h=some (d==m,h):=by simp![e,xx]
def m3{a:Int}{h:MH}:mulW (.int a) (.int 3) h=some (.int (a*3),h):=by
 have:(small a||small 3)=true:=by rw[show small 3=true by decide]; simp
 simp only[mulW,this,jb]
def zgk{F:Fs}{ns:List Int}{rl:List W}{d:Nat}(hl:ns.length<=63)(hrl:dt 20 (.tup rl)=true)(hd:d+1<=5)(HD:zam (step (step (step F))) ns rl d)(HC:rl≠[]->zgV (step (step (step F))) ns rl d):zam (step (step (step (step F)))) ns rl (d+1):=by
 intro a N O H hN hO' hH lN lO lH;have hO:=zft hO';have e:=λ(k many:Int) (h:MH) (hm:0<many)=>zak (F:=step F) (k:=k) (many:=many) (h:=h) hl hm
 have eL:=λ(a:Int)=>zgQ (F:=F) (ns:=ns) (a:=a) (N:=N) (O:=O) (H:=H) (rl:=rl) (k:=rl.length) hl hN hO' hH ∅ ∅ ∅
 generalize step (step (step F))=G at e HD HC eL;have ed:((d+1:Nat):Int)=(d:Int)+1:=by omega
 rw[ed];suffices hs:∃w,(∀h,b_f_law_deed G (ρD ns a ((d:Int)+1) (kn N O H) rl none none none none none none) h=some (.ret w,h))/\pl (2+2*(d+1)) w=true/\okd rl rl.length H (d+1+1) w by
  obtain⟨w,e,p,o⟩:=hs;refine⟨w,λh=>xF (n:=2+2*(d+1)) ?_ (ul p),p,o⟩;simp only[fnM,zr,zU,jb,zz,jx,List.replicate,zY,zR];have:=e h;simp only[ρD] at this;simp only[this]
 have c1:(1:Nat)<=cap:=by decide
 have c2:(2:Nat)<=cap:=by decide
 have c3:(3:Nat)<=cap:=by decide
 have c4:(4:Nat)<=cap:=by decide
 have c5:(5:Nat)<=cap:=by decide
 have s0:∀h,DS0 G (ρD ns a ((d:Int)+1) (kn N O H) rl none none none none none none) h=some (.nx (ρD ns a ((d:Int)+1) (kn N O H) rl (some (.int (uA ns a 15))) none none none none none),h):=λh=>by
  simp![DS0,e a 15 _ ∅]
 have rg:=yP (ns:=ns) (k:=a) (many:=15) ∅;generalize uA ns a 15=y at s0 rg;have row:∀h,b_f_law_deed G (ρD ns a ((d:Int)+1) (kn N O H) rl none none none none none none) h=sSeq (DS1 G) (sSeq (DS2 G) (sSeq (DS3 G) (sSeq (DS4 G) (sSeq (DS5 G) (sSeq (DS6 G) (sSeq (DS7 G) (sSeq (DS8 G) (sSeq (DS9 G) (DS10 G))))))))) (ρD ns a ((d:Int)+1) (kn N O H) rl (some (.int y)) none none none none none) h:=λh=>by
  rw[zlA,yL (s0 h)]
 have dz:(((d:Int)+1)==0)=false:=by rw[jG]; omega
 by_cases k1:y<2
 .obtain⟨w,ew,p,o⟩:=eL (a+1)
  refine⟨w,λh=>?_,yZ p ∅,zdH o ∅⟩;rw[row];refine uh ?_;simp![DS1,xx,dz,cmpI,k1,addW,addI,ew]
 have p1:∀h,DS1 G (ρD ns a ((d:Int)+1) (kn N O H) rl (some (.int y)) none none none none none) h=some (.nx (ρD ns a ((d:Int)+1) (kn N O H) rl (some (.int y)) none none none none none),h):=λh=>by
  simp![DS1,xx,dz,cmpI,k1]
 have eR:=λh=>zeP (h:=h) hrl ∅
 have iR:zcA (.tup rl)=rl.isEmpty:=by cases rl<;>rfl
 by_cases k2:y<4/\rl≠[]
 .obtain⟨w,ew,p,o⟩:=HC k2.2 a N O H hN hO' hH ∅ ∅ lH
  refine⟨w,λh=>?_,p,o⟩;have q:rl.isEmpty=false:=by
   cases rl with
   | nil=>exact absurd rfl k2.2
   | cons _ _=>rfl
  rw[row,yL (p1 h)];refine uh ?_;simp![DS2,cmpI,k2.1,eR,iR,q,tupW,ew]
 have p2:∀h,DS2 G (ρD ns a ((d:Int)+1) (kn N O H) rl (some (.int y)) none none none none none) h=some (.nx (ρD ns a ((d:Int)+1) (kn N O H) rl (some (.int y)) none none none none none),h):=λh=>by
  by_cases q1:y<4
  .have q:rl.isEmpty=true:=by
    cases rl with
    | nil=>rfl
    | cons _ _=>exact absurd ⟨q1,by simp⟩ k2
   simp![DS2,cmpI,q1,eR,iR,q,tupW]
  .simp![DS2,cmpI,q1]
 obtain⟨w1,e1,pl1,o1⟩:=HD (a*3+7) N O H hN hO' hH ∅ ∅ lH;have p3:∀h,DS3 G (ρD ns a ((d:Int)+1) (kn N O H) rl (some (.int y)) none none none none none) h=some (.nx (ρD ns a ((d:Int)+1) (kn N O H) rl (some (.int y)) (some w1) none none none none),h):=λh=>by
  simp![DS3,m3,addW,addI,subW,e1]
 have row3:∀h,b_f_law_deed G (ρD ns a ((d:Int)+1) (kn N O H) rl none none none none none none) h=sSeq (DS4 G) (sSeq (DS5 G) (sSeq (DS6 G) (sSeq (DS7 G) (sSeq (DS8 G) (sSeq (DS9 G) (DS10 G)))))) (ρD ns a ((d:Int)+1) (kn N O H) rl (some (.int y)) (some w1) none none none none) h:=λh=>by
  rw[row,yL (p1 h),yL (p2 h),yL (p3 h)]
 obtain⟨l1,rfl⟩:=o1.tup;have pS:∀{n:Nat} {v:Str},pl 1 (.str v)=true->pl (n+1) (.str v)=true:=λh=>h
 by_cases k4:y<6
 .have hp:(0:Int)<((shel O).length:Int):=by rw[zdK]; omega
  obtain⟨v,hv,ev⟩:=zbq (l:=shel O) (yP (ns:=ns) (k:=a+3) (many:=(shel O).length) hp).1 (yP (ns:=ns) (k:=a+3) (many:=(shel O).length) hp).2;have c7:4+(List.replicate 3 (yK O)).flatten.length<=cap:=by
   have:(List.replicate 3 (yK O)).flatten.length=3*O.length:=by simp[List.replicate,yK]; omega
   rw[this];exact zG (show 4+3*O.length<=400 by omega) (by decide)
  have hs3:(yK O).length<=1000:=by rw[xm]; omega
  refine⟨th "write" [.str v,.tup l1],λh=>?_,?_,?_⟩
  .rw[row3]
   refine uh ?_;have m:∀h,mulW (.tup (yK O)) (.int 3) h=some (.tup (List.replicate 3 (yK O)).flatten,h):=λh=>by
    simp only[mulW];rw[zW ⟨by omega,by omega,hs3⟩];rfl
   have ad:∀h,addW (.tup [.str "a",.str "b",.str "c",.str "d"]) (.tup (List.replicate 3 (yK O)).flatten) h=some (.tup ([.str "a",.str "b",.str "c",.str "d"]++(List.replicate 3 (yK O)).flatten),h):=λh=>by
    simp only[addW,addI,zr,zU];rw[zW c7]
   rw[zeT] at ad;generalize (List.replicate 3 (yK O)).flatten=Z at m ad;have a3:∀h,addW (.int a) (.int 3) h=some (.int (a+3),h):=λh=>by simp[addW,addI]
   unfold DS4;refine zj2 ((t_lt (j:=0) rfl).trans (by simp[k4])) ?_;rw[yL (ρ':=ρD ns a ((d:Int)+1) (kn N O H) rl (some (.int y)) (some (.tup l1)) (some (.tup (yK (shel O)))) none none none) (h':=h) (by simp![tupW,c4,ix1,m,ad])];simp![lenW,xm,a3,e (a+3) (shel O).length _ hp,ev,tupW,c3]
  .rw[show 2+2*(d+1)=(2*d+3)+1 by omega]
   refine uz (by simp) λw hw=>?_
   simp only[zp,zm,zT] at hw;rcases hw with rfl | rfl | rfl
   .exact pS ⋯
   .exact pS (zeA hO v hv)
   .exact yZ pl1 ∅
  .refine zaK (p:=(3,2)) (.write v (zdI hO' v hv) l1) ⋯ ⋯ λq hq=>?_
   simp at hq; subst hq; exact o1
 have p4:∀h,DS4 G (ρD ns a ((d:Int)+1) (kn N O H) rl (some (.int y)) (some (.tup l1)) none none none none) h=some (.nx (ρD ns a ((d:Int)+1) (kn N O H) rl (some (.int y)) (some (.tup l1)) none none none none),h):=λh=>
  zdn ((t_lt (j:=0) rfl).trans (by simp[k4]))
 cases k5:(y==6) with
 | true=>
  refine⟨th "say" [.tup l1],λh=>?_,?_,?_⟩
  .rw[row3,yL (p4 h)]
   refine zag ((t_eq rfl).trans (by rw[k5])) ?_;simp![tupW,c2]
  .rw[show 2+2*(d+1)=(2*d+3)+1 by omega]
   refine uz (by simp) λw hw=>?_
   simp only[zp,zm,zT] at hw;rcases hw with rfl | rfl
   .exact pS ⋯
   .exact yZ pl1 ∅
  .refine zaK (p:=(2,1)) (.say l1) ⋯ ⋯ λq hq=>?_
   simp at hq; subst hq; exact o1
 | false=>
 have p5:∀h,DS5 G (ρD ns a ((d:Int)+1) (kn N O H) rl (some (.int y)) (some (.tup l1)) none none none none) h=some (.nx (ρD ns a ((d:Int)+1) (kn N O H) rl (some (.int y)) (some (.tup l1)) none none none none),h):=λh=>
  zdn ((t_eq rfl).trans (by rw[k5]))
 have a3:∀h,addW (.int a) (.int 3) h=some (.int (a+3),h):=λh=>by simp[addW,addI]
 cases k6:(y==7) with
 | true=>
  obtain⟨v',hv,ev⟩:=zaM (l:=[.str "x",.str "y",.str "x1"]) (yP (ns:=ns) (k:=a+3) (many:=3) ∅).1 (by simpa using (yP (ns:=ns) (k:=a+3) (many:=3) ∅).2);have:∃v:Str,v'=.str v/\pl 1 (.str v)=true:=by
   simp only[zp,zm,zT] at hv;rcases hv with rfl | rfl | rfl<;>exact⟨_,rfl,by decide +kernel⟩
  obtain⟨v,rfl,pv⟩:=this;obtain⟨w2,e2,pl2',o2⟩:=HD (a*3+23) (N++[v]) O H (zjA hN pv) hO' hH (by simp; omega) ∅ lH;obtain⟨l2,rfl⟩:=o2.tup;have a4:∀h,addW (.tup (yK N)) (.tup [.str v]) h=some (.tup (yK (N++[v])),h):=λh=>by
   rw[<-zcb];simp only[addW,addI,zr,zU,xm];rw[zW (zG (show N.length+(0+1)<=100 by omega) (by decide))]
  have a5:∀h,slW (kn N O H) (some 1) none h=some (.tup [.tup (yK O),.tup (yK H)],h):=λh=>by simp[slW,ziv]
  have a6:∀h,addW (.tup [.tup (yK (N++[v]))]) (.tup [.tup (yK O),.tup (yK H)]) h=some (kn (N++[v]) O H,h):=λh=>by
   simp only[addW,addI,zr,zU];rw[zW (by decide)];rfl
  have a7:∀h,addW (.int (a*3)) (.int 23) h=some (.int (a*3+23),h):=λh=>by simp[addW,addI]
  refine⟨th "let" [.str v,.tup l1,.tup l2],λh=>?_,?_,?_⟩
  .rw[row3,yL (p4 h),yL (p5 h)]
   refine zag ((t_eq rfl).trans (by rw[k6])) ?_;rw[yL (ρ':=ρD ns a ((d:Int)+1) (kn N O H) rl (some (.int y)) (some (.tup l1)) none (some (.str v)) none none) (h':=h) (by simp![flsW,c3,a3,e (a+3) 3 _ ∅,ev])];simp![m3,a7,subW,ix0,tupW,c1,c4,a4,eSl,uZ,a5,a6,e2]
  .rw[show 2+2*(d+1)=(2*d+3)+1 by omega]
   refine uz (by simp) λw hw=>?_
   simp only[zp,zm,zT] at hw;rcases hw with rfl | rfl | rfl | rfl
   .exact pS ⋯
   .exact pS pv
   .exact yZ pl1 ∅
   .exact yZ pl2' ∅
  .refine zaK (p:=(4,2)) (.lett v l1 l2) ⋯ ⋯ λq hq=>?_
   simp at hq; rcases hq with rfl | rfl
   .exact o1
   .exact o2
 | false=>
 have p6:∀h,DS6 G (ρD ns a ((d:Int)+1) (kn N O H) rl (some (.int y)) (some (.tup l1)) none none none none) h=some (.nx (ρD ns a ((d:Int)+1) (kn N O H) rl (some (.int y)) (some (.tup l1)) none none none none),h):=λh=>
  zdn ((t_eq rfl).trans (by rw[k6]))
 cases k7:(y==8) with
 | true=>
  obtain⟨v',hv,ev⟩:=zaM (l:=[.str "p",.str "q"]) (yP (ns:=ns) (k:=a+3) (many:=2) ∅).1 (by simpa using (yP (ns:=ns) (k:=a+3) (many:=2) ∅).2);have:∃v:Str,v'=.str v/\pl 1 (.str v)=true/\(v="p" \/ v="q"):=by
   simp only[zp,zm,zT] at hv;rcases hv with rfl | rfl
   .exact⟨_,rfl,by decide +kernel,.inl rfl⟩
   .exact⟨_,rfl,by decide +kernel,.inr rfl⟩
  obtain⟨v,rfl,pv,vpq⟩:=this;obtain⟨w2,e2,pl2',o2⟩:=HD (a*3+23) N (O++[v]) H hN (zjE hO' vpq) hH ∅ (by simp; omega) lH;obtain⟨l2,rfl⟩:=o2.tup;have a4:∀h,addW (.tup (yK O)) (.tup [.str v]) h=some (.tup (yK (O++[v])),h):=λh=>by
   rw[<-zcb];simp only[addW,addI,zr,zU,xm];rw[zW (zG (show O.length+(0+1)<=100 by omega) (by decide))]
  have a7:∀h,addW (.int (a*3)) (.int 23) h=some (.int (a*3+23),h):=λh=>by simp[addW,addI]
  refine⟨th "own" [.str v,.tup l1,.tup l2],λh=>?_,?_,?_⟩
  .rw[row3,yL (p4 h),yL (p5 h),yL (p6 h)]
   refine zag ((t_eq rfl).trans (by rw[k7])) ?_;rw[yL (ρ':=ρD ns a ((d:Int)+1) (kn N O H) rl (some (.int y)) (some (.tup l1)) none (some (.str v)) none none) (h':=h) (by simp![flsW,c2,a3,e (a+3) 2 _ ∅,ev])];rw[yL (ρ':=ρD ns a ((d:Int)+1) (kn N O H) rl (some (.int y)) (some (.tup l1)) none (some (.str v)) (some (kn N (O++[v]) H)) none) (h':=h) (by simp![tupW,c1,c3,ix0,ix1,ix2,a4])];simp![m3,a7,subW,tupW,c4,e2]
  .rw[show 2+2*(d+1)=(2*d+3)+1 by omega]
   refine uz (by simp) λw hw=>?_
   simp only[zp,zm,zT] at hw;rcases hw with rfl | rfl | rfl | rfl
   .exact pS ⋯
   .exact pS pv
   .exact yZ pl1 ∅
   .exact yZ pl2' ∅
  .refine zaK (p:=(4,2)) (.own v vpq l1 l2) ⋯ ⋯ λq hq=>?_
   simp at hq; rcases hq with rfl | rfl
   .exact o1
   .exact o2
 | false=>
 have p7:∀h,DS7 G (ρD ns a ((d:Int)+1) (kn N O H) rl (some (.int y)) (some (.tup l1)) none none none none) h=some (.nx (ρD ns a ((d:Int)+1) (kn N O H) rl (some (.int y)) (some (.tup l1)) none none none none),h):=λh=>
  zdn ((t_eq rfl).trans (by rw[k7]))
 obtain⟨w2,e2,pl2',o2⟩:=HD (a*3+41) N O H hN hO' hH ∅ ∅ lH;obtain⟨l2,rfl⟩:=o2.tup;have a8:∀h,addW (.int (a*3)) (.int 41) h=some (.int (a*3+41),h):=λh=>by simp[addW,addI]
 have p8:∀h,DS8 G (ρD ns a ((d:Int)+1) (kn N O H) rl (some (.int y)) (some (.tup l1)) none none none none) h=some (.nx (ρD ns a ((d:Int)+1) (kn N O H) rl (some (.int y)) (some (.tup l1)) none none none (some (.tup l2))),h):=λh=>by
  simp![DS8,m3,a8,subW,e2]
 have row8:∀h,b_f_law_deed G (ρD ns a ((d:Int)+1) (kn N O H) rl none none none none none none) h=sSeq (DS9 G) (DS10 G) (ρD ns a ((d:Int)+1) (kn N O H) rl (some (.int y)) (some (.tup l1)) none none none (some (.tup l2))) h:=λh=>by
  rw[row3,yL (p4 h),yL (p5 h),yL (p6 h),yL (p7 h),yL (p8 h)]
 cases k9:(y==9) with
 | true=>
  obtain⟨w3,e3,pl3,o3⟩:=HD (a*3+61) N O H hN hO' hH ∅ ∅ lH;obtain⟨l3,rfl⟩:=o3.tup;have a9:∀h,addW (.int (a*3)) (.int 61) h=some (.int (a*3+61),h):=λh=>by simp[addW,addI]
  refine⟨th "if" [.tup l1,.tup l2,.tup l3],λh=>?_,?_,?_⟩
  .rw[row8]
   refine zag ((t_eq rfl).trans (by rw[k9])) ?_;simp![m3,a9,subW,tupW,c4,e3]
  .rw[show 2+2*(d+1)=(2*d+3)+1 by omega]
   refine uz (by simp) λw hw=>?_
   simp only[zp,zm,zT] at hw;rcases hw with rfl | rfl | rfl | rfl
   .exact pS ⋯
   .exact yZ pl1 ∅
   .exact yZ pl2' ∅
   .exact yZ pl3 ∅
  .refine zaK (p:=(4,1)) (.iff l1 l2 l3) ⋯ ⋯ λq hq=>?_
   simp at hq; rcases hq with rfl | rfl | rfl
   .exact o1
   .exact o2
   .exact o3
 | false=>
 have g10:0<=y-10/\y-10<5:=by
  rw[jG] at k5 k6 k7 k9;omega
 obtain⟨v',hv,ev⟩:=zaM (l:=[.tup [.str "then"],.tup [.str "add"],.tup [.str "less"],.tup [.str "loop"],.tup [.str "then"]]) (i:=y-10) g10.1 (by simpa using g10.2);have:∃x:Str,v'=.tup [.str x]/\pl 1 (.str x)=true/\(x==("call":Str))=false/\fm x=some (3,1)/\Sh rl rl.length H (th x [.tup l1,.tup l2]):=by
  simp only[zp,zm,zT] at hv;rcases hv with rfl | rfl | rfl | rfl | rfl
  .exact⟨_,rfl,by decide +kernel,by decide +kernel,by decide +kernel,.thenn l1 l2⟩
  .exact⟨_,rfl,by decide +kernel,by decide +kernel,by decide +kernel,.add l1 l2⟩
  .exact⟨_,rfl,by decide +kernel,by decide +kernel,by decide +kernel,.less l1 l2⟩
  .exact⟨_,rfl,by decide +kernel,by decide +kernel,by decide +kernel,.loop l1 l2⟩
  .exact⟨_,rfl,by decide +kernel,by decide +kernel,by decide +kernel,.thenn l1 l2⟩
 obtain⟨x,rfl,px,hc,hf,sh⟩:=this;refine⟨th x [.tup l1,.tup l2],λh=>?_,?_,?_⟩
 .rw[row8]
  unfold DS9;rw[zg4 ((t_eq rfl).trans (by rw[k9]))];have a10:∀h,addW (.tup [.str x]) (.tup [.tup l1,.tup l2]) h=some (th x [.tup l1,.tup l2],h):=λh=>by
   simp only[addW,addI,zr,zU];rw[zW (by decide)];rfl
  simp![DS10,tupW,flsW,c1,c2,c5,subW,ev,a10]
 .rw[show 2+2*(d+1)=(2*d+3)+1 by omega]
  refine uz (by simp) λw hw=>?_
  simp only[zp,zm,zT] at hw;rcases hw with rfl | rfl | rfl
  .exact pS px
  .exact yZ pl1 ∅
  .exact yZ pl2' ∅
 .refine zaK (p:=(3,1)) sh hc hf λq hq=>?_
  simp at hq; rcases hq with rfl | rfl
  .exact o1
  .exact o2
def zgX{F:Fs}{ns:List Int}{rl:List W}(hl:ns.length<=63):zam (step (step (step (step F)))) ns rl 0:=by
 intro a N O H hN hO' hH lN lO lH;have hO:=zft hO';have e:=λ(k many:Int) (h:MH) (hm:0<many)=>zak (F:=step F) (k:=k) (many:=many) (h:=h) hl hm
 obtain⟨w,ew,p,o⟩:=zgQ (F:=F) (ns:=ns) (a:=a+1) (N:=N) (O:=O) (H:=H) (rl:=rl) (k:=rl.length) hl hN hO' hH ∅ ∅ ∅;generalize step (step (step F))=G at e ew;refine⟨w,λh=>xF (n:=2) ?_ (ul p),p,o⟩;simp![b_f_law_deed,DS0,DS1,DS2,DS3,DS4,DS5,DS6,DS7,DS8,DS9,DS10,e a 15 _ ∅,xx,addW,addI,ew]
theorem zlj(F:Fs):b_f_law_call F=sSeq (CL0 F) (sSeq (CL1 F) (sSeq (CL2 F) (sSeq (CL3 F) (CL4 F)))):=rfl
theorem zlq(F:Fs):b_f_law_rules F=sSeq (RU0 F) (sSeq (RU1 F) (RU2 F)):=rfl
structure RG(rl:List W):Prop where
 l:rl.length<=4
 g:∀i,i<rl.length->∃(N hs:List Str) (body:W),rl[i]?=some (.tup [.tup (yK N),.tup (yK hs),body])/\N.length<=2/\hs.length<=2/\wd N/\wd hs/\pl 6 body=true/\okd rl i hs 3 body/\hs.Nodup
theorem RG.pl{rl:List W}(h:RG rl):pl 8 (.tup rl)=true:=by
 refine uz h.l λw hw=>?_
 obtain⟨i,hi,rfl⟩:=yz.mp hw;obtain⟨N,hs,body,e,l1,l2,w1,w2,p,o⟩:=h.g i hi;rw[z9 hi] at e;injection e with e;rw[e];refine uz (by simp) λv hv=>?_
 simp only[zp,zm,zT] at hv;rcases hv with rfl | rfl | rfl
 .exact yZ (zeH w1 ∅) ∅
 .exact yZ (zeH w2 ∅) ∅
 .exact p
def RG.good{rl:List W}(h:RG rl):RulesGood rl:=⟨λi hi=>by
 obtain⟨N,hs,body,e,l1,l2,w1,w2,p,o⟩:=h.g i hi
 exact⟨yK N,hs,body,e,xR (ul p) ∅,o.1,by omega⟩⟩
def Sh.more{rl:List W}{k:Nat}{H:List Str}{w r:W}(h:Sh rl k H w):Sh (rl++[r]) k H w:=by
 cases h with
 | call i a b hi ns hs body e lb=>exact .call i a b hi ns hs body (lb:=lb) (by rw[zQ (zJ.mp e).1]; exact e)
 | number i=>exact .number i
 | name v=>exact .name v
 | read v hv=>exact .read v hv
 | doo v hv=>exact .doo v hv
 | ask=>exact .ask
 | write v hv a=>exact .write v hv a
 | say a=>exact .say a
 | lett v a b=>exact .lett v a b
 | own v hv a b=>exact .own v hv a b
 | add a b=>exact .add a b
 | less a b=>exact .less a b
 | thenn a b=>exact .thenn a b
 | loop a b=>exact .loop a b
 | iff a b c=>exact .iff a b c
theorem zb0{rl:List W}{k:Nat}{H:List Str}{r:W}:∀{n:Nat} {w:W},okd rl k H n w->okd (rl++[r]) k H n w
 | 0,_,h=>by cases h
 | n+1,w,h=>⟨h.1.more,λp hp=>zb0 (h.2 p hp)⟩
def RG.snoc{rl:List W}(h:RG rl)(hl:rl.length<=3){N hs:List Str}{body:W}(l1:N.length<=2)(l2:hs.length<=2)(w1:wd N)(w2:wd hs)(p:K80.pl 6 body=true)(o:okd rl rl.length hs 3 body)(hnd:hs.Nodup):RG (rl++[.tup [.tup (yK N),.tup (yK hs),body]]):=by
 refine⟨by simp; omega,λi hi=>?_⟩;by_cases c:i<rl.length
 .obtain⟨N',hs',body',e,a1,a2,a3,a4,a5,a6⟩:=h.g i c
  exact⟨N',hs',body',by rw[zQ c]; exact e,a1,a2,a3,a4,a5,zb0 a6.1,a6.2⟩
 .have:i=rl.length:=by simp at hi; omega
  subst this;exact⟨N,hs,body,by simp,l1,l2,w1,w2,p,zb0 o,hnd⟩
def m5{a:Int}{h:MH}:mulW (.int 5) (.int a) h=some (.int (5*a),h):=by
 have:(small 5||small a)=true:=by rw[show small 5=true by decide]; rfl
 simp only[mulW,this,jb]
def m7{a:Int}{h:MH}:mulW (.int 7) (.int a) h=some (.int (7*a),h):=by
 have:(small 7||small a)=true:=by rw[show small 7=true by decide]; rfl
 simp only[mulW,this,jb]
noncomputable abbrev ρC(ns:List Int)(a d:Int)(K:W)(rl:List W)(o5 o6 o7 o8:Option W):En:=[some (scr ns),some (.int a),some (.int d),some K,some (.tup rl),o5,o6,o7,o8]
theorem zdb{G:Fs}{ns:List Int}{a:Int}{rl:List W}{d:Nat}{N O H:List Str}(HD:zam G ns rl d)(hN:wd N)(hO:wo O)(hH:wd H)(lN:N.length+d<=20)(lO:O.length+d<=20)(lH:H.length<=20) :
  ∀is:List Int,∃ws:List W,ws.length=is.length/\(∀w∈ws,pl (2+2*d) w=true/\okd rl rl.length H (d+1) w)/\∀(h0:MH) (acc:List W) (o5 o6 o8:Option W),acc.length+is.length<=1000->
   ∃o,forL (gNm 8) (xY (yR xP (eVar 7) [yJ G.f_law_deed [eVar 0,eOp addW (eOp addW (eOp mulW (eVar 1) (eC (.int 3))) (eC (.int 7))) (eOp mulW (eC (.int 5)) (eVar 8)),eOp subW (eVar 2) (eC (.int 1)),eVar 3,eVar 4]])) (is.map W.int) (ρC ns a ((d:Int)+1) (kn N O H) rl o5 o6 (some (.ref h0.length)) o8) (h0++[.lst acc]) =
    some (.nx (ρC ns a ((d:Int)+1) (kn N O H) rl o5 o6 (some (.ref h0.length)) o),h0++[.lst (acc++ws)])
 | []=>⟨[],rfl,λw hw=>by simp at hw,λh0 acc o5 o6 o8 _=>⟨o8,by simp[forL]⟩⟩
 | i::is=>by
  obtain⟨ws,h1,h2,h3⟩:=zdb (a:=a) HD hN hO hH lN lO lH is;obtain⟨w,ew,p,o⟩:=HD (a*3+7+5*i) N O H hN hO hH lN lO lH;refine⟨w::ws,by simp[h1],λv hv=>?_,λh0 acc o5 o6 o8 hc=>?_⟩
  .rcases zp.mp hv with rfl | z
   .exact⟨p,o⟩
   .exact h2 v z
  .simp only[zr] at hc
   obtain⟨o',e⟩:=h3 h0 (acc++[w]) o5 o6 (some (.int i)) (by simp; omega);refine⟨o',?_⟩;simp only[zz];unfold forL;have g:gNm 8 (.int i) (ρC ns a ((d:Int)+1) (kn N O H) rl o5 o6 (some (.ref h0.length)) o8) (h0++[.lst acc])=some (ρC ns a ((d:Int)+1) (kn N O H) rl o5 o6 (some (.ref h0.length)) (some (.int i)),h0++[.lst acc]):=by simp[gNm]
   rw[g];have hcap:acc.length<cap:=zK (show acc.length<1000 by omega) (by decide);have b:(xY (yR xP (eVar 7) [yJ G.f_law_deed [eVar 0,eOp addW (eOp addW (eOp mulW (eVar 1) (eC (.int 3))) (eC (.int 7))) (eOp mulW (eC (.int 5)) (eVar 8)),eOp subW (eVar 2) (eC (.int 1)),eVar 3,eVar 4]])) (ρC ns a ((d:Int)+1) (kn N O H) rl o5 o6 (some (.ref h0.length)) (some (.int i))) (h0++[.lst acc])=some (.nx (ρC ns a ((d:Int)+1) (kn N O H) rl o5 o6 (some (.ref h0.length)) (some (.int i))),h0++[.lst (acc++[w])]):=by
    simp![yR,getL,at0,xP,set0,m3,m5,addW,addI,subW,ew,hcap]
   simp only[b];rw[e];simp
def zda(n:Nat):upto n=((_root_.List.range n).map λ(i:Nat)=>(i:Int)).map W.int:=by simp[upto]
def zgG{F:Fs}{ns:List Int}{rl:List W}{d:Nat}(hl:ns.length<=63)(hrg:RG rl)(hne:rl≠[])(HD:zam (step (step F)) ns rl d):zgV (step (step (step F))) ns rl d:=by
 intro a N O H hN hO hH lN lO lH;have e:=λ(k many:Int) (h:MH) (hm:0<many)=>zak (F:=F) (k:=k) (many:=many) (h:=h) hl hm
 generalize step (step F)=G at e HD;have hp:(0:Int)<(rl.length:Int):=by
  cases rl with
  | nil=>exact absurd rfl hne
  | cons _ _=>simp only[zr]; omega
 have rg:=yP (ns:=ns) (k:=a+3) (many:=rl.length) hp;have er:=λh=>e (a+3) rl.length h hp
 obtain⟨j,hj⟩:=qt rg.1;rw[hj] at rg er;have hjl:j<rl.length:=by omega
 obtain⟨N',hs',body',eb,b1,b2,b3,b4,b5,b6⟩:=hrg.g j hjl;have ei:∀h,ixW (.tup rl) (.int (j:Int)) h=some (.tup [.tup (yK N'),.tup (yK hs'),body'],h):=λh=>ixn ∅ ∅ (by simpa using eb)
 obtain⟨ws,h1,h2,h3⟩:=zdb (a:=a) HD hN hO hH lN lO lH ((_root_.List.range (N'.length+hs'.length)).map λ(i:Nat)=>(i:Int));simp only[kE,List.length_range] at h1 h3;refine⟨th "call" [.int (j:Int),.tup (ws.take N'.length),.tup (ws.drop N'.length)],λh=>?_,?_,?_⟩
 .have pw:dt (2+2*(d+1)) (th "call" [.int (j:Int),.tup (ws.take N'.length),.tup (ws.drop N'.length)])=true:=by
   rw[show 2+2*(d+1)=(2*d+3)+1 by omega];refine zaX (by simp) λv hv=>?_
   simp only[zp,zm,zT] at hv;rcases hv with rfl | rfl | rfl | rfl
   .have:dt 1 (.str "call")=true:=by decide +kernel
    exact xR this ∅
   .rfl
   .exact zaX (by simp; omega) λu hu=>xR (ul (h2 u (yx hu)).1) ∅
   .exact zaX (by simp; omega) λu hu=>xR (ul (h2 u (j7 hu)).1) ∅
  refine zgz (t:=[.lst ws]) ?_ pw;obtain⟨o,e3⟩:=h3 h [] (some (.int (j:Int))) (some (.int (N'.length:Int))) none (by simp; omega);rw[zR] at e3;suffices hs:b_f_law_call G (ρC ns a ((d:Int)+1) (kn N O H) rl none none none none) h=some (.ret (th "call" [.int (j:Int),.tup (ws.take N'.length),.tup (ws.drop N'.length)]),h++[.lst ws]) by
   simp only[fnM,zr,zU,jb,zz,jx,List.replicate,zY,zR];simp only[ρC] at hs;simp only[hs]
  have c0:(0:Nat)<=cap:=by decide
  have c4:(4:Nat)<=cap:=by decide
  have s0:CL0 G (ρC ns a ((d:Int)+1) (kn N O H) rl none none none none) h=some (.nx (ρC ns a ((d:Int)+1) (kn N O H) rl (some (.int (j:Int))) none none none),h):=by
   simp![CL0,addW,addI,lenW,er]
  have s1:CL1 G (ρC ns a ((d:Int)+1) (kn N O H) rl (some (.int (j:Int))) none none none) h=some (.nx (ρC ns a ((d:Int)+1) (kn N O H) rl (some (.int (j:Int))) (some (.int (N'.length:Int))) none none),h):=by
   simp![CL1,ei,ix0,lenW,xm]
  have s2:CL2 G (ρC ns a ((d:Int)+1) (kn N O H) rl (some (.int (j:Int))) (some (.int (N'.length:Int))) none none) h=some (.nx (ρC ns a ((d:Int)+1) (kn N O H) rl (some (.int (j:Int))) (some (.int (N'.length:Int))) (some (.ref h.length)) none),h++[.lst []]):=by
   simp![CL2,lstW,c0]
  have s3:CL3 G (ρC ns a ((d:Int)+1) (kn N O H) rl (some (.int (j:Int))) (some (.int (N'.length:Int))) (some (.ref h.length)) none) (h++[.lst []])=some (.nx (ρC ns a ((d:Int)+1) (kn N O H) rl (some (.int (j:Int))) (some (.int (N'.length:Int))) (some (.ref h.length)) o),h++[.lst ws]):=by
   rw[<-e3];have ir:(iRng [eOp addW (eVar 6) (yJ lenW [eOp ixW (eOp ixW (eVar 4) (eVar 5)) (eC (.int 1))])]) (ρC ns a ((d:Int)+1) (kn N O H) rl (some (.int (j:Int))) (some (.int (N'.length:Int))) (some (.ref h.length)) none) (h++[.lst []])=some (.items (upto (N'.length+hs'.length)),h++[.lst []]):=by
    have q:-(2 ^ 62:Int)<=(N'.length:Int)+(hs'.length:Int)/\(N'.length:Int)+(hs'.length:Int)<2 ^ 62:=by omega
    have q2:((N'.length:Int)+(hs'.length:Int)).toNat=N'.length+hs'.length:=by omega
    have lw:∀h,lenW [.tup (yK hs')] h=some (.int (hs'.length:Int),h):=λh=>by simp[lenW,xm]
    have ad:∀h,addW (.int (N'.length:Int)) (.int (hs'.length:Int)) h=some (.int ((N'.length:Int)+(hs'.length:Int)),h):=λh=>by simp[addW,addI]
    have rw1:∀h,rngW [.int ((N'.length:Int)+(hs'.length:Int))] h=some (.items (upto (N'.length+hs'.length)),h):=λh=>by
     unfold rngW;simp only;rw[zW q,q2]
    simp![iRng,ei,ix1,lw,ad,rw1]
   unfold CL3 sFor;rw[ir];simp only;rw[zda]
  have s4:CL4 G (ρC ns a ((d:Int)+1) (kn N O H) rl (some (.int (j:Int))) (some (.int (N'.length:Int))) (some (.ref h.length)) o) (h++[.lst ws])=some (.ret (th "call" [.int (j:Int),.tup (ws.take N'.length),.tup (ws.drop N'.length)]),h++[.lst ws]):=by
   have t1:=zll (l:=ws) (k:=N'.length) ∅;have t2:=zb2 (l:=ws) (k:=N'.length);simp![CL4,eSl,uZ,slW,getL,at0,zab,tupW,c4,t1,t2]
  rw[zlj,yL s0,yL s1,yL s2,yL s3,s4]
 .rw[show 2+2*(d+1)=(2*d+3)+1 by omega]
  refine uz (by simp) λv hv=>?_
  simp only[zp,zm,zT] at hv;have hl4:=hrg.l;rcases hv with rfl | rfl | rfl | rfl
  .have:pl 1 (.str "call")=true:=by decide +kernel
   exact yZ this ∅
  .have:pl 1 (.int (j:Int))=true:=by
    unfold pl;rw[zg];exact⟨jN ∅,jN ∅⟩
   exact yZ this ∅
  .exact uz (by simp; omega) λu hu=>yZ (h2 u (yx hu)).1 ∅
  .exact uz (by simp; omega) λu hu=>yZ (h2 u (j7 hu)).1 ∅
 .refine⟨.call j _ _ hjl (yK N') hs' body' eb (by rw[qb]; omega),λp hp=>?_⟩
  rw[uH,List.take_append_drop] at hp;exact(h2 p hp).2
theorem za2{ns:List Int}{rl:List W}(hl:ns.length<=63)(hrg:RG rl)(F:Fs):∀(d:Nat),d<=4->∀m,4+2*d<=m->zam (up m F) ns rl d
 | 0,_,m,hm=>by
  obtain⟨m',rfl⟩:∃m',m=m'+4:=⟨m-4,by omega⟩;exact zgX hl
 | d+1,hd,m,hm=>by
  obtain⟨m',rfl⟩:∃m',m=m'+4:=⟨m-4,by omega⟩;have i1:=za2 hl hrg F d ∅ (m'+3) ∅;have i2:=za2 hl hrg F d ∅ (m'+2) ∅;exact zgk hl (xR (ul hrg.pl) ∅) ∅ i1 λhne=>zgG hl hrg hne i2
noncomputable abbrev ρR(ns:List Int)(a:Int)(rl:List W)(o3 o4 o5 o6:Option W):En:=[some (scr ns),some (.int a),some (.tup rl),o3,o4,o5,o6]
noncomputable def RUb(F:Fs):MS:=(sSeq (sAsg (eOp ixW (yJ flsW [yJ tupW [],yJ tupW [eC (.str "x")],yJ tupW [eC (.str "y"),eC (.str "x")]]) (yJ F.f_law_drawn [eVar 0,eOp addW (eOp addW (eVar 1) (eC (.int 1))) (eOp mulW (eC (.int 5)) (eVar 3)),eC (.int 3)])) (gNm 4))
 (sSeq (sAsg (eOp ixW (yJ flsW [yJ tupW [],yJ tupW [eC (.str "f")],yJ tupW [eC (.str "f"),eC (.str "g1")]]) (yJ F.f_law_drawn [eVar 0,eOp addW (eOp addW (eVar 1) (eC (.int 2))) (eOp mulW (eC (.int 5)) (eVar 3)),eC (.int 3)])) (gNm 5))
 (sSeq (sAsg (yJ F.f_law_deed [eVar 0,eOp addW (eOp addW (eVar 1) (eC (.int 20))) (eOp mulW (eC (.int 7)) (eVar 3)),eC (.int 2),yJ tupW [eVar 4,yJ tupW [],eVar 5],eVar 2]) (gNm 6))
 (sAsg (eOp addW (eVar 2) (yJ tupW [yJ tupW [eVar 4,eVar 5,eVar 6]])) (gNm 2)))))
theorem zck{G:Fs}{ns:List Int}{a:Int}(e:∀(k many:Int) (h:MH),0<many->G.f_law_drawn [scr ns,.int k,.int many] h=some (.int (uA ns k many),h))(HD:∀rl,RG rl->zam G ns rl 2) :
  ∀(is:List Int) (rl:List W),RG rl->rl.length+is.length<=4->∃rl',RG rl'/\rl'.length=rl.length+is.length/\∀(h:MH) (o3 o4 o5 o6:Option W),∃p3 p4 p5 p6,forL (gNm 3) (RUb G) (is.map W.int) (ρR ns a rl o3 o4 o5 o6) h=some (.nx (ρR ns a rl' p3 p4 p5 p6),h)
 | [],rl,hr,_=>⟨rl,hr,by simp,λh o3 o4 o5 o6=>⟨o3,o4,o5,o6,by simp[forL]⟩⟩
 | i::is,rl,hr,hl=>by
  simp only[zr] at hl;have c0:(0:Nat)<=cap:=by decide
  have c1:(1:Nat)<=cap:=by decide
  have c2:(2:Nat)<=cap:=by decide
  have c3:(3:Nat)<=cap:=by decide
  obtain⟨v1,hv1,ev1⟩:=zaM (l:=[.tup [],.tup [.str "x"],.tup [.str "y",.str "x"]]) (yP (ns:=ns) (k:=a+1+5*i) (many:=3) ∅).1 (by simpa using (yP (ns:=ns) (k:=a+1+5*i) (many:=3) ∅).2);have:∃N:List Str,v1=.tup (yK N)/\N.length<=2/\wd N:=by
   simp only[zp,zm,zT] at hv1;rcases hv1 with rfl | rfl | rfl
   .exact⟨[],rfl,by simp,λv hv=>by simp at hv⟩
   .exact⟨["x"],rfl,by simp,λv hv=>by simp only[zp,zm,zT] at hv; subst hv; decide +kernel⟩
   .exact⟨["y","x"],rfl,by simp,λv hv=>by simp only[zp,zm,zT] at hv; rcases hv with rfl | rfl<;>decide +kernel⟩
  obtain⟨N,rfl,lN,wN⟩:=this;obtain⟨v2,hv2,ev2⟩:=zaM (l:=[.tup [],.tup [.str "f"],.tup [.str "f",.str "g1"]]) (yP (ns:=ns) (k:=a+2+5*i) (many:=3) ∅).1 (by simpa using (yP (ns:=ns) (k:=a+2+5*i) (many:=3) ∅).2);have:∃N:List Str,v2=.tup (yK N)/\N.length<=2/\wd N/\N.Nodup:=by
   simp only[zp,zm,zT] at hv2;rcases hv2 with rfl | rfl | rfl
   .exact⟨[],rfl,by simp,λv hv=>by simp at hv,by simp⟩
   .exact⟨["f"],rfl,by simp,λv hv=>by simp only[zp,zm,zT] at hv; subst hv; decide +kernel,by decide +kernel⟩
   .exact⟨["f","g1"],rfl,by simp,λv hv=>by simp only[zp,zm,zT] at hv; rcases hv with rfl | rfl<;>decide +kernel,by decide +kernel⟩
  obtain⟨H,rfl,lH,wH,ndH⟩:=this;obtain⟨w,ew,pw,ow⟩:=HD rl hr (a+20+7*i) N [] H wN (λv hv=>by simp at hv) wH ∅ (by simp) ∅;obtain⟨rl',hr',hl',ih⟩:=zck (a:=a) e HD is (rl++[.tup [.tup (yK N),.tup (yK H),w]]) (hr.snoc ∅ lN lH wN wH pw ow ndH) (by simp; omega);refine⟨rl',hr',by rw[hl']; simp; omega,λh o3 o4 o5 o6=>?_⟩;obtain⟨p3,p4,p5,p6,e6⟩:=ih h (some (.int i)) (some (.tup (yK N))) (some (.tup (yK H))) (some w);refine⟨p3,p4,p5,p6,?_⟩;simp only[zz];unfold forL;have g:gNm 3 (.int i) (ρR ns a rl o3 o4 o5 o6) h=some (ρR ns a rl (some (.int i)) o4 o5 o6,h):=by simp[gNm]
  rw[g];have cr:rl.length+1<=cap:=zG (show rl.length+1<=10 by omega) (by decide);have a1:∀x y:Int,∀h,addW (.int x) (.int y) h=some (.int (x+y),h):=λx y h=>by simp[addW,addI]
  have a2:∀w h,addW (.tup rl) (.tup [w]) h=some (.tup (rl++[w]),h):=λw h=>by
   simp only[addW,addI,zr,zU];rw[zW (by simpa using cr)]
  have ew':∀h,G.f_law_deed [scr ns,.int (a+20+7*i),.int 2,.tup [.tup (yK N),.tup [],.tup (yK H)],.tup rl] h=some (w,h):=λh=>ew h
  have b:RUb G (ρR ns a rl (some (.int i)) o4 o5 o6) h=some (.nx (ρR ns a (rl++[.tup [.tup (yK N),.tup (yK H),w]]) (some (.int i)) (some (.tup (yK N))) (some (.tup (yK H))) (some w)),h):=by
   unfold RUb;rw[yL (ρ':=ρR ns a rl (some (.int i)) (some (.tup (yK N))) o5 o6) (h':=h) (by simp![tupW,flsW,c0,c1,c2,c3,a1,m5,e (a+1+5*i) 3 _ ∅,ev1])];rw[yL (ρ':=ρR ns a rl (some (.int i)) (some (.tup (yK N))) (some (.tup (yK H))) o6) (h':=h) (by simp![tupW,flsW,c0,c1,c2,c3,a1,m5,e (a+2+5*i) 3 _ ∅,ev2])];rw[yL (ρ':=ρR ns a rl (some (.int i)) (some (.tup (yK N))) (some (.tup (yK H))) (some w)) (h':=h) (by simp![tupW,c0,c3,a1,m7,ew'])];simp![tupW,c1,c3,a2]
  simp only[b];rw[e6]
def zi4{F:Fs}{ns:List Int}{m:Nat}(hl:ns.length<=63)(hm:8<=m):∃rl,RG rl/\∀h,(step (up m F)).f_law_rules [scr ns,.int 1] h=some (.tup rl,h):=by
 have HD:=λrl (hr:RG rl)=>za2 hl hr F 2 ∅ m ∅
 have e:∀(k many:Int) (h:MH),0<many->(up m F).f_law_drawn [scr ns,.int k,.int many] h=some (.int (uA ns k many),h):=by
  obtain⟨m',rfl⟩:∃m',m=m'+2:=⟨m-2,by omega⟩;exactλk many h hm=>zak (F:=up m' F) hl hm
 generalize up m F=G at e HD;have rg:=yP (ns:=ns) (k:=1) (many:=3) ∅;have e1:=λh=>e 1 3 h ∅
 obtain⟨j,hj⟩:=qt rg.1;rw[hj] at rg e1;obtain⟨rl',hr',hl',ih⟩:=zck (a:=1) e HD ((_root_.List.range j).map λ(i:Nat)=>(i:Int)) [] ⟨by simp,λi hi=>by simp at hi⟩ (by simp; omega);refine⟨rl',hr',λh=>xF (n:=8) ?_ (ul hr'.pl)⟩;obtain⟨p3,p4,p5,p6,e6⟩:=ih h none none none none;have c0:(0:Nat)<=cap:=by decide
 have s0:RU0 G [some (scr ns),some (.int 1),none,none,none,none,none] h=some (.nx (ρR ns 1 [] none none none none),h):=by
  simp![RU0,tupW,c0]
 have s1:RU1 G (ρR ns 1 [] none none none none) h=some (.nx (ρR ns 1 rl' p3 p4 p5 p6),h):=by
  rw[<-e6];have ir:(iRng [yJ G.f_law_drawn [eVar 0,eVar 1,eC (.int 3)]]) (ρR ns 1 [] none none none none) h=some (.items (upto j),h):=by
   have q:-(2 ^ 62:Int)<=(j:Int)/\(j:Int)<2 ^ 62:=by omega
   have rw1:∀h,rngW [.int (j:Int)] h=some (.items (upto j),h):=λh=>by
    unfold rngW;simp only;rw[zW q,v7]
   simp![iRng,e1,rw1]
  show(sFor _ _ (RUb G)) _ _=_
  unfold sFor;rw[ir];simp only;rw[zda]
 have hs:b_f_law_rules G [some (scr ns),some (.int 1),none,none,none,none,none] h=some (.ret (.tup rl'),h):=by
  rw[zlq,yL s0,yL s1];simp![RU2]
 simp only[fnM,zr,zU,jb,zz,jx,List.replicate,zY,zR];simp only[hs]
def zju{F:Fs}{ns:List Int}{m:Nat}{rl:List W}{a:Int}(hl:ns.length<=63)(hm:15<=m)(hr:RG rl):∃w,pl 6 w=true/\okd rl rl.length [] 3 w/\∀h,(step (up m F)).f_law_light [scr ns,.int a,.int 2,.tup rl] h=some (w,h):=by
 obtain⟨w,ew,p,o⟩:=za2 hl hr F 2 ∅ m ∅ a [] [] [] (λv hv=>by simp at hv) (λv hv=>by simp at hv) (λv hv=>by simp at hv) (by simp) (by simp) (by simp);obtain⟨v,ev⟩:=za1 hr.good F m rl.length 3 (by have:=hr.l; omega) ∅ ∅ _ w [] o (xR (ul p) ∅) (λp hp=>by simp at hp);have e:∀(k many:Int) (h:MH),0<many->(up m F).f_law_drawn [scr ns,.int k,.int many] h=some (.int (uA ns k many),h):=by
  obtain⟨m',rfl⟩:∃m',m=m'+2:=⟨m-2,by omega⟩;exactλk many h hm=>zak (F:=up m' F) hl hm
 generalize up m F=G at e ew ev;have c0:(0:Nat)<=cap:=by decide
 have c2:(2:Nat)<=cap:=by decide
 have c3:(3:Nat)<=cap:=by decide
 have ew':∀h,G.f_law_deed [scr ns,.int a,.int 2,.tup [.tup [],.tup [],.tup []],.tup rl] h=some (w,h):=λh=>ew h
 by_cases k:80<v
 .have rg:=yP (ns:=ns) (k:=a) (many:=4) ∅
  have e1:=λh=>e a 4 h ∅
  generalize uA ns a 4=y at rg e1;have:∃c:Str,(pl 1 (.str c)=true/\c∈six)/\∀h,ixW (.str "abcd") (.int y) h=some (.str c,h):=by
   have hy:y=0\/y=1\/y=2\/y=3:=by omega
   have hc:(("abcd":Str).length<=cap):=by decide +kernel
   have hx:("abcd":Str).cps.toList=[97,98,99,100]:=by decide +kernel
   rcases hy with rfl | rfl | rfl | rfl
   .exact⟨⟨#[97]⟩,by decide +kernel,λh=>by simp[ixW,hc,hx,atI,ixN]⟩
   .exact⟨⟨#[98]⟩,by decide +kernel,λh=>by simp[ixW,hc,hx,atI,ixN]⟩
   .exact⟨⟨#[99]⟩,by decide +kernel,λh=>by simp[ixW,hc,hx,atI,ixN]⟩
   .exact⟨⟨#[100]⟩,by decide +kernel,λh=>by simp[ixW,hc,hx,atI,ixN]⟩
  obtain⟨c,⟨pc,c6⟩,ec⟩:=this;have pr:pl 2 (th "read" [.str c])=true:=pl2 ⋯ pc;refine⟨th "read" [.str c],yZ pr ∅,⟨.read c c6,λq hq=>?_⟩,λh=>xF (n:=2) ?_ (ul pr)⟩
  .rw[uw (p:=(2,2)) ⋯ ⋯ rfl] at hq
   simp at hq
  .simp![b_f_law_light,tupW,c0,c2,c3,ew',ev,cmpI,k,e1,ec]
 .refine⟨w,p,o,λh=>xF (n:=6) ?_ (ul p)⟩
  simp![b_f_law_light,tupW,c0,c2,c3,ew',ev,cmpI,k]
noncomputable def isWhole:W->Bool
 | .int _=>true
 | _=>false
def zcy{F:Fs}{n:Nat}{w:W}{h:MH}(d:dt n w=true):(step F).f_is_whole [w] h=some (.bl (isWhole w),h):=by
 refine xF (n:=1) ?_ rfl;cases w<;>simp![b_f_is_whole,xM d,tyB,isWhole]
noncomputable def zbv:W->Bool
 | .int i=>decide (0<=i)&&decide (i<=1008)
 | _=>false
def zfk{F:Fs}{n:Nat}{w:W}{h:MH}(d:dt n w=true):(step (step F)).f_is_worth [w] h=some (.bl (zbv w),h):=by
 refine xF (n:=1) ?_ rfl;have e:=λh=>zcy (F:=F) (h:=h) d
 generalize step F=G at e;cases w with
 | int i=>by_cases h0:0<=i<;>simp![b_f_is_worth,e,isWhole,zbv,zap,cmpI,leW,h0]
 | _=>simp![b_f_is_worth,e,isWhole,zbv]
noncomputable def strB(f:Str->Bool):W->Bool
 | .str x=>f x
 | _=>false
def zas{F:Fs}{x:Str}{h:MH}(hx:x.length<=1000):(step F).f_is_figures [.str x] h=some (.bl (figs x),h):=by
 refine xF (n:=1) ?_ rfl;have e:uf (iStr (eVar 0)) 1 [] (gNm 0) uO (eOp (inW false) (eVar 0) (eC (.str "0123456789"))) [some (.str x)] h=some (.fls (((signs x).filter λ_=>true).map λw=>.bl (strB (zau "0123456789") w)),h):=by
  refine zds (λ_=>true) (λw=>.bl (strB (zau "0123456789") w)) ?_ ?_ ?_ ?_ ?_
  .simp![iStr]
  .intro w _ H'; rfl
  .intro w hw _ H'
   unfold signs at hw;obtain⟨c,_,rfl⟩:=kY.mp hw;simp![zeX,strB]
  .intro w _ _; unfold low; rfl
  .unfold signs
   rw[kE,zeR];exact zG hx (by decide)
 simp![b_f_is_figures];rw[e];simp[allW,zcv,uo,getL,zi1];unfold figs signs;simp[List.all_map,Function.comp_def,strB]
def zgw(x:Str)(lo hi:Option Int):(Txt.slice x lo hi).length<=x.length:=Txt.slice_le x lo hi
def zad{F:Fs}{n:Nat}{w:W}{l:Str}{h:MH}(d:dt n w=true):(step (step F)).f_is_lettered [w,.str l] h=some (.bl (isWord l w),h):=by
 refine xF (n:=1) ?_ rfl;have e:=λ(x:Str) h (hx:x.length<=1000)=>zas (F:=F) (x:=x) (h:=h) hx
 generalize step F=G at e;cases n with
 | zero=>cases d
 | succ n=>
 cases w with
 | str x=>
  have hx:x.length<=1000:=by unfold dt at d; simp at d; exact d.2
  have hc:x.length<=cap:=zG hx (by decide);by_cases h1:1<=x.length
  .have q1:(1:Int)<=(x.length:Int):=by omega
   by_cases h2:x.length<=4
   .have q2:(x.length:Int)<=4:=by omega
    obtain⟨c,r,e1,e2⟩:=zjw (h:=h) h1 hc;have e4:slW (.str x) (some 1) none h=some (.str (zdu x),h):=by simp[slW,hc,zdu]
    have e5:=e (zdu x) h (zG (zgw x (some 1) none) hx);cases hh:zau l ⟨#[c]⟩<;>simp![b_f_is_lettered,xM d,tyB,lenW,hc,xO,addW,addI,cmpI,isWord,zdj,zgZ,e1,e2,eSl,uZ,e4,zeX,e5,h1,h2,q1,q2,hh]
   .have q2:¬(x.length:Int)<=4:=by omega
    simp![b_f_is_lettered,xM d,tyB,lenW,hc,xO,addW,addI,cmpI,isWord,zdj,q1,q2,h2]
  .have q1:¬(1:Int)<=(x.length:Int):=by omega
   simp![b_f_is_lettered,xM d,tyB,lenW,hc,xO,addW,addI,cmpI,isWord,zdj,q1,h1]
 | _=>simp![b_f_is_lettered,xM d,tyB,isWord]
def zg3{F:Fs}{n:Nat}{w:W}{h:MH}(d:dt n w=true):(step (step (step F))).f_is_name [w] h=some (.bl (isWord "xyz" w),h):=by
 refine xF (n:=1) ?_ rfl;have e:=λh=>zad (F:=F) (l:="xyz") (h:=h) d
 generalize step (step F)=G at e;simp![b_f_is_name,e]
def zaR{F:Fs}{n:Nat}{w:W}{h:MH}(d:dt n w=true):(step (step (step F))).f_is_own_shelf [w] h=some (.bl (isWord "pq" w),h):=by
 refine xF (n:=1) ?_ rfl;have e:=λh=>zad (F:=F) (l:="pq") (h:=h) d
 generalize step (step F)=G at e;simp![b_f_is_own_shelf,e]
def zbQ{F:Fs}{n:Nat}{w:W}{h:MH}(d:dt n w=true):(step (step (step F))).f_is_handed_name [w] h=some (.bl (isWord "fg" w),h):=by
 refine xF (n:=1) ?_ rfl;have e:=λh=>zad (F:=F) (l:="fg") (h:=h) d
 generalize step (step F)=G at e;simp![b_f_is_handed_name,e]
noncomputable def uc:W->Bool
 | .tup (.str x::r)=>match fm x with
  | some p=>decide ((r.length:Int)+1=p.1)
  | none=>false
 | _=>false
def zfw{F:Fs}{n:Nat}{w:W}{h:MH}(d:dt n w=true):(step F).f_has_form [w] h=some (.bl (uc w),h):=by
 refine xF (n:=1) ?_ rfl;cases w with
 | tup l=>
  cases l with
  | nil=>simp![b_f_has_form,xM d,tyB,lenW,xx,uc]
  | cons y r=>
   obtain⟨m,rfl,hl,hd⟩:=xq d;have hy:=hd y zx;have q:((r.length:Int)+1==0)=false:=by rw[jG]; omega
   cases y with
   | str x=>
    cases hf:fm x with
    | none=>simp![b_f_has_form,xM d,xM hy,tyB,lenW,xx,uc,ix0,tabIn,t_fm,hf,q]
    | some p=>
     simp![b_f_has_form,xM d,xM hy,tyB,lenW,xx,uc,ix0,tabIn,zac,t_fm,hf,q];by_cases hp:(r.length:Int)+1=p.1<;>simp[hp]
   | _=>simp![b_f_has_form,xM d,xM hy,tyB,lenW,xx,uc,ix0,q]
 | _=>simp![b_f_has_form,xM d,tyB,uc]
noncomputable def zbA:List Str:=["a","b","c","d"]
theorem zf2:zbn=.tup (yK zbA):=rfl
noncomputable def zcP(ks:List Str)(w:W):Bool:=xG zbA w||(isWord "pq" w&&xG ks w)
def zfc{F:Fs}{n:Nat}{w:W}{ks:List Str}{h:MH}(d:dt n w=true)(hn:n<=60)(hk:ks.all PyData.strOk=true):(step (step (step (step F)))).f_is_shelf [w,.tup (yK ks)] h=some (.bl (zcP ks w),h):=by
 refine xF (n:=1) ?_ rfl;have e:=λh=>zaR (F:=F) (h:=h) d
 generalize step (step (step F))=G at e;cases h1:xG zbA w<;>cases h2:isWord "pq" w<;>simp![b_f_is_shelf,zf2,uv (l:=zbA) d hn ⋯,uv d hn hk,e,zcP,h1,h2]
noncomputable def zai(rl:List W):Prop:=∀r∈rl,∃ns hs b,r=.tup [.tup ns,.tup hs,b]/\ns.length<=1000/\hs.length<=1000
noncomputable def isCall(rl:List W):W->Bool
 | .tup [_,.int i,.tup a,.tup b]=>decide (0<=i)&&decide (i<rl.length)&&(match rl[i.toNat]? with
  | some (.tup [.tup ns,.tup hs,_])=>decide (a.length=ns.length)&&decide (b.length=hs.length)
  | _=>false)
 | _=>false
def zf7{F:Fs}{n:Nat}{x y a b:W}{rl:List W}{h:MH}(d:dt n (.tup [x,y,a,b])=true)(hr:zai rl):(step (step F)).f_is_call [.tup rl,.tup [x,y,a,b]] h=some (.bl (isCall rl (.tup [x,y,a,b])),h):=by
 refine xF (n:=1) ?_ rfl;obtain⟨m,rfl,hl,hd⟩:=xq d;have dy:=hd y (by simp); have da:=hd a (by simp); have db:=hd b (by simp);have e:=λh=>zcy (F:=F) (h:=h) dy
 generalize step F=G at e;cases y with
 | int i=>
  by_cases h0:0<=i
  .by_cases h1:i<rl.length
   .obtain⟨j,rfl⟩:=qt h0
    have hj:j<rl.length:=by omega
    obtain⟨ns,hs,bb,hrr,_,_⟩:=hr rl[j] (List.getElem_mem hj);have ei:ixW (.tup rl) (.int (j:Int)) h=some (.tup [.tup ns,.tup hs,bb],h):=ixn h0 h1 (by simp[hj,hrr]);cases a with
    | tup la=>
     cases b with
     | tup lb=>
      have k1:((la.length:Int)==(ns.length:Int))=decide (la.length=ns.length):=by rw[qx]; simp; omega
      have k2:((lb.length:Int)==(hs.length:Int))=decide (lb.length=hs.length):=by rw[qx]; simp; omega
      by_cases c1:la.length=ns.length<;>by_cases c2:lb.length=hs.length<;>simp![k1,k2,b_f_is_call,e,isWhole,cmpI,leW,ltW,ix1,ix2,ix3,h0,h1,hj,lenW,xM da,xM db,tyB,ei,ix0,xx,isCall,hrr,c1,c2]
     | _=>simp![b_f_is_call,e,isWhole,cmpI,leW,ltW,ix1,ix2,ix3,h0,h1,hj,lenW,xM da,xM db,tyB,isCall]
    | _=>simp![b_f_is_call,e,isWhole,cmpI,leW,ltW,ix1,ix2,ix3,h0,h1,hj,lenW,xM da,xM db,tyB,isCall]
   .simp![b_f_is_call,e,isWhole,cmpI,leW,ltW,ix1,h0,h1,lenW,isCall]
    cases a<;>cases b<;>simp[isCall,h1]
  .simp![b_f_is_call,e,isWhole,cmpI,leW,ltW,ix1,h0,isCall]
   cases a<;>cases b<;>simp[isCall,h0]
 | _=>simp![b_f_is_call,e,isWhole,ix1,isCall]
noncomputable def r0(r:List W):W:=r.headD .non
noncomputable def outB(rl:List W)(ks:List Str)(w:W):Bool:=uc w&&(match w with
 | .tup (.str x::r)=>
  if x=="number" then zbv (r0 r)
  else if x=="name" then isWord "xyz" (r0 r)&&xG ks (r0 r)
  else if x=="do" then isWord "fg" (r0 r)&&xG ks (r0 r)
  else if x=="read" || x=="write" then zcP ks (r0 r)
  else if x=="let" then isWord "xyz" (r0 r)
  else if x=="own" then isWord "pq" (r0 r)
  else if x=="call" then isCall rl w
  else true
 | _=>false)
def ue{x:Str}{r:List W}{p:Int×Int}(h:uc (.tup (.str x::r))=true)(e:fm x=some p):(r.length:Int)+1=p.1:=by
 simp only[uc,e] at h;simpa using h
def len1{r:List W}(h:(r.length:Int)+1=2):∃a,r=[a]:=by
 match r with
 | [a]=>exact⟨a,rfl⟩
 | []=>simp at h
 | _::_::_=>simp at h; omega
def len2{r:List W}(h:(r.length:Int)+1=3):∃a b,r=[a,b]:=by
 match r with
 | [a,b]=>exact⟨a,b,rfl⟩
 | []=>simp at h
 | [_]=>simp at h
 | _::_::_::_=>simp at h; omega
def len3{r:List W}(h:(r.length:Int)+1=4):∃a b c,r=[a,b,c]:=by
 match r with
 | [a,b,c]=>exact⟨a,b,c,rfl⟩
 | []=>simp at h
 | [_]=>simp at h
 | [_,_]=>simp at h
 | _::_::_::_::_=>simp at h; omega
def zbE{F:Fs}{n:Nat}{w:W}{rl:List W}{ks:List Str}{h:MH}(d:dt n w=true)(hn:n<=60)(hk:ks.all PyData.strOk=true)(hr:zai rl) :
  (step (step (step (step (step F))))).f_is_deed_outside [.tup rl,w,.tup (yK ks)] h=some (.bl (outB rl ks w),h):=by
 refine xF (n:=1) ?_ rfl;have e0:=λh=>zfw (F:=step (step (step F))) (h:=h) d
 have e1:=λ{n:Nat} {w:W} (d:dt n w=true) h=>zfk (F:=step (step F)) (h:=h) d
 have e2:=λ{n:Nat} {w:W} (d:dt n w=true) h=>zg3 (F:=step F) (h:=h) d
 have e3:=λ{n:Nat} {w:W} (d:dt n w=true) h=>zaR (F:=step F) (h:=h) d
 have e4:=λ{n:Nat} {w:W} (d:dt n w=true) h=>zbQ (F:=step F) (h:=h) d
 have e5:=λ{n:Nat} {w:W} (d:dt n w=true) (hn:n<=60) h=>zfc (F:=F) (h:=h) d hn hk
 have e6:=λ{n:Nat} {x y a b:W} (d:dt n (.tup [x,y,a,b])=true) h=>zf7 (F:=step (step F)) (h:=h) d hr
 generalize step (step (step (step F)))=G at e0 e1 e2 e3 e4 e5 e6;cases hf:uc w with
 | false=>simp![b_f_is_deed_outside,e0,hf,outB]
 | true=>
  match w,hf,d,e0 with
  | .tup (.str x::r),hf,d,e0=>
   obtain⟨m,rfl,hl,hd⟩:=xq d;have hr0:∀a r',r=a::r'->dt m a=true:=λa r' e=>hd a (by simp[e])
   have hrw:inB h (.str x) (.tup [.str "read",.str "write"])=some (xG ["read","write"] (.str x)):=uv (l:=["read","write"]) (hd (.str x) (by simp)) ∅ ⋯;have hsi:xG ["read","write"] (.str x)=(x=="read" || x=="write"):=by
    simp only[xG,qp,List.any_nil,qw];rw[show(("read":Str)==x)=(x=="read") from vY ..,show(("write":Str)==x)=(x=="write") from vY ..]
   cases t1:(x==("number":Str)) with
   | true=>
    obtain⟨a,rfl⟩:=len1 (ue hf (p:=(2,2)) (by rw[eq_of_beq t1]; decide +kernel));simp![b_f_is_deed_outside,e0,hf,outB,ix0,ix1,xg,t1,e1 (hr0 a [] rfl),r0]
   | false=>
   cases t2:(x==("name":Str)) with
   | true=>
    obtain⟨a,rfl⟩:=len1 (ue hf (p:=(2,2)) (by rw[eq_of_beq t2]; decide +kernel));have da:=hr0 a [] rfl;cases q:isWord "xyz" a<;>simp![b_f_is_deed_outside,e0,hf,outB,ix0,ix1,xg,t1,t2,e2 da,r0,q,uv da ∅ hk]
   | false=>
   cases t3:(x==("do":Str)) with
   | true=>
    obtain⟨a,rfl⟩:=len1 (ue hf (p:=(2,2)) (by rw[eq_of_beq t3]; decide +kernel));have da:=hr0 a [] rfl;cases q:isWord "fg" a<;>simp![b_f_is_deed_outside,e0,hf,outB,ix0,ix1,xg,t1,t2,t3,e4 da,r0,q,uv da ∅ hk]
   | false=>
   cases t4:(x==("read":Str)||x=="write") with
   | true=>
    have:∃a r',r=a::r':=by
     rcases qP.mp t4 with t | t
     .obtain⟨a,rfl⟩:=len1 (ue hf (p:=(2,2)) (by rw[eq_of_beq t]; decide +kernel)); exact⟨a,[],rfl⟩
     .obtain⟨a,b,rfl⟩:=len2 (ue hf (p:=(3,2)) (by rw[eq_of_beq t]; decide +kernel)); exact⟨a,[b],rfl⟩
    obtain⟨a,r',rfl⟩:=this;have da:=hr0 a r' rfl;simp![b_f_is_deed_outside,e0,hf,outB,ix0,ix1,xg,t1,t2,t3,tupW,cap,hrw,hsi,t4,e5 da ∅,r0]
   | false=>
   cases t5:(x==("let":Str)) with
   | true=>
    obtain⟨a,b,c,rfl⟩:=len3 (ue hf (p:=(4,2)) (by rw[eq_of_beq t5]; decide +kernel));simp![b_f_is_deed_outside,e0,hf,outB,ix0,ix1,xg,t1,t2,t3,tupW,cap,hrw,hsi,t4,t5,e2 (hr0 a _ rfl),r0]
   | false=>
   cases t6:(x==("own":Str)) with
   | true=>
    obtain⟨a,b,c,rfl⟩:=len3 (ue hf (p:=(4,2)) (by rw[eq_of_beq t6]; decide +kernel));simp![b_f_is_deed_outside,e0,hf,outB,ix0,ix1,xg,t1,t2,t3,tupW,cap,hrw,hsi,t4,t5,t6,e3 (hr0 a _ rfl),r0]
   | false=>
   cases t7:(x==("call":Str)) with
   | true=>
    obtain⟨a,b,c,rfl⟩:=len3 (ue hf (p:=(4,2)) (by rw[eq_of_beq t7]; decide +kernel));simp![b_f_is_deed_outside,e0,hf,outB,ix0,ix1,xg,t1,t2,t3,tupW,cap,hrw,hsi,t4,t5,t6,t7,e6 d,r0]
   | false=>simp![b_f_is_deed_outside,e0,hf,outB,ix0,ix1,xg,t1,t2,t3,tupW,cap,hrw,hsi,t4,t5,t6,t7]
def zbG{w:W}(h:uc w=true):∃x r p,w=.tup (.str x::r)/\fm x=some p:=by
 match w,h with
 | .tup (.str x::r),h=>
  cases e:fm x with
  | none=>simp[uc,e] at h
  | some p=>exact⟨x,r,p,rfl,e⟩
def zaE{rl:List W}{ks:List Str}{w:W}(h:outB rl ks w=true):uc w=true:=by
 unfold outB at h;rw[zg] at h;exact h.1
def zh2{rl:List W}{ks:List Str}{x:Str}{r:List W}(h:outB rl ks (.tup (.str x::r))=true)(t7:(x==("call":Str))=true):∃i a b,r=[.int i,.tup a,.tup b]:=by
 have hx:=eq_of_beq t7;have hf:=zaE h;obtain⟨a,b,c,rfl⟩:=len3 (ue hf (p:=(4,2)) (by rw[hx]; decide +kernel));subst hx;have h2:isCall rl (.tup [.str "call",a,b,c])=true:=by
  unfold outB at h;rw[zg] at h;have h3:=h.2;simp only[show(("call":Str)=="number")=false by decide +kernel,show(("call":Str)=="name")=false by decide +kernel,show(("call":Str)=="do")=false by decide +kernel,show(("call":Str)=="read")=false by decide +kernel,show(("call":Str)=="write")=false by decide +kernel,show(("call":Str)=="let")=false by decide +kernel,show(("call":Str)=="own")=false by decide +kernel,wA,qw,jb,qC,jC] at h3;exact h3
 match a,b,c,h2 with
 | .int i,.tup a,.tup b,_=>exact⟨i,a,b,rfl⟩
def zfn{F:Fs}{n:Nat}{w:W}{rl:List W}{ks:List Str}{h:MH}(d:dt n w=true)(ho:outB rl ks w=true):(step F).f_parts_of [w] h=some (.tup (yQ w),h):=by
 have hf:=zaE ho;obtain⟨x,r,p,rfl,hp⟩:=zbG hf;obtain⟨m,rfl,hl,hd⟩:=xq d;obtain⟨p1,p2⟩:=zlD hp;cases t7:(x==("call":Str)) with
 | true=>
  obtain⟨i,a,b,rfl⟩:=zh2 ho t7;obtain⟨m1,rfl,la,da⟩:=xq (hd (.tup a) (by simp));obtain⟨m2,e2,lb,db⟩:=xq (hd (.tup b) (by simp));have hc:a.length+b.length<=cap:=zG (show a.length+b.length<=2000 by omega) (by decide);have e:yQ (.tup [.str x,.int i,.tup a,.tup b])=a++b:=by simp[yQ,t7]
  rw[e];refine ug (h':=h) ?_ ?_ (kJ _)
  .simp![b_f_parts_of,ix0,ix2,ix3,xg,t7,addW,addI,hc]
  .unfold low
   refine xU λw hw=>?_
   rcases zP.mp hw with hw | hw
   .exact ud (da w hw)
   .exact ud (db w hw)
 | false=>
  obtain⟨k,hk⟩:=qt (show 0<=p.2 by omega);have e:yQ (.tup (.str x::r))=(W.str x::r).drop k:=by
   simp only[yQ,t7,hp];rw[hk];cases k with
   | zero=>omega
   | succ k=>simp
  rw[e];refine ug (h':=h) ?_ ?_ (kJ _)
  .have ek:ixW (.tup [.int p.1,.int p.2]) (.int 1) h=some (.int p.2,h):=ix1
   simp![b_f_parts_of,ix0,xg,t7,eSl,uZ,zac,t_fm,hp,ek,slW];rw[hk];exact zb2
  .unfold low
   exact xU λw hw=>ud (hd w (j7 hw))
noncomputable def yX(ks:List Str):W->List (W×List Str)
 | .tup (.str x::r)=>if x=="let" || x=="own" then (match r with
   | [.str v,a,b]=>[(a,ks),(b,ks++[v])]
   | _=>[]) else (yQ (.tup (.str x::r))).map λp=>(p,ks)
 | _=>[]
noncomputable def place(p:W×List Str):W:=.tup [p.1,.tup (yK p.2)]
def ziN{rl:List W}{ks:List Str}{x:Str}{r:List W}(h:outB rl ks (.tup (.str x::r))=true)(t:(x==("let":Str)||x=="own")=true):∃v a b,r=[.str v,a,b]:=by
 have hf:=zaE h;have key:∀l:Str,∀v,isWord l v=true->∃y,v=.str y:=λl v hv=>by
  cases v with
  | str y=>exact⟨y,rfl⟩
  | _=>cases hv
 unfold outB at h;rw[zg] at h;have h3:=h.2;rcases qP.mp t with t | t
 .have hx:=eq_of_beq t
  subst hx;obtain⟨a,b,c,rfl⟩:=len3 (ue hf (p:=(4,2)) ⋯);simp only[show(("let":Str)=="number")=false by decide +kernel,show(("let":Str)=="name")=false by decide +kernel,show(("let":Str)=="do")=false by decide +kernel,show(("let":Str)=="read")=false by decide +kernel,show(("let":Str)=="write")=false by decide +kernel,wA,qw,jb,qC,jC] at h3;obtain⟨y,hy⟩:=key _ _ h3;exact⟨y,b,c,by rw[show a=W.str y from hy]⟩
 .have hx:=eq_of_beq t
  subst hx;obtain⟨a,b,c,rfl⟩:=len3 (ue hf (p:=(4,2)) ⋯);simp only[show(("own":Str)=="number")=false by decide +kernel,show(("own":Str)=="name")=false by decide +kernel,show(("own":Str)=="do")=false by decide +kernel,show(("own":Str)=="read")=false by decide +kernel,show(("own":Str)=="write")=false by decide +kernel,show(("own":Str)=="let")=false by decide +kernel,wA,qw,jb,qC,jC] at h3;obtain⟨y,hy⟩:=key _ _ h3;exact⟨y,b,c,by rw[show a=W.str y from hy]⟩
theorem zhP{m:Nat}(ks:List Str):low m (.tup (yK ks))=true:=by
 unfold low;refine xU λw hw=>?_
 unfold yK at hw;obtain⟨x,_,rfl⟩:=kY.mp hw;unfold low; rfl
def zaF{m:Nat}{p:W×List Str}(h:low m p.1=true):low m (place p)=true:=by
 unfold place low;refine xU λw hw=>?_
 simp only[zp,zm,zT] at hw;rcases hw with rfl | rfl
 .exact h
 .exact zhP p.2
def zbf{F:Fs}{n:Nat}{w:W}{rl:List W}{ks:List Str}{h:MH}(d:dt n w=true)(hn:n<=60)(ho:outB rl ks w=true)(hk:ks.length<=1000) :
  (step (step F)).f_parts_with_known [w,.tup (yK ks)] h=some (.fls ((yX ks w).map place),h):=by
 have e0:=λh=>zfn (F:=F) (h:=h) d ho
 generalize step F=G at e0;have hf:=zaE ho;obtain⟨x,r,p,rfl,hp⟩:=zbG hf;obtain⟨m,rfl,hl,hd⟩:=xq d;have hlo:inB h (.str x) (.tup [.str "let",.str "own"])=some (x=="let" || x=="own"):=by
  rw[show(W.tup [.str "let",.str "own"])=.tup (yK ["let","own"]) from rfl,uv (hd (.str x) (by simp)) ∅ ⋯];simp only[xG,qp,List.any_nil,qw];rw[show(("let":Str)==x)=(x=="let") from vY ..,show(("own":Str)==x)=(x=="own") from vY ..]
 cases t:(x==("let":Str)||x=="own") with
 | true=>
  obtain⟨v,a,b,rfl⟩:=ziN ho t;have hc:ks.length+1<=cap:=zG (show ks.length+1<=2000 by omega) (by decide);have e:yX ks (.tup [.str x,.str v,a,b])=[(a,ks),(b,ks++[v])]:=by simp[yX,t]
  rw[e];refine ug (h':=h) ?_ ?_ (kJ _)
  .have hc2:(yK ks).length+1<=cap:=by rw[xm]; exact hc
   have e9:yK (ks++[v])=yK ks++[.str v]:=by simp[yK]
   have c1:(1:Nat)<=cap:=by decide
   have c2:(2:Nat)<=cap:=by decide
   simp![b_f_parts_with_known,ix0,ix1,ix2,ix3,tupW,flsW,c1,c2,hlo,t,addW,addI,place,hc2,e9]
  .unfold low
   refine xU λw hw=>?_
   simp only[zz,jx,zp,zm,zT] at hw;rcases hw with rfl | rfl
   .exact zaF (ud (hd a (by simp)))
   .exact zaF (ud (hd b (by simp)))
 | false=>
  have e:yX ks (.tup (.str x::r))=(yQ (.tup (.str x::r))).map λp=>(p,ks):=by simp[yX,t]
  rw[e];have hpl:(yQ (.tup (.str x::r))).length<=cap:=zG (zaW d) (by decide);have ec:uf (iSeq (yJ G.f_parts_of [eVar 0])) 1 [1] (gNm 0) uO (yJ tupW [eVar 0,eVar 1]) [some (.tup (.str x::r)),some (.tup (yK ks))] h=some (.fls (((yQ (.tup (.str x::r))).filter λ_=>true).map λw=>place (w,ks)),h):=by
   refine zds (λ_=>true) (λw=>place (w,ks)) ?_ ?_ ?_ ?_ hpl
   .simp![iSeq,e0,srcOf]
   .intro w _ H'; rfl
   .intro w _ _ H'
    simp![tupW,cap,place]
   .intro w hw _
    cases m with
    | zero=>have:=hd (.str x) (by simp); cases this
    | succ m=>exact zaF (ud (zaB d w hw))
  refine ug (h':=h) ?_ ?_ (kJ _)
  .simp![b_f_parts_with_known,ix0,tupW,cap,hlo,t]
   rw[ec];rw[yE.mpr (by simp)];simp[Function.comp_def]
  .unfold low
   refine xU λw hw=>?_
   simp only[List.map_map,kY,Function.comp] at hw;obtain⟨v,hv,rfl⟩:=hw;exact zaF (ud (zaB d v hv))
noncomputable def sumO:List (Option Nat)->Option Nat
 | []=>some 0
 | some a::r=>match sumO r with
  | some b=>some (a+b)
  | none=>none
 | none::_=>none
noncomputable def nodes(rl:List W):Nat->W×List Str->Option Nat
 | 0,_=>none
 | n+1,p=>if outB rl p.2 p.1=true then (match sumO ((yX p.2 p.1).map (nodes rl n)) with
  | some t=>some (t+1)
  | none=>none) else none
noncomputable def fits(m:Nat):Option Nat->Bool
 | some t=>decide (t<=m)
 | none=>false
def zbH(a b:List (Option Nat)):sumO (a++b)=match sumO a,sumO b with
  | some x,some y=>some (x+y)
  | _,_=>none:=by
 induction a with
 | nil=>simp only[zR,sumO]; cases sumO b<;>simp
 | cons o r ih=>
  cases o with
  | none=>simp[sumO]
  | some x=>
   simp only[zY,sumO,ih];cases sumO r<;>cases sumO b<;>simp[Nat.add_assoc]
def zdP(a:List (Option Nat)):sumO a.reverse=sumO a:=by
 induction a with
 | nil=>rfl
 | cons o r ih=>
  rw[jd,zbH,ih];cases o<;>cases e:sumO r<;>simp[sumO,e,ww]
def zbh{rl:List W}{n:Nat}{w:W}{ks:List Str}(d:dt (n+1) w=true):∀p∈yX ks w,dt n p.1=true:=by
 intro p hp;unfold yX at hp;split at hp
 .rename_i x r
  obtain⟨m,e,hl,hd⟩:=xq d;cases e;split at hp
  .split at hp
   .simp only[zp,zm,zT] at hp
    rcases hp with rfl | rfl
    .exact hd _ (by simp)
    .exact hd _ (by simp)
   .simp at hp
  .obtain⟨v,hv,rfl⟩:=kY.mp hp
   exact zaB d v hv
 .simp at hp
def zgb{w:W}{ks:List Str}(hk:ks.all PyData.strOk=true){n:Nat}(d:dt n w=true):∀p∈yX ks w,p.2.all PyData.strOk=true/\p.2.length<=ks.length+1:=by
 intro p hp;unfold yX at hp;split at hp
 .rename_i x r
  obtain⟨m,rfl,hl,hd⟩:=xq d;split at hp
  .split at hp
   .rename_i v a b
    have hv:=hd (.str v) (by simp);have hs:PyData.strOk v=true:=by
     cases m with
     | zero=>cases hv
     | succ m=>unfold dt at hv; rw[zg] at hv; exact hv.1
    simp only[zp,zm,zT] at hp;rcases hp with rfl | rfl
    .exact⟨hk,by simp⟩
    .exact⟨by rw[List.all_append,hk]; simp[hs],by simp⟩
   .simp at hp
  .obtain⟨v,hv,rfl⟩:=kY.mp hp
   exact⟨hk,qM _⟩
 .simp at hp
def zcq{w:W}{ks:List Str}{n:Nat}(d:dt n w=true):(yX ks w).length<=2000:=by
 unfold yX;split
 .split
  .split<;>simp
  .rw[kE]; exact zaW d
 .simp
theorem uW{α:Type}{f g:α->Option Nat}:∀{l:List α},(∀x∈l,f x=g x)->sumO (l.map f)=sumO (l.map g)
 | [],_=>rfl
 | x::r,h=>by
  have:=uW (f:=f) (g:=g) (l:=r) λy hy=>h y (zq _ hy)
  simp only[zz];rw[h x zx];cases g x<;>simp[sumO,this]
theorem zch{rl:List W}:∀{n m:Nat} {p:W×List Str},dt n p.1=true->n<=m->nodes rl m p=nodes rl n p
 | 0,_,_,d,_=>by cases d
 | n+1,0,_,_,h=>by omega
 | n+1,m+1,p,d,h=>by
  unfold nodes;rw[uW λq hq=>zch (n:=n) (m:=m) (zbh (rl:=rl) d q hq) ∅]
noncomputable def ux(rl:List W):Nat->List (W×List Str)->Bool
 | _,[]=>true
 | 0,_::_=>false
 | m+1,p::s=>if outB rl p.2 p.1=true then ux rl m ((yX p.2 p.1).reverse++s) else false
theorem zcc{rl:List W}:∀(m:Nat) (s:List (W×List Str)),(∀p∈s,dt 60 p.1=true)->ux rl m s=fits m (sumO (s.map (nodes rl 60)))
 | m,[],_=>by cases m<;>simp[ux,sumO,fits]
 | 0,p::s,hs=>by
  have:∀t,nodes rl 60 p=some t->1<=t:=by
   intro t e;unfold nodes at e;split at e
   .split at e
    .cases e; omega
    .cases e
   .cases e
  simp only[ux,zz];cases e:nodes rl 60 p with
  | none=>simp[sumO,fits]
  | some t=>
   have:=this t e;simp only[sumO];cases sumO (s.map (nodes rl 60)) with
   | none=>simp[fits]
   | some u=>simp[fits]; omega
 | m+1,p::s,hs=>by
  have dp:=hs p zx;simp only[ux,zz];cases ho:outB rl p.2 p.1 with
  | false=>
   have:nodes rl 60 p=none:=by unfold nodes; simp[ho]
   simp[this,sumO,fits]
  | true=>
   have hq:∀q∈yX p.2 p.1,dt 59 q.1=true:=zbh (rl:=rl) dp
   have ih:=zcc (rl:=rl) m ((yX p.2 p.1).reverse++s) (λq hq'=>by
    rcases zP.mp hq' with h | h
    .exact xR (hq q (wD.mp h)) ∅
    .exact hs q (zq _ h))
   rw[zW rfl,ih,List.map_append,zbH,List.map_reverse,zdP];have e1:sumO ((yX p.2 p.1).map (nodes rl 60))=sumO ((yX p.2 p.1).map (nodes rl 59)):=uW λq h=>zch (hq q h) ∅
   have e2:nodes rl 60 p=match sumO ((yX p.2 p.1).map (nodes rl 59)) with
    | some t=>some (t+1)
    | none=>none:=by
    show nodes rl (59+1) p=_
    unfold nodes;rw[zW ho]
   rw[e1,e2];cases sumO ((yX p.2 p.1).map (nodes rl 59)) with
   | none=>simp[sumO,fits]
   | some t=>
    simp only[sumO];cases sumO (s.map (nodes rl 60)) with
    | none=>simp[fits]
    | some u=>simp[fits]; omega
structure StkOk(m:Nat)(s:List (W×List Str)):Prop where
 d:∀p∈s,dt 60 p.1=true
 k:∀p∈s,p.2.all PyData.strOk=true/\p.2.length+m<=900
 l:s.length+2000*m<=500000
def StkOk.next{m:Nat}{p:W×List Str}{s:List (W×List Str)}(h:StkOk (m+1) (p::s)):StkOk m ((yX p.2 p.1).reverse++s):=by
 have dp:=h.d p zx;obtain⟨k1,k2⟩:=h.k p zx;refine⟨λq hq=>?_,λq hq=>?_,?_⟩
 .rcases zP.mp hq with z | z
  .exact xR (zbh (rl:=[]) dp q (wD.mp z)) ∅
  .exact h.d q (zq _ z)
 .rcases zP.mp hq with z | z
  .obtain⟨h1,h2⟩:=zgb k1 dp q (wD.mp z)
   exact⟨h1,by omega⟩
  .obtain⟨h1,h2⟩:=h.k q (zq _ z)
   exact⟨h1,by omega⟩
 .have:=zcq (ks:=p.2) dp
  have hl:=h.l;rw[zM,qN];simp only[zr] at hl;omega
noncomputable def wT:MT:=tVal (eOp gtW (yJ lenW [eVar 4]) (eC (.int 0)))
noncomputable def wB(F:Fs):MS:=(sSeq (sAsg (yR popM (eVar 4) []) (gNm 5))
 (sSeq (sAug 3 augI (eC (.int 1)))
 (sSeq (sIf (tOrM (tVal (eOp gtW (eVar 3) (eC uq))) (um (tVal (yJ F.f_is_deed_outside [eVar 0,eOp ixW (eVar 5) (eC (.int 0)),eOp ixW (eVar 5) (eC (.int 1))]))))
 (sRet (eC (.bl false)))
 yN)
 (xY (yR uE (eVar 4) [yJ F.f_parts_with_known [eOp ixW (eVar 5) (eC (.int 0)),eOp ixW (eVar 5) (eC (.int 1))]])))))
noncomputable def stk(s:List (W×List Str)):List W:=(s.map place).reverse
def zbN(p:W×List Str)(s:List (W×List Str)):stk (p::s)=stk s++[place p]:=by simp[stk]
def zcM(s:List (W×List Str)):(stk s).length=s.length:=by simp[stk]
def zfK{G:Fs}{rl:List W}{h0:MH}{x1 x2:Option W}(e1:∀(p:W×List Str) h,dt 60 p.1=true->p.2.all PyData.strOk=true->G.f_is_deed_outside [.tup rl,p.1,.tup (yK p.2)] h=some (.bl (outB rl p.2 p.1),h))
  (e2:∀(p:W×List Str) h,dt 60 p.1=true->p.2.length<=1000->outB rl p.2 p.1=true->G.f_parts_with_known [p.1,.tup (yK p.2)] h=some (.fls ((yX p.2 p.1).map place),h)) :
  ∀(m:Nat) (s:List (W×List Str)) (o5:Option W) (c:Int),StkOk m s->c+m=60->∃ρ o,xr wT (wB G) (m+2) [some (.tup rl),x1,x2,some (.int c),some (.ref h0.length),o5] (h0++[.lst (stk s)])=some (if ux rl m s=true then Fl.nx ρ else .ret (.bl false),h0++[o]):=by
 intro m;induction m with
 | zero=>
  intro s o5 c hs hc;cases s with
  | nil=>
   refine⟨[some (.tup rl),x1,x2,some (.int c),some (.ref h0.length),o5],.lst [],?_⟩;have t:wT [some (.tup rl),x1,x2,some (.int c),some (.ref h0.length),o5] (h0++[.lst []])=some (false,h0++[.lst []]):=by
    simp![wT,lenW,getL,at0,cmpI]
   have es:stk []=[]:=rfl;rw[es];unfold xr;rw[t];rw[show ux rl _ []=true by unfold ux; rfl];rfl
  | cons p s=>
   have hl:(0:Int)<(s.length:Int)+1:=by omega
   have h60:(60:Int)<c+1:=by omega
   refine⟨[],.lst (stk s),?_⟩;rw[zbN];simp only[xr,ux];have t:wT [some (.tup rl),x1,x2,some (.int c),some (.ref h0.length),o5] (h0++[.lst (stk s++[place p])])=some (true,h0++[.lst (stk s++[place p])]):=by
    simp![wT,lenW,getL,at0,cmpI,zcM,hl]
   rw[t];have b:wB G [some (.tup rl),x1,x2,some (.int c),some (.ref h0.length),o5] (h0++[.lst (stk s++[place p])])=some (.ret (.bl false),h0++[.lst (stk s)]):=by
    simp![wB,yR,getL,at0,popM,set0,sAug,augI,cmpI,uq,h60]
   simp only[b];rfl
 | succ m ih=>
  intro s o5 c hs hc;cases s with
  | nil=>
   refine⟨[some (.tup rl),x1,x2,some (.int c),some (.ref h0.length),o5],.lst [],?_⟩;have t:wT [some (.tup rl),x1,x2,some (.int c),some (.ref h0.length),o5] (h0++[.lst []])=some (false,h0++[.lst []]):=by
    simp![wT,lenW,getL,at0,cmpI]
   have es:stk []=[]:=rfl;rw[es];unfold xr;rw[t];rw[show ux rl _ []=true by unfold ux; rfl];rfl
  | cons p s=>
   have dp:=hs.d p zx;obtain⟨k1,k2⟩:=hs.k p zx;have hl:(0:Int)<(s.length:Int)+1:=by omega
   have h60:¬(60:Int)<c+1:=by omega
   have t:wT [some (.tup rl),x1,x2,some (.int c),some (.ref h0.length),o5] (h0++[.lst (stk s++[place p])])=some (true,h0++[.lst (stk s++[place p])]):=by
    simp![wT,lenW,getL,at0,cmpI,zcM,hl]
   have i0:∀h,ixW (place p) (.int 0) h=some (p.1,h):=λh=>ix0
   have i1:∀h,ixW (place p) (.int 1) h=some (.tup (yK p.2),h):=λh=>ix1
   cases ho:outB rl p.2 p.1 with
   | false=>
    refine⟨[],.lst (stk s),?_⟩;rw[zbN,show m+1+2=(m+2)+1 by omega];simp only[xr,ux,ho];rw[t];have b:wB G [some (.tup rl),x1,x2,some (.int c),some (.ref h0.length),o5] (h0++[.lst (stk s++[place p])])=some (.ret (.bl false),h0++[.lst (stk s)]):=by
     simp![wB,yR,getL,at0,popM,set0,sAug,augI,cmpI,uq,h60,i0,i1,e1 p _ dp k1,ho]
    simp only[b];rfl
   | true=>
    obtain⟨ρ,o,e⟩:=ih ((yX p.2 p.1).reverse++s) (some (place p)) (c+1) hs.next ∅;refine⟨ρ,o,?_⟩;rw[zbN,show m+1+2=(m+2)+1 by omega];simp only[ux,ho,jb];unfold xr;rw[t];have es:stk ((yX p.2 p.1).reverse++s)=stk s++(yX p.2 p.1).map place:=by simp[stk]
    have hcap:(stk s).length+((yX p.2 p.1).map place).length<=cap:=by
     rw[zcM,kE];have h1:=zcq (ks:=p.2) dp;have h2:=hs.l;simp only[zr] at h2;exact zG (show s.length+(yX p.2 p.1).length<=600000 by omega) (by decide)
    have b:wB G [some (.tup rl),x1,x2,some (.int c),some (.ref h0.length),o5] (h0++[.lst (stk s++[place p])])=some (.nx [some (.tup rl),x1,x2,some (.int (c+1)),some (.ref h0.length),some (place p)],h0++[.lst (stk s++(yX p.2 p.1).map place)]):=by
     have hcap':(stk s).length+(yX p.2 p.1).length<=cap:=by simpa using hcap
     simp![wB,yR,getL,at0,popM,set0,sAug,augI,cmpI,uq,h60,i0,i1,e1 p _ dp k1,ho,e2 p _ dp ∅ ho,uE,uo,hcap']
    simp only[b];rw[<-es];exact e
def zb6{F:Fs}{w:W}{rl:List W}{ks:List Str}{h:MH}(d:dt 60 w=true)(hk:ks.all PyData.strOk=true)(hk2:ks.length<=800)(hr:zai rl) :
  (step (step (step (step (step (step F)))))).f_is_deed_where [.tup rl,w,.tup (yK ks)] h=some (.bl (fits 60 (nodes rl 60 (w,ks))),h):=by
 have e1:=λ(p:W×List Str) h (dp:dt 60 p.1=true) (hk:p.2.all PyData.strOk=true)=>zbE (F:=F) (h:=h) dp (zF _) hk hr
 have e2:=λ(p:W×List Str) h (dp:dt 60 p.1=true) (hk:p.2.length<=1000) (ho:outB rl p.2 p.1=true)=>zbf (F:=step (step (step F))) (h:=h) dp (zF _) ho hk
 generalize step (step (step (step (step F))))=G at e1 e2;obtain⟨ρ,o,e⟩:=zfK (h0:=h) (x1:=some w) (x2:=some (.tup (yK ks))) e1 e2 60 [(w,ks)] none 0 ⟨λp hp=>by simp at hp; subst hp; exact d,λp hp=>by simp at hp; subst hp; exact⟨hk,by simp; omega⟩,by simp⟩ ∅;have e3:=zc4 e;have hl:=zcc (rl:=rl) 60 [(w,ks)] (λp hp=>by simp at hp; subst hp; exact d);have hl':ux rl 60 [(w,ks)]=fits 60 (nodes rl 60 (w,ks)):=by
  rw[hl];simp only[zz,jx];cases nodes rl 60 (w,ks)<;>simp[sumO]
 rw[hl'] at e3;refine zgz (t:=[o]) (n:=1) ?_ rfl;have hb:b_f_is_deed_where G=sSeq (sAsg (eC (.int 0)) (gNm 3)) (sSeq (sAsg (yJ lstW [yJ tupW [eVar 1,eVar 2]]) (gNm 4)) (sSeq (uD wT (wB G)) (sRet (eC (.bl true))))):=rfl;simp only[step,fnM,hb];have es:stk [(w,ks)]=[.tup [w,.tup (yK ks)]]:=rfl;rw[es] at e3;cases hfit:fits 60 (nodes rl 60 (w,ks)) with
 | true=>
  rw[hfit] at e3;simp![tupW,lstW,cap,e3]
 | false=>
  rw[hfit] at e3;simp![tupW,lstW,cap,e3]
def RG.ok{rl:List W}(h:RG rl):zai rl:=by
 intro r hr;obtain⟨i,hi,rfl⟩:=yz.mp hr;obtain⟨N,hs,body,e,l1,l2,w1,w2,p,o⟩:=h.g i hi;rw[z9 hi] at e;injection e with e;exact⟨yK N,yK hs,body,e,by rw[xm]; omega,by rw[xm]; omega⟩
def zcR{F:Fs}{w:W}{rl:List W}{h:MH}(d:dt 60 w=true)(hr:zai rl):(step (step (step (step (step (step (step F))))))).f_is_deed [.tup rl,w] h=some (.bl (fits 60 (nodes rl 60 (w,[]))),h):=by
 refine xF (n:=1) ?_ rfl;have e:=zb6 (F:=F) (h:=h) (ks:=[]) d rfl (by simp) hr;generalize step (step (step (step (step (step F)))))=G at e;have e':G.f_is_deed_where [.tup rl,w,.tup []] h=some (.bl (fits 60 (nodes rl 60 (w,[]))),h):=e;have c0:0<=cap:=by decide
 simp![b_f_is_deed,tupW,c0,e']
noncomputable def ofI(i:Int):Str:=(toString i:String)
noncomputable def lfw:W->List Str
 | .str x=>[x]
 | .int i=>[ofI i]
 | _=>[]
noncomputable def wps:W->List W
 | .tup [.str x,.int i,.tup a,.tup b]=>if x=="call" then [.str "(",.str x,.int i]++([.str "["]++a++[.str "]",.str "["]++b++[.str "]"])++[.str ")"] else [.str "("]++[.str x,.int i,.tup a,.tup b]++[.str ")"]
 | .tup l=>[.str "("]++l++[.str ")"]
 | _=>[]
noncomputable def tw:Nat->W->List Str
 | n+1,.tup l=>(wps (.tup l)).flatMap (tw n)
 | 0,w=>lfw w
 | _+1,w=>lfw w
theorem zbl(n:Nat)(x:Str):tw n (.str x)=[x]:=by cases n<;>rfl
theorem zed(n:Nat)(i:Int):tw n (.int i)=[ofI i]:=by cases n<;>rfl
def zao{x:Str}{r:List W}(hc:(x==("call":Str))=false):wps (th x r)=[.str "("]++(.str x::r)++[.str ")"]:=by
 unfold wps th;split
 .rename_i x' i a b e
  injection e with e;injection e with e1 e2;injection e1 with e1;subst e1 e2;rw[kO (by rw[hc]; exact zL)]
 .rename_i l _ e
  injection e with e;subst e;rfl
 .rename_i h
  exact absurd rfl (h _)
theorem uC(i:Int)(a b:List W):wps (th "call" [.int i,.tup a,.tup b])=[.str "(",.str "call",.int i]++([.str "["]++a++[.str "]",.str "["]++b++[.str "]"])++[.str ")"]:=rfl
def uT{a b:List W}(h:MH)(l:a.length+b.length<=10000):addW (.fls a) (.fls b) h=some (.fls (a++b),h):=by
 simp only[addW,addI,getL];rw[zW (zG l (by decide))]
def zbX{a:List W}(h:MH):zaC [.tup a] h=some (.fls a,h):=by simp[zaC,uo]
def zmn{F:Fs}{rl:List W}{k:Nat}{H:List Str}{w:W}{h:MH}{n:Nat}(d:dt n w=true)(hn:n<=60)(sh:Sh rl k H w):(step F).f_words_and_parts [w] h=some (.fls (wps w),h):=by
 have c1:1<=cap:=by decide
 have c2:2<=cap:=by decide
 have c3:3<=cap:=by decide
 rcases sh.split with pn | ⟨i,a,b,ns,hs,body,rfl,hi,e⟩
 .cases pn with
  | mk x r p hc hf hp=>
   obtain⟨m,rfl,hl,hd⟩:=xq d;have lw:low h.length (.fls (wps (th x r)))=true:=by
    rw[zao hc];unfold low;refine xU λv hv=>?_
    simp only[zY,zR,zp,zP,zm,zT] at hv;rcases hv with rfl | rfl | hv | rfl
    .unfold low; rfl
    .unfold low; rfl
    .exact ud (hd v (zq _ hv))
    .unfold low; rfl
   refine ug (h':=h) ?_ lw (kJ _);rw[zao hc];simp only[zr] at hl;have a1:=uT (a:=[.str "("]) (b:=.str x::r) h (by simp; omega);have a2:=uT (a:=[.str "("]++(.str x::r)) (b:=[.str ")"]) h (by simp; omega);have l1:=zbX (a:=.str x::r) h;have j0:∀h,ixW (.tup (.str x::r)) (.int 0) h=some (.str x,h):=λh=>ix0
   have hcc:(x=("call":Str))=False:=eq_false λq=>by rw[q] at hc; simp at hc
   generalize [W.str "("]++(.str x::r)=Y at a1 a2 ⊢;generalize Y++[W.str ")"]=Y2 at a2 ⊢;generalize hz:W.str x::r=Z at a1 l1 j0;have hz2:th x r=.tup Z:=by rw[<-hz]
   rw[hz2];simp![b_f_words_and_parts,j0,xg,hcc,flsW,c1,l1,a1,a2]
 .obtain⟨m,rfl,hl,hd⟩:=xq d
  obtain⟨m1,rfl,la,da⟩:=xq (hd (.tup a) (by simp));obtain⟨m2,e2,lb,db⟩:=xq (hd (.tup b) (by simp));have lw:low h.length (.fls (wps (th "call" [.int (i:Int),.tup a,.tup b])))=true:=by
   rw[uC];unfold low;refine xU λv hv=>?_
   have q:v∈a\/v∈b\/v=.str "(" \/ v=.str ")" \/ v=.str "[" \/ v=.str "]" \/ v=.str "call" \/ v=.int i:=by
    simp only[zY,zR,zp,zP,zm,zT] at hv;grind
   rcases q with q | q | rfl | rfl | rfl | rfl | rfl | rfl
   .exact ud (da v q)
   .exact ud (db v q)
   all_goals unfold low; rfl
  refine ug (h':=h) ?_ lw (kJ _);rw[uC];have a1:=uT (a:=[.str "["]) (b:=a) h (by simp; omega);have a2:=uT (a:=[.str "["]++a) (b:=[.str "]",.str "["]) h (by simp; omega);have a3:=uT (a:=[.str "["]++a++[.str "]",.str "["]) (b:=b) h (by simp; omega);have a4:=uT (a:=[.str "["]++a++[.str "]",.str "["]++b) (b:=[.str "]"]) h (by simp; omega);have a5:=uT (a:=[.str "(",.str "call",.int (i:Int)]) (b:=[.str "["]++a++[.str "]",.str "["]++b++[.str "]"]) h (by simp; omega);have a6:=uT (a:=[.str "(",.str "call",.int (i:Int)]++([.str "["]++a++[.str "]",.str "["]++b++[.str "]"])) (b:=[.str ")"]) h (by simp; omega);have l1:=zbX (a:=a) h;have l2:=zbX (a:=b) h;generalize [W.str "(",.str "call",.int (i:Int)]++([.str "["]++a++[.str "]",.str "["]++b++[.str "]"])++[.str ")"]=Y6 at a6 ⊢;generalize [W.str "(",.str "call",.int (i:Int)]++([.str "["]++a++[.str "]",.str "["]++b++[.str "]"])=Y5 at a5 a6;generalize [W.str "["]++a++[.str "]",.str "["]++b++[.str "]"]=Y4 at a4 a5;generalize [W.str "["]++a++[.str "]",.str "["]++b=Y3 at a3 a4;generalize [W.str "["]++a++[.str "]",.str "["]=Y2 at a2 a3;generalize [W.str "["]++a=Y1 at a1 a2;have j0:∀h,ixW (th "call" [.int (i:Int),.tup a,.tup b]) (.int 0) h=some (.str "call",h):=λh=>ix0
  have j1:∀h,ixW (th "call" [.int (i:Int),.tup a,.tup b]) (.int 1) h=some (.int (i:Int),h):=λh=>ix1
  have j2:∀h,ixW (th "call" [.int (i:Int),.tup a,.tup b]) (.int 2) h=some (.tup a,h):=λh=>ix2
  have j3:∀h,ixW (th "call" [.int (i:Int),.tup a,.tup b]) (.int 3) h=some (.tup b,h):=λh=>ix3
  generalize th "call" [.int (i:Int),.tup a,.tup b]=D at j0 j1 j2 j3 ⊢;simp![b_f_words_and_parts,j0,j1,j2,j3,xg,flsW,c1,c2,c3,l1,l2,a1,a2,a3,a4,a5,a6]
theorem zlU(F:Fs):b_f_written F=sSeq (sAsg (yJ lstW []) (gNm 1)) (sSeq (sAsg (yJ lstW [eVar 0]) (gNm 2)) (sSeq (uD yT (yB F)) (sRet (uB joinM (eC (.str " ")) [eVar 1])))):=rfl
noncomputable abbrev ρy(d:W)(n:Nat)(o:Option W):En:=[some d,some (.ref n),some (.ref (n+1)),o]
noncomputable abbrev hy(h0:MH)(acc:List Str)(st:List W):MH:=h0++[.lst (yK acc),.lst st]
def at1{α:Type}(h:List α)(o p:α):(h++[o,p])[h.length+1]?=some p:=by rw[zX ∅]; simp
def at01{α:Type}(h:List α)(o p:α):(h++[o,p])[h.length]?=some o:=by simp
def set1{α:Type}(h:List α)(o p q:α):(h++[o,p]).set (h.length+1) q=h++[o,q]:=by rw[jM _ _ ∅]; simp
def zmm{α:Type}(h:List α)(o p q:α):(h++[o,p]).set h.length q=h++[q,p]:=by rw[jM _ _ ∅]; simp
def brks:List Str:=["(",")","[","]"]
inductive Wr(rl:List W)(k:Nat)(H:List Str):Nat->W->Prop
 | str (n:Nat) (x:Str) (hx:x∈vocab\/x∈brks):Wr rl k H n (.str x)
 | int (n:Nat) (i:Int) (h0:0<=i) (h1:i<=1008):Wr rl k H n (.int i)
 | deed (n:Nat) (w:W) (o:okd rl k H (n+1) w) (d:dt 60 w=true) (lw:(wps w).length<=20) (p:∀v∈wps w,Wr rl k H n v) (nb:∀l,w=.tup l->∀y,W.str y∈l->y∈vocab):Wr rl k H (n+1) w
def ze5{d:W}{h0:MH}{o:Option W}{acc:List Str}{st:List W}:yT (ρy d h0.length o) (hy h0 acc st)=some (decide (0<st.length),hy h0 acc st):=by
 have e:(0<(st.length:Int))=(0<st.length):=by simp
 simp![yT,lenW,getL,at1,cmpI,e]
def zbk{i:Int}(h0:0<=i)(h1:i<=1008):i.natAbs.log2<1920:=by
 have:i.natAbs<2 ^ 10:=by omega
 have:=Nat.log2_lt (n:=i.natAbs) (k:=10);by_cases z:i.natAbs=0
 .rw[z]; decide
 .exact yq ((Nat.log2_lt z).mpr ∅) ∅
def Goes(c:MT)(b:MS)(ρ:En)(h:MH)(ρ':En)(h':MH):Prop:=∃k,∀m,xr c b (k+m) ρ h=xr c b m ρ' h'
def Goes.refl{c:MT}{b:MS}{ρ:En}{h:MH}:Goes c b ρ h ρ h:=⟨0,λm=>by rw[Nat.zero_add]⟩
def Goes.trans{c:MT}{b:MS}{ρ ρ1 ρ2:En}{h h1 h2:MH}(a:Goes c b ρ h ρ1 h1)(d:Goes c b ρ1 h1 ρ2 h2):Goes c b ρ h ρ2 h2:=by
 obtain⟨k,e⟩:=a;obtain⟨l,f⟩:=d;exact⟨k+l,λm=>by rw[Nat.add_assoc,e,f]⟩
def Goes.one{c:MT}{b:MS}{ρ ρ':En}{h h':MH}(t:c ρ h=some (true,h))(e:b ρ h=some (.nx ρ',h')):Goes c b ρ h ρ' h':=⟨1,λm=>by
 rw[ww];show xr c b (m+1) ρ h=_
 simp only[xr,t,e]⟩
def Goes.end{c:MT}{b:MS}{ρ ρ':En}{h h':MH}(g:Goes c b ρ h ρ' h')(t:c ρ' h'=some (false,h')):uD c b ρ h=some (.nx ρ',h'):=by
 obtain⟨k,e⟩:=g;refine zc4 (n:=k+1) ?_;rw[e];simp only[xr,t]
def zeS{α:Type}(l:List α)(x:α):(l++[x])[(l++[x]).length-1]?=some x:=by simp
def ziw{G:Fs}{d w:W}{h0:MH}{o:Option W}{acc:List Str}{st:List W}:(sAsg (yR popM (eVar 2) []) (gNm 3)) (ρy d h0.length o) (hy h0 acc (st++[w]))=some (.nx (ρy d h0.length (some w)),hy h0 acc st):=by
 have e:=zeS st w;simp[sAsg,yR,eVar,bnd,xX,popM,getL,at1,e,set1,gNm]
def zfY{G:Fs}{rl:List W}{k:Nat}{H:List Str}{d:W}{h0:MH}(e1:∀(w:W) (h:MH),dt 60 w=true->Sh rl k H w->G.f_words_and_parts [w] h=some (.fls (wps w),h)) :
  ∀(n:Nat) (w:W),Wr rl k H n w->∀(acc:List Str) (st:List W) (o:Option W),acc.length+(tw n w).length<=100000->st.length+20*n<=100000->
   ∃o',Goes yT (yB G) (ρy d h0.length o) (hy h0 acc (st++[w])) (ρy d h0.length o') (hy h0 (acc++tw n w) st):=by
 intro n;have leaf:∀(v:W) (x:Str) (acc:List Str) (st:List W) (o:Option W),tyB .tuple v=false->(∀h,isW .tuple v h=some (.bl false,h))->(∀h,strW [v] h=some (.str x,h))->acc.length+1<=100000->∃o',Goes yT (yB G) (ρy d h0.length o) (hy h0 acc (st++[v])) (ρy d h0.length o') (hy h0 (acc++[x]) st):=by
  intro v x acc st o _ hi hs hl;refine⟨some v,Goes.one ?_ ?_⟩
  .rw[ze5]; simp
  .have pp:=ziw (G:=G) (d:=d) (w:=v) (h0:=h0) (o:=o) (acc:=acc) (st:=st)
   unfold yB;rw[yL pp];have c:(yK acc).length<cap:=by rw[xm]; exact qW (show acc.length<=100000 by omega) (by decide)
   have sx:yK acc++[.str x]=yK (acc++[x]):=by simp[yK]
   simp[sIf,tVal,eUn,eVar,bnd,hi,asB,xY,yR,getL,at01,xX,yJ,hs,xP,c,zmm,sx]
 induction n with
 | zero=>
  intro w hw acc st o hl hs;cases hw with
  | str _ x _=>exact leaf (.str x) x acc st o rfl (λh=>rfl) (λh=>rfl) (by simp[tw,lfw] at hl; omega)
  | int _ i g0 g1=>exact leaf (.int i) (ofI i) acc st o rfl (λh=>rfl) (λh=>by simp only[strW]; rw[zW (zbk g0 g1)]; rfl) (by simp[tw,lfw] at hl; omega)
 | succ n ih=>
  intro w hw acc st o hl hs;cases hw with
  | str _ x _=>exact leaf (.str x) x acc st o rfl (λh=>rfl) (λh=>rfl) (by simp[tw,lfw] at hl; omega)
  | int _ i g0 g1=>exact leaf (.int i) (ofI i) acc st o rfl (λh=>rfl) (λh=>by simp only[strW]; rw[zW (zbk g0 g1)]; rfl) (by simp[tw,lfw] at hl; omega)
  | deed _ _ od dd wl pp=>
   obtain⟨l,rfl⟩:=od.tup;have et:tw (n+1) (.tup l)=(wps (.tup l)).flatMap (tw n):=rfl;rw[et] at hl ⊢;have g1:Goes yT (yB G) (ρy d h0.length o) (hy h0 acc (st++[.tup l])) (ρy d h0.length (some (.tup l))) (hy h0 acc (st++(wps (.tup l)).reverse)):=by
    refine Goes.one (by rw[ze5]; simp) ?_;have pq:=ziw (G:=G) (d:=d) (w:=.tup l) (h0:=h0) (o:=o) (acc:=acc) (st:=st);unfold yB;rw[yL pq];have e2:=λh=>e1 (.tup l) h dd od.1
    have rv:∀h,revL (.fls (wps (.tup l))) h=some (.fls (wps (.tup l)).reverse,h):=λh=>by
     simp only[revL,getL,wC];rw[zW ∅]
    have c:st.length+(wps (.tup l)).reverse.length<=cap:=by rw[qN]; exact zG (show st.length+(wps (.tup l)).length<=100020 by omega) (by decide)
    have it:∀h,isW .tuple (.tup l) h=some (.bl true,h):=λh=>rfl
    generalize (wps (.tup l)).reverse=Y at rv c ⊢;generalize wps (.tup l)=Z at e2 rv;simp[sIf,tVal,eUn,eVar,bnd,it,asB,xY,yR,getL,at1,xX,yJ,e2,rv,uE,uo,c,set1]
   have g2:∀(ls:List W) (acc:List Str) (o:Option W),(∀v∈ls,Wr rl k H n v)->acc.length+(ls.flatMap (tw n)).length<=100000->ls.length<=20->∃o',Goes yT (yB G) (ρy d h0.length o) (hy h0 acc (st++ls.reverse)) (ρy d h0.length o') (hy h0 (acc++ls.flatMap (tw n)) st):=by
    intro ls;induction ls with
    | nil=>intro acc o _ _ _; exact⟨o,by simpa using Goes.refl⟩
    | cons v ls ih2=>
     intro acc o hv hl hn;simp only[je,zM,zr] at hl hn;obtain⟨o1,s1⟩:=ih v (hv v (zx ..)) acc (st++ls.reverse) o ∅ (by simp; omega);obtain⟨o2,s2⟩:=ih2 (acc++tw n v) o1 (λu hu=>hv u (zq _ hu)) (by rw[zM]; omega) ∅;refine⟨o2,?_⟩;rw[jd,<-jq,je,<-jq];exact s1.trans s2
   obtain⟨o',g3⟩:=g2 _ acc (some (.tup l)) pp hl wl;exact⟨o',g1.trans g3⟩
def zky{n:Nat}{w:W}(p:pl n w=true):(wps w).length<=20:=by
 unfold wps;split
 .rename_i x i a b
  obtain⟨m,rfl,hl,hd⟩:=ur p;obtain⟨m1,rfl,la,da⟩:=ur (hd (.tup a) (by simp));obtain⟨m2,e2,lb,db⟩:=ur (hd (.tup b) (by simp));split
  .simp; omega
  .simp
 .obtain⟨m,rfl,hl,hd⟩:=ur p
  simp; omega
 .simp
noncomputable def uy(x:Str):Bool:=decide (1<=x.length)&&decide (x.length<=6) && !(x.cps.toList.any (· == 32))
def zeO:∀x∈vocab,uy x=true:=by decide +kernel
def zlg:∀i:Fin 1009,uy (ofI ((i.val:Nat):Int))=true:=by decide +kernel
def zfU{i:Int}(h0:0<=i)(h1:i<=1008):uy (ofI i)=true:=by
 have:=zlg ⟨i.toNat,by omega⟩;simp only at this;rw[qe h0] at this;exact this
def zh5{n:Nat}{w:W}(p:pl n w=true):(yQ w).length<=8/\∀q∈yQ w,pl n q=true:=by
 cases w with
 | tup l=>
  obtain⟨m,rfl,hl,hd⟩:=ur p;unfold yQ;split
  .rename_i x r e
   cases e;split
   .split
    .rename_i y a b
     obtain⟨m1,rfl,la,da⟩:=ur (hd (.tup a) (by simp));obtain⟨m2,e2,lb,db⟩:=ur (hd (.tup b) (by simp));refine⟨by rw[zM]; omega,λq hq=>?_⟩;rcases zP.mp hq with z | z
     .exact yZ (da q z) ∅
     .exact yZ (db q z) ∅
    .exact⟨by simp,λq hq=>by simp at hq⟩
   .split
    .rename_i pp _
     refine⟨?_,λq hq=>?_⟩
     .rw[qb]; simp only[zr] at hl; omega
     .exact yZ (hd q (zq _ (j7 hq))) ∅
    .exact⟨by simp,λq hq=>by simp at hq⟩
  .exact⟨by simp,λq hq=>by simp at hq⟩
 | _=>exact⟨by simp[yQ],λq hq=>by simp[yQ] at hq⟩
def zlx:∀x∈brks,uy x=true:=by decide +kernel
theorem ziB{rl:List W}{k:Nat}{H:List Str}:∀(n m:Nat) (w:W),okd rl k H n w->pl m w=true->m<=60->Wr rl k H n w
 | 0,_,_,o,_,_=>by cases o
 | n+1,m,w,o,p,hm=>by
  refine .deed n w o (xR (ul p) hm) (zky p) (λv hv=>?_) (λl e y hy=>by
   subst e;obtain⟨m',rfl,hl,hd⟩:=ur p;have pv:=hd _ hy;cases m' with
   | zero=>cases pv
   | succ m'=>unfold pl at pv; simpa using pv)
  have hpl:=zh5 p;have deed:∀q∈yQ w,Wr rl k H n q:=λq hq=>ziB n m q (o.2 q hq) (hpl.2 q hq) hm
  have br:∀x∈brks,Wr rl k H n (.str x):=λx hx=>.str n x (.inr hx)
  rcases o.1.split with pn | ⟨i,a,b,ns,hs,body,rfl,hi,e⟩
  .cases pn with
   | mk x r pp hc hf hp=>
    obtain⟨m',rfl,hl,hd⟩:=ur p;rw[zao hc] at hv;have q:v=.str "(" \/ v=.str ")" \/ v∈(.str x::r):=by
     simp only[zY,zR,zp,zP,zm,zT] at hv ⊢;grind
    rcases q with rfl | rfl | q
    .exact br _ ⋯
    .exact br _ ⋯
    .have pv:=hd v q
     cases v with
     | str y=>
      cases m' with
      | zero=>cases pv
      | succ m'=>exact .str n y (.inl (by unfold pl at pv; simpa using pv))
     | int i=>
      cases m' with
      | zero=>cases pv
      | succ m'=>
       unfold pl at pv;rw[zg,jn,jn] at pv;exact .int n i pv.1 pv.2
     | tup l=>
      refine deed _ ?_;rw[<-hp];rcases zp.mp q with q | q
      .cases q
      .exact qm.mpr ⟨q,rfl⟩
     | _=>cases m'<;>cases pv
  .rw[uC] at hv
   have q:v∈a++b\/v=.str "(" \/ v=.str ")" \/ v=.str "[" \/ v=.str "]" \/ v=.str "call" \/ v=.int i:=by
    simp only[zY,zR,zp,zP,zm,zT] at hv ⊢;grind
   rcases q with q | rfl | rfl | rfl | rfl | rfl | rfl
   .exact deed v (by rw[uH]; exact q)
   .exact br _ ⋯
   .exact br _ ⋯
   .exact br _ ⋯
   .exact br _ ⋯
   .exact .str n _ (.inl ⋯)
   .obtain⟨m',rfl,hl,hd⟩:=ur p
    have pv:=hd (.int i) (by simp);cases m' with
    | zero=>cases pv
    | succ m'=>
     unfold pl at pv;rw[zg,jn,jn] at pv;exact .int n i pv.1 pv.2
def za5{rl:List W}{k:Nat}{H:List Str}:∀(n:Nat) (w:W),Wr rl k H n w->(∀x∈tw n w,uy x=true)/\1<=(tw n w).length/\(tw n w).length<=20 ^ n:=by
 intro n;have lf:∀{m:Nat} {x:Str},uy x=true->(∀y∈[x],uy y=true)/\1<=[x].length/\[x].length<=20 ^ m:=λhx=>⟨λy hy=>by rw[qX.mp hy]; exact hx,by simp,show 1<=20 ^ _ from Nat.pos_of_ne_zero (by simp)⟩
 have ls:∀{m:Nat} {x:Str},(x∈vocab\/x∈brks)->(∀y∈[x],uy y=true)/\1<=[x].length/\[x].length<=20 ^ m:=λhx=>lf (hx.elim (zeO _) (zlx _))
 induction n with
 | zero=>
  intro w hw;cases hw with
  | str _ x hx=>exact ls hx
  | int _ i h0 h1=>exact lf (zfU h0 h1)
 | succ n ih=>
  intro w hw;cases hw with
  | str _ x hx=>exact ls hx
  | int _ i h0 h1=>exact lf (zfU h0 h1)
  | deed _ _ od dd wl pp=>
   obtain⟨l,rfl⟩:=od.tup;have et:tw (n+1) (.tup l)=(wps (.tup l)).flatMap (tw n):=rfl;rw[et];refine⟨λx hx=>?_,?_,?_⟩
   .obtain⟨v,hv,hx⟩:=List.mem_flatMap.mp hx
    exact(ih v (pp v hv)).1 x hx
   .have:∃v,v∈wps (.tup l):=by
     unfold wps;split
     .split
      .exact⟨_,by simp; exact .inl rfl⟩
      .exact⟨_,by simp; exact .inl rfl⟩
     .exact⟨_,by simp; exact .inl rfl⟩
     .rename_i h
      exact absurd rfl (h l)
    obtain⟨v,hv⟩:=this;have h1:=(ih v (pp v hv)).2.1;obtain⟨x,hx⟩:=List.exists_mem_of_length_pos (by omega:0<(tw n v).length);exact List.length_pos_of_mem (List.mem_flatMap.mpr ⟨v,hv,hx⟩)
   .have:∀ls:List W,(∀v∈ls,(tw n v).length<=20 ^ n)->(ls.flatMap (tw n)).length<=ls.length*20 ^ n:=by
     intro ls;induction ls with
     | nil=>intro _; simp
     | cons v ls ih2=>
      intro hv;have h1:=hv v (zx ..);have h2:=ih2 λu hu=>hv u (zq _ hu)
      rw[je,zM,zr,Nat.succ_mul];omega
    have h1:=this (wps (.tup l)) λv hv=>(ih v (pp v hv)).2.2
    refine zG h1 ?_;rw[Nat.pow_succ,wj];exact Nat.mul_le_mul_left _ wl
noncomputable def jw(ws:List Str):Str:=Txt.join " " ws
def ziH(ws:List Str):jw ws=Str.join " " ws:=StrLaws.glued_eq_join _ _
def zfX:(" ":Str)=⟨#[32]⟩:=by decide +kernel
def free(x:Str):Prop:=32∉x.cps.toList
theorem zis:∀{a b c d:List Nat},32∉a->32∉c->a++32::b=c++32::d->a=c/\b=d
 | [],b,[],d,_,_,e=>by simpa using e
 | [],b,y::c,d,_,hc,e=>by simp at e; exact absurd e.1.symm (by intro z; exact hc (by simp[z]))
 | x::a,b,[],d,ha,_,e=>by simp at e; exact absurd e.1 (by intro z; exact ha (by simp[z]))
 | x::a,b,y::c,d,ha,hc,e=>by
  simp only[zY,vJ] at e;obtain⟨h1,h2⟩:=zis (a:=a) (c:=c) (λz=>ha (zq _ z)) (λz=>hc (zq _ z)) e.2;exact⟨by rw[e.1,h1],h2⟩
def zaz(x y:Str)(r:List Str):(Str.join " " (x::y::r)).cps.toList=x.cps.toList++32::(Str.join " " (y::r)).cps.toList:=by
 show(x++" " ++ Str.join " " (y::r)).cps.toList=_
 rw[zfX];show((x.cps ++ #[32])++(Str.join ⟨#[32]⟩ (y::r)).cps).toList=_
 simp
def zeI{x y:Str}(h:x.cps.toList=y.cps.toList):x=y:=Str.ext' (Array.toList_inj.mp h)
theorem zd5:∀{ws vs:List Str},ws≠[]->vs≠[]->(∀x∈ws,free x)->(∀x∈vs,free x)->(Str.join " " ws).cps.toList=(Str.join " " vs).cps.toList->ws=vs
 | [],_,h,_,_,_,_=>absurd rfl h
 | _,[],_,h,_,_,_=>absurd rfl h
 | [x],[y],_,_,_,_,e=>by rw[zeI (x:=x) (y:=y) e]
 | [x],y::z::s,_,_,hx,_,e=>by
  rw[zaz] at e;have e:x.cps.toList=y.cps.toList++32::(Str.join " " (z::s)).cps.toList:=e;exact absurd (show 32∈x.cps.toList by rw[e]; simp) (hx x (by simp))
 | x::z::r,[y],_,_,_,hy,e=>by
  rw[zaz] at e;have e:x.cps.toList++32::(Str.join " " (z::r)).cps.toList=y.cps.toList:=e;exact absurd (show 32∈y.cps.toList by rw[<-e]; simp) (hy y (by simp))
 | x::z::r,y::u::s,_,_,hx,hy,e=>by
  rw[zaz,zaz] at e;obtain⟨h1,h2⟩:=zis (hx x (by simp)) (hy y (by simp)) e;rw[zeI h1,zd5 (ws:=z::r) (vs:=u::s) (by simp) (by simp) (λv hv=>hx v (zq _ hv)) (λv hv=>hy v (zq _ hv)) h2]
def zf9{x:Str}(h:uy x=true):free x:=by
 unfold uy at h;simp only[zg,jf,List.any_eq_false] at h;intro m;exact h.2 32 m (by simp)
def zbS{x:Str}(h:uy x=true):1<=x.length/\x.length<=6:=by
 unfold uy at h;simp only[zg,jn] at h;exact h.1
def ze8{ws:List Str}(ne:ws≠[])(h:∀x∈ws,uy x=true):Txt.split (jw ws) " " = ws:=by
 refine(zd5 ne ?_ (λx hx=>zf9 (h x hx)) (λx hx=>?_) ?_).symm
 .intro e
  have:=PyProof.Rows.split_pos (jw ws) " ";rw[e] at this;simp at this
 .rw[zfX] at hx
  exact StrLaws.split_free _ 32 x hx
 .rw[StrLaws.join_split,ziH]
def zcJ{ws:List Str}(h:∀x∈ws,uy x=true)(l:ws.length<=10000):JoinOk " " ws=true/\(jw ws).length<=100000:=by
 have b1:(" ":Str).length=1:=by decide +kernel
 have h6:∀y∈ws,y.length<=6:=λy hy=>(zbS (h y hy)).2
 constructor
 .unfold JoinOk
  rw[StrLaws.joinFits h6 (by rw[b1]; omega)];rfl
 .rw[ziH]
  have h1:=StrLaws.join_length_le " " ws;have h2:=StrLaws.sumLen_le ws h6;rw[b1] at h1;omega
theorem zaZ:∀k:List Str,strsOf (k.map .str)=some k
 | []=>rfl
 | x::k=>by simp only[zz,strsOf,zaZ k]
theorem zi2{m:Nat}(x:Str):low m (.str x)=true:=by unfold low; rfl
def zcT{F:Fs}{rl:List W}{k:Nat}{H:List Str}{n:Nat}{w:W}{h:MH}(hw:Wr rl k H n w)(hn:n<=3):(step (step F)).f_written [w] h=some (.str (jw (tw n w)),h):=by
 have e1:=λ(w:W) (h:MH) (d:dt 60 w=true) (sh:Sh rl k H w)=>zmn (F:=F) (h:=h) d (zF _) sh
 generalize step F=G at e1;have tl:=za5 n w hw;have l1:(tw n w).length<=8000:=zG tl.2.2 (zG (yw ∅ hn) (by decide));obtain⟨o',g⟩:=zfY (G:=G) (d:=w) (h0:=h) e1 n w hw [] [] none (by simp; omega) (by simp; omega);have we:=g.end (by rw[ze5]; simp);rw[zR,zR] at we;have jo:=zcJ tl.1 ∅;refine ug (h':=hy h (tw n w) []) ?_ (zi2 _) (jB _ _);have c0:(0:Nat)<=cap:=by decide
 have c1:(1:Nat)<=cap:=by decide
 have jm:joinM (.str " ") [.ref h.length] (hy h (tw n w) [])=some (.str (jw (tw n w)),hy h (tw n w) []):=by
  have e2:(getL (hy h (tw n w) []) (.ref h.length)).bind strsOf=some (tw n w):=by
   have:getL (hy h (tw n w) []) (.ref h.length)=some (yK (tw n w)):=by simp only[getL,at01]
   rw[this];exact zaZ (tw n w)
  simp only[joinM,e2];rw[zW jo.1];rfl
 have row:b_f_written G [some w,none,none,none] h=some (.ret (.str (jw (tw n w))),hy h (tw n w) []):=by
  rw[zlU];rw[yL (ρ':=[some w,some (.ref h.length),none,none]) (h':=h++[.lst []]) (by simp![lstW,c0])];rw[yL (ρ':=ρy w h.length none) (h':=hy h [] [w]) (by simp![lstW,c1,yK])];rw[yL we];generalize jw (tw n w)=J at jm;generalize hy h (tw n w) []=HH at jm;simp![uB,jm]
 simp only[fnM,zr,zU,jb,zz,jx,List.replicate,zY,zR];simp only[row]
theorem zkw(F:Fs):b_f_law_words F=sSeq (sIf (um (tVal (eUn (isW .tuple) (eVar 0)))) (sRet (yJ flsW [yJ strW [eVar 0]])) yN)
 (sSeq (sAsg (yJ flsW []) (gNm 2)) (sSeq (sFor (iSeq (eVar 0)) (gNm 3) (vB F)) (sSeq (sIf (tVal (eVar 1))
 (sRet (eOp addW (eOp addW (yJ flsW [eC (.str "(")]) (eVar 2)) (yJ flsW [eC (.str ")")]))) yN)
 (sRet (eOp addW (eOp addW (yJ flsW [eC (.str "[")]) (eVar 2)) (yJ flsW [eC (.str "]")])))))):=rfl
theorem zd8{m:Nat}(l:List Str):low m (.fls (yK l))=true:=by
 unfold low;exact xU λw hw=>by
  obtain⟨x,_,rfl⟩:=kY.mp hw;unfold low; rfl
def zar{A C:List Str}(h:MH)(hl:A.length+C.length<=100000):addW (.fls (yK A)) (.fls (yK C)) h=some (.fls (yK (A++C)),h):=by
 simp only[addW,addI,getL,yK,kE];rw[zW (zG hl (by decide)),List.map_append]
def zeW{F:Fs}{v:W}{x:Str}{b:Bool}{h:MH}(hi:∀h,isW .tuple v h=some (.bl false,h))(hs:∀h,strW [v] h=some (.str x,h)):(step F).f_law_words [v,.bl b] h=some (.fls (yK [x]),h):=by
 refine ug (h':=h) ?_ (zd8 _) (kJ _);have c1:(1:Nat)<=cap:=by decide
 simp![b_f_law_words,vB,hi,hs,flsW,c1,yK]
def zdw{G:Fs}{l:List W}{b fl:Bool}{f:W->List Str}{h:MH}(hf:∀o2 o3:Option W,(eOr (eNot (eVar 1)) (eOp (eqW true) (eOp ixW (eVar 0) (eC (.int 0))) (eC (.str "call")))) [some (.tup l),some (.bl b),o2,o3] h=some (.bl fl,h))
  (e:∀p∈l,G.f_law_words [p,.bl fl] h=some (.fls (yK (f p)),h)) (hl:(l.flatMap f).length<=50000):(step G).f_law_words [.tup l,.bl b] h=some (.fls (yK ((if b then [("(":Str)] else [("[":Str)])++l.flatMap f++(if b then [(")":Str)] else [("]":Str)]))),h):=by
 refine ug (h':=h) ?_ (zd8 _) (kJ _);have c0:(0:Nat)<=cap:=by decide
 have c1:(1:Nat)<=cap:=by decide
 have loop:∀(ls:List W) (acc:List Str) (o3:Option W),(∀p∈ls,p∈l)->acc.length+(ls.flatMap f).length<=50000->∃o3',forL (gNm 3) (vB G) ls [some (.tup l),some (.bl b),some (.fls (yK acc)),o3] h=some (.nx [some (.tup l),some (.bl b),some (.fls (yK (acc++ls.flatMap f))),o3'],h):=by
  intro ls;induction ls with
  | nil=>intro acc o3 _ _; exact⟨o3,by simp[forL]⟩
  | cons p ls ih=>
   intro acc o3 hm hb;rw[je,zM] at hb;have ep:=e p (hm p (zx ..));have hq:=hf (some (.fls (yK acc))) (some p);have ad:=zar (A:=acc) (C:=f p) h ∅;obtain⟨o,ih⟩:=ih (acc++f p) (some p) (λq hq=>hm q (zq _ hq)) (by rw[zM]; omega);refine⟨o,?_⟩;have b1:vB G [some (.tup l),some (.bl b),some (.fls (yK acc)),some p] h=some (.nx [some (.tup l),some (.bl b),some (.fls (yK (acc++f p))),some p],h):=by
    unfold vB;generalize (eOr (eNot (eVar 1)) (eOp (eqW true) (eOp ixW (eVar 0) (eC (.int 0))) (eC (.str "call"))))=FE at hq ⊢;generalize yK (acc++f p)=Y at ad ⊢;generalize yK (f p)=Y1 at ep ad;generalize yK acc=Y2 at ad hq ⊢;simp[sAsg,eOp,yJ,xX,bnd,eVar,hq,ep,ad,gNm]
   unfold forL;have g:gNm 3 p [some (.tup l),some (.bl b),some (.fls (yK acc)),o3] h=some ([some (.tup l),some (.bl b),some (.fls (yK acc)),some p],h):=by simp[gNm]
   rw[g];simp only[b1];rw[ih,je,jq]
 obtain⟨o3,lp⟩:=loop l [] none (λp hp=>hp) (by simpa using hl);rw[zR] at lp;have fr:(sFor (iSeq (eVar 0)) (gNm 3) (vB G)) [some (.tup l),some (.bl b),some (.fls (yK [])),none] h=some (.nx [some (.tup l),some (.bl b),some (.fls (yK (l.flatMap f))),o3],h):=by
  unfold sFor;have it:iSeq (eVar 0) [some (.tup l),some (.bl b),some (.fls (yK [])),none] h=some (.items l,h):=by simp![iSeq,srcOf]
  rw[it];exact lp
 have it:∀h,isW .tuple (.tup l) h=some (.bl true,h):=λh=>rfl
 have row:b_f_law_words G [some (.tup l),some (.bl b),none,none] h=some (.ret (.fls (yK ((if b then [("(":Str)] else [("[":Str)])++l.flatMap f++(if b then [(")":Str)] else [("]":Str)])))),h):=by
  rw[zkw];rw[yL (ρ':=[some (.tup l),some (.bl b),none,none]) (h':=h) (by simp![it])];rw[yL (ρ':=[some (.tup l),some (.bl b),some (.fls (yK [])),none]) (h':=h) (by simp![flsW,c0,yK])];rw[yL fr];generalize l.flatMap f=ws at hl ⊢;cases b with
  | true=>
   have a1:addW (.fls [.str "("]) (.fls (yK ws)) h=some (.fls (yK ([("(":Str)]++ws)),h):=zar (A:=[("(":Str)]) (C:=ws) h (by simp; omega);have a2:addW (.fls (yK ([("(":Str)]++ws))) (.fls [.str ")"]) h=some (.fls (yK ([("(":Str)]++ws++[(")":Str)])),h):=zar (A:=[("(":Str)]++ws) (C:=[(")":Str)]) h (by simp; omega);simp only[jb];generalize yK ([("(":Str)]++ws++[(")":Str)])=Y2 at a2 ⊢;generalize yK ([("(":Str)]++ws)=Y1 at a1 a2;generalize yK ws=Y at a1;simp![flsW,c1,a1,a2]
  | false=>
   have a1:addW (.fls [.str "["]) (.fls (yK ws)) h=some (.fls (yK ([("[":Str)]++ws)),h):=zar (A:=[("[":Str)]) (C:=ws) h (by simp; omega);have a2:addW (.fls (yK ([("[":Str)]++ws))) (.fls [.str "]"]) h=some (.fls (yK ([("[":Str)]++ws++[("]":Str)])),h):=zar (A:=[("[":Str)]++ws) (C:=[("]":Str)]) h (by simp; omega);simp only[jC,qC];generalize yK ([("[":Str)]++ws++[("]":Str)])=Y2 at a2 ⊢;generalize yK ([("[":Str)]++ws)=Y1 at a1 a2;generalize yK ws=Y at a1;simp![flsW,c1,a1,a2]
 simp only[fnM,zr,zU,jb,zz,jx,List.replicate,zY,zR];simp only[row]
def zfm{rl:List W}{k:Nat}{H:List Str}{n:Nat}{w:W}(hw:Wr rl k H n w)(hn:n<=3):(tw n w).length<=8000:=zG (za5 n w hw).2.2 (zG (yw ∅ hn) (by decide))
def s_lw{rl:List W}{k:Nat}{H:List Str}(F:Fs)(h:MH):∀(n:Nat),n<=3->∀(w:W),Wr rl k H n w->∀m,2*n+1<=m->∀b,(tyB .tuple w=true->b=true)->(up m F).f_law_words [w,.bl b] h=some (.fls (yK (tw n w)),h):=by
 have leafS:∀(x:Str) (m:Nat) (b:Bool),1<=m->(up m F).f_law_words [.str x,.bl b] h=some (.fls (yK [x]),h):=λx m b hm=>by
  obtain⟨m',rfl⟩:∃m',m=m'+1:=⟨m-1,by omega⟩;exact zeW (F:=up m' F) (λh=>rfl) (λh=>rfl)
 have leafI:∀(i:Int) (m:Nat) (b:Bool),0<=i->i<=1008->1<=m->(up m F).f_law_words [.int i,.bl b] h=some (.fls (yK [ofI i]),h):=λi m b h0 h1 hm=>by
  obtain⟨m',rfl⟩:∃m',m=m'+1:=⟨m-1,by omega⟩;exact zeW (F:=up m' F) (λh=>rfl) (λh=>by simp only[strW]; rw[zW (zbk h0 h1)]; rfl)
 intro n;induction n with
 | zero=>
  intro _ w hw m hm b _;cases hw with
  | str _ x hx=>exact leafS x m b ∅
  | int _ i h0 h1=>exact leafI i m b h0 h1 ∅
 | succ n ih=>
  intro hn w hw m hm b hb;have hw0:=hw;cases hw with
  | str _ x hx=>exact leafS x m b ∅
  | int _ i h0 h1=>exact leafI i m b h0 h1 ∅
  | deed _ _ od dd wl pp=>
   have tl:=zfm hw0 hn;obtain⟨m',rfl⟩:∃m',m=m'+1:=⟨m-1,by omega⟩;rcases od.1.split with pn | ⟨i,a,c,ns,hs,body,rfl,hi,e⟩
   .cases pn with
    | mk x r p hc hf hp=>
     have hb:b=true:=hb rfl;subst hb;have et:tw (n+1) (th x r)=[("(":Str)]++(.str x::r).flatMap (tw n)++[(")":Str)]:=by
      show(wps (th x r)).flatMap (tw n)=_
      rw[zao hc,jT,jT];simp only[je,qF,zbl,jJ]
     rw[et] at tl ⊢;have hcc:(x=("call":Str))=False:=eq_false λq=>by rw[q] at hc; simp at hc
     exact zdw (G:=up m' F) (l:=.str x::r) (b:=true) (fl:=true) (f:=tw n) (λo2 o3=>by
      have j0:ixW (.tup (.str x::r)) (.int 0) h=some (.str x,h):=ix0;generalize W.str x::r=Z at j0
      simp![j0,xg,hcc]) (λq hq=>ih ∅ q (pp q (by rw[zao hc]; simp only[zP]; exact .inl (.inr hq))) m' ∅ true λ_=>rfl) (by simp only[zM,zr,zU] at tl; omega)
   .have hb:b=true:=hb rfl
    subst hb;obtain⟨m2,rfl⟩:∃m2,m'=m2+1:=⟨m'-1,by omega⟩;have et:tw (n+1) (th "call" [.int (i:Int),.tup a,.tup c])=[("(":Str)]++([W.str "call",.int (i:Int),.tup a,.tup c]).flatMap (λv=>match v with | .tup l=>[("[":Str)]++l.flatMap (tw n)++[("]":Str)] | v=>lfw v)++[(")":Str)]:=by
     show(wps (th "call" [.int (i:Int),.tup a,.tup c])).flatMap (tw n)=_
     rw[uC];simp only[jT,je,qF,zbl,zed,jJ,lfw,jq,zY,zR]
    rw[et] at tl ⊢;have inner:∀l:List W,(∀q∈l,q∈a++c)->(l.flatMap (tw n)).length<=50000->(up (m2+1) F).f_law_words [.tup l,.bl false] h=some (.fls (yK ([("[":Str)]++l.flatMap (tw n)++[("]":Str)])),h):=λl hl hb=>by
     have:=zdw (G:=up m2 F) (l:=l) (b:=false) (fl:=true) (f:=tw n) (h:=h) (λo2 o3=>by simp![]) (λq hq=>ih ∅ q (pp q (by
      have:=hl q hq;rw[uC];simp only[zP,zp,zm,zT] at this ⊢
      grind)) m2 ∅ true λ_=>rfl) hb
     simp only[jC,qC] at this;exact this
    have len2:(a.flatMap (tw n)).length<=8000/\(c.flatMap (tw n)).length<=8000:=by
     simp only[je,qF,zM,zr,zU] at tl;omega
    refine zdw (G:=up (m2+1) F) (l:=[.str "call",.int (i:Int),.tup a,.tup c]) (b:=true) (fl:=false) (λo2 o3=>by
     have j0:ixW (.tup [.str "call",.int (i:Int),.tup a,.tup c]) (.int 0) h=some (.str "call",h):=ix0;generalize [W.str "call",.int (i:Int),.tup a,.tup c]=Z at j0
     simp![j0,xg]) (λq hq=>?_) (by simp only[zM,zr,zU] at tl; omega)
    simp only[zp,zm,zT] at hq;rcases hq with rfl | rfl | rfl | rfl
    .exact leafS _ _ _ ∅
    .have:Wr rl k H n (.int (i:Int)):=pp _ (by rw[uC]; simp)
     cases this with
     | int _ _ h0 h1=>exact leafI _ _ _ h0 h1 ∅
     | deed _ _ od=>obtain⟨l,z⟩:=od.tup; cases z
    .exact inner a (λq hq=>qH _ hq) ∅
    .exact inner c (λq hq=>kh _ hq) ∅
def zjx:∀x∈vocab,figs x=false:=by decide +kernel
def digs:∀c∈[48,49,50,51,52,53,54,55,56,57],zau "0123456789" ⟨#[c]⟩=true:=by decide +kernel
def zlS:∀i:Fin 1009,((ofI ((i.val:Nat):Int)).cps.toList.all (λc=>[48,49,50,51,52,53,54,55,56,57].contains c)&&decide ((ofI ((i.val:Nat):Int)).length<=4))=true:=by decide +kernel
def zio{i:Int}(h0:0<=i)(h1:i<=1008):figs (ofI i)=true/\1<=(ofI i).length/\(ofI i).length<=4:=by
 have:=zlS ⟨i.toNat,by omega⟩;simp only at this;rw[qe h0,zg,jn] at this;refine⟨?_,(zbS (zfU h0 h1)).1,this.2⟩;unfold figs;rw[zV] at this ⊢;exactλc hc=>digs c (by simpa using this.1 c hc)
def cap6{n:Nat}(h:n<=1000):n<=cap:=zG h (by decide)
def zjS{F:Fs}{x:Str}{h:MH}(hx:x∈vocab):(step (step F)).f_meant [.str x] h=some (.str x,h):=by
 have wl:=zbS (zeO x hx);refine xF (n:=1) ?_ (by unfold dt; exact zep x hx);have e:=λh=>zas (F:=F) (x:=x) (h:=h) ∅
 generalize step F=G at e;rw[zjx x hx] at e;have q1:(1:Int)<=(x.length:Int):=by omega
 have hc:x.length<=cap:=cap6 ∅;by_cases q2:(x.length:Int)<=4<;>simp![b_f_meant,lenW,hc,xZ,cmpI,leW,q1,q2,e]
def ziL{F:Fs}{i:Int}{h:MH}(h0:0<=i)(h1:i<=1008):(step (step F)).f_meant [.str (ofI i)] h=some (.int i,h):=by
 obtain⟨f1,l1,l2⟩:=zio h0 h1;refine xF (n:=1) ?_ rfl;have e:=λh=>zas (F:=F) (x:=ofI i) (h:=h) ∅
 have hr:intText? (ofI i)=some i:=PySem.W.KIN.num_reads h0 ∅;generalize step F=G at e;rw[f1] at e;generalize ofI i=x at e hr l1 l2;have q1:(1:Int)<=(x.length:Int):=by omega
 have q2:(x.length:Int)<=4:=by omega
 have hc:x.length<=cap:=cap6 ∅;have hi:∀h,intW [.str x] h=some (.int i,h):=λh=>by
  simp only[intW,hr];rw[zW ∅]
 simp![b_f_meant,lenW,hc,xZ,cmpI,leW,q1,q2,e,hi]
structure Stk(h0 H:MH)(R:Nat)(st:List (Nat×List W)):Prop where
 pre:h0<+:H
 lo:h0.length<=R
 out:H[R]?=some (.lst ((st.map λp=>W.ref p.1).reverse))
 row:∀p∈st,H[p.1]?=some (.lst p.2)/\h0.length<=p.1/\p.1≠R
 nd:(st.map (·.1)).Nodup
def zcG{α:Type}{a b:List α}{k:Nat}{o:α}(p:a<+:b)(h:a.length<=k):a<+:b.set k o:=by
 obtain⟨t,rfl⟩:=p;rw[jM _ _ h];exact jB _ _
def zbw{α:Type}{l:List α}{k:Nat}{x:α}(h:l[k]?=some x):k<l.length:=(zJ.mp h).1
def Stk.push{h0 H:MH}{R:Nat}{st:List (Nat×List W)}(s:Stk h0 H R st):Stk h0 ((H++[MO.lst []]).set R (MO.lst ((st.map λp=>W.ref p.1).reverse++[.ref H.length]))) R ((H.length,[])::st):=by
 have lR:=zbw s.out;refine⟨zcG (s.pre.trans (jB _ _)) s.lo,s.lo,?_,?_,?_⟩
 .rw[ji (by rw[zM]; omega),zz,jd]
 .intro p hp
  rcases zp.mp hp with rfl | hp
  .refine⟨?_,s.pre.length_le,by simp; omega⟩
   rw[kI (by simp; omega)];simp
  .obtain⟨h1,h2,h3⟩:=s.row p hp
   refine⟨?_,h2,h3⟩;rw[kI (kj h3),zQ (zbw h1),h1]
 .rw[zz,jj]
  refine⟨λhm=>?_,s.nd⟩;obtain⟨p,hp,e⟩:=kY.mp hm;have:=zbw (s.row p hp).1;simp only at e;omega
def Stk.top{h0 H:MH}{R k:Nat}{row:List W}{st:List (Nat×List W)}(s:Stk h0 H R ((k,row)::st))(r2:List W):Stk h0 (H.set k (.lst r2)) R ((k,r2)::st):=by
 obtain⟨h1,h2,h3⟩:=s.row _ (zx ..);have nd:=s.nd;rw[zz,jj] at nd;refine⟨zcG s.pre h2,s.lo,?_,?_,by rw[zz,jj]; exact nd⟩
 .rw[kI h3,s.out]; rfl
 .intro p hp
  rcases zp.mp hp with rfl | hp
  .exact⟨ji (zbw h1),h2,h3⟩
  .obtain⟨g1,g2,g3⟩:=s.row p (zq _ hp)
   refine⟨?_,g2,g3⟩;rw[kI (λe=>nd.1 (kY.mpr ⟨p,hp,e.symm⟩)),g1]
def Stk.pop{h0 H:MH}{R:Nat}{p:Nat×List W}{st:List (Nat×List W)}(s:Stk h0 H R (p::st)):Stk h0 (H.set R (.lst ((st.map λp=>W.ref p.1).reverse))) R st:=by
 have nd:=s.nd;rw[zz,jj] at nd;refine⟨zcG s.pre s.lo,s.lo,ji (zbw s.out),?_,nd.2⟩;intro p hp;obtain⟨g1,g2,g3⟩:=s.row p (zq _ hp);exact⟨by rw[kI (kj g3),g1],g2,g3⟩
theorem zkU(F:Fs):b_f_thing_of F=sSeq (sAsg (yJ lstW [yJ lstW []]) (gNm 1)) (sSeq (sFor (iSeq (eVar 0)) (gNm 2) (zB F)) (zE F)):=rfl
noncomputable abbrev ρz(D:W)(R:Nat)(o2 o3:Option W):En:=[some D,some (.ref R),o2,o3]
noncomputable def opn:List Str:=["(","["]
noncomputable def cls:List Str:=[")","]"]
def in_o{x:Str}{h:MH}(d:dt 1 (.str x)=true):inB h (.str x) (.tup [.str "(",.str "["])=some (xG opn (.str x)):=uv (l:=opn) d ∅ ⋯
def in_c{x:Str}{h:MH}(d:dt 1 (.str x)=true):inB h (.str x) (.tup [.str ")",.str "]"])=some (xG cls (.str x)):=uv (l:=cls) d ∅ ⋯
def zlJ:∀x∈opn,(dt 1 (.str x)&&xG opn (.str x))=true:=by decide +kernel
def zka:∀x∈cls,(dt 1 (.str x) && !xG opn (.str x)&&xG cls (.str x))=true:=by decide +kernel
noncomputable def wdz(x:Str):Bool:=dt 1 (.str x) && !xG opn (.str x) && !xG cls (.str x)
def ziK:∀x∈vocab,wdz x=true:=by decide +kernel
def zk9:∀i:Fin 1009,(PyData.strOk (ofI ((i.val:Nat):Int)) && !opn.any (· == ofI ((i.val:Nat):Int)) && !cls.any (· == ofI ((i.val:Nat):Int)))=true:=by decide +kernel
theorem zl7{i:Int}(g0:0<=i)(g1:i<=1008):wdz (ofI i)=true:=by
 have:=zk9 ⟨i.toNat,by omega⟩;simp only at this;rw[qe g0] at this;simp only[zg,jf] at this;obtain⟨⟨a,b⟩,c⟩:=this;have l:=zio g0 g1;unfold wdz;simp only[zg,jf];refine⟨⟨?_,b⟩,c⟩;unfold dt;rw[a,jN ∅];rfl
section
variable{h0:MH}{R:Nat}{D:W}
def c2:(2:Nat)<=cap:=by decide
def c0':(0:Nat)<=cap:=by decide
def z_open{G:Fs}{H:MH}{x:Str}{o3:Option W}{st:List (Nat×List W)}(hx:x∈opn)(s:Stk h0 H R st)(hl:st.length<=1000):∃H',zB G (ρz D R (some (.str x)) o3) H=some (.nx (ρz D R (some (.str x)) o3),H')/\Stk h0 H' R ((H.length,[])::st):=by
 refine⟨_,?_,s.push⟩;have h1:=zlJ x hx;rw[zg] at h1;have e1:=λh=>in_o (h:=h) h1.1
 have ho:=s.out;have ho2:(H++[MO.lst []])[R]?=_:=(zQ (zbw s.out)).trans s.out;have lc:((st.map λp=>W.ref p.1).reverse).length<cap:=by simp only[qN,kE]; exact qW hl (by decide)
 generalize (st.map λp=>W.ref p.1).reverse=L at ho ho2 lc ⊢;unfold zB;simp[sIf,tVal,eOp,eVar,bnd,yJ,xX,eC,tupW,c2,inW,e1,h1.2,asB,xY,yR,getL,ho,lstW,c0',xP,ho2,lc]
def ziy{α:Type}(l:List α)(x:α):L2.atI (l++[x]) (-1)=some x:=by
 exact zhy _ _
def zlP{G:Fs}{H:MH}{x:Str}{v:W}{o3:Option W}{k:Nat}{row:List W}{st:List (Nat×List W)}(hx:wdz x=true)(em:∀h,G.f_meant [.str x] h=some (v,h))(s:Stk h0 H R ((k,row)::st))(hl:row.length<=1000):∃H',zB G (ρz D R (some (.str x)) o3) H=some (.nx (ρz D R (some (.str x)) o3),H')/\Stk h0 H' R ((k,row++[v])::st):=by
 refine⟨_,?_,s.top (row++[v])⟩;unfold wdz at hx;simp only[zg,jf] at hx;have e1:=λh=>in_o (h:=h) hx.1.1
 have e2:=λh=>in_c (h:=h) hx.1.1
 have ho:=s.out;rw[zz,jd] at ho;have lk:=ziy (st.map λp=>W.ref p.1).reverse (W.ref k);obtain⟨r1,-,-⟩:=s.row _ (zx ..);simp only at r1;have lc:row.length<cap:=qW hl (by decide);generalize (st.map λp=>W.ref p.1).reverse++[W.ref k]=L at ho lk;unfold zB;simp[sIf,tVal,eOp,eVar,bnd,yJ,xX,eC,tupW,c2,inW,e1,e2,hx.1.2,hx.2,asB,xY,yR,getL,ho,xP,em,eUn,negW,ixW,lk,r1,lc]
def zi8{G:Fs}{H:MH}{x:Str}{o3:Option W}{k k2:Nat}{row row2:List W}{st:List (Nat×List W)}(hx:x∈cls)(s:Stk h0 H R ((k,row)::(k2,row2)::st))(hl:row2.length<=1000)(hs:st.length<=1000):∃H',zB G (ρz D R (some (.str x)) o3) H=some (.nx (ρz D R (some (.str x)) (some (.ref k))),H')/\Stk h0 H' R ((k2,row2++[.tup row])::st):=by
 have s2:=s.pop;refine⟨_,?_,s2.top (row2++[.tup row])⟩;have h1:=zka x hx;simp only[zg,jf] at h1;have e1:=λh=>in_o (h:=h) h1.1.1
 have e2:=λh=>in_c (h:=h) h1.1.1
 have ho:=s.out;rw[zz,jd] at ho;have ll:(((k2,row2)::st).map λp=>W.ref p.1).reverse.length=st.length+1:=by simp
 have lk:=zeS (((k2,row2)::st).map λp=>W.ref p.1).reverse (W.ref k);have ld:((((k2,row2)::st).map λp=>W.ref p.1).reverse++[W.ref k]).dropLast=_:=List.dropLast_concat;have lg:(1:Int)<(((((k2,row2)::st).map λp=>W.ref p.1).reverse++[W.ref k]).length:Int):=by rw[zM,ll]; simp; omega
 have ho2:=s2.out;have lk2:L2.atI ((((k2,row2)::st).map λp=>W.ref p.1).reverse) (-1)=some (.ref k2):=by rw[zz,jd]; exact ziy _ _
 obtain⟨r1,-,n1⟩:=s.row _ (zx ..);obtain⟨r2,-,n2⟩:=s2.row _ (zx ..);simp only at r1 r2 n1;have lc:row2.length<cap:=qW hl (by decide);generalize (((k2,row2)::st).map λp=>W.ref p.1).reverse++[W.ref k]=L at ho lk ld lg;generalize (((k2,row2)::st).map λp=>W.ref p.1).reverse=L2 at ho2 lk2 r2 ld ⊢;have r3:(H.set R (.lst L2))[k]?=some (.lst row):=by rw[kI (kj n1),r1]
 have pp:(sAsg (yR popM (eVar 1) []) (gNm 3)) (ρz D R (some (.str x)) o3) H=some (.nx (ρz D R (some (.str x)) (some (.ref k))),H.set R (.lst L2)):=by
  simp[sAsg,yR,eVar,bnd,xX,popM,getL,ho,lk,gNm,ld]
 generalize H.set R (.lst L2)=H2 at ho2 r2 r3 pp ⊢;have zc:zC G (ρz D R (some (.str x)) o3) H=some (.nx (ρz D R (some (.str x)) (some (.ref k))),H2.set k2 (.lst (row2++[.tup row]))):=by
  unfold zC;rw[yL pp];simp[xY,yR,eOp,eVar,bnd,eUn,eC,negW,ixW,getL,ho2,lk2,r2,xX,yJ,zab,r3,xP,lc]
 unfold zB;simp[sIf,tVal,eOp,eVar,bnd,yJ,xX,eC,tupW,c2,inW,e1,e2,h1.1.2,h1.2,asB,lenW,getL,ho,cmpI,gtW,lg,zc]
end
def Pz(G:Fs)(D:W)(h0:MH)(R:Nat)(ws:List Str)(st st':List (Nat×List W)):Prop:=∀(H:MH) (o2 o3:Option W),Stk h0 H R st->∃(H':MH) (o2' o3':Option W),Stk h0 H' R st'/\∀rest,forL (gNm 2) (zB G) (yK ws++rest) (ρz D R o2 o3) H=forL (gNm 2) (zB G) rest (ρz D R o2' o3') H'
section
variable{G:Fs}{D:W}{h0:MH}{R:Nat}
def Pz.nil{st:List (Nat×List W)}:Pz G D h0 R [] st st:=λH o2 o3 s=>⟨H,o2,o3,s,λrest=>rfl⟩
def Pz.trans{a b:List Str}{s1 s2 s3:List (Nat×List W)}(p:Pz G D h0 R a s1 s2)(q:Pz G D h0 R b s2 s3):Pz G D h0 R (a++b) s1 s3:=λH o2 o3 s=>by
 obtain⟨H1,p2,p3,t1,e1⟩:=p H o2 o3 s;obtain⟨H2,q2,q3,t2,e2⟩:=q H1 p2 p3 t1;refine⟨H2,q2,q3,t2,λrest=>?_⟩;have:yK (a++b)++rest=yK a++(yK b++rest):=by simp[yK]
 rw[this,e1,e2]
def f_step{ρ ρ':En}{w:W}{rest:List W}{H H':MH}{o2 o3:Option W}(e:zB G (ρz D R (some w) o3) H=some (.nx ρ',H')):forL (gNm 2) (zB G) (w::rest) (ρz D R o2 o3) H=forL (gNm 2) (zB G) rest ρ' H':=by
 have g:gNm 2 w (ρz D R o2 o3) H=some (ρz D R (some w) o3,H):=by simp[gNm]
 conv=>lhs; rw[forL]
 simp only[g,e]
def Pz.word{x:Str}{v:W}{k:Nat}{row:List W}{st:List (Nat×List W)}(hx:wdz x=true)(em:∀h,G.f_meant [.str x] h=some (v,h))(hl:row.length<=1000):Pz G D h0 R [x] ((k,row)::st) ((k,row++[v])::st):=λH o2 o3 s=>by
 obtain⟨H',e,s'⟩:=zlP (D:=D) (o3:=o3) hx em s hl;exact⟨H',_,_,s',λrest=>f_step (ρ:=[]) e⟩
def Pz.brack{x y:Str}{ws:List Str}{ls:List W}{k2:Nat}{row2:List W}{st:List (Nat×List W)}(hx:x∈opn)(hy:y∈cls)(hl:row2.length<=1000)(hs:st.length<=500)(p:∀k,Pz G D h0 R ws ((k,[])::(k2,row2)::st) ((k,ls)::(k2,row2)::st)):Pz G D h0 R ([x]++ws++[y]) ((k2,row2)::st) ((k2,row2++[.tup ls])::st):=λH o2 o3 s=>by
 obtain⟨H1,e1,s1⟩:=z_open (G:=G) (D:=D) (o3:=o3) hx s (by simp; omega);obtain⟨H2,p2,p3,s2,e2⟩:=p _ H1 (some (.str x)) o3 s1;obtain⟨H3,e3,s3⟩:=zi8 (G:=G) (D:=D) (o3:=p3) hy s2 hl ∅;refine⟨H3,some (.str y),some (.ref H.length),s3,λrest=>?_⟩;have:yK ([x]++ws++[y])++rest=W.str x::(yK ws++(W.str y::rest)):=by simp[yK]
 rw[this,f_step (ρ:=[]) e1,e2,f_step (ρ:=[]) e3]
def Pz.list{f:W->List Str}{k:Nat}{st:List (Nat×List W)}:∀(ls row:List W),(∀v∈ls,∀row,row.length<=100->Pz G D h0 R (f v) ((k,row)::st) ((k,row++[v])::st))->row.length+ls.length<=100->Pz G D h0 R (ls.flatMap f) ((k,row)::st) ((k,row++ls)::st):=by
 intro ls;induction ls with
 | nil=>intro row _ _; rw[jJ]; exact Pz.nil
 | cons v ls ih=>
  intro row hv hl;rw[zr] at hl;rw[je];refine Pz.trans (hv v (zx ..) row ∅) ?_;have:=ih (row++[v]) (λu hu=>hv u (zq _ hu)) (by rw[zM,yr]; omega);rw[jq] at this;exact this
end
def parse{F:Fs}{D:W}{h0:MH}{R:Nat}{rl:List W}{kk:Nat}{HH:List Str}:∀(n:Nat) (w:W),Wr rl kk HH n w->(∀y,w=.str y->y∈vocab)->∀(k:Nat) (row:List W) (st:List (Nat×List W)),row.length<=100->st.length+2*n<=50->Pz (step (step F)) D h0 R (tw n w) ((k,row)::st) ((k,row++[w])::st):=by
 intro n;have lS:∀(n:Nat) (x:Str),x∈vocab->∀(k:Nat) (row:List W) (st:List (Nat×List W)),row.length<=100->Pz (step (step F)) D h0 R (tw n (.str x)) ((k,row)::st) ((k,row++[.str x])::st):=λn x hx k row st hl=>by
  rw[zbl];exact Pz.word (ziK x hx) (λh=>zjS hx) ∅
 have lI:∀(n:Nat) (i:Int),0<=i->i<=1008->∀(k:Nat) (row:List W) (st:List (Nat×List W)),row.length<=100->Pz (step (step F)) D h0 R (tw n (.int i)) ((k,row)::st) ((k,row++[.int i])::st):=λn i g0 g1 k row st hl=>by
  rw[zed];exact Pz.word (zl7 g0 g1) (λh=>ziL g0 g1) ∅
 induction n with
 | zero=>
  intro w hw hv k row st hl hs;cases hw with
  | str _ x hx=>exact lS 0 x (hv x rfl) k row st hl
  | int _ i g0 g1=>exact lI 0 i g0 g1 k row st hl
 | succ n ih=>
  intro w hw hv k row st hl hs;cases hw with
  | str _ x hx=>exact lS _ x (hv x rfl) k row st hl
  | int _ i g0 g1=>exact lI _ i g0 g1 k row st hl
  | deed _ _ od dd wl pp nb=>
   have o1:("(":Str)∈opn:=by decide +kernel
   have o2:(")":Str)∈cls:=by decide +kernel
   have o3:("[":Str)∈opn:=by decide +kernel
   have o4:("]":Str)∈cls:=by decide +kernel
   rcases od.1.split with pn | ⟨i,a,c,ns,hs',body,rfl,hi,e⟩
   .cases pn with
    | mk x r p hc hf hp=>
     have et:tw (n+1) (th x r)=[("(":Str)]++(.str x::r).flatMap (tw n)++[(")":Str)]:=by
      show(wps (th x r)).flatMap (tw n)=_
      rw[zao hc,jT,jT];simp only[je,qF,zbl,jJ]
     rw[et];rw[zao hc] at wl pp;simp only[zM,zr,zU] at wl;refine Pz.brack o1 o2 ∅ ∅ λk'=>?_
     exact Pz.list (.str x::r) [] (λv hv row hl=>ih v (pp v (by simp only[zP]; exact .inl (.inr hv))) (λy hy=>nb _ rfl y (hy▸hv)) k' row _ hl (by rw[zr]; omega)) (by simp; omega)
   .have et:tw (n+1) (th "call" [.int (i:Int),.tup a,.tup c])=[("(":Str)]++(tw n (.str "call")++tw n (.int (i:Int))++([("[":Str)]++a.flatMap (tw n)++[("]":Str)])++([("[":Str)]++c.flatMap (tw n)++[("]":Str)]))++[(")":Str)]:=by
     show(wps (th "call" [.int (i:Int),.tup a,.tup c])).flatMap (tw n)=_
     rw[uC];simp only[jT,je,qF,zbl,zed,jJ,jq,zY,zR]
    rw[et];rw[uC] at wl pp;simp only[zM,zr,zU] at wl;have ai:Wr rl kk HH n (.int (i:Int)):=pp _ (by simp);have gi:0<=(i:Int)/\(i:Int)<=1008:=by
     cases ai with
     | int _ _ h0 h1=>exact⟨h0,h1⟩
     | deed _ _ od=>obtain⟨l,z⟩:=od.tup; cases z
    have tupO:∀q∈a++c,∀y,q=.str y->y∈vocab:=λq hq y hy=>by
     have:=od.2 q (by rw[uH]; exact hq);obtain⟨l,z⟩:=this.tup;rw[hy] at z; cases z
    have inn:∀l:List W,(∀q∈l,q∈a++c)->l.length<=50->∀(k':Nat) (row':List W),row'.length<=100->Pz (step (step F)) D h0 R ([("[":Str)]++l.flatMap (tw n)++[("]":Str)]) ((k',row')::(k,row)::st) ((k',row'++[.tup l])::(k,row)::st):=λl hq ll k' row' hr=>by
     refine Pz.brack o3 o4 ∅ (by simp; omega) λk''=>?_
     exact Pz.list l [] (λv hv row2 hl2=>ih v (pp v (by
      have:=hq v hv;simp only[zP,zp,zm,zT] at this ⊢
      grind)) (tupO v (hq v hv)) k'' row2 _ hl2 (by simp only[zr]; omega)) (by simp; omega)
    refine Pz.brack o1 o2 ∅ ∅ λk'=>?_
    have p1:=lS n "call" ⋯ k' [] ((k,row)::st) (by simp);have p2:=lI n (i:Int) gi.1 gi.2 k' [.str "call"] ((k,row)::st) (by simp);have p3:=inn a (λq hq=>qH _ hq) ∅ k' [.str "call",.int i] (by simp);have p4:=inn c (λq hq=>kh _ hq) ∅ k' [.str "call",.int i,.tup a] (by simp);exact((p1.trans p2).trans p3).trans p4
def zjp{F:Fs}{rl:List W}{k:Nat}{H:List Str}{n:Nat}{w:W}{h:MH}(hw:Wr rl k H n w)(hv:∀y,w=.str y->y∈vocab)(d:dt 60 w=true)(hn:n<=3):(step (step (step F))).f_thing_of [.fls (yK (tw n w))] h=some (w,h):=by
 have pz:=parse (F:=F) (D:=.fls (yK (tw n w))) (h0:=h) (R:=h.length+1) n w hw hv h.length [] [] (by simp) (by simp; omega);generalize step (step F)=G at pz;have s0:Stk h (h++[.lst []]++[.lst [.ref h.length]]) (h.length+1) [(h.length,[])]:=by
  refine⟨?_,by omega,?_,?_,by simp⟩
  .rw[jq]; exact jB _ _
  .rw[jq]; exact at1 h _ _
  .intro p hp
   rw[qX] at hp;subst hp;exact⟨by rw[jq]; exact at01 h _ _,by simp,by simp⟩
 obtain⟨H',o2,o3,s1,e1⟩:=pz _ none none s0;have e1:=e1 [];rw[jJ] at e1;refine ug (h':=H') ?_ (ud d) s1.pre;have c0:(0:Nat)<=cap:=by decide
 have c1:(1:Nat)<=cap:=by decide
 have ho:=s1.out;obtain⟨r1,-,-⟩:=s1.row _ (zx ..);simp only[zz,jx,jd,List.reverse_nil,zR] at ho r1;have row:b_f_thing_of G [some (.fls (yK (tw n w))),none,none,none] h=some (.ret w,H'):=by
  generalize yK (tw n w)=Z at e1;rw[zkU];rw[yL (ρ':=ρz (.fls Z) (h.length+1) none none) (h':=h++[.lst []]++[.lst [.ref h.length]]) (by simp![lstW,c0,c1])];have fr:(sFor (iSeq (eVar 0)) (gNm 2) (zB G)) (ρz (.fls Z) (h.length+1) none none) (h++[.lst []]++[.lst [.ref h.length]])=some (.nx (ρz (.fls Z) (h.length+1) o2 o3),H'):=by
   unfold sFor;have it:iSeq (eVar 0) (ρz (.fls Z) (h.length+1) none none) (h++[.lst []]++[.lst [.ref h.length]])=some (.items Z,h++[.lst []]++[.lst [.ref h.length]]):=by simp![iSeq,srcOf]
   rw[it];exact e1
  rw[yL fr];simp![zE,lenW,getL,ho,r1,ixW,atI,ixN,xx]
 simp only[fnM,zr,zU,jb,zz,jx,List.replicate,zY,zR];simp only[row]
theorem zgO:∀(n:Nat) (w:W),pl n w=true->PyData.eqv (toD n w) (toD n w)=true
 | 0,w,p=>by cases w<;>cases p
 | n+1,.str x,p=>by simp[toD,PyData.eqv]
 | n+1,.int i,p=>by simp[toD,PyData.eqv]
 | n+1,.tup l,p=>by
  obtain⟨m,e,hl,hd⟩:=ur p;cases e;have:∀ls:List W,(∀v∈ls,pl n v=true)->PyData.eqvAll (ls.map (toD n)) (ls.map (toD n))=true:=by
   intro ls;induction ls with
   | nil=>intro _; rfl
   | cons v ls ih=>
    intro hv;simp only[zz,PyData.eqvAll];rw[zgO n v (hv v (zx ..)),ih λu hu=>hv u (zq _ hu)];rfl
  simp only[toD,PyData.eqv];exact this l hd
 | n+1,.bl _,p=>by cases p
 | n+1,.non,p=>by cases p
 | n+1,.fls _,p=>by cases p
 | n+1,.ref _,p=>by cases p
 | n+1,.fdc _,p=>by cases p
 | n+1,.fn _,p=>by cases p
def zkm{F:Fs}{rl:List W}{k:Nat}{H:List Str}{n:Nat}{w:W}{h:MH}(hr:zai rl)(hw:Wr rl k H n w)(hv:∀y,w=.str y->y∈vocab)(d:dt 60 w=true)(hn:n<=3)(hb:fits 60 (nodes rl 60 (w,[]))=true):(step (step (step (step (step (step (step (step F)))))))).f_read [.tup rl,.str (jw (tw n w))] h=some (w,h):=by
 have e1:=λh=>zjp (F:=step (step (step (step F)))) (h:=h) hw hv d hn
 have e2:=λh=>zcR (F:=F) (h:=h) d hr
 have e3:=λh=>zcT (F:=step (step (step (step (step F))))) (h:=h) hw hn
 rw[hb] at e2;have tl:=za5 n w hw;have l1:=zfm hw hn;have jo:=zcJ tl.1 ∅;have sp:=ze8 (ws:=tw n w) (by intro z; rw[z] at tl; exact absurd tl.2.1 (by simp)) tl.1;refine xF (n:=60) ?_ d;generalize step (step (step (step (step (step (step F))))))=G at e1 e2 e3;have b1:((" ":Str).length==0)=false:=by decide +kernel
 have es:∀h,splitM (.str (jw (tw n w))) [.str " "] h=some (.fls (yK (tw n w)),h):=λh=>by
  simp only[splitM];rw[zW ⟨b1,jo.2⟩,sp];rfl
 generalize yK (tw n w)=Z at e1 es;generalize jw (tw n w)=J at e3 es;simp![b_f_read,uB,es,e1,e2,e3,xg]
def zmw{F:Fs}{ns:List Int}(hl:ns.length<=63){h:MH}:(step (step (up 30 F))).f_law [scr ns] h=some (.bl true,h):=by
 obtain⟨rl,hr,e1⟩:=zi4 (F:=F) (m:=30) hl ∅;obtain⟨w,p,o,e2⟩:=zju (F:=F) (m:=30) (a:=90) hl ∅ hr;have d:=xR (ul p) (show 6<=60 by omega);have hw:=ziB 3 6 w o p ∅;obtain⟨l,rfl⟩:=o.tup;have e3:=λh=>zcT (F:=up 29 F) (h:=h) hw ∅
 have e4:=λh=>s_lw (F:=F) (h:=h) 3 ∅ (.tup l) hw 31 ∅ true λ_=>rfl
 have e5:=λh=>zcR (F:=up 24 F) (h:=h) d hr.ok
 have e6:=λh hb=>zkm (F:=up 23 F) (h:=h) hr.ok hw (λy z=>by cases z) d ∅ hb
 have e3:∀h,(step (up 30 F)).f_written [.tup l] h=_:=e3;have e4:∀h,(step (up 30 F)).f_law_words [.tup l,.bl true] h=_:=e4;have e5:∀h,(step (up 30 F)).f_is_deed [.tup rl,.tup l] h=_:=e5;have e6:∀h,_->(step (up 30 F)).f_read [.tup rl,.str (jw (tw 3 (.tup l)))] h=_:=e6;have tl:=za5 3 _ hw;have l1:=zfm hw ∅;have jo:=zcJ tl.1 ∅;have ej:∀h,joinM (.str " ") [.fls (yK (tw 3 (.tup l)))] h=some (.str (jw (tw 3 (.tup l))),h):=λh=>by
  have q:(getL h (.fls (yK (tw 3 (.tup l))))).bind strsOf=some (tw 3 (.tup l)):=zaZ _;simp only[joinM,q];rw[zW jo.1];rfl
 have eq:∀h,eqB h (.tup l) (.tup l)=some true:=λh=>by
  rw[zeU (ul p) ∅ (ul p) ∅,zgO _ _ p]
 refine xF (n:=1) ?_ rfl;generalize step (up 30 F)=G at e1 e2 e3 e4 e5 e6;generalize yK (tw 3 (.tup l))=Z at e4 ej;generalize jw (tw 3 (.tup l))=J at e3 e6 ej;generalize fits 60 (nodes rl 60 (.tup l,[]))=b at e5 e6;generalize W.tup l=w at *;cases b with
 | true=>
  have e6:=λh=>e6 h rfl
  simp![b_f_law,e1,e2,e3,e4,e5,e6,uB,ej,xg,eq]
 | false=>simp![b_f_law,e1,e2,e3,e4,e5,uB,ej,xg]
theorem ziF:∀n,lv n=up n Fs.bot
 | 0=>rfl
 | n+1=>by show step (lv n)=step (up n Fs.bot); rw[ziF n]
def main(ns:List Int)(hl:ns.length<=63):∃h',(lv 200).f_law [.fls (ns.map W.int)] []=some (.bl true,h'):=by
 refine⟨[],?_⟩;rw[ziF];exact zmw (F:=up 168 Fs.bot) hl
end K80
namespace K80
open PySem PySem.W PyProof.Rows ML
set_option maxHeartbeats 0 in
def txt {XP : (Str -> Option Value) -> Heap -> Prop} {w : World} {s₀ : Shared} {mg mb : Str -> Option Value} {h : Heap} (G : Ground q ["FORMS"] [] XP w s₀ mg mb h) : AllD (zav (Kw h) mg) defs :=
  ⟨txtG G (d := d_f_has_form) (by kernel_rfl) (ML.hb1 λ_ _ _ _ _ _ _ => by kernel_rfl) rfl,
   txtG G (d := d_f_parts_of) (by kernel_rfl) (ML.hb1 λ_ _ _ _ _ _ _ => by kernel_rfl) rfl,
   txtG G (d := d_f_is_whole) (by kernel_rfl) (ML.hb1 λ_ _ _ _ _ _ _ => by kernel_rfl) rfl,
   txtG G (d := d_f_is_worth) (by kernel_rfl) (ML.hb1 λ_ _ _ _ _ _ _ => by kernel_rfl) rfl,
   txtG G (d := d_f_is_figures) (by kernel_rfl) (ML.hb1 λ_ _ _ _ _ _ _ => by kernel_rfl) rfl,
   txtG G (d := d_f_is_lettered) (by kernel_rfl) (ML.hb2 λ_ _ _ _ _ _ _ _ => by kernel_rfl) rfl,
   txtG G (d := d_f_is_name) (by kernel_rfl) (ML.hb1 λ_ _ _ _ _ _ _ => by kernel_rfl) rfl,
   txtG G (d := d_f_is_own_shelf) (by kernel_rfl) (ML.hb1 λ_ _ _ _ _ _ _ => by kernel_rfl) rfl,
   txtG G (d := d_f_is_handed_name) (by kernel_rfl) (ML.hb1 λ_ _ _ _ _ _ _ => by kernel_rfl) rfl,
   txtG G (d := d_f_is_shelf) (by kernel_rfl) (ML.hb2 λ_ _ _ _ _ _ _ _ => by kernel_rfl) rfl,
   txtG G (d := d_f_is_call) (by kernel_rfl) (ML.hb2 λ_ _ _ _ _ _ _ _ => by kernel_rfl) rfl,
   txtG G (d := d_f_is_deed_outside) (by kernel_rfl) (ML.hb3 λ_ _ _ _ _ _ _ _ _ => by kernel_rfl) rfl,
   txtG G (d := d_f_parts_with_known) (by kernel_rfl) (ML.hb2 λ_ _ _ _ _ _ _ _ => by kernel_rfl) rfl,
   txtG G (d := d_f_is_deed_where) (by kernel_rfl) (ML.hb3 λ_ _ _ _ _ _ _ _ _ => by kernel_rfl) rfl,
   txtG G (d := d_f_is_deed) (by kernel_rfl) (ML.hb2 λ_ _ _ _ _ _ _ _ => by kernel_rfl) rfl,
   txtG G (d := d_f_words_and_parts) (by kernel_rfl) (ML.hb1 λ_ _ _ _ _ _ _ => by kernel_rfl) rfl,
   txtG G (d := d_f_written) (by kernel_rfl) (ML.hb1 λ_ _ _ _ _ _ _ => by kernel_rfl) rfl,
   txtG G (d := d_f_meant) (by kernel_rfl) (ML.hb1 λ_ _ _ _ _ _ _ => by kernel_rfl) rfl,
   txtG G (d := d_f_thing_of) (by kernel_rfl) (ML.hb1 λ_ _ _ _ _ _ _ => by kernel_rfl) rfl,
   txtG G (d := d_f_read) (by kernel_rfl) (ML.hb2 λ_ _ _ _ _ _ _ _ => by kernel_rfl) rfl,
   txtG G (d := d_f_law_cell) (by kernel_rfl) (ML.hb2 λ_ _ _ _ _ _ _ _ => by kernel_rfl) rfl,
   txtG G (d := d_f_law_drawn) (by kernel_rfl) (ML.hb3 λ_ _ _ _ _ _ _ _ _ => by kernel_rfl) rfl,
   txtG G (d := d_f_law_leaf) (by kernel_rfl) (ML.hb3 λ_ _ _ _ _ _ _ _ _ => by kernel_rfl) rfl,
   txtG G (d := d_f_law_deed) (by kernel_rfl) (ML.hb5 λ_ _ _ _ _ _ _ _ _ _ _ => by kernel_rfl) rfl,
   txtG G (d := d_f_law_call) (by kernel_rfl) (ML.hb5 λ_ _ _ _ _ _ _ _ _ _ _ => by kernel_rfl) rfl,
   txtG G (d := d_f_law_rules) (by kernel_rfl) (ML.hb2 λ_ _ _ _ _ _ _ _ => by kernel_rfl) rfl,
   txtG G (d := d_f_law_words) (by kernel_rfl) (ML.hb2 λ_ _ _ _ _ _ _ _ => by kernel_rfl) rfl,
   txtG G (d := d_f_law_weight) (by kernel_rfl) (ML.hb3 λ_ _ _ _ _ _ _ _ _ => by kernel_rfl) rfl,
   txtG G (d := d_f_law_light) (by kernel_rfl) (ML.hb4 λ_ _ _ _ _ _ _ _ _ _ => by kernel_rfl) rfl,
   txtG G (d := d_f_law) (by kernel_rfl) (ML.hb1 λ_ _ _ _ _ _ _ => by kernel_rfl) rfl, trivial⟩
end K80
open PySem PySem.W PyProof.Rows ML
set_option maxRecDepth 100000 in
set_option maxHeartbeats 0 in
theorem PySem.Challenge.cw_shelfwork_k80_written_holds : PySem.Challenge.rw_shelfwork_k80_written.Holds := by
 refine holds_law K80.said λsaid=>?_
 refine holds_open (q:=K80.q) (loose:=["FORMS"]) (Xt:=λs=>xlAt K80.q [] s&&recOk [] s) (XP:=XL K80.q []) (Yf:=K80.H.obs) (Ya:=K80.H.val) (YP:=K80.H.says) (N:=6000) K80.left (Hook.of K80.H) (Hook.keeps K80.H) (λs e=>xl_of s (ju.mp e).1) XL.keeps rfl rfl rfl (λs e=>recFacts_of (ju.mp e).2) rfl said ⋯ ⟨rfl,rfl,rfl,rfl,rfl,by decide +kernel⟩ ?hw ?hc
 case hw=>w_witness2
 case hc=>
  exact ML.walk_lawE (l:=PySem.Challenge.rw_shelfwork_k80_written) (D:=K80.d_f_law) (g:=(K80.lv 200).f_law) (b:=K80.b_f_law (K80.lv 199)) (Γ:=K80.rc (K80.lv 199)) (ds:=K80.defs) (y:="_law_script") (room:=199) (cons:=K80.consC) (tabs:=K80.tabsC) (by kernel_rfl) (by kernel_rfl) rfl rfl ⟨rfl,by decide,by decide⟩ rfl rfl (ML.hb1 λ_ _ _ _ _ _ _=>by kernel_rfl) (by kernel_rfl) rfl (by kernel_rfl) rfl K80.main (λw K mg base T c t z=>K80.lvl T c t z 199) λw s₀ mg mb h G=>⟨(K80.txt G).2.2.2.2.2.2.2.2.2.2.2.2.2.2.2.2.2.2.2.2.2.2.2.2.2.2.2.2.2.1,K80.txt G⟩

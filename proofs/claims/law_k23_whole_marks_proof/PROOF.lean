import PyProof.Rows.All
import Wide.All
import OpenK.AllK
import Wide.FinOn
import Lean
import PyProof.EqAt
import PyProof.EqKinds
import PyProof.TupleCall
import PySem.Challenge.RW_shelfwork_k23_whole_marks
import PyProof.Walks
import PyProof.ListMulAny
import PySem.SetTable
import PySem.SetOps
import PyProof.TupleKey
import PyProof.SetKind
import KE.KSortTup
import PyProof.DictIter
import PyProof.DictRoadsH
import KE.KDictList
set_option Elab.async false
set_option linter.all false
set_option maxRecDepth 100000
set_option maxHeartbeats 1000000
def za:=@PySem.wpAny_bind
def zc:=@PySem.Heap.get?_push_of_some
def zf:=@List.mem_cons
def zg:=@PySem.wpAny_pure
def zj:=@Option.map_eq_some_iff
def zm:=@List.not_mem_nil
def zp:=@Option.bind_eq_some_iff
def zq:=@List.mem_cons_of_mem
def zr:=@Bool.and_eq_true
def zu:=@Nat.le_refl
def zx:=@List.mem_append
def zy:=@List.mem_cons_self
def zz:=@List.mem_map
def zA:=@PySem.Heap.get?_push_size
def zE:=@List.getElem?_eq_some_iff
def zF:=@Nat.le_trans
def zG:=@List.length_cons
def zH:=@List.map_cons
def zJ:=@PySem.Heap.lt_size
def zK:=@Nat.lt_of_lt_of_le
def zL:=@List.length_map
def zM:=@List.size_toArray
def zN:=@Bool.false_ne_true
def zO:=@List.getElem?_eq_getElem
def zP:=@Nat.ne_of_lt
def zQ:=@Bool.false_eq_true
def zR:=@if_pos
def zU:=@Option.some.inj
def zV:=@or_false
def zW:=@List.length_append
def zX:=@List.getElem?_append_left
def zY:=@Array.length_toList
def zZ:=@if_neg
def kh:=@List.mem_singleton
def kj:=@List.getElem?_append_right
def kE:=@List.all_eq_true
def kI:=@decide_eq_true
def kJ:=@List.getElem?_map
def kO:=@PySem.wpAny_newObj_type
def kY:=@List.map_map
def kZ:=@List.length_nil
def jb:=@PySem.wpAny_holding
def jc:=@decide_eq_false
def jd:=@if_true
def je:=@PySem.W.kia_one
def jf:=@List.prefix_refl
def jh:=@List.nil_append
def ji:=@List.mem_append_right
def jj:=@PySem.wpAny_call_entry
def jk:=@Ne.symm
def jl:=@Int.toNat_natCast
def jm:=@List.mem_filter
def jn:=@beq_eq_false_iff_ne
def jo:=@PySem.wpAny_setField_rec
def jq:=@PySem.wpAny_callSpecial?_slot
def jr:=@PySem.Heap.get?_update_self
def jt:=@if_false
def ju:=@congrArg
def jw:=@List.map_nil
def jx:=@PyProof.Rows.slot_tuple_getitem
def jy:=@Nat.lt_succ_of_lt
def jz:=@List.mem_of_mem_drop
def jA:=@List.nodup_cons
def jB:=@List.getElem?_eq_none_iff
def jC:=@List.find?_cons
def jD:=@PySem.sizeLine_eq
def jE:=@List.cons_append
def jF:=@List.all_cons
def jG:=@PySem.Around.under_plainId
def jH:=@PySem.wpAny_seqItems
def jJ:=@List.filterMap_cons_some
def jK:=@PySem.Heap.size_push
def jL:=@PySem.Heap.SameBut.update
def jM:=@PySem.wpAny_setState_of
def jN:=@Nat.lt_or_eq_of_le
def jO:=@Bool.and_eq_true_iff
def jP:=@beq_self_eq_true
def jQ:=@Nat.lt_succ_self
def jR:=@Nat.le_of_not_lt
def jT:=@List.filter_cons
def jU:=@PySem.wpAny_field
def jV:=@PySem.wpAny_mono
def jW:=@of_decide_eq_true
def jX:=@Nat.lt_irrefl
def jY:=@List.mem_range
def jZ:=@List.take_append_drop
def j4:=@List.getElem?_eq_none
def j5:=@PySem.Heap.get?_update_other
def j6:=@PySem.wpAny_truthy_bool
def j7:=@List.pairwise_cons
def j8:=@Nat.zero_le
def j9:=@List.lookup_cons
def qb:=@PySem.codeAny_builtin
def qd:=@List.mem_of_getElem?
def qe:=@PySem.wpAny_Call_Name_kw
def qg:=@Bool.not_eq_true'
def qi:=@PyProof.Rows.callWith_type1
def qj:=@List.replicate_succ
def ql:=@List.of_mem_zip
def qm:=@List.map_congr_left
def qp:=@PySem.wpAny_typeOf
def qt:=@PySem.wpAny_rule
def qu:=@List.length_take
def qw:=@List.set_append_right
def qx:=@List.prefix_append
def qy:=@List.length_filter_le
def qz:=@List.nodup_nil
def qC:=@List.Perm.refl
def qD:=@Nat.pow_le_pow_right
def qF:=@List.filterMap_cons_none
def qG:=@List.getElem?_replicate
def qH:=@PySem.strKind_is
def qI:=@List.length_drop
def qJ:=@List.getElem?_set_self
def qK:=@Nat.le_succ
def qL:=@Nat.le_of_lt
def qM:=@List.length_replicate
def qN:=@List.flatten_cons
def qO:=@List.mem_of_mem_take
def qP:=@List.getElem?_set_ne
def qQ:=@PySem.wpAny_passesOwn
def qR:=@PySem.builtinLookup_eq_fast
def qT:=@PyProof.Rows.F.plain_set_update_loop
def qU:=@List.pairwise_iff_getElem
def qW:=@List.drop_eq_getElem_cons
def qX:=@Option.bind_some
def qY:=@List.mem_flatMap
def qZ:=@List.getElem_mem
def q8:=@PySem.wpAny_pyIter_list
def q9:=@PySem.wpAny_attempt
def vd:=@PySem.plainId_quiet
def vf:=@PySem.mem_of_lookup
def vg:=@List.getElem_of_mem
def vh:=@Option.isSome_iff_exists
def vo:=@Nat.pow_succ
def vp:=@PySem.F.slot_tuple_iterator_next
def vq:=@Array.size_setIfInBounds
def vA:=@List.length_zip
def vB:=@List.any_cons
def vC:=@Int.emod_lt_of_pos
def vD:=@PySem.wpAny_isInstance
def vG:=@PySem.F.called_set
def vH:=@decide_eq_true_eq
def vI:=@beq_iff_eq
def vJ:=@PySem.wpAny_updateSeq
def vK:=@Nat.ne_of_gt
def vL:=@List.mem_iff_getElem?
def vM:=@List.length_singleton
def vN:=@PySem.Calls.spliced_cons
def vO:=@Option.getD_some
def vP:=@PySem.Calls.callWith_builtin
def vQ:=@PySem.call_meets
def vR:=@List.sum_cons
def vU:=@PySem.Calls.spliced_nil
def vV:=@Nat.mod_lt
def vW:=@List.map_append
def vX:=@List.filterMap_cons
def vY:=@Int.emod_nonneg
def vZ:=@PySem.wpAny_typeNameOfWhole_keyiter
def v6:=@PySem.F.slot_tuple_mul
def v7:=@PySem.AutoSeq1.idx_int
def v8:=@Array.find?_toList
def v9:=@Option.isNone_iff_eq_none
def wg:=@PySem.F.slot_dict_keyiterator_next
def wj:=@PySem.wpAny_of_eq
def wu:=@PySem.typeLookup_type
def ww:=@PySem.Value.isStrOf_shape
def wz:=@PySem.W.kitx_list
def wA:=@PySem.F.args_tuple_add_2
def wB:=@Nat.le_of_lt_succ
def wC:=@List.append_assoc
def wD:=@PySem.F.plainAttrs_list
def wF:=@PySem.F.entry_tuple_add
def wG:=@List.pairwise_singleton
def wI:=@List.getElem?_cons_zero
def wJ:=@PySem.W.KasT.kasWp_bind
def wK:=@Int.eq_ofNat_of_zero_le
def wL:=@PySem.wpAny_pyIter_tuple
def wM:=@PySem.Obj.data_mapFields
def wO:=@List.getElem_inj
def wQ:=@List.flatMap_def
def wR:=@List.ext_getElem
def wU:=@List.any_eq_true
def wV:=@PySem.isSubtype_type
def wW:=@PySem.F.slot_tuple_add
def wX:=@List.take_of_length_le
def wY:=@PySem.wpAny_typeNameOf_keyiter
def wZ:=@PySem.wpAny_storeSet_of
def yc:=@not_or
def yd:=@PySem.F.slot_dict_get
def ye:=@Nat.add_zero
def yf:=@List.forIn_cons
def yg:=@List.append_nil
def yh:=@PySem.F.slot_list_getattribute
def yj:=@PySem.F.plain_list_iadd
def ym:=@Bool.eq_iff_iff
def yo:=@Array.getElem?_toList
def yp:=@List.mem_append_left
def yq:=@Array.mem_toList_iff
def yr:=@PySem.wpAny_forIn_list
def yt:=@PyProof.Rows.F.entry_set_update_loop
def yu:=@PySem.wpAny_isOneOf_keyiter
def yw:=@PySem.wpAny_execs_nil
def yx:=@PySem.codeAny_mono
def yz:=@PySem.PassesOwn.never
def yC:=@List.zip_cons_cons
def yD:=@List.mem_filterMap
def yE:=@List.filterMap_map
def yF:=@PySem.F.slot_zip_next
def yG:=@PySem.F.slot_int_rmul
def yH:=@Bool.or_false
def yI:=@Bool.not_true
def yJ:=@PySem.wpAny_load
def yK:=@PySem.wpAny_updateSeq_pair
def yL:=@PySem.W.kitx_dict
def yM:=@Nat.lt_trichotomy
def yN:=@List.take_sublist
def yO:=@List.nodup_append
def yP:=@List.length_range
def yQ:=@PySem.Heap.get?_none_of_le
def yR:=@PySem.Calls.evalArgs_plain
def yS:=@PySem.wpAny_setField
def yU:=@PySem.wpAny_runValue
def yV:=@PyProof.Rows.tupleItemsOf_
def yW:=@PyProof.Rows.callWith_builtin1
def yX:=@Nat.mul_comm
def yZ:=@Nat.lt_or_ge
def xf:=@PySem.wpAny_throw
def xg:=@Nat.succ_ne_self
def xm:=@Nat.mod_eq_of_lt
def xn:=@Nat.le_add_right
def xq:=@List.reverse_nil
def xr:=@List.mem_reverse
def xu:=@List.drop_length
def xx:=@PySem.Heap.get?_update_ne
def xF:=@PySem.wpAny_standAt
def xG:=@PySem.wpAny_onRaise
def xH:=@PySem.tupleKind_room_in1
def xJ:=@PySem.putSet_of
def xK:=@Nat.pow_add
def xM:=@Nat.not_lt_zero
def xN:=@List.filter_map
def xO:=@List.cons.injEq
def xP:=@PySem.F.args_tuple_mul_2
def xQ:=@Array.getD_eq_getD_getElem?
def xR:=@Option.ne_none_iff_exists'
def xT:=@Array.getElem?_eq_some_iff
def xU:=@PySem.wpAny_pyIter_slot
def xV:=@PySem.typeIs_int
def xW:=@PySem.Walks.list
def xX:=@List.drop_zero
def xY:=@PySem.F.entry_tuple_mul
def xZ:=@PySem.concat_meets
def uc:=@PyProof.Rows.boot_sorted
def ud:=@Nat.not_lt
def ue:=@List.length_erase_of_mem
def uf:=@List.getElem?_take_of_lt
def ug:=@PySem.wpAny_askSetting
def uh:=@PySem.noFill_tuple_add
def ul:=@PySem.F.args_dict_get_3
def um:=@List.map_take
def uo:=@List.map_drop
def uq:=@List.length_eq_zero_iff
def ur:=@List.eraseIdx_cons_succ
def ut:=@List.cons.inj
def uv:=@PySem.W.cellsFrom_some
def uw:=@PySem.F.entry_dict_get
def ux:=@List.length_pos_of_mem
def uy:=@PySem.F.args_tuple_iterator_next_1
def uz:=@Array.toList_filterMap
def uA:=@PySem.wpAny_specialOf
def uB:=@Nat.sub_self
def uC:=@Nat.lt_trans
def uD:=@List.any_map
def uE:=@PySem.F.entry_tuple_iterator_next
def uG:=@Nat.not_succ_le_self
def uH:=@List.mem_erase_of_ne
def uJ:=@PySem.Calls.Name_function_global
def uK:=@Array.getElem_toList
def uL:=@PySem.wpAny_newTuple
def uN:=@PySem.wpAny_binaryOp_repeat_ref
def uO:=@PySem.isSubtype_stop
def uP:=@List.take_succ_cons
def uQ:=@Int.toNat_of_nonneg
def uR:=@Bool.or_eq_true_iff
def uT:=@PySem.W.kitx_tuple
def uU:=@Nat.pos_of_ne_zero
def uV:=@PySem.AutoSeq1.sub_tuple_tuple
local macro_rules|`(⋯)=>`(by decide +kernel)
local macro_rules|`(∅)=>`(by omega)
namespace ML
open PySem PySem.W PyProof.Rows
inductive Cn where
 | int (i:Int) | str (x:Str) | tup (l:List Cn)
noncomputable def zfG(h:Heap)(v:Value):Option (Array Value):=match v with
 | .ref a=>(h.get? a).bind λo=>match o.cls with
  | .type t=>if t="tuple" then (match o.data with | .seq its _=>if o.dict.isNone then some its else none | _=>none) else none
  | _=>none
 | _=>none
noncomputable def isI(i:Int)(v:Value):Bool:=match v with | .int j _=>i==j | _=>false
noncomputable def isS(x:Str)(v:Value):Bool:=match v with | .str y _=>x==y | _=>false
noncomputable def zcd{α β:Type}(p:α->β->Bool):List α->List β->Bool
 | [],[]=>true
 | a::l,b::r=>p a b&&zcd p l r
 | _,_=>false
noncomputable def zcc(h:Heap):Nat->Cn->Value->Bool
 | 0,_,_=>false
 | n+1,w,v=>match w with
  | .int i=>isI i v
  | .str x=>isS x v
  | .tup l=>(zfG h v).any λits=>decide (its.size<=sizeLine)&&zcd (zcc h n) l its.toList
noncomputable def dictAt(h:Heap)(v:Value):Option (Array DictEntry):=match v with
 | .ref a=>(h.get? a).bind λo=>match o.cls with
  | .type t=>if t="dict" then (match o.data with | .dict es _=>if o.dict.isNone&&o.slots.isEmpty&&a != sysModules then some es else none | _=>none) else none
  | _=>none
 | _=>none
noncomputable def tabB(h:Heap)(l:List (Str×Cn))(v:Option Value):Bool×List Int:=match v.bind (dictAt h) with
 | some es=>(zcd (λp (e:DictEntry)=>isS p.1 e.key&&zcc h 9 p.2 e.val) l es.toList,es.toList.map (·.hash))
 | none=>(false,[])
noncomputable def seeB(cons:List (Str×Cn))(bins:List Str)(h:Heap):Bool:=h.isNs mainGlobals&&cons.all (λp=>(h.nsMap mainGlobals p.1).any λv=>zcc h 9 p.2 v)&&bins.all λx=>(h.nsMap mainGlobals x).isNone
noncomputable def seeT(tabs:List (Str×List (Str×Cn)))(h:Heap):List (Bool×List Int):=tabs.map λp=>tabB h p.2 (h.nsMap mainGlobals p.1)
noncomputable def zij(tabs:List (Str×List (Str×Cn)))(w:World):List (Bool×List Int):=tabs.map λp=>(true,p.2.map λk=>PyData.keyHash w.params k.1)
noncomputable def zin(cons:List (Str×Cn))(tabs:List (Str×List (Str×Cn)))(bins:List Str):PySem.W.Hook:=
 ⟨Bool×List (Bool×List Int),λs=>(seeB cons bins s.heap,seeT tabs s.heap),λw=>(true,zij tabs w),
  λw h=>∃h₀:Heap,(∀b o,h₀.get? b=some o->h.get? b=some o)/\seeB cons bins h₀=true/\seeT tabs h₀=zij tabs w,
  λw s e=>⟨s.heap,λ_ _ z=>z,ju Prod.fst e,ju Prod.snd e⟩,λw h h' ⟨h₀,a,b⟩ k=>⟨h₀,λ_ _ z=>k _ _ (a _ _ z),b⟩⟩
def zmt{p q:Program}{loose:List Str}{Xt:Shared->Bool}{α:Type}{Yf:Shared->α}{Ya:World->α}{N:Nat}{g0:Bool}(row:String)
  (hf:∀w:World,(openEnds treeTable p (w.withFollow row false) N).map (λs=>(openSeen q loose (importedModules p.main.body) Xt g0 s,Yf s))=some (openGood q loose,Ya (w.withFollow row false)))
  (ht:∀w:World,(openEnds treeTable p (w.withFollow row true) N).map (λs=>(openSeen q loose (importedModules p.main.body) Xt g0 s,Yf s))=some (openGood q loose,Ya (w.withFollow row true))):LeftO p q loose Xt Yf Ya N g0:=
 byRow2 row (P:=λw=>(openEnds treeTable p w N).map (λs=>(openSeen q loose (importedModules p.main.body) Xt g0 s,Yf s))=some (openGood q loose,Ya w)) hf ht
end ML
namespace K23
open PySem PySem.W PyProof.Rows ML
def pw:Program:=PySem.Challenge.pw_shelfwork_k23_whole_marks
def isNm(x:String):Expr->Bool | .Name y ..=>y==x | _=>false
def drops:Stmt->Bool
 | .Assign [t] ..=>isNm "FORMS" t||isNm "__name__" t
 | _=>false
def q:Program:={ pw with main:={ pw.main with body:=pw.main.body.filter λs=>!drops s } }
def consC:List (Str×Cn):=[]
def tabsC:List (Str×List (Str×Cn)):=[("FORMS",[("number",(.tup [.int 2,.int 2])),("name",(.tup [.int 2,.int 2])),("read",(.tup [.int 2,.int 2])),("write",(.tup [.int 3,.int 2])),("add",(.tup [.int 3,.int 1])),("less",(.tup [.int 3,.int 1])),("then",(.tup [.int 3,.int 1])),("if",(.tup [.int 4,.int 1])),("loop",(.tup [.int 3,.int 1])),("let",(.tup [.int 4,.int 2])),("own",(.tup [.int 4,.int 2])),("say",(.tup [.int 2,.int 1])),("ask",(.tup [.int 1,.int 1])),("do",(.tup [.int 2,.int 2])),("call",(.tup [.int 4,.int 2]))])]
def zqh:List Str:=["dict","isinstance","len","range","set","sorted","sum","tuple","zip"]
noncomputable def H:Hook:=zin consC tabsC zqh
set_option maxHeartbeats 0 in
theorem said:PySem.Challenge.rw_shelfwork_k23_whole_marks.wellSaid=true:=by kernel_rfl
set_option maxHeartbeats 0 in
theorem leftF(w:World):(openEnds treeTable pw (w.withFollow "special-get-raises" false) 3400).map (λs=>(openSeen q ["FORMS"] (importedModules pw.main.body) (λs=>xlAt q [] s&&recOk [] s) true s,H.obs s))=some (openGood q ["FORMS"],H.val (w.withFollow "special-get-raises" false)):=by kernel_rfl
set_option maxHeartbeats 0 in
theorem leftT(w:World):(openEnds treeTable pw (w.withFollow "special-get-raises" true) 3400).map (λs=>(openSeen q ["FORMS"] (importedModules pw.main.body) (λs=>xlAt q [] s&&recOk [] s) true s,H.obs s))=some (openGood q ["FORMS"],H.val (w.withFollow "special-get-raises" true)):=by kernel_rfl
def left:LeftO pw q ["FORMS"] (λs=>xlAt q [] s&&recOk [] s) H.obs H.val 3400:=zmt "special-get-raises" leftF leftT
end K23
section
namespace L2
open PySem PySem.Spec PyProof.Rows
abbrev Key:=Sum Int Str
def zdi:Key->Value->Bool
 | .inl k,v=>Value.isInt k v
 | .inr x,v=>Value.isStrOf x v
def keyH(w:World):Key->Int
 | .inl k=>hashInt k
 | .inr x=>hashStr w x
def zaB:∀{k:Key} {v:Value},zdi k v=true->(∃i t,k=Sum.inl i/\v=Value.int i t)\/(∃x t,k=Sum.inr x/\v=Value.str x t)
 | .inl i,v,h=>by
  obtain⟨t,e⟩:=Value.isInt_shape (k:=i) (v:=v) h;exact .inl ⟨i,t,rfl,e⟩
 | .inr x,v,h=>by
  obtain⟨t,e⟩:=ww (x:=x) (v:=v) h;exact .inr ⟨x,t,rfl,e⟩
def zjB(i:Int)(t:Tok):zdi (.inl i) (.int i t)=true:=by simp[zdi,Value.isInt]
def zje(x:Str)(t:Tok):zdi (.inr x) (.str x t)=true:=by simp[zdi,Value.isStrOf]
def zox(a b:Int):decide ((Sum.inl a:Key)=Sum.inl b)=(a==b):=by
 by_cases e:a=b
 .subst e; simp
 .have h:¬(Sum.inl a:Key)=Sum.inl b:=λq=>e (Sum.inl.inj q)
  rw[jc h];exact(jn.mpr e).symm
def zoW(a b:Str):decide ((Sum.inr a:Key)=Sum.inr b)=decide (a=b):=by
 by_cases e:a=b
 .subst e; simp
 .have h:¬(Sum.inr a:Key)=Sum.inr b:=λq=>e (Sum.inr.inj q)
  rw[jc h,jc e]
def znU(a:Int)(b:Str):decide ((Sum.inl a:Key)=Sum.inr b)=false:=jc (λq=>nomatch q)
def zn2(a:Str)(b:Int):decide ((Sum.inr a:Key)=Sum.inl b)=false:=jc (λq=>nomatch q)
def zat(prog:Program)(w:World):PySem.KeyKind prog w Key where
 is:=zdi
 hash:=keyH w
 inj:=λv a b ha hb=>by
  rcases zaB ha with ⟨i,t,rfl,rfl⟩ | ⟨x,t,rfl,rfl⟩
  .rcases zaB hb with ⟨j,u,rfl,e⟩ | ⟨y,u,rfl,e⟩
   .injection e with e1 _; rw[e1]
   .exact nomatch e
  .rcases zaB hb with ⟨j,u,rfl,e⟩ | ⟨y,u,rfl,e⟩
   .exact nomatch e
   .injection e with e1 _; rw[e1]
 byValue:=λk v h=>by
  rcases zaB h with ⟨i,t,rfl,rfl⟩ | ⟨x,t,rfl,rfl⟩<;>rfl
 pyHash:=λhv h=>by
  rcases zaB hv with ⟨i,t,rfl,rfl⟩ | ⟨x,t,rfl,rfl⟩
  .exact wpAny_pyHash_int h
  .exact wpAny_pyHash_str h
 eqBool:=λhu hv h=>by
  rcases zaB hu with ⟨i,t,rfl,rfl⟩ | ⟨x,t,rfl,rfl⟩
  .rcases zaB hv with ⟨j,u,rfl,rfl⟩ | ⟨y,u,rfl,rfl⟩
   .rw[zox] at h; exact wpAny_eqBool_int h
   .rw[znU] at h; exact SeqAt.EqAt.int_str i t y u _ _ _ _ h
  .rcases zaB hv with ⟨j,u,rfl,rfl⟩ | ⟨y,u,rfl,rfl⟩
   .rw[zn2] at h; exact SeqAt.EqAt.str_int x t j u _ _ _ _ h
   .rw[zoW] at h; exact wpAny_eqBool_str h
 «strs»:=λk x t v h=>by
  rcases zaB h with ⟨i,u,rfl,e⟩ | ⟨y,u,rfl,e⟩
  .exact nomatch e
  .injection e with e1 _
   subst e1;cases v<;>rfl
def zg4(prog:Program)(w:World)(i:Int)(t:Tok):(zat prog w).is (.inl i) (.int i t)=true:=zjB i t
def zgY(prog:Program)(w:World)(x:Str)(t:Tok):(zat prog w).is (.inr x) (.str x t)=true:=zje x t
end L2
namespace L2
open PySem PySem.Spec PyProof.Rows
inductive V where
 | non | bl (b:Bool) | int (i:Int) | str (x:Str) | byt (b:Array UInt8) | flt (b:UInt64) | ref (a:Addr) | ty (n:String)
 deriving DecidableEq
def RelV:V->Value->Prop
 | .non,u=>u=Value.none
 | .bl b,u=>u=Value.bool b
 | .int i,u=>∃t,u=Value.int i t
 | .str x,u=>∃t,u=Value.str x t
 | .byt b,u=>∃t,u=Value.bytes b t
 | .flt b,u=>∃t,u=Value.float b t
 | .ref a,u=>u=Value.ref a
 | .ty n,u=>u=Value.type n
abbrev Vals:List V->List Value->Prop:=Paired RelV
theorem Vals.length{xs:List V}{us:List Value}(r:Vals xs us):xs.length=us.length:=Paired.length r
theorem Vals.get:∀{xs:List V} {us:List Value} {i:Nat} {x:V},Vals xs us->xs[i]?=some x->∃u,us[i]?=some u/\RelV x u
 | _,_,_,_,.nil,e=>by simp at e
 | _,_,0,_,.cons r _,e=>by simp at e; subst e; exact⟨_,rfl,r⟩
 | _,_,i+1,x,.cons _ t,e=>by
  obtain⟨u,h1,h2⟩:=Vals.get (i:=i) (x:=x) t (by simpa using e);exact⟨u,by simpa using h1,h2⟩
theorem Vals.set{x:V}{u:Value}(r:RelV x u):∀{xs:List V} {us:List Value} (i:Nat),Vals xs us->Vals (xs.set i x) (us.set i u)
 | _,_,_,.nil=>.nil
 | _,_,0,.cons _ t=>.cons r t
 | _,_,i+1,.cons q t=>.cons q (Vals.set r i t)
theorem Vals.append:∀{xs ys:List V} {us ws:List Value},Vals xs us->Vals ys ws->Vals (xs++ys) (us++ws)
 | _,_,_,_,.nil,s=>s
 | _,_,_,_,.cons r t,s=>.cons r (Vals.append t s)
theorem Vals.take:∀{xs:List V} {us:List Value} (n:Nat),Vals xs us->Vals (xs.take n) (us.take n)
 | _,_,0,_=>.nil
 | _,_,_+1,.nil=>.nil
 | _,_,n+1,.cons r t=>.cons r (Vals.take n t)
theorem Vals.drop:∀{xs:List V} {us:List Value} (n:Nat),Vals xs us->Vals (xs.drop n) (us.drop n)
 | _,_,0,r=>r
 | _,_,_+1,.nil=>.nil
 | _,_,n+1,.cons _ t=>Vals.drop n t
def RelO:Option V->Option Value->Prop
 | some v,some u=>RelV v u
 | none,none=>True
 | _,_=>False
def KV{κ:Type}:List (κ×V)->List (κ×Value)->Prop:=Paired λ(p:κ×V) (q:κ×Value)=>p.1=q.1/\RelV p.2 q.2
def kV:Key->V
 | .inl i=>.int i
 | .inr x=>.str x
inductive HO where
 | lst (xs:List V)
 | tup (xs:List V)
 | dK (kvs:List (Key×V)) | dT (kvs:List (List Key×V))
 | set (S:Int->Bool) (n:Nat)
 | ins (C dx:Addr) (fs:List (Str×V))
 | own (x:Addr)
 | xd (fs:List (Str×V))
 | met (f x:Addr)
 | rng (lo hi:Int)
 | frz (o:Obj) (u:HO)
 | tbl (ps:Array Value)
 | ext (φ:Heap->Prop)
abbrev Hp:=Addr->Option HO
def upd(H:Hp)(a:Addr)(o:HO):Hp:=λb=>if b=a then some o else H b
def zan{H:Hp}{a:Addr}{o:HO}:upd H a o a=some o:=by unfold upd; rw[zR rfl]
def zac{H:Hp}{a b:Addr}{o:HO}(h:b≠a):upd H a o b=H b:=by unfold upd; rw[zZ h]
def zqi{H:Hp}{a b:Addr}{o u:HO}(h:H a=some o)(h':H b=some u)(d:o≠u):a≠b:=by
 intro e; subst e; rw[h] at h'; exact d (zU h')
def zao{H:Hp}{a b:Addr}{o:HO}(h:H a=some o)(h':H b=none):a≠b:=by
 intro e; subst e; rw[h] at h'; cases h'
def NoDi(h:Heap)(a:Addr):Prop:=∃o,h.get? a=some o/\o.dict=none
def NoDi.new(h:Heap)(o:Obj)(n:o.dict=none:=by rfl)(f:o.isFreed=false:=by rfl):NoDi (h.push o) h.objs.size:=⟨o,zA _ f,n⟩
section
variable(P:Program)(w:World)
def ObjOk(H:Hp)(h:Heap)(a:Addr):HO->Prop
 | .lst xs=>xs.length<=sizeLine/\∃(its:List Value) (n:Nat),Vals xs its/\h.get? a=some { cls:=.type "list",data:=.seq its.toArray n }
 | .tup xs=>xs.length<=sizeLine/\∃its:List Value,Vals xs its/\IsTup h a its.toArray/\NoDi h a
 | .dK kvs=>kvs.length<=sizeLine/\(a==sysModules)=false/\∃vs,KV kvs vs/\h.DictOf (zat P w) a vs
 | .dT kvs=>kvs.length<=sizeLine/\(a==sysModules)=false/\∃xs:List (List Key×Addr×Value),
   Paired (λ(p:List Key×V) (q:List Key×Addr×Value)=>p.1=q.1/\H q.2.1=some (.tup (p.1.map kV))/\RelV p.2 q.2.2) kvs xs /\
   ∃o es ep,h.get? a=some o/\o.ExactDict/\o.data=.dict es ep/\es.toList=xs.map (entryOfKey (tupleKind (zat P w)))/\(xs.map (·.1)).Nodup
 | .set S n=>h.SetOf (intKind P w) a S n
 | .ins C dx fs=>H dx=some (.own a)/\fs.length<=1000/\dx≠a/\h.get? a=some (PySem.W.instObj C dx) /\
   ∃mA,h.Ns1 dx mA/\(∀f,RelO (fs.lookup f) (mA f))/\PySem.Within mA (fs.map (·.1))
 | .own _=>∃o,h.get? a=some o
 | .xd fs=>∃mA,h.Ns1 a mA/\∀f,RelO (fs.lookup f) (mA f)
 | .rng lo hi=>∃t u v,h.get? a=some { cls:=.type "range",data:=.fields #[.int lo t,.int hi u,.int 1 v] }
 | .frz o u=>h.get? a=some o/\ObjOk H h a u
 | .tbl ps=>h.get? a=some { cls:=.none,data:=.fields ps }
 | .met f x=>h.get? a=some (PySem.W.methodObj (.ref f) (.ref x))
 | .ext φ=>φ h/\(∃o,h.get? a=some o)/\∀h1 h2:Heap,φ h1->(∀o,h1.get? a=some o->h2.get? a=some o)->φ h2
def HOk(H:Hp)(h:Heap):Prop:=∀a o,H a=some o->ObjOk P w H h a o
end
section
variable{P:Program}{w:World}{H H':Hp}{h h':Heap}{a:Addr}{o:HO}
theorem ObjOk.lt(x:ObjOk P w H h a o):a<h.objs.size:=by
 cases o with
 | lst xs=>obtain⟨_,_,_,_,e⟩:=x; exact zJ e
 | tup xs=>obtain⟨_,_,_,p,_⟩:=x; exact p.lt
 | dK kvs=>obtain⟨_,_,_,_,o,_,_,e,_⟩:=x; exact zJ e
 | dT kvs=>obtain⟨_,_,_,_,o,_,_,e,_⟩:=x; exact zJ e
 | set S n=>obtain⟨o,_,_,_,e,_⟩:=x; exact zJ e
 | ins C dx fs=>obtain⟨_,_,_,e,_⟩:=x; exact zJ e
 | own y=>obtain⟨_,e⟩:=x; exact zJ e
 | xd fs=>obtain⟨_,⟨_,_,_,e,_⟩,_⟩:=x; exact zJ e
 | rng lo hi=>obtain⟨_,_,_,e⟩:=x; exact zJ e
 | frz ob u=>obtain⟨e,_⟩:=x; exact zJ e
 | tbl ps=>exact zJ (show h.get? a=some _ from x)
 | met f y=>exact zJ (show h.get? a=some _ from x)
 | ext φ=>obtain⟨_,⟨_,e⟩,_⟩:=x; exact zJ e
theorem Paired.mapP{α β:Type}{F G:α->β->Prop}:∀{l₁:List α} {l₂:List β},Paired F l₁ l₂->(∀a b,F a b->G a b)->Paired G l₁ l₂
 | _,_,.nil,_=>.nil
 | _,_,.cons r t,f=>.cons (f _ _ r) (Paired.mapP t f)
def ObjOk.stay(x:ObjOk P w H h a o)(k:∀b u,(b=a\/H b=some (.own a))->h.get? b=some u->h'.get? b=some u)
  (ho:∀b,H b=some (.own a)->H' b=some (.own a)) (ht:∀b xs,H b=some (.tup xs)->H' b=some (.tup xs)):ObjOk P w H' h' a o:=by
 induction o with
 | lst xs=>obtain⟨z,its,n,r,e⟩:=x; exact⟨z,its,n,r,k _ _ (.inl rfl) e⟩
 | tup xs=>obtain⟨z,its,r,⟨ob,e,c⟩,o2,e2,d2⟩:=x; exact⟨z,its,r,⟨ob,k _ _ (.inl rfl) e,c⟩,o2,k _ _ (.inl rfl) e2,d2⟩
 | dK kvs=>obtain⟨z,y,vs,r,ob,es,ep,e,c⟩:=x; exact⟨z,y,vs,r,ob,es,ep,k _ _ (.inl rfl) e,c⟩
 | dT kvs=>
  obtain⟨z,y,xs,r,ob,es,ep,e,c⟩:=x;exact⟨z,y,xs,Paired.mapP r λp q z=>⟨z.1,ht _ _ z.2.1,z.2.2⟩,ob,es,ep,k _ _ (.inl rfl) e,c⟩
 | set S n=>obtain⟨ob,es,ep,t,e,c⟩:=x; exact⟨ob,es,ep,t,k _ _ (.inl rfl) e,c⟩
 | ins C dx fs=>
  obtain⟨d,z,ne,e,mA,⟨od,es,ep,e2,c⟩,r⟩:=x;exact⟨ho _ d,z,ne,k _ _ (.inl rfl) e,mA,⟨od,es,ep,k _ _ (.inr d) e2,c⟩,r⟩
 | own y=>obtain⟨ob,e⟩:=x; exact⟨ob,k _ _ (.inl rfl) e⟩
 | xd fs=>obtain⟨mA,⟨od,es,ep,e,c⟩,r⟩:=x; exact⟨mA,⟨od,es,ep,k _ _ (.inl rfl) e,c⟩,r⟩
 | rng lo hi=>obtain⟨t,u,v,e⟩:=x; exact⟨t,u,v,k _ _ (.inl rfl) e⟩
 | frz ob u ih=>obtain⟨e,q⟩:=x; exact⟨k _ _ (.inl rfl) e,ih q⟩
 | tbl ps=>
  have e:h.get? a=some { cls:=.none,data:=.fields ps }:=x;show h'.get? a=some { cls:=.none,data:=.fields ps }
  exact k a _ (.inl rfl) e
 | met f y=>
  have e:h.get? a=some (PySem.W.methodObj (.ref f) (.ref y)):=x;show h'.get? a=some (PySem.W.methodObj (.ref f) (.ref y))
  exact k a _ (.inl rfl) e
 | ext φ=>obtain⟨p,⟨o,e⟩,st⟩:=x; exact⟨st _ _ p λo q=>k _ _ (.inl rfl) q,⟨o,k _ _ (.inl rfl) e⟩,st⟩
theorem HOk.lt(x:HOk P w H h)(e:H a=some o):a<h.objs.size:=(x a o e).lt
def HOk.fresh(x:HOk P w H h)(e:h.objs.size<=a):H a=none:=by
 cases q:H a with
 | none=>rfl
 | some u=>exact absurd (zK (x.lt q) e) (jX _)
def HOk.kept(x:HOk P w H h)(k:∀b u,h.get? b=some u->h'.get? b=some u):HOk P w H h':=λa o e=>
 (x a o e).stay (λb u _ q=>k b u q) (λ_ q=>q) λ_ _ q=>q
def HOk.laid(x:HOk P w H h)(k:∀b u,h.get? b=some u->h'.get? b=some u)(hp:h.objs.size<=a)(new:ObjOk P w (upd H a o) h' a o):HOk P w (upd H a o) h':=λb u e=>by
 have hn:=x.fresh hp;by_cases hb:b=a
 .subst hb; rw[zan] at e; cases e; exact new
 .rw[zac hb] at e
  exact(x b u e).stay (λc v _ q=>k c v q) (λc q=>by rw[zac (zao q hn)]; exact q) λc xs q=>by rw[zac (zao q hn)]; exact q
end
def Rd(H:Hp)(a:Addr)(u:HO):Prop:=H a=some u\/∃o,H a=some (.frz o u)
def Rd.ok{P:Program}{w:World}{H:Hp}{h:Heap}{a:Addr}{u:HO}(r:Rd H a u)(x:HOk P w H h):ObjOk P w H h a u:=by
 rcases r with r | ⟨o,r⟩
 .exact x a u r
 .obtain⟨_,q⟩:=x a _ r
  exact q
def Mut:Option HO->Prop
 | some (.lst _)=>True
 | some (.dK _)=>True
 | some (.dT _)=>True
 | some (.set _ _)=>True
 | some (.ins _ _ _)=>True
 | some (.ext _)=>True
 | _=>False
section
variable{P:Program}{w:World}{H:Hp}{h h':Heap}{x e:Addr}{o':HO}
theorem HOk.write(ok:HOk P w H h)(mu:Mut (H x))(he:e=x\/H e=some (.own x))(k:∀b u,b≠e->h.get? b=some u->h'.get? b=some u)(heo:∃u,h'.get? e=some u)
  (new:ObjOk P w (upd H x o') h' x o'):HOk P w (upd H x o') h':=λb u q=>by
 have nown:∀c y,H c=some (.own y)->c≠x:=λc y r z=>by subst z; rw[r] at mu; exact mu
 have ntup:∀c xs,H c=some (.tup xs)->c≠x:=λc xs r z=>by subst z; rw[r] at mu; exact mu
 by_cases hb:b=x
 .subst hb; rw[zan] at q; cases q; exact new
 .rw[zac hb] at q
  by_cases hbe:b=e
  .have q':H b=some (.own x):=by
    rcases he with z | z
    .exact absurd (hbe.trans z) hb
    .rw[hbe]; exact z
   rw[q] at q'; cases q';obtain⟨v,hv⟩:=heo;exact⟨v,by rw[hbe]; exact hv⟩
  .refine(ok b u q).stay (λc v hc r=>k c v ?_ r) (λc r=>by rw[zac (nown c b r)]; exact r) λc xs r=>by rw[zac (ntup c xs r)]; exact r
   rcases hc with rfl | hc
   .exact hbe
   .rintro rfl
    rcases he with z | z
    .exact nown c b hc z
    .rw[hc] at z; cases z; exact hb rfl
end
structure Un(fs ex:List Addr)(H H':Hp)(h h':Heap):Prop where
 keep:∀b o,h.get? b=some o->H b=none->b∉fs->b∉ex->h'.get? b=some o
 slot:∀b o,h.get? b=some o->H b=none->b∈fs->b∉ex->∃sl,h'.get? b=some { o with slots:=sl }
 free:∀b o,h.get? b=some o->H b=none->b∉ex->H' b=none
 there:∀b o,h.get? b=some o->b∉ex->∃o',h'.get? b=some o'
 tups:∀b xs,H b=some (.tup xs)->H' b=some (.tup xs)
 frzs:∀b o u,H b=some (.frz o u)->H' b=some (.frz o u)
 tbls:∀b ps,H b=some (.tbl ps)->∃more,H' b=some (.tbl (ps++more))
section
variable{fs fs' ex ex':List Addr}{H H1 H2:Hp}{h h1 h2 h':Heap}{a x e:Addr}{o:HO}
def Un.any(u:Un fs ex H H1 h h1){b:Addr}{ob:Obj}(q:h.get? b=some ob)(n:H b=none)(hx:b∉ex):∃sl,h1.get? b=some { ob with slots:=sl }:=by
 by_cases hb:b∈fs
 .exact u.slot b ob q n hb hx
 .exact⟨ob.slots,u.keep b ob q n hb hx⟩
def Un.kept(k:∀b u,h.get? b=some u->h'.get? b=some u):Un fs ex H H h h':=
 ⟨λb ob q _ _ _=>k b ob q,λb ob q _ _ _=>⟨ob.slots,k b ob q⟩,λ_ _ _ n _=>n,λb ob q _=>⟨ob,k b ob q⟩,λ_ _ q=>q,λ_ _ _ q=>q,λ_ ps q=>⟨#[],by rw[q]; simp⟩⟩
def Un.refl:Un fs ex H H h h:=Un.kept λ_ _ q=>q
def Un.laid(k:∀b u,h.get? b=some u->h'.get? b=some u)(hp:h.objs.size<=a)(hn:H a=none):Un fs ex H (upd H a o) h h' where
 keep:=λb u q _ _ _=>k b u q
 slot:=λb u q _ _ _=>⟨u.slots,k b u q⟩
 free:=λb u q n _=>by rw[zac (zP (zK (zJ q) hp))]; exact n
 there:=λb u q _=>⟨u,k b u q⟩
 tups:=λb xs q=>by rw[zac (zao q hn)]; exact q
 frzs:=λb u xs q=>by rw[zac (zao q hn)]; exact q
 tbls:=λb ps q=>⟨#[],by rw[zac (zao q hn),q]; simp⟩
def Un.write(mu:Mut (H x))(he:e=x\/H e=some (.own x))(k:∀b u,b≠e->h.get? b=some u->h'.get? b=some u)(heo:∃u,h'.get? e=some u):Un fs ex H (upd H x o) h h':=by
 have hx:∀b,H b=none->b≠x:=λb n z=>by subst z; rw[n] at mu; exact mu
 have hb:∀b,H b=none->b≠e:=λb n z=>by
  subst z;rcases he with r | r
  .exact hx b n r
  .rw[n] at r; cases r
 have hm:∀b u,H b=some u->¬Mut (some u)->b≠x:=λb u q nm z=>by subst z; rw[q] at mu; exact nm mu
 refine⟨λb u q n _ _=>k b u (hb b n) q,λb u q n _ _=>⟨u.slots,k b u (hb b n) q⟩,λb u q n _=>by rw[zac (hx b n)]; exact n,λb u q _=>?_,
  λb xs q=>by rw[zac (hm b _ q λz=>z)]; exact q,λb u xs q=>by rw[zac (hm b _ q λz=>z)]; exact q,λb ps q=>⟨#[],by rw[zac (hm b _ q λz=>z),q]; simp⟩⟩
 by_cases hbe:b=e
 .subst hbe; exact heo
 .exact⟨u,k b u hbe q⟩
end
def trk(h:Heap)(H:Hp):List Addr:=(List.range h.objs.size).filter λa=>(H a).isSome
def hidT(h:Heap)(H:Hp):Heap:=PySem.W.hideAll h (trk h H)
def zjq(h:Heap)(H:Hp):(hidT h H).objs.size=h.objs.size:=PySem.W.hideAll_size _ _
def zk9{h:Heap}{H:Hp}{b:Addr}{o:Obj}(e:h.get? b=some o)(n:H b=none):(hidT h H).get? b=some o:=
 PySem.W.hideAll_get _ e λhm=>by
  have q:(H b).isSome=true:=(jm.mp hm).2;rw[n] at q; simp at q
def zmN{h:Heap}{H:Hp}{b:Addr}{o:Obj}(e:(hidT h H).get? b=some o):h.get? b=some o/\H b=none:=by
 have e':h.get? b=some o:=PySem.W.of_hideAll (trk h H) e;refine⟨e',?_⟩;cases q:H b with
 | none=>rfl
 | some x=>
  have hm:b∈trk h H:=jm.mpr ⟨jY.mpr (zJ e'),by simp[q]⟩;have z:(hidT h H).get? b=none:=PySem.W.hideAll_none (trk h H) hm;rw[z] at e; cases e
end L2
namespace L2
open PySem PySem.Spec PyProof.Rows
structure Mod(K:PySem.W.Frag)(mg:Str->Option Value)(base:Heap):Prop where
 kin:K.In base
 glob:base.Ns mainGlobals mg
 blt:∃mb,base.Ns builtinsNs mb/\∀x:Str,x≠"__name__"->mb x=bootBuiltins x
 nolimit:base.NoLimit
structure Cx where
 prog:Program
 w:World
 K:PySem.W.Frag
 mg:Str->Option Value
 base:Heap
 A:Around
 N:List Str
 s₀:Shared
 H₀:Hp
 env:Env
 outer:List Env
 stack:List Env
 ex:List Addr
 fn:Str->Bool
 calm:Bool
 pn:List (Addr×Obj)
 xe:Value->Shared->Prop
def frs(l:List Env):List Addr:=l.filterMap (·.frame)
abbrev Cx.fs(X:Cx):List Addr:=frs X.outer
def Vis(sc:Scope)(x:Str):Prop:=sc.names.lookup x=some .local\/sc.names.lookup x=some .cell\/sc.names.lookup x=some .free
def Loc(sc:Scope)(x:Str):Prop:=sc.names.lookup x=some .local\/sc.names.lookup x=some .cell
def Look(env:Env)(h:Heap)(m:Str->Option Value)(x:Str)(u:Value):Prop:=
 (env.kindOf x=some .local/\m x=some u)\/((env.kindOf x=some .cell\/env.kindOf x=some .free)/\∃c,env.cells.lookup x=some c/\h.IsCell c (some u))
structure Cx.Ok(X:Cx):Prop where
 mod:Mod X.K X.mg X.base
 kind:X.env.scope.kind=.function
 glob:X.env.globals=mainGlobals
 blt:X.env.builtins=builtinsNs
 above:X.s₀.heap.objs.size<=X.env.locals
 inj:∀x y c,X.env.cells.lookup x=some c->X.env.cells.lookup y=some c->x=y
 has:∀x,(X.env.kindOf x=some .cell\/X.env.kindOf x=some .free)->∃c,X.env.cells.lookup x=some c
 cab:∀x c,X.fn x=true->X.env.cells.lookup x=some c->X.s₀.heap.objs.size<=c
 hd:X.calm=true->X.A.handled=none
 frames:X.A.frames=some X.stack
 stk:X.stack=X.outer\/(X.stack=X.env::X.outer/\X.env.frame=some X.env.locals)
 exf:∀b∈X.ex,b≠X.env.locals/\∀x c,X.env.cells.lookup x=some c->c≠b
 bs:∀b o,X.base.get? b=some o->X.s₀.heap.get? b=some o/\X.H₀ b=none
 bsz:X.base.objs.size<=X.s₀.heap.objs.size
 noex:∀b o,X.base.get? b=some o->b∉X.ex
 exfs:∀b∈X.ex,b∉X.fs
 funs:X.s₀.heap.FunFrames X.base X.outer
 frf:∀b∈X.fs,X.H₀ b=none
structure Inv(X:Cx)(pins:List (Addr×Obj))(σ:List (Option V))(H:Hp)(s:Shared):Prop where
 ok:X.Ok
 os:s.os=X.s₀.os
 bare:AllBare s.gens
 base:Un X.fs X.ex X.H₀ H X.s₀.heap s.heap
 loc:∃m,s.heap.Ns X.env.locals m/\∀(i:Nat) (x:Str) (v:V),X.N[i]?=some x->σ[i]?=some (some v)->Vis X.env.scope x->∃u,RelV v u/\Look X.env s.heap m x u
 cell:∀x c,X.env.cells.lookup x=some c->∃v,s.heap.IsCell c v
 free:H X.env.locals=none
 freeC:∀x c,X.env.cells.lookup x=some c->H c=none
 pin:∀p∈X.pn++pins,s.heap.get? p.1=some p.2/\H p.1=none/\p.1≠X.env.locals/\p.1∉X.fs/\∀v,p.2.data≠.cell v
 hok:HOk X.prog X.w H s.heap
 len:σ.length=X.N.length
section
variable{X:Cx}{pins:List (Addr×Obj)}{σ:List (Option V)}{H H':Hp}{s:Shared}{h':Heap}
def Cx.Ok.nofr(ok:X.Ok){b:Addr}{o:Obj}(e:X.base.get? b=some o):b∉X.fs:=λhb=>by
 have:=(ok.funs.mem hb).1;rw[e] at this; cases this
theorem Inv.bs(I:Inv X pins σ H s):∀b o,X.base.get? b=some o->s.heap.get? b=some o/\H b=none:=λb o e=>
 ⟨I.base.keep b o (I.ok.bs b o e).1 (I.ok.bs b o e).2 (I.ok.nofr e) (I.ok.noex b o e),I.base.free b o (I.ok.bs b o e).1 (I.ok.bs b o e).2 (I.ok.noex b o e)⟩
def Inv.bk(I:Inv X pins σ H s):∀b o,X.base.get? b=some o->s.heap.get? b=some o:=λb o e=>(I.bs b o e).1
theorem Inv.mod(I:Inv X pins σ H s):Mod X.K X.mg X.base:=I.ok.mod
def Inv.kIn(I:Inv X pins σ H s):X.K.In s.heap:=I.ok.mod.kin.keeps I.bk
theorem Inv.lt(I:Inv X pins σ H s):X.env.locals<s.heap.objs.size:=let ⟨_,hn,_⟩:=I.loc; hn.lt
def Inv.sz(I:Inv X pins σ H s):X.s₀.heap.objs.size<=s.heap.objs.size:=zF I.ok.above (qL I.lt)
def Inv.nofs(I:Inv X pins σ H s){a:Addr}(h:s.heap.objs.size<=a):a∉X.fs:=λhb=>by
 obtain⟨_,o,ho,_⟩:=I.ok.funs.mem hb;exact absurd (zK (zJ ho) (zF I.sz h)) (jX _)
def Inv.cne(I:Inv X pins σ H s):∀x c,X.env.cells.lookup x=some c->c≠X.env.locals:=λx c e z=>by
 obtain⟨v,o,ho,hd⟩:=I.cell x c e;obtain⟨m,⟨o',es,ep,ho',hd',_⟩,_⟩:=I.loc;rw[z,ho'] at ho; cases ho; rw[hd'] at hd; cases hd
theorem Inv.funs(I:Inv X pins σ H s):s.heap.FunFrames X.base X.outer:=by
 have all:∀(l:List Env),(∀b∈frs l,b∈X.fs)->X.s₀.heap.FunFrames X.base l->s.heap.FunFrames X.base l:=by
  intro l;induction l with
  | nil=>intro _ _; trivial
  | cons env r ih=>
   intro hs hl;obtain⟨hk,⟨L,o,hf,hn,ho,hd⟩,hr⟩:=hl;have hL:L∈X.fs:=hs L (by unfold frs; rw[vX,hf]; exact zy);obtain⟨sl,e⟩:=I.base.slot L o ho (I.ok.frf L hL) hL λz=>I.ok.exfs L z hL
   exact⟨hk,⟨L,_,hf,hn,e,hd⟩,ih (λb hb=>hs b (by unfold frs; rw[vX,hf]; exact zq _ hb)) hr⟩
 exact all X.outer (λ_ hb=>hb) I.ok.funs
theorem Inv.stack(I:Inv X pins σ H s):s.heap.FunFrames X.base X.stack:=by
 rcases I.ok.stk with e | ⟨e,hf⟩
 .rw[e]; exact I.funs
 .rw[e]
  obtain⟨m,hn,_⟩:=I.loc;refine .cons (by rw[I.ok.kind]; decide) hf hn ?_ I.funs;exact yQ (zF I.ok.bsz I.ok.above)
def Inv.stkSub(I:Inv X pins σ H s):∀b∈frs X.stack,b∈X.env.locals::X.fs:=λb hb=>by
 rcases I.ok.stk with e | ⟨e,hf⟩
 .rw[e] at hb; exact zq _ hb
 .rw[e] at hb
  unfold frs at hb;rw[vX,hf] at hb;exact hb
def Inv.stkFree(I:Inv X pins σ H s):∀b∈frs X.stack,H b=none:=λb hb=>by
 rcases zf.mp (I.stkSub b hb) with e | hb
 .rw[e]; exact I.free
 .obtain⟨_,o,ho,_⟩:=I.ok.funs.mem hb
  exact I.base.free b o ho (I.ok.frf b hb) λz=>I.ok.exfs b z hb
def Inv.step{g':Array GenState}{t':Nat}{d':Drawn}{ch:List Addr}(I:Inv X pins σ H s)
  (hch:∀b∈ch,(b∈X.ex\/X.s₀.heap.objs.size<=b)/\b≠X.env.locals/\(∀x c,X.env.cells.lookup x=some c->c≠b)/\∀p∈X.pn++pins,p.1≠b)
  (keep:∀b o,b≠X.env.locals->b∉X.fs->b∉ch->s.heap.get? b=some o->H b=none->h'.get? b=some o)
  (slot:∀b o,b≠X.env.locals->b∈X.fs->b∉ch->s.heap.get? b=some o->H b=none->∃sl,h'.get? b=some { o with slots:=sl }) (free:∀b o,b∉ch->s.heap.get? b=some o->H b=none->H' b=none)
  (there:∀b o,b∉ch->s.heap.get? b=some o->∃o',h'.get? b=some o')
  (tups:∀b xs,H b=some (.tup xs)->H' b=some (.tup xs)) (frzs:∀b o u,H b=some (.frz o u)->H' b=some (.frz o u)) (tbls:∀b ps,H b=some (.tbl ps)->∃more,H' b=some (.tbl (ps++more)))
  (ns:∀m,s.heap.Ns X.env.locals m->h'.Ns X.env.locals m) (hok:HOk X.prog X.w H' h') (hg:AllBare g') :
  Inv X pins σ H' { s with heap:=h',gens:=g',drawn:=d',toks:=t' }:=by
 have neL:∀b o,X.s₀.heap.get? b=some o->b≠X.env.locals:=λb o e=>zP (zK (zJ e) I.ok.above)
 have neC:∀b o,X.s₀.heap.get? b=some o->b∉X.ex->b∉ch:=λb o e hx hb=>by
  rcases(hch b hb).1 with z | z
  .exact hx z
  .exact absurd (zK (zJ e) z) (jX _)
 have cellK:∀x c,X.env.cells.lookup x=some c->∀v,s.heap.IsCell c v->h'.IsCell c v:=λx c e v ⟨o,ho,hd⟩=>by
  have nch:c∉ch:=λz=>(hch c z).2.2.1 x c e rfl
  by_cases hc:c∈X.fs
  .obtain⟨sl,q⟩:=slot c o (I.cne x c e) hc nch ho (I.freeC x c e)
   exact⟨_,q,hd⟩
  .exact⟨o,keep c o (I.cne x c e) hc nch ho (I.freeC x c e),hd⟩
 refine⟨I.ok,I.os,hg,⟨λb o e n hb hx=>?_,λb o e n hb hx=>?_,λb o e n hx=>?_,λb o e hx=>?_,λb xs e=>tups b xs (I.base.tups b xs e),λb o xs e=>frzs b o xs (I.base.frzs b o xs e),λb ps e=>?_⟩,?_,λx c e=>?_,?_,λx c e=>?_,λp hp=>?_,hok,I.len⟩
 .exact keep b o (neL b o e) hb (neC b o e hx) (I.base.keep b o e n hb hx) (I.base.free b o e n hx)
 .obtain⟨sl,e1⟩:=I.base.slot b o e n hb hx
  obtain⟨sl',e2⟩:=slot b _ (neL b o e) hb (neC b o e hx) e1 (I.base.free b o e n hx);exact⟨sl',e2⟩
 .obtain⟨o',e1⟩:=I.base.there b o e hx
  exact free b o' (neC b o e hx) e1 (I.base.free b o e n hx)
 .obtain⟨o',e1⟩:=I.base.there b o e hx
  exact there b o' (neC b o e hx) e1
 .obtain⟨m1,e1⟩:=I.base.tbls b ps e
  obtain⟨m2,e2⟩:=tbls b _ e1;exact⟨m1++m2,by rw[e2,Array.append_assoc]⟩
 .obtain⟨m,hn,hl⟩:=I.loc
  refine⟨m,ns m hn,λi x v e1 e2 e3=>?_⟩;obtain⟨u,r,l⟩:=hl i x v e1 e2 e3;refine⟨u,r,?_⟩;rcases l with l | ⟨k,c,e,z⟩
  .exact .inl l
  .exact .inr ⟨k,c,e,cellK x c e _ z⟩
 .obtain⟨v,z⟩:=I.cell x c e
  exact⟨v,cellK x c e v z⟩
 .obtain⟨m,⟨o,_,_,ho,_⟩,_⟩:=I.loc
  exact free _ o (λz=>(hch _ z).2.1 rfl) ho I.free
 .obtain⟨v,o,ho,hd⟩:=I.cell x c e
  exact free c o (λz=>(hch c z).2.2.1 x c e rfl) ho (I.freeC x c e)
 .obtain⟨e,n,ne,nf,d⟩:=I.pin p hp
  have nch:p.1∉ch:=λz=>(hch p.1 z).2.2.2 p hp rfl
  exact⟨keep p.1 p.2 ne nf nch e n,free p.1 p.2 nch e n,ne,nf,d⟩
def Inv.un{t':Nat}(I:Inv X pins σ H s)(u:Un X.fs [] H H' s.heap h')(hok:HOk X.prog X.w H' h'):Inv X pins σ H' { s with heap:=h',toks:=t' }:=by
 obtain⟨m,⟨o,es,ep,ho,r⟩,_⟩:=id I.loc;obtain⟨sl,hL⟩:=u.any ho I.free (by simp)
 exact I.step (g':=s.gens) (d':=s.drawn) (ch:=[]) (λ_ z=>nomatch z) (λb o _ hb _ e n=>u.keep b o e n hb (by simp)) (λb o _ hb _ e n=>u.slot b o e n hb (by simp)) (λb o _ e n=>u.free b o e n (by simp)) (λb o _ e=>u.there b o e (by simp)) u.tups u.frzs u.tbls (λm' hm=>by
  obtain⟨o',es',ep',ho',r'⟩:=hm;rw[ho] at ho'; cases ho'
  exact⟨_,es',ep',hL,r'⟩) hok I.bare
def Inv.call{g':Array GenState}{t':Nat}{d':Drawn}{ch:List Addr}(I:Inv X pins σ H s)(u:Un (frs X.stack) ch H H' s.heap h')(hok:HOk X.prog X.w H' h')(hg:AllBare g')
  (hch:∀b∈ch,(b∈X.ex\/X.s₀.heap.objs.size<=b)/\b≠X.env.locals/\(∀x c,X.env.cells.lookup x=some c->c≠b)/\∀p∈X.pn++pins,p.1≠b) :
  Inv X pins σ H' { s with heap:=h',gens:=g',drawn:=d',toks:=t' }:=by
 obtain⟨m,⟨o,es,ep,ho,r⟩,_⟩:=id I.loc;obtain⟨sl,hL⟩:=u.any ho I.free λz=>(hch _ z).2.1 rfl
 exact I.step (ch:=ch) hch (λb o hL hb hc e n=>u.keep b o e n (λz=>(zf.mp (I.stkSub b z)).elim hL hb) hc) (λb o _ _ hc e n=>u.any e n hc) (λb o hc e n=>u.free b o e n hc) (λb o hc e=>u.there b o e hc) u.tups u.frzs u.tbls (λm' hm=>by
  obtain⟨o',es',ep',ho',r'⟩:=hm;rw[ho] at ho'; cases ho'
  exact⟨_,es',ep',hL,r'⟩) hok hg
def Inv.turned{t':Nat}{it:Addr}(I:Inv X pins σ H s)(k:∀b o,b≠it->s.heap.get? b=some o->h'.get? b=some o)(hn:H it=none)(hL:it≠X.env.locals)
  (h1:it∈X.ex\/X.s₀.heap.objs.size<=it) (h2:∀x c,X.env.cells.lookup x=some c->c≠it) (h3:∀p∈X.pn++pins,p.1≠it):Inv X pins σ H { s with heap:=h',toks:=t' }:=by
 have nit:∀b u,H b=some u->b≠it:=λb u e z=>by rw[z,hn] at e; cases e
 refine I.step (g':=s.gens) (d':=s.drawn) (ch:=[it]) (λb hb=>?_) (λb o _ _ hc e _=>k b o (λz=>hc (by simp[z])) e) (λb o _ _ hc e _=>⟨o.slots,k b o (λz=>hc (by simp[z])) e⟩) (λ_ _ _ _ n=>n)
  (λb o hc e=>⟨o,k b o (λz=>hc (by simp[z])) e⟩) (λ_ _ e=>e) (λ_ _ _ e=>e) (λb ps e=>⟨#[],by rw[e]; simp⟩) (λm hm=>?_) (λb u e=>?_) I.bare
 .have e:b=it:=by simpa using hb
  subst e;exact⟨h1,hL,h2,h3⟩
 .obtain⟨o,es,ep,ho,r⟩:=hm
  exact⟨o,es,ep,k _ o (jk hL) ho,r⟩
 .refine(I.hok b u e).stay (λc v hc q=>k c v ?_ q) (λ_ q=>q) λ_ _ q=>q
  rcases hc with z | z
  .rw[z]; exact nit b u e
  .exact nit c _ z
def Inv.tok(I:Inv X pins σ H s)(t:Nat):Inv X pins σ H { s with toks:=t }:=I.un (h':=s.heap) (t':=t) Un.refl I.hok
theorem Inv.kept{t':Nat}(I:Inv X pins σ H s)(k:∀b u,s.heap.get? b=some u->h'.get? b=some u):Inv X pins σ H { s with heap:=h',toks:=t' }:=I.un (Un.kept k) (I.hok.kept k)
theorem Inv.laid{a:Addr}{o:HO}{t':Nat}(I:Inv X pins σ H s)(k:∀b u,s.heap.get? b=some u->h'.get? b=some u)(hp:s.heap.objs.size<=a)(new:ObjOk X.prog X.w (upd H a o) h' a o) :
  Inv X pins σ (upd H a o) { s with heap:=h',toks:=t' }:=I.un (Un.laid k hp (I.hok.fresh hp)) (I.hok.laid k hp new)
theorem Inv.write{x e:Addr}{o:HO}{t':Nat}(I:Inv X pins σ H s)(mu:Mut (H x))(he:e=x\/H e=some (.own x))(k:∀b u,b≠e->s.heap.get? b=some u->h'.get? b=some u)(heo:∃u,h'.get? e=some u)
  (new:ObjOk X.prog X.w (upd H x o) h' x o):Inv X pins σ (upd H x o) { s with heap:=h',toks:=t' }:=I.un (Un.write mu he k heo) (I.hok.write mu he k heo new)
def Inv.pins_of{pins':List (Addr×Obj)}(I:Inv X pins σ H s)(h:∀p∈pins',s.heap.get? p.1=some p.2/\H p.1=none/\p.1≠X.env.locals/\p.1∉X.fs/\∀v,p.2.data≠.cell v):Inv X pins' σ H s:=
 ⟨I.ok,I.os,I.bare,I.base,I.loc,I.cell,I.free,I.freeC,λp hp=>(zx.mp hp).elim (λz=>I.pin p (yp _ z)) (h p),I.hok,I.len⟩
def zgt{N:List Str}(hN:N.Nodup){i j:Nat}{x:Str}(a:N[i]?=some x)(b:N[j]?=some x):i=j:=by
 obtain⟨h1,e1⟩:=zE.mp a;obtain⟨h2,e2⟩:=zE.mp b;exact(wO hN).mp (e1.trans e2.symm)
def zeZ{M:Model}{A:Around}{E:Value->Shared->Prop}{i:Nat}{x:Str}{v:V}{u:Value}{Q:Unit->Shared->Prop}(I:Inv X pins σ H s)(hN:X.N.Nodup)(hi:X.N[i]?=some x)(hx:Loc X.env.scope x)(r:RelV v u)
  (h:∀s',Inv X pins (σ.set i (some v)) H s'->(∃a,Heap.SameBut a s.heap s'.heap/\(a=X.env.locals\/X.env.cells.lookup x=some a))->Q () s') (hf:X.fn x=true\/X.env.scope.names.lookup x=some .local:=by first | exact .inl rfl | exact .inr rfl | assumption):wpAny M A (storeName X.env x u) Q E s:=by
 obtain⟨m,hn,hl⟩:=id I.loc;have hcls:(X.env.scope.kind==.class||(X.env.scope.kind==.module&&X.env.locals != X.env.globals))=false:=by rw[I.ok.kind]; rfl
 have hiσ:i<σ.length:=by rw[I.len]; exact(zE.mp hi).1
 have cne:=I.cne;have tracked:∀{a:Addr} {h':Heap},(∃o,s.heap.get? a=some o/\H a=none)->Heap.SameBut a s.heap h'->HOk X.prog X.w H h':=λ{a h'} ha hs b ob e=>by
  obtain⟨_,_,hfree⟩:=ha;refine(I.hok b ob e).stay (λc w' hc q=>(hs.2 c ?_).trans q) (λ_ q=>q) λ_ _ q=>q
  rintro rfl;rcases hc with rfl | hc
  .rw[hfree] at e; cases e
  .rw[hfree] at hc; cases hc
 rcases hx with hk | hk
 .refine wpAny_storeName_local hk hn (λh' hn' hs=>?_) hcls
  obtain⟨oL,_,_,hoL,_⟩:=id hn;refine h _ ⟨I.ok,I.os,I.bare,⟨λb o e n hb hx=>?_,λb o e n hb hx=>?_,I.base.free,λb o e hx=>?_,I.base.tups,I.base.frzs,I.base.tbls⟩,⟨_,hn',λj y v' e1 e2 e3=>?_⟩,λy c e=>?_,I.free,I.freeC,λp hp=>?_,tracked ⟨oL,hoL,I.free⟩ hs,by simpa using I.len⟩ ⟨_,hs,.inl rfl⟩
  .exact(hs.2 b (zP (zK (zJ e) I.ok.above))).trans (I.base.keep b o e n hb hx)
  .obtain⟨sl,e1⟩:=I.base.slot b o e n hb hx
   exact⟨sl,(hs.2 b (zP (zK (zJ e) I.ok.above))).trans e1⟩
  .obtain⟨o',e1⟩:=I.base.there b o e hx
   exact⟨o',(hs.2 b (zP (zK (zJ e) I.ok.above))).trans e1⟩
  .by_cases hj:j=i
   .subst hj
    rw[hi] at e1; cases e1;rw[qJ hiσ] at e2;cases e2;exact⟨u,r,.inl ⟨hk,by simp⟩⟩
   .rw[qP (jk hj)] at e2
    obtain⟨u',r',q⟩:=hl j y v' e1 e2 e3;refine⟨u',r',?_⟩;rcases q with ⟨k,e⟩ | ⟨k,c,e,z⟩
    .refine .inl ⟨k,?_⟩
     have:y≠x:=λe=>hj (zgt hN e1 (e▸hi))
     simp[this,e]
    .exact .inr ⟨k,c,e,z.sameBut hs (cne y c e)⟩
  .obtain⟨w',z⟩:=I.cell y c e
   exact⟨w',z.sameBut hs (cne y c e)⟩
  .obtain⟨e,n,ne,nf,d⟩:=I.pin p hp
   exact⟨(hs.2 p.1 ne).trans e,n,ne,nf,d⟩
 .have hfn:X.fn x=true:=by
   rcases hf with z | z
   .exact z
   .rw[z] at hk; cases hk
  obtain⟨c,hc⟩:=I.ok.has x (.inl hk);obtain⟨w',z⟩:=I.cell x c hc;refine wpAny_storeName_cell I.ok.kind hk hc z (λh' hc' hs=>?_);obtain⟨oc,hoc,hocd⟩:=id z;refine h { s with heap:=h' } ⟨I.ok,I.os,I.bare,⟨λb o e n hb hx=>?_,λb o e n hb hx=>?_,I.base.free,λb o e hx=>?_,I.base.tups,I.base.frzs,I.base.tbls⟩,⟨m,hn.sameBut hs (jk (cne x c hc)),λj y v' e1 e2 e3=>?_⟩,λy c' e=>?_,I.free,I.freeC,λp hp=>?_,tracked ⟨oc,hoc,I.freeC x c hc⟩ hs,by simpa using I.len⟩ ⟨c,hs,.inr hc⟩
  .exact(hs.2 b (zP (zK (zJ e) (I.ok.cab x c hfn hc)))).trans (I.base.keep b o e n hb hx)
  .obtain⟨sl,e1⟩:=I.base.slot b o e n hb hx
   exact⟨sl,(hs.2 b (zP (zK (zJ e) (I.ok.cab x c hfn hc)))).trans e1⟩
  .obtain⟨o',e1⟩:=I.base.there b o e hx
   exact⟨o',(hs.2 b (zP (zK (zJ e) (I.ok.cab x c hfn hc)))).trans e1⟩
  .by_cases hj:j=i
   .subst hj
    rw[hi] at e1; cases e1;rw[qJ hiσ] at e2;cases e2;exact⟨u,r,.inr ⟨.inl hk,c,hc,hc'⟩⟩
   .rw[qP (jk hj)] at e2
    obtain⟨u',r',q⟩:=hl j y v' e1 e2 e3;refine⟨u',r',?_⟩;rcases q with q | ⟨k,c',e,z'⟩
    .exact .inl q
    .refine .inr ⟨k,c',e,z'.sameBut hs ?_⟩
     rintro rfl;exact hj (zgt hN e1 (I.ok.inj _ _ _ e hc▸hi))
  .by_cases hcc:c'=c
   .subst hcc; exact⟨_,hc'⟩
   .obtain⟨w2,z2⟩:=I.cell y c' e
    exact⟨w2,z2.sameBut hs hcc⟩
  .obtain⟨e,n,ne,nf,d⟩:=I.pin p hp
   refine⟨(hs.2 p.1 ?_).trans e,n,ne,nf,d⟩;intro q;rw[q,hoc] at e;have q':oc=p.2:=zU e;exact d w' (by rw[<-q']; exact hocd)
def zdz{M:Model}{A:Around}{E:Value->Shared->Prop}{i:Nat}{x:Str}{v:V}{u:Value}{Q:Unit->Shared->Prop}(I:Inv X pins σ H s)(hN:X.N.Nodup)(hi:X.N[i]?=some x)(hx:Loc X.env.scope x)(r:RelV v u)
  (h:∀s',Inv X pins (σ.set i (some v)) H s'->Q () s') (hf:X.fn x=true\/X.env.scope.names.lookup x=some .local:=by first | exact .inl rfl | exact .inr rfl | assumption):wpAny M A (storeName X.env x u) Q E s:=
 zeZ I hN hi hx r (λs' I' _=>h s' I') hf
def Inv.call'{s':Shared}{ch:List Addr}(I:Inv X pins σ H s)(ho:s'.os=s.os)(u:Un (frs X.stack) ch H H' s.heap s'.heap)(hok:HOk X.prog X.w H' s'.heap)(hg:AllBare s'.gens)
  (hch:∀b∈ch,(b∈X.ex\/X.s₀.heap.objs.size<=b)/\b≠X.env.locals/\(∀x c,X.env.cells.lookup x=some c->c≠b)/\∀p∈X.pn++pins,p.1≠b):Inv X pins σ H' s':=by
 obtain⟨h',g',d',t',o'⟩:=s';have e:o'=s.os:=ho;subst e;exact I.call (g':=g') (t':=t') (d':=d') u hok hg hch
end
abbrev XK:=Value->Option Addr->Hp->Prop
abbrev St:=List (Option V)
abbrev VK:=V->Hp->Prop
abbrev TE:=St->Hp->VK->Prop
abbrev TT:=St->Hp->(Bool->Hp->Prop)->Prop
abbrev TA:=St->Hp->(List V->Hp->Prop)->Prop
structure Ends where
 nx:St->Hp->Prop
 rt:VK
 bk:St->Hp->Prop:=λ_ _=>False
 ct:St->Hp->Prop:=λ_ _=>False
abbrev TS:=Ends->St->Hp->Prop
def EP(X:Cx)(pins:List (Addr×Obj))(σ:St)(Q:VK)(u:Value)(s':Shared):Prop:=∃v H',Inv X pins σ H' s'/\RelV v u/\Q v H'
def TP(X:Cx)(pins:List (Addr×Obj))(σ:St)(Q:Bool->Hp->Prop)(b:Bool)(s':Shared):Prop:=∃H',Inv X pins σ H' s'/\Q b H'
def AP(X:Cx)(pins:List (Addr×Obj))(σ:St)(Q:List V->Hp->Prop)(us:List Value)(s':Shared):Prop:=∃vs H',Inv X pins σ H' s'/\Vals vs us/\Q vs H'
def SP(X:Cx)(pins:List (Addr×Obj))(D:Ends)(f:Flow)(s':Shared):Prop:=
 match f with
 | .next=>∃σ' H',Inv X pins σ' H' s'/\D.nx σ' H'
 | .brk=>∃σ' H',Inv X pins σ' H' s'/\D.bk σ' H'
 | .cont=>∃σ' H',Inv X pins σ' H' s'/\D.ct σ' H'
 | .ret u=>∃v σ' H',Inv X pins σ' H' s'/\RelV v u/\D.rt v H'
def PE(X:Cx)(e:Expr)(t:TE):Prop:=
 ∀(pins:List (Addr×Obj)) (s:Shared) (σ:St) (H:Hp) (Q:VK),Inv X pins σ H s->t σ H Q->wpAny (model X.prog X.w) X.A (eval e X.env) (EP X pins σ Q) X.xe s
def PT(X:Cx)(e:Expr)(t:TT):Prop:=
 ∀(pins:List (Addr×Obj)) (s:Shared) (σ:St) (H:Hp) (Q:Bool->Hp->Prop),Inv X pins σ H s->t σ H Q->wpAny (model X.prog X.w) X.A (isTrue e X.env (eval e X.env)) (TP X pins σ Q) X.xe s
def PW(X:Cx)(e:Expr)(t:TT):Prop:=
 ∀(whole:Sem Value) (pins:List (Addr×Obj)) (s:Shared) (σ:St) (H:Hp) (Q:Bool->Hp->Prop),Inv X pins σ H s->t σ H Q->wpAny (model X.prog X.w) X.A (isTrue e X.env whole) (TP X pins σ Q) X.xe s
def PW.pt{X:Cx}{e:Expr}{t:TT}(h:PW X e t):PT X e t:=h _
def PA(X:Cx)(es:List Expr)(t:TA):Prop:=
 ∀(pos:Pos) (pins:List (Addr×Obj)) (s:Shared) (σ:St) (H:Hp) (Q:List V->Hp->Prop),Inv X pins σ H s->t σ H Q->wpAny (model X.prog X.w) X.A (spliced (backTo pos (starEach es X.env))) (AP X pins σ Q) X.xe s
def PS(X:Cx)(st:Stmt)(t:TS):Prop:=
 ∀(pins:List (Addr×Obj)) (s:Shared) (σ:St) (H:Hp) (D:Ends),Inv X pins σ H s->t D σ H->wpAny (model X.prog X.w) X.A (exec st X.env) (SP X pins D) X.xe s
def PSs(X:Cx)(st:List Stmt)(t:TS):Prop:=
 ∀(pins:List (Addr×Obj)) (s:Shared) (σ:St) (H:Hp) (D:Ends),Inv X pins σ H s->t D σ H->wpAny (model X.prog X.w) X.A (execs st X.env) (SP X pins D) X.xe s
def thn{α:Type}{t:Sem α}{Q Q':α->Shared->Prop}{M:Model}{A:Around}{E:Value->Shared->Prop}{s:Shared}(h:wpAny M A t Q E s)(hQ:∀a s,Q a s->Q' a s):wpAny M A t Q' E s:=jV h hQ λ_ _ x=>x
end L2
namespace L2
open PySem PySem.Spec PyProof.Rows
section
variable{X:Cx}
def tVar(i:Nat):TE:=λσ H Q=>∃v,σ[i]?=some (some v)/\Q v H
def tC(v:V):TE:=λ_ H Q=>Q v H
def znR{i:Nat}{x:Str}{pos:Pos}(hN:X.N[i]?=some x)(hv:Vis X.env.scope x)(hd:(x==("__debug__":Str))=false:=by decide)(hcd:(x==("__classdict__":Str))=false:=by decide):PE X (.Name x pos) (tVar i):=by
 intro pins s σ H Q I h;obtain⟨v,e,h⟩:=h;obtain⟨m,hn,hl⟩:=I.loc;obtain⟨u,r,l⟩:=hl i x v hN e hv;have fin:EP X pins σ Q u s:=⟨v,H,I,r,h⟩;rcases l with ⟨hk,hm⟩ | ⟨hk,c,hc,hcell⟩
 .exact wpAny_Name (wpAny_loadName_local I.ok.kind hk hn hm fin) hd
 .rcases hk with hk | hk
  .exact wpAny_Name (wpAny_loadName_cell I.ok.kind hk hc hcell fin) hd
  .exact wpAny_Name (wpAny_loadName_free I.ok.kind hk hc hcell fin hcd) hd
def znQ{i j pos}:PE X (.Constant (.int i) j pos) (tC (.int i)):=λ_ _ _ H _ I h=>wpAny_Constant_int ⟨.int i,H,I.tok _,⟨_,rfl⟩,h⟩
def zqc{b j pos}:PE X (.Constant (.bool b) j pos) (tC (.bl b)):=λ_ _ _ H _ I h=>Constant_bool ⟨.bl b,H,I,rfl,h⟩
def zoo{j pos}:PE X (.Constant .none j pos) (tC .non):=λ_ _ _ H _ I h=>Constant_none ⟨.non,H,I,rfl,h⟩
def zpf{x j pos}:PE X (.Constant (.str x) j pos) (tC (.str x)):=λ_ _ _ H _ I h=>Calls.Constant_str ⟨.str x,H,I.tok _,⟨_,rfl⟩,h⟩
def Gl(X:Cx)(x:Str):Prop:=X.env.kindOf x=some .globalImplicit
def zeB{E:Value->Shared->Prop}{pins:List (Addr×Obj)}{s:Shared}{σ:St}{H:Hp}{x:Str}{u:Value}{pos:Pos}{Q:Value->Shared->Prop}(I:Inv X pins σ H s)(hg:Gl X x)(hm:X.mg x=some u)(h:Q u s)
  (hd:(x==("__debug__":Str))=false:=by decide):wpAny (model X.prog X.w) X.A (eval (.Name x pos) X.env) Q E s:=
 uJ I.ok.kind hg (Calls.loadGlobal_global (by rw[I.ok.glob]; exact I.mod.glob.keeps I.bk) hm h) hd
def zbu{E:Value->Shared->Prop}{pins:List (Addr×Obj)}{s:Shared}{σ:St}{H:Hp}{x:Str}{u:Value}{pos:Pos}{Q:Value->Shared->Prop}(I:Inv X pins σ H s)(hg:Gl X x)(hm:X.mg x=none)(hv:bootBuiltins x=some u)(h:Q u s)
  (hn:x≠"__name__":=by decide) (hd:(x==("__debug__":Str))=false:=by decide):wpAny (model X.prog X.w) X.A (eval (.Name x pos) X.env) Q E s:=by
 obtain⟨mb,h1,h2⟩:=I.mod.blt;exact uJ I.ok.kind hg (Calls.loadGlobal_builtin (by rw[I.ok.glob]; exact I.mod.glob.keeps I.bk) hm (by rw[I.ok.blt]; exact h1.keeps I.bk) ((h2 x hn).trans hv) h) hd
def zc4{x:Str}{v:V}{u:Value}{pos:Pos}(hg:Gl X x)(hm:X.mg x=some u)(r:RelV v u)(hd:(x==("__debug__":Str))=false:=by decide):PE X (.Name x pos) (tC v):=
 λ_ _ _ H _ I h=>zeB I hg hm ⟨v,H,I,r,h⟩ hd
def zna{x:Str}{v:V}{u:Value}{pos:Pos}(hg:Gl X x)(hm:X.mg x=none)(hv:bootBuiltins x=some u)(r:RelV v u)(hn:x≠"__name__":=by decide)(hd:(x==("__debug__":Str))=false:=by decide):PE X (.Name x pos) (tC v):=
 λ_ _ _ H _ I h=>zbu I hg hm hv ⟨v,H,I,r,h⟩ hn hd
variable{a b:Expr}{ta tb:TE}{pos:Pos}
def tB(t:TE):TT:=λσ H Q=>t σ H λx H1=>∃c,x=.bl c/\Q c H1
def znN{e:Expr}{t:TE}(h:PE X e t)(he:∀whole,isTrue e X.env whole=(do let v <-whole; standAt e.pos; holding [v] (truthy v)):=by intro _; rfl):PT X e (tB t):=by
 intro pins s σ H Q I hw;refine isTrue_plain (thn (h pins s σ H _ I hw) λv s1 ⟨x,H1,I1,r1,q1⟩=>?_) (he _);obtain⟨d,rfl,q⟩:=q1;cases r1;exact j6 ⟨H1,I1,q⟩
variable{tA tB':TT}{rest:List Expr}
def tAnd(t u:TT):TT:=λσ H Q=>t σ H λc H1=>if c=true then u σ H1 Q else Q false H1
def tOr(t u:TT):TT:=λσ H Q=>t σ H λc H1=>if c=true then Q true H1 else u σ H1 Q
def tNot(t:TT):TT:=λσ H Q=>t σ H λc H1=>Q (!c) H1
def pw_and1(ha:PT X a tA):PW X (.BoolOp .And [a] pos) tA:=by
 intro wh pins s σ H Q I h;refine isTrue_and (thn (ha pins s σ H Q I h) λc s1 e=>?_);cases c with
 | true=>exact isTrue_and_nil e
 | false=>exact e
def pw_or1(ha:PT X a tA):PW X (.BoolOp .Or [a] pos) tA:=by
 intro wh pins s σ H Q I h;refine isTrue_or (thn (ha pins s σ H Q I h) λc s1 e=>?_);cases c with
 | false=>exact isTrue_or_nil e
 | true=>exact e
def pw_and(ha:PT X a tA)(hb:PW X (.BoolOp .And (b::rest) pos) tB'):PW X (.BoolOp .And (a::b::rest) pos) (tAnd tA tB'):=by
 intro wh pins s σ H Q I h;refine isTrue_and (thn (ha pins s σ H _ I h) λc s1 ⟨H1,I1,q1⟩=>?_);cases c with
 | true=>exact hb wh pins s1 σ H1 Q I1 q1
 | false=>exact⟨H1,I1,q1⟩
def pw_or(ha:PT X a tA)(hb:PW X (.BoolOp .Or (b::rest) pos) tB'):PW X (.BoolOp .Or (a::b::rest) pos) (tOr tA tB'):=by
 intro wh pins s σ H Q I h;refine isTrue_or (thn (ha pins s σ H _ I h) λc s1 ⟨H1,I1,q1⟩=>?_);cases c with
 | true=>exact⟨H1,I1,q1⟩
 | false=>exact hb wh pins s1 σ H1 Q I1 q1
def zpB(ha:PT X a tA):PT X (.UnaryOp .Not a pos) (tNot tA):=by
 intro pins s σ H Q I h;exact isTrue_not (ha pins s σ H (λc H1=>Q (!c) H1) I h)
def zqm(ta tb:TE):TE:=λσ H Q=>ta σ H λx H1=>∃c,x=.bl c/\if c=true then tb σ H1 Q else Q (.bl false) H1
def tOrV(ta tb:TE):TE:=λσ H Q=>ta σ H λx H1=>∃c,x=.bl c/\if c=true then Q (.bl true) H1 else tb σ H1 Q
def zpU(ta:TE):TE:=λσ H Q=>ta σ H λx H1=>∃c,x=.bl c/\Q (.bl (!c)) H1
def zoY{op}{t:TE}(h:PE X a t):PE X (.BoolOp op [a] pos) t:=λpins s σ H Q I hw=>BoolOp_one (h pins s σ H Q I hw)
def zov(ha:PE X a ta)(hb:PE X (.BoolOp .And (b::rest) pos) tb):PE X (.BoolOp .And (a::b::rest) pos) (zqm ta tb):=by
 intro pins s σ H Q I h;refine BoolOp_and (thn (ha pins s σ H _ I h) λv s1 ⟨x,H1,I1,r1,q1⟩=>?_);obtain⟨c,rfl,q1⟩:=q1;cases r1;refine j6 ?_;cases c with
 | true=>exact hb pins s1 σ H1 Q I1 q1
 | false=>exact⟨.bl false,H1,I1,rfl,q1⟩
def zqz(ha:PE X a ta)(hb:PE X (.BoolOp .Or (b::rest) pos) tb):PE X (.BoolOp .Or (a::b::rest) pos) (tOrV ta tb):=by
 intro pins s σ H Q I h;refine BoolOp_or (thn (ha pins s σ H _ I h) λv s1 ⟨x,H1,I1,r1,q1⟩=>?_);obtain⟨c,rfl,q1⟩:=q1;cases r1;refine j6 ?_;cases c with
 | false=>exact hb pins s1 σ H1 Q I1 q1
 | true=>exact⟨.bl true,H1,I1,rfl,q1⟩
def zo2(ha:PE X a ta):PE X (.UnaryOp .Not a pos) (zpU ta):=by
 intro pins s σ H Q I h;refine UnaryOp_ (thn (ha pins s σ H _ I h) λv s1 ⟨x,H1,I1,r1,q1⟩=>?_);obtain⟨c,rfl,q1⟩:=q1;cases r1;exact not_of (j6 ⟨.bl (!c),H1,I1,rfl,q1⟩)
def tIf(t:TT)(ta tb:TE):TE:=λσ H Q=>t σ H λc H1=>if c=true then ta σ H1 Q else tb σ H1 Q
def zlk{c:Expr}(hc:PT X c tA)(ha:PE X a ta)(hb:PE X b tb):PE X (.IfExp c a b pos) (tIf tA ta tb):=by
 intro pins s σ H Q I h;refine wpAny_IfExp (thn (hc pins s σ H _ I h) λd s1 ⟨H1,I1,q1⟩=>?_);cases d with
 | true=>exact ha pins s1 σ H1 Q I1 q1
 | false=>exact hb pins s1 σ H1 Q I1 q1
end
end L2
namespace L2
open PySem PySem.Spec PyProof.Rows
def SqL(K:PySem.W.Frag)(H:Hp)(a:Addr)(xs:List V):Prop:=
 Rd H a (.lst xs) \/
  ∃(o:Obj) (its:Array Value) (n:Nat),K.lookup a=some o/\o.cls=.type "list" /\ o.dict=none/\o.data=.seq its n/\its.size<=sizeLine/\Vals xs its.toList
def SqT(K:PySem.W.Frag)(H:Hp)(a:Addr)(xs:List V):Prop:=
 Rd H a (.tup xs) \/
  ∃(o:Obj) (its:Array Value) (n:Nat),K.lookup a=some o/\(o.cls=.type "tuple" /\ o.dict=none)/\o.data=.seq its n/\its.size<=sizeLine/\Vals xs its.toList
def absV:Value->Option V
 | .none=>some .non
 | .bool b=>some (.bl b)
 | .int i _=>some (.int i)
 | .str x _=>some (.str x)
 | .bytes b _=>some (.byt b)
 | .float b _=>some (.flt b)
 | .ref a=>some (.ref a)
 | .type n=>some (.ty n)
 | _=>none
theorem RelV.abs{x:V}{u:Value}(r:RelV x u):absV u=some x:=by
 cases x with
 | non=>cases r; rfl
 | bl _=>cases r; rfl
 | int _=>obtain⟨t,rfl⟩:=r; rfl
 | str _=>obtain⟨t,rfl⟩:=r; rfl
 | byt _=>obtain⟨t,rfl⟩:=r; rfl
 | flt _=>obtain⟨t,rfl⟩:=r; rfl
 | ref _=>cases r; rfl
 | ty _=>cases r; rfl
theorem RelV.inj{x y:V}{u:Value}(r:RelV x u)(q:RelV y u):x=y:=zU (r.abs.symm.trans q.abs)
theorem Vals.inj:∀{xs ys:List V} {us:List Value},Vals xs us->Vals ys us->xs=ys
 | _,_,_,.nil,.nil=>rfl
 | _,_,_,.cons r t,.cons r' t'=>by rw[r.inj r',Vals.inj t t']
section
variable{X:Cx}{pins:List (Addr×Obj)}{σ:St}{H:Hp}{s:Shared}{a:Addr}{xs ys:List V}
def SqL.of{K:PySem.W.Frag}(h:H a=some (.lst xs)):SqL K H a xs:=.inl (.inl h)
def SqT.of{K:PySem.W.Frag}(h:H a=some (.tup xs)):SqT K H a xs:=.inl (.inl h)
def Inv.list(I:Inv X pins σ H s)(h:SqL X.K H a xs):∃its:List Value,Vals xs its/\PlainL s.heap a its.toArray/\xs.length<=sizeLine:=by
 rcases h with h | ⟨o,its,n,hk,hc,hd,hs,hz,r⟩
 .obtain⟨z,its,n,r,e⟩:=h.ok I.hok
  exact⟨its,r,⟨_,n,e,rfl,rfl,rfl⟩,z⟩
 .refine⟨its.toList,r,⟨o,n,I.kIn a o hk,hc,hd,by simpa using hs⟩,?_⟩
  have e:=r.length;simp only[zY] at e;omega
def Inv.tuple(I:Inv X pins σ H s)(h:SqT X.K H a xs):∃its:List Value,Vals xs its/\IsTup s.heap a its.toArray/\xs.length<=sizeLine:=by
 rcases h with h | ⟨o,its,n,hk,⟨hc,_⟩,hs,hz,r⟩
 .obtain⟨z,its,r,p,_⟩:=h.ok I.hok
  exact⟨its,r,p,z⟩
 .refine⟨its.toList,r,⟨o,I.kIn a o hk,hc,n,by simpa using hs⟩,?_⟩
  have e:=r.length;simp only[zY] at e;omega
def Inv.list_inj(I:Inv X pins σ H s)(h:SqL X.K H a xs)(h':SqL X.K H a ys):xs=ys:=by
 obtain⟨its,r,⟨o,n,e,_,_,d⟩,_⟩:=I.list h;obtain⟨its',r',⟨o',n',e',_,_,d'⟩,_⟩:=I.list h';rw[e] at e'; cases e';rw[d] at d';injection d' with d1 _;have:its=its':=by simpa using ju Array.toList d1
 subst this;exact r.inj r'
def Inv.tupleD(I:Inv X pins σ H s)(h:SqT X.K H a xs):NoDi s.heap a:=by
 rcases h with h | ⟨o,its,n,hk,⟨hc,hd⟩,hs,hz,r⟩
 .obtain⟨z,its,r,p,d⟩:=h.ok I.hok
  exact d
 .exact⟨o,I.kIn a o hk,hd⟩
def Inv.tuple_inj(I:Inv X pins σ H s)(h:SqT X.K H a xs)(h':SqT X.K H a ys):xs=ys:=by
 obtain⟨its,r,⟨o,e,_,n,d⟩,_⟩:=I.tuple h;obtain⟨its',r',⟨o',e',_,n',d'⟩,_⟩:=I.tuple h';rw[e] at e'; cases e';rw[d] at d';injection d' with d1 _;have:its=its':=by simpa using ju Array.toList d1
 subst this;exact r.inj r'
end
abbrev Cx.wish(X:Cx)(E:Value->Shared->Prop):Cx:={ X with xe:=E }
abbrev Cx.nox(X:Cx):Cx:=X.wish λ_ _=>False
theorem Cx.Ok.wish{X:Cx}(ok:X.Ok)(E:Value->Shared->Prop):(X.wish E).Ok:=
 ⟨ok.mod,ok.kind,ok.glob,ok.blt,ok.above,ok.inj,ok.has,ok.cab,ok.hd,ok.frames,ok.stk,ok.exf,ok.bs,ok.bsz,ok.noex,ok.exfs,ok.funs,ok.frf⟩
def Cx.Ok.unwish{X:Cx}{E:Value->Shared->Prop}(ok:(X.wish E).Ok):X.Ok:=
 ⟨ok.mod,ok.kind,ok.glob,ok.blt,ok.above,ok.inj,ok.has,ok.cab,ok.hd,ok.frames,ok.stk,ok.exf,ok.bs,ok.bsz,ok.noex,ok.exfs,ok.funs,ok.frf⟩
section
variable{X:Cx}{pins:List (Addr×Obj)}{σ:St}{H:Hp}{s:Shared}{E:Value->Shared->Prop}
theorem Inv.wish(I:Inv X pins σ H s)(E:Value->Shared->Prop):Inv (X.wish E) pins σ H s:=⟨I.ok.wish E,I.os,I.bare,I.base,I.loc,I.cell,I.free,I.freeC,I.pin,I.hok,I.len⟩
theorem Inv.unwish(I:Inv (X.wish E) pins σ H s):Inv X pins σ H s:=⟨I.ok.unwish,I.os,I.bare,I.base,I.loc,I.cell,I.free,I.freeC,I.pin,I.hok,I.len⟩
theorem SP.unwish{D:Ends}{f:Flow}{s':Shared}(h:SP (X.wish E) pins D f s'):SP X pins D f s':=by
 cases f with
 | next=>obtain⟨σ',H',I,q⟩:=h; exact⟨σ',H',I.unwish,q⟩
 | brk=>obtain⟨σ',H',I,q⟩:=h; exact⟨σ',H',I.unwish,q⟩
 | cont=>obtain⟨σ',H',I,q⟩:=h; exact⟨σ',H',I.unwish,q⟩
 | ret u=>obtain⟨v,σ',H',I,r,q⟩:=h; exact⟨v,σ',H',I.unwish,r,q⟩
theorem PSs.nox{st:List Stmt}{t:TS}(h:PSs X.nox st t):PSs X st t:=λpins s σ H D I hw=>
 jV (h pins s σ H D (I.wish _) hw) (λ_ _ q=>q.unwish) λ_ _ z=>False.elim z
end
section
variable{X:Cx}{st:Stmt}{rest:List Stmt}{t u:TS}{e:Expr}{te:TE}{pos:Pos}
def zlW:TS:=λD σ H=>D.nx σ H
def tSeq(t u:TS):TS:=λD σ H=>t { D with nx:=u D } σ H
def zmj:PSs X [] zlW:=λ_ _ σ H _ I h=>yw ⟨σ,H,I,h⟩
def zln(h1:PS X st t)(h2:PSs X rest u):PSs X (st::rest) (tSeq t u):=by
 intro pins s σ H D I h;refine wpAny_execs_cons (thn (h1 pins s σ H { D with nx:=u D } I h) λf s1 q=>?_);cases f with
 | next=>
  obtain⟨σ',H',I',q⟩:=q;exact h2 pins s1 σ' H' D I' q
 | ret v=>exact q
 | brk=>exact q
 | cont=>exact q
def znq(h1:PS X st t):PSs X [st] t:=by
 intro pins s σ H D I h;refine wpAny_execs_cons (thn (h1 pins s σ H D I h) λf s1 q=>?_);cases f with
 | next=>exact yw q
 | ret v=>exact q
 | brk=>exact q
 | cont=>exact q
def zno:PS X (.Pass pos) zlW:=λ_ _ σ H _ I h=>wpAny_Pass ⟨σ,H,I,h⟩
def Inv.quiet{pins:List (Addr×Obj)}{σ:St}{H:Hp}{s:Shared}(I:Inv X pins σ H s):interactive X.env=false:=by simp[interactive,I.ok.kind]
def zqd(te:TE):TS:=λD σ H=>te σ H λ_ H1=>D.nx σ H1
def zmV(he:PE X e te)(hs:swapsWith e none pos.line X.env=pure false:=by rfl):PS X (.Expr e pos) (zqd te):=by
 intro pins s σ H D I h;exact wpAny_Expr_any (thn (he pins s σ H _ I h) λv s1 ⟨x,H1,I1,r1,q1⟩=>⟨σ,H1,I1,q1⟩) I.quiet hs
def tRet(te:TE):TS:=λD σ H=>te σ H D.rt
def zpE(he:PE X e te):PS X (.Return (some e) pos) (tRet te):=by
 intro pins s σ H D I h;exact wpAny_Return_some (thn (he pins s σ H _ I h) λv s1 ⟨x,H1,I1,r1,q1⟩=>⟨x,σ,H1,I1,r1,q1⟩)
def tIfS(c:TT)(t u:TS):TS:=λD σ H=>c σ H λb H1=>if b=true then t D σ H1 else u D σ H1
def zqb{c:Expr}{a b:List Stmt}{tc:TT}(hc:PT X c tc)(ha:PSs X a t)(hb:PSs X b u):PS X (.If c a b pos) (tIfS tc t u):=by
 intro pins s σ H D I h;refine wpAny_If (thn (hc pins s σ H _ I h) λd s1 ⟨H1,I1,q1⟩=>?_);cases d with
 | true=>exact ha pins s1 σ H1 D I1 q1
 | false=>exact hb pins s1 σ H1 D I1 q1
end
abbrev TG:=V->St->Hp->(St->Hp->Prop)->Prop
abbrev TGs:=List V->St->Hp->(St->Hp->Prop)->Prop
def PG(X:Cx)(target:Expr)(t:TG):Prop:=
 ∀(pins:List (Addr×Obj)) (s:Shared) (σ:St) (H:Hp) (v:V) (u:Value) (Q:St->Hp->Prop),Inv X pins σ H s->RelV v u->t v σ H Q->
  wpAny (model X.prog X.w) X.A (assign target X.env u) (λ_ s'=>∃σ' H',Inv X pins σ' H' s'/\Q σ' H') X.xe s
def PGs(X:Cx)(ts:List Expr)(t:TGs):Prop:=
 ∀(pins:List (Addr×Obj)) (s:Shared) (σ:St) (H:Hp) (vs:List V) (us:List Value) (Q:St->Hp->Prop),Inv X pins σ H s->Vals vs us->t vs σ H Q->
  wpAny (model X.prog X.w) X.A (assignInOrder ((assignEach ts X.env).map (·.2)) us) (λ_ s'=>∃σ' H',Inv X pins σ' H' s'/\Q σ' H') X.xe s
abbrev TSet:=V->V->V->Hp->(Hp->Prop)->Prop
def PSet(X:Cx)(t:TSet):Prop:=
 ∀(pins:List (Addr×Obj)) (s:Shared) (σ:St) (H:Hp) (o i v:V) (ov iv u:Value) (Q:Hp->Prop),Inv X pins σ H s->RelV o ov->RelV i iv->RelV v u->t o i v H Q->
  wpAny (model X.prog X.w) X.A (setItem ov iv u) (λ_ s'=>∃H',Inv X pins σ H' s'/\Q H') X.xe s
abbrev TIp:=V->V->Hp->VK->Prop
def PIp(X:Cx)(op:Operator)(t:TIp):Prop:=
 ∀(pins:List (Addr×Obj)) (s:Shared) (σ:St) (H:Hp) (x y:V) (v u:Value) (Q:VK),Inv X pins σ H s->RelV x v->RelV y u->t x y H Q->
  wpAny (model X.prog X.w) X.A (inplaceOp op v u) (EP X pins σ Q) X.xe s
section
variable{X:Cx}{pos:Pos}
def zlX(i:Nat):TG:=λv σ H Q=>Q (σ.set i (some v)) H
def znr{i:Nat}{x:Str}(hN:X.N.Nodup)(hi:X.N[i]?=some x)(hx:Loc X.env.scope x)(hf:X.fn x=true\/X.env.scope.names.lookup x=some .local:=by first | exact .inl rfl | exact .inr rfl | assumption):PG X (.Name x pos) (zlX i):=by
 intro pins s σ H v u Q I r h;exact wpAny_assign_Name (zdz I hN hi hx r (λs' I'=>⟨_,H,I',h⟩) hf)
def gNil:TGs:=λvs σ H Q=>vs=[]/\Q σ H
def zqw(t:TG)(u:TGs):TGs:=λvs σ H Q=>∃v r,vs=v::r/\t v σ H λσ' H'=>u r σ' H' Q
def zng:PGs X [] gNil:=by
 intro pins s σ H vs us Q I r h;obtain⟨e,h⟩:=h;subst e;cases r;exact assignInOrder_nil ⟨σ,H,I,h⟩
def zkE{e:Expr}{es:List Expr}{t:TG}{u:TGs}(h1:PG X e t)(h2:PGs X es u)
  (hs:(assignEach (e::es) X.env).map (·.2)=assign e X.env::(assignEach es X.env).map (·.2):=by rfl):PGs X (e::es) (zqw t u):=by
 intro pins s σ H vs us Q I r h;obtain⟨v,vr,e1,h⟩:=h;subst e1;cases r with
 | cons r rr=>
  rw[hs];refine assignInOrder_cons (thn (h1 pins s σ H _ _ _ I r h) λ_ s1 ⟨σ1,H1,I1,q1⟩=>?_);exact h2 pins s1 σ1 H1 _ _ Q I1 rr q1
def gTup(K:PySem.W.Frag)(n:Nat)(t:TGs):TG:=λv σ H Q=>∃a xs,v=.ref a/\SqT K H a xs/\xs.length=n/\t xs σ H Q
def zoS{es:List Expr}{k:Nat}{t:TGs}{n:Nat}(hc:X.calm=true)(h:PGs X es t)
  (hn:(assignEach es X.env).length=n:=by rfl) (hst:(assignEach es X.env).findIdx? (·.1)=none:=by rfl):PG X (.Tuple es k pos) (gTup X.K n t):=by
 intro pins s σ H v u Q I r hw;obtain⟨a,xs,e1,hq,hl,hw⟩:=hw;subst e1;cases r;obtain⟨its,rv,ht,hz⟩:=I.tuple hq;refine assign_Tuple_tuple (I.ok.hd hc) ht (by simp[hn,<-hl,rv.length]) hst λh' hx=>?_
 have I1:Inv X pins σ H { s with heap:=h' }:=I.kept (t':=s.toks) λb o e=>hx b o (zP (zJ e)) e
 exact h pins _ σ H xs _ Q I1 (by simpa using rv) hw
def gSub(to ti:TE)(t:TSet):TG:=λv σ H Q=>to σ H λo H1=>ti σ H1 λi H2=>t o i v H2 λH3=>Q σ H3
def zn4{o i:Expr}{to ti:TE}{t:TSet}(ho:PE X o to)(hi:PE X i ti)(hs:PSet X t)
  (ha:∀v,assign (.Subscript o i pos) X.env v=(do
   let ov <-holding [v] (eval o X.env)
   let iv <-holding [v,ov] (eval i X.env)
   standAt pos
   holding [v,ov,iv] (setItem ov iv v)
   release [v,ov,iv] []):=by intro _; rfl):PG X (.Subscript o i pos) (gSub to ti t):=by
 intro pins s σ H v u Q I r h;rw[ha];refine za (jb (thn (ho pins s σ H _ I h) λov s1 ⟨x,H1,I1,r1,q1⟩=>?_));refine za (jb (thn (hi pins s1 σ H1 _ I1 q1) λiv s2 ⟨y,H2,I2,r2,q2⟩=>?_));refine za (xF (za (jb (thn (hs pins s2 σ H2 x y v ov iv u _ I2 r1 r2 r q2) λ_ s3 ⟨H3,I3,q3⟩=>?_))));exact wpAny_release ⟨σ,H3,I3,q3⟩
def tAsg(te:TE)(g:TG):TS:=λD σ H=>te σ H λx H1=>g x σ H1 D.nx
def zpb{tg e:Expr}{te:TE}{g:TG}(he:PE X e te)(hg:PG X tg g)(hs:swapsWithSole [tg] e pos.line X.env=pure false:=by rfl)(hw:swappedStores [tg] e X.env=pure none:=by rfl)
  (h1:(assignEach [tg] X.env).map (·.2)=[assign tg X.env]:=by rfl):PS X (.Assign [tg] e pos) (tAsg te g):=by
 intro pins s σ H D I h;refine wpAny_Assign_stores (thn (he pins s σ H _ I h) λv s1 ⟨x,H1,I1,r1,q1⟩=>?_) hs hw;rw[h1];exact thn (hg pins s1 σ H1 x v _ I1 r1 q1) λ_ s2 q=>q
def zos{i:Nat}{x:Str}{e:Expr}{te:TE}{pos':Pos}(hN:X.N.Nodup)(hi:X.N[i]?=some x)(hx:Loc X.env.scope x)(he:PE X e te)(hs:swapsWith e (some (.Name x pos')) pos.line X.env=pure false:=by rfl)(hf:X.fn x=true\/X.env.scope.names.lookup x=some .local:=by first | exact .inl rfl | exact .inr rfl | assumption) :
  PS X (.Assign [.Name x pos'] e pos) (tAsg te (zlX i)):=by
 intro pins s σ H D I h;refine wpAny_Assign_Name (thn (he pins s σ H _ I h) λv s1 ⟨y,H1,I1,r1,q1⟩=>?_) hs;exact zdz I1 hN hi hx r1 (λs2 I2=>⟨_,H1,I2,q1⟩) hf
def tAug(i:Nat)(te:TE)(ti:TIp):TS:=λD σ H=>∃x,σ[i]?=some (some x)/\te σ H λy H1=>ti x y H1 λz H2=>D.nx (σ.set i (some z)) H2
def zn6{i:Nat}{x:Str}{e:Expr}{te:TE}{op:Operator}{ti:TIp}{pos':Pos}(hN:X.N.Nodup)(hi:X.N[i]?=some x)(hx:Loc X.env.scope x)(he:PE X e te)(ho:PIp X op ti)(hf:X.fn x=true\/X.env.scope.names.lookup x=some .local:=by first | exact .inl rfl | exact .inr rfl | assumption) :
  PS X (.AugAssign (.Name x pos') op e pos) (tAug i te ti):=by
 intro pins s σ H D I h;obtain⟨v,e1,h⟩:=h;obtain⟨m,hn,hl⟩:=I.loc;have vis:Vis X.env.scope x:=by rcases hx with k | k; exact .inl k; exact .inr (.inl k)
 obtain⟨u,r,l⟩:=hl i x v hi e1 vis;refine wpAny_AugAssign_Name ?_;have go:wpAny (model X.prog X.w) X.A (eval e X.env) (λw s₂=>wpAny (model X.prog X.w) X.A (inplaceOp op u w) (λr s₃=>wpAny (model X.prog X.w) X.A (storeName X.env x r) (λ_=>SP X pins D .next) X.xe s₃) X.xe s₂) X.xe s:=by
  refine thn (he pins s σ H _ I h) λw s1 ⟨y,H1,I1,r1,q1⟩=>?_
  refine thn (ho pins s1 σ H1 v y u w _ I1 r r1 q1) λz s2 ⟨zv,H2,I2,r2,q2⟩=>?_
  exact zdz I2 hN hi hx r2 (λs3 I3=>⟨_,H2,I3,q2⟩) hf
 rcases l with ⟨hk,hm⟩ | ⟨hk,c,hc,hcell⟩
 .exact wpAny_loadName_local I.ok.kind hk hn hm go
 .rcases hk with hk | hk
  .exact wpAny_loadName_cell I.ok.kind hk hc hcell go
  .rcases hx with k | k
   .have:X.env.scope.names.lookup x=some .free:=hk
    rw[k] at this; cases this
   .have:X.env.scope.names.lookup x=some .free:=hk
    rw[k] at this; cases this
def ipI(f:Int->Int->Int):TIp:=λx y H Q=>∃i j,x=.int i/\y=.int j/\Q (.int (f i j)) H
def zoq:PIp X .Add (ipI λi j=>i+j):=by
 intro pins s σ H x y v u Q I r1 r2 h;obtain⟨i,j,e1,e2,q⟩:=h;subst e1; subst e2;obtain⟨t,rfl⟩:=r1;obtain⟨t',rfl⟩:=r2;exact iadd_int ⟨.int _,H,I.tok _,⟨_,rfl⟩,q⟩
end
section
variable{X:Cx}{pos:Pos}
def zpe(c:TT)(tb:TS):TS:=λD σ H=>∃W:Nat->St->Hp->Prop,(∃m,W m σ H)/\∀m σ H,W m σ H->
 c σ H λb H1=>if b=true then ∃N:St->Hp->Prop,(∀σ' H',N σ' H'->∃m',m'<m/\W m' σ' H')/\tb { D with nx:=N,ct:=N,bk:=D.nx } σ H1 else D.nx σ H1
def zkC{c:Expr}{body:List Stmt}{tc:TT}{tb:TS}(hp:PassesOwn (model X.prog X.w) X.A X.env X.xe)(hc:PT X c tc)(hb:PSs X body tb):PS X (.While c body [] pos) (zpe tc tb):=by
 intro pins s σ H D I h;obtain⟨W,⟨m0,w0⟩,turn⟩:=h;refine wpAny_While (codeAny_whileLoop (λn s'=>∃σ' H',Inv X pins σ' H' s'/\W n σ' H') ?_ m0 ⟨σ,H,I,w0⟩);rintro n s1 ⟨σ1,H1,I1,w1⟩;refine qQ hp (thn (hc pins s1 σ1 H1 _ I1 (turn n σ1 H1 w1)) λb s2 ⟨H2,I2,q2⟩=>?_);cases b with
 | true=>
  obtain⟨N,hN,q2⟩:=q2;rw[zR rfl];refine qQ hp (thn (hb pins s2 σ1 H2 _ I2 q2) λf s3 q3=>?_);cases f with
  | next=>
   obtain⟨σ3,H3,I3,n3⟩:=q3;obtain⟨m',hm,w3⟩:=hN σ3 H3 n3;exact⟨m',hm,σ3,H3,I3,w3⟩
  | cont=>
   obtain⟨σ3,H3,I3,n3⟩:=q3;obtain⟨m',hm,w3⟩:=hN σ3 H3 n3;exact⟨m',hm,σ3,H3,I3,w3⟩
  | brk=>exact q3
  | ret v=>exact q3
 | false=>
  rw[zZ zN];exact yw ⟨σ1,H2,I2,q2⟩
end
structure It where
 go:Nat->Hp->Prop
 yld:Nat->Hp->V->Hp->Prop
 stop:Nat->Hp->Prop
def FpOk(X:Cx)(pins:List (Addr×Obj))(H:Hp)(b:Addr):Prop:=
 H b=none/\b≠X.env.locals/\b∉X.fs/\(b∈X.ex\/X.s₀.heap.objs.size<=b)/\(∀x c,X.env.cells.lookup x=some c->c≠b)/\∀p∈X.pn++pins,p.1≠b
def Inv.fpOk{X:Cx}{pins:List (Addr×Obj)}{σ:St}{H H':Hp}{s:Shared}{b:Addr}(I:Inv X pins σ H s)(hb:s.heap.objs.size<=b)(hn:H' b=none):FpOk X pins H' b:=by
 refine⟨hn,vK (zK I.lt hb),I.nofs hb,.inr (zF I.sz hb),λx c e z=>?_,λp hp z=>?_⟩
 .obtain⟨v,q⟩:=I.cell x c e
  exact absurd (zK q.lt (by rw[z]; exact hb)) (jX _)
 .exact absurd (zK (zJ (I.pin p hp).1) (by rw[z]; exact hb)) (jX _)
structure Turn(P:Program)(w:World)(K:PySem.W.Frag)(tg:Expr)(J:It)(fp:List Addr)(it:Addr)(tn:Nat->Heap->Prop):Prop where
 mem:it∈fp
 obj:∀i h,tn i h->∀b∈fp,∃o,h.get? b=some o/\∀v,o.data≠.cell v
 keep:∀i h h',tn i h->(∀b∈fp,∀o,h.get? b=some o->h'.get? b=some o)->tn i h'
 item:∀(X:Cx),X.prog=P->X.w=w->X.K=K->X.calm=true->∀(i:Nat) (pins:List (Addr×Obj)) (s:Shared) (σ:St) (H:Hp) (E:Value->Shared->Prop),Inv X pins σ H s->(∀b∈fp,FpOk X pins H b)->tn i s.heap->J.go i H->
  wpAny (model P w) X.A (pyNext (.ref it)) (λr s1=>∃u,r=some u /\
   wpAny (model P w) X.A (letOwnedTupleGo tg (.ref it) u) (λ_ s2=>∃x H',Inv X pins σ H' s2/\RelV x u/\J.yld i H x H'/\tn (i+1) s2.heap/\∀b∈fp,H' b=none) E s1) E s
 done:∀(X:Cx),X.prog=P->X.w=w->X.K=K->X.calm=true->∀(i:Nat) (pins:List (Addr×Obj)) (s:Shared) (σ:St) (H:Hp) (E:Value->Shared->Prop),Inv X pins σ H s->(∀b∈fp,FpOk X pins H b)->tn i s.heap->J.stop i H->
  wpAny (model P w) X.A (pyNext (.ref it)) (λr s1=>r=none/\Inv X pins σ H s1) E s
 self:∀(A:Around) (i:Nat) (s:Shared) (Q:Value->Shared->Prop) (E:Value->Shared->Prop),tn i s.heap->Q (.ref it) s->wpAny (model P w) A (pyIter (.ref it)) Q E s
abbrev TI:=St->Hp->(It->Hp->Prop)->Prop
def PIE(X:Cx)(pins:List (Addr×Obj))(σ:St)(tg:Expr)(R:It->Hp->Prop)(itv:Value)(s2:Shared):Prop:=
 ∃(it:Addr) (fp:List Addr) (tn:Nat->Heap->Prop) (J:It) (H':Hp),itv=.ref it/\Inv X pins σ H' s2/\Turn X.prog X.w X.K tg J fp it tn/\tn 0 s2.heap/\(∀b∈fp,FpOk X pins H' b)/\R J H'
def PI(X:Cx)(tg iter:Expr)(wi:TI):Prop:=
 ∀(pins:List (Addr×Obj)) (s:Shared) (σ:St) (H:Hp) (R:It->Hp->Prop),Inv X pins σ H s->wi σ H R->
  wpAny (model X.prog X.w) X.A (eval iter X.env) (λv s1=>wpAny (model X.prog X.w) X.A (pyIter v) (PIE X pins σ tg R) X.xe s1) X.xe s
def zfv {M : Model} {A : Around} {E : Value -> Shared -> Prop} {s : Shared} {tg : Expr} {it : Addr} {u : Value} {o : Obj} {n : String} {vs : Array Value} {Q : Unit -> Shared -> Prop} (ho : s.heap.get? it = some o) (hc : o.cls = .type n) (hd : o.data = .fields vs)
    (hn : ["enumerate", "zip", "dict_itemiterator", "dict_reverseitemiterator", "odict_iterator", "itertools.zip_longest", "itertools.pairwise"].contains n = false) (hQ : Q () s) : wpAny M A (letOwnedTupleGo tg (.ref it) u) Q E s := by
  unfold letOwnedTupleGo;cases tg <;> first
    | exact zg hQ
    | (cases u <;> first
        | exact zg hQ
        | (refine za (yJ ho ?_)
           rw [hc, hd];show wpAny M A (if (["enumerate", "zip", "dict_itemiterator", "dict_reverseitemiterator", "odict_iterator", "itertools.zip_longest", "itertools.pairwise"].contains n && vs[0]? == some (rawInt _)) = true then _ else _) Q E s
           rw [zZ (by intro h; rw [hn, Bool.false_and] at h; cases h)]
           exact zg hQ))
def Itl(K:PySem.W.Frag)(a:Addr):It:=
 ⟨λi H=>∃xs x,SqL K H a xs/\xs[i]?=some x,λi H x H'=>H'=H/\∀xs,SqL K H a xs->xs[i]?=some x,λi H=>∃xs,SqL K H a xs/\xs.length<=i⟩
def Itt(K:PySem.W.Frag)(a:Addr):It:=
 ⟨λi H=>∃xs x,SqT K H a xs/\xs[i]?=some x,λi H x H'=>H'=H/\∀xs,SqT K H a xs->xs[i]?=some x,λi H=>∃xs,SqT K H a xs/\xs.length<=i⟩
def Itr(lo:Int)(n:Nat):It:=⟨λi _=>i<n,λi H x H'=>H'=H/\x=.int (lo+i),λi _=>n<=i⟩
def zj1{P:Program}{w:World}{K:PySem.W.Frag}{tg:Expr}(a it:Addr):Turn P w K tg (Itl K a) [it] it (λi h=>h.IsListIter it a i) where
 mem:=by simp
 obj:=λi h st b hb=>by
  have e:b=it:=by simpa using hb
  subst e;obtain⟨o,e,c,d⟩:=st;exact⟨o,e,λv z=>by rw[d] at z; cases z⟩
 keep:=λi h h' st k=>st.at λo e=>k it (by simp) o e
 item:=by
  intro X hP hw hK hc i pins s σ H E I hf st hg;subst hP hw hK;obtain⟨xs,x,hq,hx⟩:=hg;obtain⟨its,rv,p,hz⟩:=I.list hq;obtain⟨u,hu,ru⟩:=rv.get hx;obtain⟨f0,f1,f2,f3,f4,f5⟩:=hf it (by simp);refine wpAny_pyNext_list_item st p.isList (x:=u) (by simpa using hu) λh' st' sb=>?_
  have I1:Inv X pins σ H { s with heap:=h' }:=I.turned (t':=s.toks) (λb o hb e=>(sb.2 b hb).trans e) f0 f1 f3 f4 f5;obtain⟨o,e,c,d⟩:=id st';exact⟨u,rfl,zfv (s:={ s with heap:=h' }) e c d (by decide) ⟨x,H,I1,ru,⟨rfl,λys hy=>by rw[I.list_inj hy hq]; exact hx⟩,st',λb hb=>(hf b hb).1⟩⟩
 done:=by
  intro X hP hw hK hc i pins s σ H E I hf st hg;subst hP hw hK;obtain⟨xs,hq,hx⟩:=hg;obtain⟨its,rv,p,hz⟩:=I.list hq;obtain⟨f0,f1,f2,f3,f4,f5⟩:=hf it (by simp);have hl:=rv.length;exact wpAny_pyNext_list_end (I.ok.hd hc) st p.isList (by simp; omega) λh' eb=>⟨rfl,I.turned (t':=s.toks) (λb o hb e=>eb b o hb e) f0 f1 f3 f4 f5⟩
 self:=λ_ _ _ _ _ st h=>wpAny_pyIter_listiter st h
def zih{P:Program}{w:World}{K:PySem.W.Frag}{tg:Expr}(a it:Addr):Turn P w K tg (Itt K a) [it] it (λi h=>h.IsTupleIter it a i) where
 mem:=by simp
 obj:=λi h st b hb=>by
  have e:b=it:=by simpa using hb
  subst e;obtain⟨o,e,c,d⟩:=st;exact⟨o,e,λv z=>by rw[d] at z; cases z⟩
 keep:=λi h h' st k=>st.at λo e=>k it (by simp) o e
 item:=by
  intro X hP hw hK hc i pins s σ H E I hf st hg;subst hP hw hK;obtain⟨xs,x,hq,hx⟩:=hg;obtain⟨its,rv,p,hz⟩:=I.tuple hq;obtain⟨u,hu,ru⟩:=rv.get hx;obtain⟨f0,f1,f2,f3,f4,f5⟩:=hf it (by simp);refine wpAny_pyNext_tuple_item st (show s.heap.IsTuple a its.toArray from p) (x:=u) (by simpa using hu) λh' st' sb=>?_
  have I1:Inv X pins σ H { s with heap:=h' }:=I.turned (t':=s.toks) (λb o hb e=>(sb.2 b hb).trans e) f0 f1 f3 f4 f5;obtain⟨o,e,c,d⟩:=id st';exact⟨u,rfl,zfv (s:={ s with heap:=h' }) e c d (by decide) ⟨x,H,I1,ru,⟨rfl,λys hy=>by rw[I.tuple_inj hy hq]; exact hx⟩,st',λb hb=>(hf b hb).1⟩⟩
 done:=by
  intro X hP hw hK hc i pins s σ H E I hf st hg;subst hP hw hK;obtain⟨xs,hq,hx⟩:=hg;obtain⟨its,rv,p,hz⟩:=I.tuple hq;obtain⟨f0,f1,f2,f3,f4,f5⟩:=hf it (by simp);have hl:=rv.length;exact wpAny_pyNext_tuple_end (I.ok.hd hc) st (show s.heap.IsTuple a its.toArray from p) (by simp; omega) λh' eb=>⟨rfl,I.turned (t':=s.toks) (λb o hb e=>eb b o hb e) f0 f1 f3 f4 f5⟩
 self:=λ_ _ _ _ _ st h=>wpAny_pyIter_tupleiter st h
def ziL{P:Program}{w:World}{K:PySem.W.Frag}{tg:Expr}(it:Addr)(lo:Int)(n:Nat):Turn P w K tg (Itr lo n) [it] it (λi h=>IsRangeIter h it (lo+(i:Nat)*1) ((n:Int)-(i:Nat)) 1) where
 mem:=by simp
 obj:=λi h st b hb=>by
  have e:b=it:=by simpa using hb
  subst e
  exact⟨_,st,λv z=>by
   have z':Data.fields _=Data.cell v:=z
   cases z'⟩
 keep:=λi h h' st k=>k it (by simp) _ st
 item:=by
  intro X hP hw hK hc i pins s σ H E I hf st hg;subst hP hw hK;obtain⟨f0,f1,f2,f3,f4,f5⟩:=hf it (by simp);have W:=Walks.range (prog:=X.prog) (w:=X.w) (I.ok.hd hc) it lo 1 n;refine W.item i s _ _ hg st λv h' tk hv st' kk=>?_
  obtain⟨t,rfl⟩:=hv;have I1:Inv X pins σ H { s with heap:=h',toks:=tk }:=I.turned (λb o hb e=>kk b o (by simpa using hb) e) f0 f1 f3 f4 f5;refine⟨_,rfl,zfv (s:={ s with heap:=h',toks:=tk }) (n:="range_iterator") st' rfl rfl (by decide) ⟨.int (lo+i),H,I1,⟨t,?_⟩,⟨rfl,rfl⟩,st',λb hb=>(hf b hb).1⟩⟩;rw[Int.mul_one]
 done:=by
  intro X hP hw hK hc i pins s σ H E I hf st hg;subst hP hw hK;obtain⟨f0,f1,f2,f3,f4,f5⟩:=hf it (by simp);exact wpAny_pyNext_range_end (I.ok.hd hc) st (by have:n<=i:=hg; omega) λh' eb=>⟨rfl,I.turned (t':=s.toks) (λb o hb e=>eb b o hb e) f0 f1 f3 f4 f5⟩
 self:=λ_ _ _ _ _ st h=>wpAny_pyIter_rangeiter st h
end L2
namespace L2
open PySem PySem.Spec PyProof.Rows
section
variable{X:Cx}{tg:Expr}
def zkH{pins:List (Addr×Obj)}{σ:St}{H:Hp}{s:Shared}{R:It->Hp->Prop}{E:Value->Shared->Prop}{lo hi:Int}{t u v:Tok}{tk:Nat}(I:Inv X pins σ H s)(h1:-(2 ^ 62)<=lo)(h2:lo<2 ^ 62)(h3:-(2 ^ 62)<=hi)(h4:hi<2 ^ 62)
  (q:R (Itr lo (hi-lo).toNat) H):wpAny (model X.prog X.w) X.A (pyIter (.ref s.heap.objs.size)) (PIE X pins σ tg R) E { s with heap:=s.heap.push { cls:=.type "range",data:=.fields #[.int lo t,.int hi u,.int 1 v] },toks:=tk }:=by
 refine wpAny_pyIter_range (IsRange.new ..) (small_one h1 h2 h3 h4) ?_;have I1:Inv X pins σ H { s with heap:=s.heap.push { cls:=.type "range",data:=.fields #[.int lo t,.int hi u,.int 1 v] },toks:=tk }:=I.kept λb o e=>zc _ e
 refine⟨(s.heap.push { cls:=.type "range",data:=.fields #[.int lo t,.int hi u,.int 1 v] }).objs.size,[(s.heap.push { cls:=.type "range",data:=.fields #[.int lo t,.int hi u,.int 1 v] }).objs.size],_,_,H,rfl,
  I1.kept (t':=tk) λb o e=>zc _ e,ziL _ lo (hi-lo).toNat,?_,λb hb=>?_,q⟩
 .have e1:lo+((0:Nat):Int)*1=lo:=by simp
  have e2:(((hi-lo).toNat:Nat):Int)-((0:Nat):Int)=Builtin.Range.rangeSize lo hi 1:=by rw[rangeSize_one]; split<;>omega
  show IsRangeIter _ _ (lo+((0:Nat):Int)*1) ((((hi-lo).toNat:Nat):Int)-((0:Nat):Int)) 1
  rw[e1,e2];exact zA _ rfl
 .have e:b=(s.heap.push { cls:=.type "range",data:=.fields #[.int lo t,.int hi u,.int 1 v] }).objs.size:=by simpa using hb
  subst e;exact I1.fpOk (zu _) (I1.hok.fresh (zu _))
def zqu(ta:TA):TI:=λσ H R=>ta σ H λvs H1=>∃j:Int,vs=[.int j]/\-(2 ^ 62)<=j/\j<2 ^ 62/\R (Itr 0 j.toNat) H1
def zjQ{a:Expr}{ta:TA}{p pos:Pos}(hg:Gl X "range")(hm:X.mg "range" = none)(ha:PA X [a] ta)(hs:starEach [a] X.env=[(false,eval a X.env)]:=by rfl):PI X tg (.Call (.Name "range" p) [a] [] pos) (zqu ta):=by
 intro pins s σ H R I h;refine Call_ (zbu I hg hm boot_range (qi (thn (ha pos pins s σ H _ I h) λus s1 ⟨vs,H1,I1,r1,q1⟩=>?_) hs rfl));obtain⟨j,e,q1,q2,q⟩:=q1;subst e;cases r1 with
 | cons r rr=>
  cases rr;obtain⟨t,rfl⟩:=r;exact call_range_1 (zkH I1 ∅ ∅ q1 q2 (by simpa using q))
def tFor(wi:TI)(g:TG)(tb:TS):TS:=λD σ H=>wi σ H λJ H1=>∃W:Nat->Nat->St->Hp->Prop,(∃m,W 0 m σ H1)/\∀i m σ H,W i m σ H->
 (J.stop i H/\D.nx σ H)\/(J.go i H/\∃N:St->Hp->Prop,(∀σ' H',N σ' H'->∃m',m'<m/\W (i+1) m' σ' H')/\∀x H',J.yld i H x H'->g x σ H' λσ2 H2=>tb { D with nx:=N,ct:=N,bk:=D.nx } σ2 H2)
def zcR(fp:List Addr)(h:Heap):List (Addr×Obj):=fp.filterMap λb=>(h.get? b).map λo=>(b,o)
def zbH{fp:List Addr}{h:Heap}{b:Addr}{o:Obj}(hb:b∈fp)(e:h.get? b=some o):(b,o)∈zcR fp h:=yD.mpr ⟨b,hb,by rw[e]; rfl⟩
def zjY{fp:List Addr}{h:Heap}{p:Addr×Obj}(hp:p∈zcR fp h):p.1∈fp/\h.get? p.1=some p.2:=by
 obtain⟨b,hb,e⟩:=yD.mp hp;cases q:h.get? b with
 | none=>rw[q] at e; cases e
 | some o=>
  rw[q] at e;have e':(b,o)=p:=zU e;subst e';exact⟨hb,q⟩
def Inv.pinned{pins:List (Addr×Obj)}{σ:St}{H:Hp}{s:Shared}{fp:List Addr}(I:Inv X pins σ H s)(hf:∀b∈fp,FpOk X pins H b)(ho:∀b∈fp,∃o,s.heap.get? b=some o/\∀v,o.data≠.cell v):Inv X (pins++zcR fp s.heap) σ H s:=
 I.pins_of λp hp=>(zx.mp hp).elim (λz=>I.pin p (ji _ z)) λz=>by
  obtain⟨hb,e⟩:=zjY z;obtain⟨f0,f1,f2,_⟩:=hf p.1 hb;obtain⟨o,e',d⟩:=ho p.1 hb;rw[e] at e'; cases e';exact⟨e,f0,f1,f2,d⟩
def Inv.unpinned{pins pl:List (Addr×Obj)}{σ:St}{H:Hp}{s:Shared}(I:Inv X (pins++pl) σ H s):Inv X pins σ H s:=I.pins_of λp hp=>I.pin p (ji _ (yp _ hp))
def zo0{iter:Expr}{body:List Stmt}{wi:TI}{g:TG}{tb:TS}{pos:Pos}(hp:PassesOwn (model X.prog X.w) X.A X.env X.xe)(hc:X.calm=true)(hi:PI X tg iter wi)(hg:PG X tg g)(hb:PSs X body tb)
  (hs:∀x,foldedSetIterable iter X.env x=pure x:=by intro _; rfl):PS X (.For tg iter body [] pos) (tFor wi g tb):=by
 intro pins s σ H D I h;refine wpAny_For (thn (hi pins s σ H _ I h) λv s1 h1=>thn h1 λitv s2 h2=>?_) hs;obtain⟨it,fp,tn,J,H2,e,I2,T,st2,f2,W,⟨m0,w0⟩,turn⟩:=h2;subst e;have stat:∀{H':Hp},(∀b∈fp,H' b=none)->∀b∈fp,FpOk X pins H' b:=λhn b hb=>⟨hn b hb,(f2 b hb).2⟩
 refine codeAny_forLoop_any (λn s'=>∃i σ' H',Inv X pins σ' H' s'/\tn i s'.heap/\(∀b∈fp,H' b=none)/\W i n σ' H') ?_ m0 ⟨0,σ,H2,I2,st2,λb hb=>(f2 b hb).1,w0⟩;rintro n s3 ⟨i,σ3,H3,I3,st3,fr3,w3⟩;rcases turn i n σ3 H3 w3 with ⟨stop,qn⟩ | ⟨go,N,hN,step⟩
 .refine qQ hp (thn (T.done X rfl rfl rfl hc i pins s3 σ3 H3 X.xe I3 (stat fr3) st3 stop) λr s4 ⟨hr,I4⟩=>?_)
  subst hr;exact yw ⟨σ3,H3,I4,qn⟩
 .refine qQ hp (thn (T.item X rfl rfl rfl hc i pins s3 σ3 H3 X.xe I3 (stat fr3) st3 go) λr s4 ⟨u,hr,h4⟩=>?_)
  subst hr;refine qQ hp (thn h4 λ_ s5 ⟨x,H5,I5,r5,y5,st5,fr5⟩=>?_);have I5':=I5.pinned (stat fr5) (T.obj _ _ st5);refine qQ hp (thn (hg _ s5 σ3 H5 x u _ I5' r5 (step x H5 y5)) λ_ s6 ⟨σ6,H6,I6,q6⟩=>?_);refine qQ hp (thn (hb _ s6 σ6 H6 _ I6 q6) λf s7 q7=>?_);have again:∀{σ7:St} {H7:Hp},Inv X (pins++zcR fp s5.heap) σ7 H7 s7->N σ7 H7->∃m,m<n/\∃i σ' H',Inv X pins σ' H' s7/\tn i s7.heap/\(∀b∈fp,H' b=none)/\W i m σ' H':=λ{σ7 H7} I7 n7=>by
   obtain⟨m',hm,w7⟩:=hN σ7 H7 n7;refine⟨m',hm,i+1,σ7,H7,I7.unpinned,T.keep _ _ _ st5 λb hb o e=>(I7.pin (b,o) (ji _ (ji _ (zbH hb e)))).1,λb hb=>?_,w7⟩;obtain⟨o,e,d⟩:=T.obj _ _ st5 b hb;exact(I7.pin (b,o) (ji _ (ji _ (zbH hb e)))).2.1
  cases f with
  | next=>obtain⟨σ7,H7,I7,n7⟩:=q7; exact again I7 n7
  | cont=>obtain⟨σ7,H7,I7,n7⟩:=q7; exact again I7 n7
  | brk=>obtain⟨σ7,H7,I7,q7⟩:=q7; exact⟨σ7,H7,I7.unpinned,q7⟩
  | ret v=>obtain⟨x7,σ7,H7,I7,r7,q7⟩:=q7; exact⟨x7,σ7,H7,I7.unpinned,r7,q7⟩
end
end L2
namespace L2
open PySem PySem.Spec PyProof.Rows
abbrev R2:=V->V->Hp->VK->Prop
def OpR(X:Cx)(f:Value->Value->Sem Value)(r:R2):Prop:=
 ∀(pins:List (Addr×Obj)) (s:Shared) (σ:St) (H:Hp) (x y:V) (v u:Value) (Q:VK),Inv X pins σ H s->RelV x v->RelV y u->r x y H Q->
  wpAny (model X.prog X.w) X.A (f v u) (EP X pins σ Q) X.xe s
def UnR(X:Cx)(f:Value->Sem Value)(r:V->Hp->VK->Prop):Prop:=
 ∀(pins:List (Addr×Obj)) (s:Shared) (σ:St) (H:Hp) (x:V) (v:Value) (Q:VK),Inv X pins σ H s->RelV x v->r x H Q->
  wpAny (model X.prog X.w) X.A (f v) (EP X pins σ Q) X.xe s
def zar(X:Cx)(f:Value)(r:List V->Hp->VK->Prop):Prop:=
 ∀(pins:List (Addr×Obj)) (s:Shared) (σ:St) (H:Hp) (xs:List V) (us:List Value) (Q:VK),Inv X pins σ H s->Vals xs us->r xs H Q->
  wpAny (model X.prog X.w) X.A (call f us) (EP X pins σ Q) X.xe s
def tOp(r:R2)(ta tb:TE):TE:=λσ H Q=>ta σ H λx H1=>tb σ H1 λy H2=>r x y H2 Q
def tUn(r:V->Hp->VK->Prop)(ta:TE):TE:=λσ H Q=>ta σ H λx H1=>r x H1 Q
def rI(C:Int->Int->Prop)(g:Int->Int->V):R2:=λx y H Q=>∃i j,x=.int i/\y=.int j/\C i j/\Q (g i j) H
def rI0(g:Int->Int->V):R2:=λx y H Q=>∃i j,x=.int i/\y=.int j/\Q (g i j) H
def rU(g:Int->V):V->Hp->VK->Prop:=λx H Q=>∃i,x=.int i/\Q (g i) H
section
variable{X:Cx}{a b c:Expr}{ta tb tc:TE}{pos:Pos}
def binT(ha:PE X a ta)(hb:PE X b tb){pins:List (Addr×Obj)}{s:Shared}{σ:St}{H:Hp}{R:V->V->Hp->Prop}(I:Inv X pins σ H s)
  (h:ta σ H λx H1=>tb σ H1 λy H2=>R x y H2) {Q:Value->Shared->Prop} {f:Value->Value->Sem Value}
  (hf:∀v u s2 x y H2,Inv X pins σ H2 s2->RelV x v->RelV y u->R x y H2->wpAny (model X.prog X.w) X.A (f v u) Q X.xe s2) :
  wpAny (model X.prog X.w) X.A (eval a X.env) (λv s₁=>wpAny (model X.prog X.w) X.A (eval b X.env) (λu s₂=>wpAny (model X.prog X.w) X.A (f v u) Q X.xe s₂) X.xe s₁) X.xe s:=by
 refine thn (ha pins s σ H _ I h) λv s1 ⟨x,H1,I1,r1,q1⟩=>?_
 refine thn (hb pins s1 σ H1 _ I1 q1) λu s2 ⟨y,H2,I2,r2,q2⟩=>?_
 exact hf v u s2 x y H2 I2 r1 r2 q2
def zpT{op:Operator}{r:R2}(ho:OpR X (binaryOp op) r)(ha:PE X a ta)(hb:PE X b tb):PE X (.BinOp a op b pos) (tOp r ta tb):=by
 intro pins s σ H Q I h;exact wpAny_BinOp (binT ha hb I h λv u s2 x y H2 I2 rx ry q=>ho pins s2 σ H2 x y v u Q I2 rx ry q)
def zqj{op:UnaryOp}{r:V->Hp->VK->Prop}(ho:UnR X (unaryOp op) r)(ha:PE X a ta):PE X (.UnaryOp op a pos) (tUn r ta):=by
 intro pins s σ H Q I h;exact UnaryOp_ (thn (ha pins s σ H _ I h) λv s1 ⟨x,H1,I1,r1,q1⟩=>ho pins s1 σ H1 x v Q I1 r1 q1)
def opI{f:Value->Value->Sem Value}{C:Int->Int->Prop}{g:Int->Int->Int}
  (rule:∀(i j:Int) (t u:Tok) (s:Shared) (Q:Value->Shared->Prop) (E:Value->Shared->Prop),C i j->Q (.int (g i j) s.toks) { s with toks:=s.toks+1 }->wpAny (model X.prog X.w) X.A (f (.int i t) (.int j u)) Q E s) :
  OpR X f (rI C λi j=>.int (g i j)):=by
 intro pins s σ H x y v u Q I rx ry h;obtain⟨i,j,rfl,rfl,hc,q⟩:=h;obtain⟨t,rfl⟩:=rx;obtain⟨t',rfl⟩:=ry;exact rule i j t t' s _ _ hc ⟨.int (g i j),H,I.tok _,⟨_,rfl⟩,q⟩
def opI0{f:Value->Value->Sem Value}{g:Int->Int->Int}
  (rule:∀(i j:Int) (t u:Tok) (s:Shared) (Q:Value->Shared->Prop) (E:Value->Shared->Prop),Q (.int (g i j) s.toks) { s with toks:=s.toks+1 }->wpAny (model X.prog X.w) X.A (f (.int i t) (.int j u)) Q E s) :
  OpR X f (rI0 λi j=>.int (g i j)):=by
 intro pins s σ H x y v u Q I rx ry h;obtain⟨i,j,rfl,rfl,q⟩:=h;obtain⟨t,rfl⟩:=rx;obtain⟨t',rfl⟩:=ry;exact rule i j t t' s _ _ ⟨.int (g i j),H,I.tok _,⟨_,rfl⟩,q⟩
def opB0{f:Value->Value->Sem Value}{g:Int->Int->Bool}
  (rule:∀(i j:Int) (t u:Tok) (s:Shared) (Q:Value->Shared->Prop) (E:Value->Shared->Prop),Q (.bool (g i j)) s->wpAny (model X.prog X.w) X.A (f (.int i t) (.int j u)) Q E s) :
  OpR X f (rI0 λi j=>.bl (g i j)):=by
 intro pins s σ H x y v u Q I rx ry h;obtain⟨i,j,rfl,rfl,q⟩:=h;obtain⟨t,rfl⟩:=rx;obtain⟨t',rfl⟩:=ry;exact rule i j t t' s _ _ ⟨.bl (g i j),H,I,rfl,q⟩
def CDiv(i j:Int):Prop:=0<j/\j<1073741824
def CPow(i j:Int):Prop:=0<=j/\j<=1000000/\i.natAbs<2 ^ 64
def CMul(i j:Int):Prop:=(-(2 ^ 64)<i/\i<2 ^ 64)\/(-(2 ^ 64)<j/\j<2 ^ 64)
def CMul.ok{i j:Int}(h:CMul i j):IntMulOk i j:=by
 rcases h with ⟨h1,h2⟩ | ⟨h1,h2⟩
 .exact .of_left (intBits_le_64 h1 h2)
 .exact .of_right (intBits_le_64 h1 h2)
def zoz:OpR X (binaryOp .Add) (rI0 λi j=>.int (i+j)):=opI0 λ_ _ _ _ _ _ _ q=>add_int q
def znT:OpR X (binaryOp .Sub) (rI0 λi j=>.int (i-j)):=opI0 λ_ _ _ _ _ _ _ q=>sub_int q
def znZ:OpR X (binaryOp .Mult) (rI CMul λi j=>.int (i*j)):=opI λ_ _ _ _ _ _ _ hc q=>mul_int q hc.ok
def znj:OpR X (binaryOp .FloorDiv) (rI CDiv λi j=>.int (i/j)):=opI λi j _ _ _ _ _ hc q=>by
 have h1:(0:Int)<j:=hc.1;have h2:j<1073741824:=hc.2;exact floordiv_int ∅ (by rw[Int.fdiv_eq_ediv_of_nonneg i ∅]; exact q) (.inl (PyProof.noPylong_small ∅))
def zpL:OpR X (binaryOp .Mod) (rI (λ_ j=>0<j) λi j=>.int (i%j)):=opI λi j _ _ _ _ _ hc q=>by
 have h1:(0:Int)<j:=hc;exact mod_int' ∅ (by rw[Int.fmod_eq_emod_of_nonneg i ∅]; exact q)
def zpp:OpR X (binaryOp .Pow) (rI CPow λi j=>.int (i ^ j.toNat)):=opI λ_ _ _ _ _ _ _ hc q=>pow_int_small hc.1 hc.2.1 hc.2.2 q
def unI{f:Value->Sem Value}{g:Int->Int}
  (rule:∀(i:Int) (t:Tok) (s:Shared) (Q:Value->Shared->Prop) (E:Value->Shared->Prop),Q (.int (g i) s.toks) { s with toks:=s.toks+1 }->wpAny (model X.prog X.w) X.A (f (.int i t)) Q E s) :
  UnR X f (rU λi=>.int (g i)):=by
 intro pins s σ H x v Q I rx h;obtain⟨i,rfl,q⟩:=h;obtain⟨t,rfl⟩:=rx;exact rule i t s _ _ ⟨.int (g i),H,I.tok _,⟨_,rfl⟩,q⟩
def zpl:UnR X (unaryOp .USub) (rU λi=>.int (-i)):=unI λ_ _ _ _ _ q=>neg_int q
end
def scal:V->V->Bool
 | .non,.non=>true | .non,.int _=>true | .int _,.non=>true | .non,.bl _=>true | .bl _,.non=>true | .non,.str _=>true | .str _,.non=>true
 | .int _,.int _=>true | .bl _,.bl _=>true | .str _,.str _=>true | .byt _,.byt _=>true
 | .int _,.str _=>true | .str _,.int _=>true | .bl _,.str _=>true | .str _,.bl _=>true
 | _,_=>false
def rEq:R2:=λx y H Q=>scal x y=true/\Q (.bl (decide (x=y))) H
def rNe:R2:=λx y H Q=>scal x y=true/\Q (.bl (!decide (x=y))) H
def zdb{i j:Int}:decide (V.int i=V.int j)=(i==j):=by
 rw[ym];simp
def zek{i j:Bool}:decide (V.bl i=V.bl j)=(i==j):=by
 rw[ym];simp
def zdh{i j:Str}:decide (V.str i=V.str j)=(i==j):=by
 rw[ym];simp
def zhs{i j:Array UInt8}:decide (V.byt i=V.byt j)=(i.toList==j.toList):=by
 rw[ym];cases i;cases j;simp
section
variable{X:Cx}{a b c:Expr}{ta tb tc:TE}{pos:Pos}
def zab{pins:List (Addr×Obj)}{σ:St}{H:Hp}{s:Shared}{Q:VK}{k k':Bool}(I:Inv X pins σ H s)(q:Q (.bl k) H)(e:k=k'):EP X pins σ Q (.bool k') s:=by
 subst e;exact⟨.bl k,H,I,rfl,q⟩
def zh6:OpR X (compareOp .Eq) rEq:=by
 intro pins s σ H x y v u Q I rx ry h;obtain⟨hs,q⟩:=h;cases x with
 | non=>
  cases rx;cases y with
  | non=>cases ry; exact PySem.EqNone.eq_none_none (zab I q (by simp))
  | bl j=>cases ry; exact PySem.EqNone.eq_none_bool (zab I q (by simp))
  | int j=>obtain⟨t',rfl⟩:=ry; exact PySem.EqNone.eq_none_int (zab I q (by simp))
  | str j=>obtain⟨t',rfl⟩:=ry; exact PySem.EqNone.eq_none_str (zab I q (by simp))
  | _=>exact absurd (show false=true from hs) zN
 | bl i=>
  cases rx;cases y with
  | non=>cases ry; exact PySem.EqNone.eq_bool_none (zab I q (by simp))
  | bl j=>cases ry; exact eq_bool (zab I q zek)
  | str j=>obtain⟨t',rfl⟩:=ry; exact PySem.EqMixed.eq_bool_str (zab I q (by simp))
  | _=>exact absurd (show false=true from hs) zN
 | int i=>
  obtain⟨t,rfl⟩:=rx;cases y with
  | non=>cases ry; exact PySem.EqNone.eq_int_none (zab I q (by simp))
  | int j=>obtain⟨t',rfl⟩:=ry; exact eq_int (zab I q zdb)
  | str j=>obtain⟨t',rfl⟩:=ry; exact PySem.EqMixed.eq_int_str (zab I q (by simp))
  | _=>exact absurd (show false=true from hs) zN
 | str i=>
  obtain⟨t,rfl⟩:=rx;cases y with
  | non=>cases ry; exact PySem.EqNone.eq_str_none (zab I q (by simp))
  | bl j=>cases ry; exact PySem.EqMixed.eq_str_bool (zab I q (by simp))
  | int j=>obtain⟨t',rfl⟩:=ry; exact PySem.EqMixed.eq_str_int (zab I q (by simp))
  | str j=>obtain⟨t',rfl⟩:=ry; exact eq_str (zab I q zdh)
  | _=>exact absurd (show false=true from hs) zN
 | byt i=>
  obtain⟨t,rfl⟩:=rx;cases y with
  | byt j=>obtain⟨t',rfl⟩:=ry; exact PySem.W.eq_bytes (zab I q zhs)
  | _=>exact absurd (show false=true from hs) zN
 | _=>cases y<;>exact absurd (show false=true from hs) zN
def zil:OpR X (compareOp .NotEq) rNe:=by
 intro pins s σ H x y v u Q I rx ry h;obtain⟨hs,q⟩:=h;cases x with
 | non=>
  cases rx;cases y with
  | non=>cases ry; exact PySem.EqNone.ne_none_none (zab I q (by simp))
  | bl j=>cases ry; exact PySem.EqNone.ne_none_bool (zab I q (by simp))
  | int j=>obtain⟨t',rfl⟩:=ry; exact PySem.EqNone.ne_none_int (zab I q (by simp))
  | str j=>obtain⟨t',rfl⟩:=ry; exact PySem.EqNone.ne_none_str (zab I q (by simp))
  | _=>exact absurd (show false=true from hs) zN
 | bl i=>
  cases rx;cases y with
  | non=>cases ry; exact PySem.EqNone.ne_bool_none (zab I q (by simp))
  | bl j=>cases ry; exact ne_bool (zab I q (ju not zek))
  | str j=>obtain⟨t',rfl⟩:=ry; exact PySem.EqMixed.ne_bool_str (zab I q (by simp))
  | _=>exact absurd (show false=true from hs) zN
 | int i=>
  obtain⟨t,rfl⟩:=rx;cases y with
  | non=>cases ry; exact PySem.EqNone.ne_int_none (zab I q (by simp))
  | int j=>obtain⟨t',rfl⟩:=ry; exact ne_int (zab I q (ju not zdb))
  | str j=>obtain⟨t',rfl⟩:=ry; exact PySem.EqMixed.ne_int_str (zab I q (by simp))
  | _=>exact absurd (show false=true from hs) zN
 | str i=>
  obtain⟨t,rfl⟩:=rx;cases y with
  | non=>cases ry; exact PySem.EqNone.ne_str_none (zab I q (by simp))
  | bl j=>cases ry; exact PySem.EqMixed.ne_str_bool (zab I q (by simp))
  | int j=>obtain⟨t',rfl⟩:=ry; exact PySem.EqMixed.ne_str_int (zab I q (by simp))
  | str j=>obtain⟨t',rfl⟩:=ry; exact ne_str (zab I q (ju not zdh))
  | _=>exact absurd (show false=true from hs) zN
 | byt i=>
  obtain⟨t,rfl⟩:=rx;cases y with
  | byt j=>obtain⟨t',rfl⟩:=ry; exact PySem.W.ne_bytes (zab I q (ju not zhs))
  | _=>exact absurd (show false=true from hs) zN
 | _=>cases y<;>exact absurd (show false=true from hs) zN
def zpO:OpR X (compareOp .Lt) (rI0 λi j=>.bl (decide (i<j))):=opB0 λ_ _ _ _ _ _ _ q=>lt_int q
def zqC:OpR X (compareOp .LtE) (rI0 λi j=>.bl (decide (i<=j))):=opB0 λ_ _ _ _ _ _ _ q=>le_int q
def zpS:OpR X (compareOp .Gt) (rI0 λi j=>.bl (decide (j<i))):=opB0 λ_ _ _ _ _ _ _ q=>gt_int q
def zqt:OpR X (compareOp .GtE) (rI0 λi j=>.bl (decide (j<=i))):=opB0 λ_ _ _ _ _ _ _ q=>ge_int q
def zjx:OpR X (compareOp .In) (λx y H Q=>∃i j,x=.str i/\y=.str j/\Q (.bl (!(Builtin.Str.occurrences j i 0 j.length 1).isEmpty)) H):=by
 intro pins s σ H x y v u Q I rx ry h;obtain⟨i,j,rfl,rfl,q⟩:=h;obtain⟨t,rfl⟩:=rx;obtain⟨t',rfl⟩:=ry;exact in_str (zab I q rfl)
def znY:OpR X (compareOp .Is) (λx y H Q=>y=.non/\Q (.bl (decide (x=.non))) H):=by
 intro pins s σ H x y v u Q I rx ry h;obtain⟨rfl,q⟩:=h;cases ry;refine is_none_gen (zab I q ?_);cases x<;>first
  | (cases rx; rfl)
  | (obtain⟨t,rfl⟩:=rx; rfl)
def zmr:OpR X (compareOp .IsNot) (λx y H Q=>y=.non/\Q (.bl (!decide (x=.non))) H):=by
 intro pins s σ H x y v u Q I rx ry h;obtain⟨rfl,q⟩:=h;cases ry;refine isnot_none_gen (zab I q ?_);cases x<;>first
  | (cases rx; rfl)
  | (obtain⟨t,rfl⟩:=rx; rfl)
def zgF:OpR X (compareOp .NotIn) (λx y H Q=>∃i j,x=.str i/\y=.str j/\Q (.bl (!(!(Builtin.Str.occurrences j i 0 j.length 1).isEmpty))) H):=by
 intro pins s σ H x y v u Q I rx ry h;obtain⟨i,j,rfl,rfl,q⟩:=h;obtain⟨t,rfl⟩:=rx;obtain⟨t',rfl⟩:=ry;exact notIn_str (zab I q rfl)
def zha{op:CmpOp}{r:R2}(ho:OpR X (compareOp op) r)(ha:PE X a ta)(hb:PE X b tb)(hm:behindInMarks op b=false):PE X (.Compare a [op] [b] pos) (tOp r ta tb):=by
 intro pins s σ H Q I h;exact wpAny_Compare1 (binT ha hb I h λv u s2 x y H2 I2 rx ry q=>ho pins s2 σ H2 x y v u Q I2 rx ry q) hm
def zmb(t:TE):TT:=λσ H Q=>t σ H λx H'=>∃k,x=.bl k/\Q k H'
def zhE{op:CmpOp}{r:R2}(ho:OpR X (compareOp op) r)(ha:PE X a ta)(hb:PE X b tb)(hm:behindInMarks op b=false):PT X (.Compare a [op] [b] pos) (zmb (tOp r ta tb)):=by
 intro pins s σ H Q I h
 refine wpAny_isTrue_Compare1 (thn (ha pins s σ H _ I h) λv s1 ⟨x,H1,I1,r1,q1⟩=>thn (hb pins s1 σ H1 _ I1 q1) λu s2 ⟨y,H2,I2,r2,q2⟩=>
  thn (ho pins s2 σ H2 x y v u _ I2 r1 r2 q2) λc s3 ⟨z,H3,I3,r3,k,e,q3⟩=>?_) hm
 subst e;cases r3;exact j6 ⟨H3,I3,q3⟩
def zgp(r r':R2)(ta tb tc:TE):TE:=λσ H Q=>ta σ H λx H1=>tb σ H1 λy H2=>r x y H2 λz H3=>∃k,z=.bl k /\
 (if k=true then tc σ H3 λw' H4=>r' y w' H4 Q else Q (.bl false) H3)
def zld{op op':CmpOp}{r r':R2}(ho:OpR X (compareOp op) r)(ho':OpR X (compareOp op') r')(ha:PE X a ta)(hb:PE X b tb)(hc:PE X c tc)
  (hm:lastMarks [op,op'] [b,c]=false:=by with_unfolding_all rfl):PE X (.Compare a [op,op'] [b,c] pos) (zgp r r' ta tb tc):=by
 intro pins s σ H Q I h
 refine Compare_chain (thn (ha pins s σ H _ I h) λv s1 ⟨x,H1,I1,r1,q1⟩=>chain_link (thn (hb pins s1 σ H1 _ I1 q1) λu s2 ⟨y,H2,I2,r2,q2⟩=>
  thn (ho pins s2 σ H2 x y v u _ I2 r1 r2 q2) λd s3 ⟨z,H3,I3,r3,k,e,q3⟩=>?_)) hm
 subst e;cases r3;refine j6 ?_;cases k with
 | false=>exact ite_ff ⟨.bl false,H3,I3,rfl,q3⟩
 | true=>exact ite_tt (chain_last (thn (hc pins s3 σ H3 _ I3 q3) λw' s4 ⟨z',H4,I4,r4,q4⟩=>ho' pins s4 σ H4 y z' u w' Q I4 r2 r4 q4))
def zlC{op op':CmpOp}{r r':R2}(ho:OpR X (compareOp op) r)(ho':OpR X (compareOp op') r')(ha:PE X a ta)(hb:PE X b tb)(hc:PE X c tc)
  (hm:lastMarks [op,op'] [b,c]=false:=by with_unfolding_all rfl):PT X (.Compare a [op,op'] [b,c] pos) (zmb (zgp r r' ta tb tc)):=by
 intro pins s σ H Q I h
 refine isTrue_chain (thn (ha pins s σ H _ I h) λv s1 ⟨x,H1,I1,r1,q1⟩=>test_link (thn (hb pins s1 σ H1 _ I1 q1) λu s2 ⟨y,H2,I2,r2,q2⟩=>
  thn (ho pins s2 σ H2 x y v u _ I2 r1 r2 q2) λd s3 ⟨z,H3,I3,r3,k,e,q3⟩=>?_)) hm
 subst e;cases r3;refine j6 ?_;cases k with
 | false=>
  obtain⟨k',e',q'⟩:=q3;cases e';exact ite_ff ⟨H3,I3,q'⟩
 | true=>
  refine ite_tt (test_last (thn (hc pins s3 σ H3 _ I3 q3) λw' s4 ⟨z',H4,I4,r4,q4⟩=>thn (ho' pins s4 σ H4 y z' u w' _ I4 r2 r4 q4) λd' s5 ⟨z2,H5,I5,r5,k2,e2,q5⟩=>?_));subst e2;cases r5;exact j6 ⟨H5,I5,q5⟩
def zcn:(sizeLine:Nat)<2 ^ 63:=by rw[jD]; decide
def zh9:OpR X (binaryOp .Add) (λx y H Q=>∃i j,x=.str i/\y=.str j/\i.length+j.length<=sizeLine/\Q (.str (i++j)) H):=by
 intro pins s σ H x y v u Q I rx ry h;obtain⟨i,j,rfl,rfl,hz,q⟩:=h;obtain⟨t,rfl⟩:=rx;obtain⟨t',rfl⟩:=ry;exact add_str (λt' tk=>⟨.str (i++j),H,I.tok _,⟨_,rfl⟩,q⟩) hz
def vals1{x:V}{us:List Value}(r:Vals [x] us):∃u,us=[u]/\RelV x u:=by
 cases r with
 | cons r1 r2=>cases r2; exact⟨_,rfl,r1⟩
def vals2{x y:V}{us:List Value}(r:Vals [x,y] us):∃u w',us=[u,w']/\RelV x u/\RelV y w':=by
 cases r with
 | cons r1 r2=>
  cases r2 with
  | cons r3 r4=>cases r4; exact⟨_,_,rfl,r1,r3⟩
def zff:zar X (.type "int") (λxs H Q=>(∃i,xs=[.int i]/\Q (.int i) H)\/∃k,xs=[.bl k]/\Q (.int (if k then 1 else 0)) H):=by
 intro pins s σ H xs us Q I r h;rcases h with ⟨i,rfl,q⟩ | ⟨k,rfl,q⟩
 .obtain⟨u,rfl,t,rfl⟩:=vals1 r
  exact call_int_int ⟨.int i,H,I,⟨_,rfl⟩,q⟩
 .obtain⟨u,rfl,r1⟩:=vals1 r
  cases r1;exact call_int_bool ⟨.int (if k then 1 else 0),H,I.tok _,⟨_,rfl⟩,q⟩
def zgM:zar X (.type "str") (λxs H Q=>∃i,xs=[.int i]/\i.natAbs.log2<1920/\Q (.str (toString i)) H):=by
 intro pins s σ H xs us Q I r h;obtain⟨i,rfl,hz,q⟩:=h;obtain⟨u,rfl,t,rfl⟩:=vals1 r;exact PySem.P.str_of_int hz ⟨.str _,H,I.tok _,⟨_,rfl⟩,q⟩
end
end L2
namespace L2
open PySem PySem.Spec PyProof.Rows
structure ObjM(h:Heap)(x dx C:Addr)(mA:Str->Option Value):Prop where
 obj:h.get? x=some (PySem.W.instObj C dx)
 ns:h.Ns1 dx mA
 ne:dx≠x
def zjR{h:Heap}{dx:Addr}{mA:Str->Option Value}(n:h.Ns1 dx mA):∃od,h.get? dx=some od/\∀name,PySem.W.lookIn name od=some (mA name):=by
 obtain⟨o,es,ep,ho,hd,hk,_,hm⟩:=n;refine⟨o,ho,λname=>?_⟩;have e:=hm name;unfold nsFind findBy at e;rw[<-v8] at e;unfold PySem.W.lookIn;rw[hd];dsimp only;split
 .rename_i y q
  rw[q] at e;exact ju some e
 .rename_i q
  rw[q] at e;have a:es.toList.any (·.refKey)=false:=by
   rw[List.any_eq_false];intro y hy;obtain⟨z,t,hkey⟩:=hk y (yq.mp hy);simp[DictEntry.refKey,hkey]
  have a':¬es.toList.any (·.refKey)=true:=by rw[a]; exact zN
  rw[zZ a'];exact ju some e
def ObjM.look{h:Heap}{x dx C:Addr}{mA:Str->Option Value}(I:ObjM h x dx C mA):∃od,PySem.W.InstAt h x (PySem.W.instObj C dx) C (some od)/\∀name,PySem.W.lookIn name od=some (mA name):=
 let ⟨od,ho,hl⟩:=zjR I.ns
 ⟨od,⟨I.obj,rfl,rfl,ho⟩,hl⟩
section
variable{P:Program}{w:World}{H H':Hp}{h h':Heap}{a C dx:Addr}{fs fs':List (Str×V)}
def znD(hok:HOk P w H h)(e:H a=some (.ins C dx fs)):∃mA,ObjM h a dx C mA/\(∀f,RelO (fs.lookup f) (mA f))/\PySem.Within mA (fs.map (·.1))/\fs.length<=1000/\H dx=some (.own a):=by
 obtain⟨d,z,ne,ob,mA,n,r,q⟩:=(show ObjOk P w H h a (.ins C dx fs) from hok a _ e);exact⟨mA,⟨ob,n,ne⟩,r,q,z,d⟩
end
structure Cls(K:PySem.W.Frag)(C:Addr):Prop where
 pg:PySem.W.plainGet K C Str.empty=true
 hd:PySem.W.hasDictIn K C=true
 po:PySem.W.plainOver K C=true
 sa:PySem.W.findIn K (.ref C) "__setattr__" = some (some (.builtin "object.__setattr__"))
def Cls.get{K:PySem.W.Frag}{C:Addr}(c:Cls K C)(f:Str):PySem.W.plainGet K C f=true:=c.pg
section
variable{X:Cx}{pins:List (Addr×Obj)}{σ:St}{H:Hp}{s:Shared}{A:Around}{E:Value->Shared->Prop}{Q:Value->Shared->Prop}{c:Value}{b:Bool}
inductive TyOf(K:PySem.W.Frag)(H:Hp):V->Value->Prop where
 | non:TyOf K H .non (.type "NoneType")
 | bl (x:Bool):TyOf K H (.bl x) (.type "bool")
 | int (i:Int):TyOf K H (.int i) (.type "int")
 | str (x:Str):TyOf K H (.str x) (.type "str")
 | flt (x:UInt64):TyOf K H (.flt x) (.type "float")
 | lst {a:Addr} {xs:List V} (e:H a=some (.lst xs)):TyOf K H (.ref a) (.type "list")
 | frz {a:Addr} {o:Obj} {xs:List V} (e:H a=some (.frz o (.lst xs))):TyOf K H (.ref a) (.type "list")
 | tup {a:Addr} {xs:List V} (e:H a=some (.tup xs)):TyOf K H (.ref a) (.type "tuple")
 | dK {a:Addr} {kvs:List (Key×V)} (e:H a=some (.dK kvs)):TyOf K H (.ref a) (.type "dict")
 | dT {a:Addr} {kvs:List (List Key×V)} (e:H a=some (.dT kvs)):TyOf K H (.ref a) (.type "dict")
 | ins {a C dx:Addr} {fs:List (Str×V)} (e:H a=some (.ins C dx fs)) (cl:Cls K C) (ha:PySem.W.findIn K (.ref C) "__class__" = some (some (.builtin "object.__class__")))
   (hn:PySem.W.specialIn K (.builtin "object.__class__") "__get__" = some (some (.builtin "getset_descriptor.__get__"))) (htk:PySem.W.takesIn K (.builtin "object.__class__")=some true)
   (hm:PySem.W.mroIn K C (.type "object")=some true):TyOf K H (.ref a) (.ref C)
def zj6{x:V}{u t:Value}(I:Inv X pins σ H s)(rx:RelV x u)(ty:TyOf X.K H x t)(e:PySem.W.kitOne X.K t c=some b)(h:∀tk,Q (.bool b) { s with toks:=tk }) :
  wpAny (model X.prog X.w) A (call (.builtin "isinstance") [u,c]) Q E s:=by
 cases ty with
 | non=>cases (show u=Value.none from rx); exact je PySem.W.kitx_none I.kIn True.intro e (λz=>nomatch z) h
 | bl y=>cases (show u=Value.bool y from rx); exact je PySem.W.kitx_bool I.kIn True.intro e (λz=>nomatch z) h
 | int i=>obtain⟨t,q⟩:=(show ∃t,u=Value.int i t from rx); cases q; exact je PySem.W.kitx_int I.kIn True.intro e (λz=>nomatch z) h
 | str y=>obtain⟨t,q⟩:=(show ∃t,u=Value.str y t from rx); cases q; exact je PySem.W.kitx_str I.kIn True.intro e (λz=>nomatch z) h
 | flt y=>obtain⟨t,q⟩:=(show ∃t,u=Value.float y t from rx); cases q; exact je PySem.W.kitx_float I.kIn True.intro e (λz=>nomatch z) h
 | @lst a xs ea=>
  cases (show u=Value.ref a from rx);obtain⟨_,_,n,_,h1⟩:=(show ObjOk X.prog X.w H s.heap a (.lst xs) from I.hok a _ ea);exact je wz I.kIn ⟨_,h1,rfl⟩ e (λz=>nomatch z) h
 | @frz a ob xs ea=>
  cases (show u=Value.ref a from rx);obtain⟨_,_,_,n,_,h1⟩:=(show ObjOk X.prog X.w H s.heap a (.frz ob (.lst xs)) from I.hok a _ ea);exact je wz I.kIn ⟨_,h1,rfl⟩ e (λz=>nomatch z) h
 | @tup a xs ea=>
  cases (show u=Value.ref a from rx);obtain⟨_,_,_,p,_⟩:=(show ObjOk X.prog X.w H s.heap a (.tup xs) from I.hok a _ ea);obtain⟨o,h1,h2,_⟩:=p;exact je uT I.kIn ⟨o,h1,h2⟩ e (λz=>nomatch z) h
 | @dK a kvs ea=>
  cases (show u=Value.ref a from rx);obtain⟨_,_,vs,_,p⟩:=(show ObjOk X.prog X.w H s.heap a (.dK kvs) from I.hok a _ ea);obtain⟨o,es,ep,h1,h2,_⟩:=p;exact je yL I.kIn ⟨o,h1,h2.1⟩ e (λz=>nomatch z) h
 | @dT a kvs ea=>
  cases (show u=Value.ref a from rx);obtain⟨_,_,xs,_,o,es,ep,h1,h2,_⟩:=(show ObjOk X.prog X.w H s.heap a (.dT kvs) from I.hok a _ ea);exact je yL I.kIn ⟨o,h1,h2.1⟩ e (λz=>nomatch z) h
 | @ins a C dx fs ea cl ha hn htk hm=>
  cases (show u=Value.ref a from rx);obtain⟨mA,O,_⟩:=znD I.hok ea;obtain⟨od,J,_⟩:=O.look;exact je (PySem.W.kitx_own (cl.get _) cl.hd ha hn htk hm) I.kIn J e (λz=>nomatch z) h
end
end L2
namespace L2
open PySem PySem.Spec PyProof.Rows
structure Room(k:Nat)(A:Around):Prop where
 hd:A.handled=none
 dp:A.depth+3*k+5<recursionLimit
 un:A.units+16*k+200<cLine
theorem Room.deeper{k:Nat}{A:Around}(r:Room (k+1) A)(env:Env):Room k (A.deeper env):=
 ⟨r.hd,by have:=r.dp; show A.depth+1+3*k+5<_; omega,by have:=r.un; show A.units+3+16*k+200<_; omega⟩
theorem Room.depth{k:Nat}{A:Around}(r:Room k A):A.depth<recursionLimit:=by have:=r.dp; omega
theorem Room.units{k:Nat}{A:Around}(r:Room k A):A.units+64<cLine:=by have:=r.un; omega
def tNil:TA:=λ_ H Q=>Q [] H
def zqx(ta:TE)(tr:TA):TA:=λσ H Q=>ta σ H λx H1=>tr σ H1 λxs H2=>Q (x::xs) H2
section
variable{X:Cx}{e:Expr}{es:List Expr}{te:TE}{t:TA}{pos:Pos}
def zi7:PA X [] tNil:=λ_ _ _ _ H Q I h=>vU ⟨[],H,I,.nil,h⟩
def zeC(ha:PE X e te)(hr:PA X es t)(hs:starEach (e::es) X.env=(false,eval e X.env)::starEach es X.env:=by rfl):PA X (e::es) (zqx te t):=by
 intro pos pins s σ H Q I h;rw[hs];show wpAny _ _ (spliced ((false,eval e X.env)::backTo pos (starEach es X.env))) _ _ s
 refine vN (thn (ha pins s σ H _ I h) λu s1 ⟨x,H1,I1,r1,q1⟩=>?_);exact thn (hr pos pins s1 σ H1 _ I1 q1) λus s2 ⟨xs,H2,I2,r2,q2⟩=>⟨x::xs,H2,I2,.cons r1 r2,q2⟩
def tTup(t:TA):TE:=λσ H Q=>t σ H λxs H1=>xs.length<=sizeLine/\∀p,H1 p=none->Q (.ref p) (upd H1 p (.tup xs))
def tLst(t:TA):TE:=λσ H Q=>t σ H λxs H1=>xs.length<=sizeLine/\∀p,H1 p=none->Q (.ref p) (upd H1 p (.lst xs))
def zpt{x1}(h:PA X es t):PE X (.Tuple es x1 pos) (tTup t):=by
 intro pins s σ H Q I hq;refine wpAny_Tuple_spliced (thn (h pos pins s σ H _ I hq) λus s1 ⟨xs,H1,I1,r,z,q⟩=>⟨by rw[<-r.length]; exact z,?_⟩);have hf:H1 s1.heap.objs.size=none:=I1.hok.fresh (zu _);refine⟨.ref s1.heap.objs.size,upd H1 s1.heap.objs.size (.tup xs),I1.laid (t':=s1.toks) (λb u e=>zc _ e) (zu _) ?_,rfl,q _ hf⟩;exact⟨z,us,r,⟨_,zA _ rfl,rfl,_,rfl⟩,.new _ _⟩
def zjn(h:PA X es t):PE X (.List es pos) (tLst t):=by
 intro pins s σ H Q I hq;refine wpAny_List_spliced (thn (h pos pins s σ H _ I hq) λus s1 ⟨xs,H1,I1,r,z,q⟩=>⟨by rw[<-r.length]; exact z,?_⟩);have hf:H1 s1.heap.objs.size=none:=I1.hok.fresh (zu _);refine⟨.ref s1.heap.objs.size,upd H1 s1.heap.objs.size (.lst xs),I1.laid (t':=s1.toks) (λb u e=>zc _ e) (zu _) ?_,rfl,q _ hf⟩;exact⟨z,us,0,r,zA _ rfl⟩
end
abbrev Sp:=List V->Hp->VK->XK->Prop
abbrev CXT:=List Env->Hp->Shared->XK->Value->Shared->Prop
structure Env0(P:Program)(w:World)(K:PySem.W.Frag)(mg:Str->Option Value)(base:Heap)(A:Around)(outer:List Env)(s:Shared)(H:Hp):Prop where
 frames:A.frames=some outer
 mod:Mod K mg base
 bs:∀b o,base.get? b=some o->s.heap.get? b=some o/\H b=none
 bsz:base.objs.size<=s.heap.objs.size
 funs:s.heap.FunFrames base outer
 frf:∀b∈frs outer,H b=none
 hok:HOk P w H s.heap
 bare:AllBare s.gens
def CE(outer:List Env)(P:Program)(w:World)(H:Hp)(s:Shared)(Q:VK)(u:Value)(s':Shared):Prop:=
 ∃v H',s'.os=s.os/\AllBare s'.gens/\Un (frs outer) [] H H' s.heap s'.heap/\HOk P w H' s'.heap/\RelV v u/\Q v H'
def CR(CX:CXT)(outer:List Env)(P:Program)(w:World)(H:Hp)(s:Shared)(Q:VK)(E:XK)(r:Result)(s':Shared):Prop:=
 match r with
 | .ok (.ret u)=>CE outer P w H s Q u s'
 | .ok _=>False
 | .error e=>CX outer H s E e s'
structure FnOk(P:Program)(w:World)(K:PySem.W.Frag)(mg:Str->Option Value)(base:Heap)(CX:CXT)(k:Nat)(f:Addr)(fd:FuncData)(ps:List Str)(sp:Sp):Prop where
 len:∀vs H Q E,sp vs H Q E->vs.length=ps.length
 run:∀(A:Around) (outer:List Env) (s:Shared) (H:Hp) (args:Args) (us:List Value) (vs:List V) (Q:VK) (E:XK),Room k A->Env0 P w K mg base A outer s H->BindsTo s fd args (ps.zip us)->Vals vs us->sp vs H Q E->
  codeAny (model P w) A (.call (.ref f) args) (CR CX outer P w H s Q E) s
def FnOk.imp{P:Program}{w:World}{K:PySem.W.Frag}{mg:Str->Option Value}{base:Heap}{CX:CXT}{k:Nat}{f:Addr}{fd:FuncData}{ps:List Str}{sp sp':Sp}(F:FnOk P w K mg base CX k f fd ps sp)
  (h:∀vs H Q E,sp' vs H Q E->sp vs H Q E):FnOk P w K mg base CX k f fd ps sp':=
 ⟨λvs H Q E q=>F.len vs H Q E (h _ _ _ _ q),λA outer s H args us vs Q E hr he hb hv hs=>F.run A outer s H args us vs Q E hr he hb hv (h _ _ _ _ hs)⟩
section
variable{X:Cx}{pins:List (Addr×Obj)}{σ:St}{H:Hp}{s s':Shared}
def Inv.env0(I:Inv X pins σ H s):Env0 X.prog X.w X.K X.mg X.base X.A X.stack s H:=
 ⟨I.ok.frames,I.ok.mod,I.bs,zF I.ok.bsz I.sz,I.stack,I.stkFree,I.hok,I.bare⟩
def Inv.after{Q:VK}{u:Value}(I:Inv X pins σ H s)(h:CE X.stack X.prog X.w H s Q u s'):EP X pins σ Q u s':=by
 obtain⟨v,H',os,bare,un,hok,r,q⟩:=h;obtain⟨hh,g,d,t,os'⟩:=s';obtain rfl:os'=s.os:=os;exact⟨v,H',I.call (h':=hh) (g':=g) (d':=d) (t':=t) (ch:=[]) un hok bare (λb z=>absurd z (by simp)),r,q⟩
end
def zmf(sp:Sp)(dvs:List V)(E:XK)(t:TA):TE:=λσ H Q=>t σ H λvs H1=>sp (vs++dvs) H1 Q E
def Binds(K:PySem.W.Frag)(fd:FuncData)(ps:List Str)(ds:List Value):Prop:=
 ∀(s:Shared) (us:List Value),K.In s.heap->(us++ds).length=ps.length->BindsTo s fd ⟨us,[]⟩ (ps.zip (us++ds))
def Binds.all{K:PySem.W.Frag}{fd:FuncData}{ps:List Str}(h:∀us:List Value,us.length=ps.length->bindArgs fd ⟨us,[]⟩=pure (ps.zip us)):Binds K fd ps []:=λs us _ hl=>by
 rw[yg] at hl ⊢;exact .of_eq (h us hl)
def zeh(CX:CXT)(X:Cx)(E:XK):Prop:=∀(pins:List (Addr×Obj)) (σ:St) (H:Hp) (s:Shared) (e:Value) (s':Shared),Inv X pins σ H s->CX X.stack H s E e s'->X.xe e s'
section
variable{X:Cx}{CX:CXT}{k:Nat}{f C:Addr}{fd:FuncData}{ps:List Str}{sp:Sp}{dvs:List V}{ds:List Value}{E:XK}{x m:Str}{p pos apos:Pos}{e o:Expr}{es:List Expr}{ta:TE}{t:TA}
def zji{pins:List (Addr×Obj)}{σ:St}{H:Hp}{s:Shared}{Q:VK}{us:List Value}{vs:List V}(F:FnOk X.prog X.w X.K X.mg X.base CX k f fd ps sp)(hr:Room k X.A)(hb:Binds X.K fd ps ds)(hd:Vals dvs ds)(hx:zeh CX X E)
  (I:Inv X pins σ H s) (r:Vals vs us) (h:sp (vs++dvs) H Q E):wpAny (model X.prog X.w) X.A (call (.ref f) us) (EP X pins σ Q) X.xe s:=by
 have r2:Vals (vs++dvs) (us++ds):=r.append hd;have hl:(us++ds).length=ps.length:=by rw[<-r2.length]; exact F.len _ _ _ _ h
 refine wpAny_call (yx (F.run X.A X.stack s H ⟨us,[]⟩ (us++ds) (vs++dvs) Q E hr I.env0 (hb s us I.kIn hl) r2 h) λr s' hq=>?_);cases r with
 | error e=>exact hx pins σ H s e s' I hq
 | ok fl=>
  cases fl with
  | ret u=>exact I.after hq
  | next=>exact False.elim hq
  | brk=>exact False.elim hq
  | cont=>exact False.elim hq
def zmS(F:FnOk X.prog X.w X.K X.mg X.base CX k f fd ps sp)(hr:Room k X.A)(hg:Gl X x)(hm:X.mg x=some (.ref f))(hk:PySem.W.keepIn X.K (.ref f)=true)(hb:Binds X.K fd ps ds)(hd:Vals dvs ds)(hx:zeh CX X E)
  (ha:PA X (e::es) t) (hdb:(x==("__debug__":Str))=false:=by decide) (he:starEach (e::es) X.env=(false,eval e X.env)::starEach es X.env:=by rfl) (hpl:(backTo pos (starEach es X.env)).any (·.1)=false:=by rfl) :
  PE X (.Call (.Name x p) (e::es) [] pos) (zmf sp dvs E t):=by
 intro pins s σ H Q I h;refine qe (zeB I hg hm ?_ hdb);refine PySem.W.callWith_K (h₀:=X.base) I.ok.mod.kin hk (thn (ha pos pins s σ H _ I h) λus s1 ⟨vs,H1,I1,r,q⟩=>⟨I1.kIn,?_⟩) he hpl;exact zji F hr hb hd hx I1 r q
def zls(F:FnOk X.prog X.w X.K X.mg X.base CX k f fd ps sp)(hr:Room k X.A)(hg:Gl X x)(hm:X.mg x=some (.ref f))(hk:PySem.W.keepIn X.K (.ref f)=true)(hb:Binds X.K fd ps ds)(hd:Vals dvs ds)(hx:zeh CX X E)
  (hdb:(x==("__debug__":Str))=false:=by decide):PE X (.Call (.Name x p) [] [] pos) (zmf sp dvs E tNil):=by
 intro pins s σ H Q I h;refine qe (zeB I hg hm ?_ hdb);exact PySem.W.callWith_K0 I.kIn hk (zji (us:=[]) F hr hb hd hx I .nil h)
end
section
variable{X:Cx}{CX:CXT}{k:Nat}{f C:Addr}{fd:FuncData}{ps ks:List Str}{sp:Sp}{E:XK}{x m:Str}{p pos apos kpos:Pos}{e o:Expr}{es:List Expr}{kws:List Keyword}{te ta:TE}{t tk:TA}{nm:Option Str}
variable{g:List Value->List Value->List Value}{gV:List V->List V->List V}
end
structure FnScope(N P:List Str)(sc:Scope):Prop where
 kind:sc.kind=.function
 co:sc.isCoroutine=false
 gen:sc.isGenerator=false
 nd:N.Nodup
 pre:N.take P.length=P
 par:∀x∈P,sc.names.lookup x=some .local\/sc.names.lookup x=some .cell
 nofree:∀y∈sc.names,y.2≠.free
theorem ze1{kindOf:Str->Option NameKind}{x:Str}:∀{binds:List (Str×Value)} {m:Str->Option Value},(∀v,(x,v)∉binds)->bindL kindOf binds m x=m x
 | [],_,_=>rfl
 | (n,v)::r,m,h=>by
  unfold bindL;rw[ze1 λw hw=>h w (zq _ hw)];split
  .have:x≠n:=by rintro rfl; exact h v zy
   simp[this]
  .rfl
theorem zeQ{kindOf:Str->Option NameKind}{x:Str}:∀{binds:List (Str×Value)} {m:Str->Option Value},(∀v,(x,v)∉binds)->bindC kindOf binds m x=m x
 | [],_,_=>rfl
 | (n,v)::r,m,h=>by
  unfold bindC;rw[zeQ λw hw=>h w (zq _ hw)];split
  .rfl
  .have:x≠n:=by rintro rfl; exact h v zy
   simp[this]
theorem ze6{kindOf:Str->Option NameKind}{x:Str}{v:Value}:∀{P:List Str} {vs:List Value} {i:Nat} {m:Str->Option Value},P.Nodup->P[i]?=some x->vs[i]?=some v->kindOf x=some .local->
  bindL kindOf (P.zip vs) m x=some v
 | [],_,_,_,_,h,_,_=>by simp at h
 | _::_,[],_,_,_,_,h,_=>by simp at h
 | p::P,w::vs,0,m,nd,h1,h2,hk=>by
  simp at h1 h2; subst h1; subst h2;show bindL kindOf ((p,w)::P.zip vs) m p=_
  unfold bindL;rw[ze1 λv hv=>(jA.mp nd).1 (ql hv).1,zR hk];simp
 | p::P,w::vs,i+1,m,nd,h1,h2,hk=>by
  show bindL kindOf ((p,w)::P.zip vs) m x=_
  unfold bindL;exact ze6 (i:=i) (jA.mp nd).2 (by simpa using h1) (by simpa using h2) hk
theorem zeS{kindOf:Str->Option NameKind}{x:Str}{v:Value}:∀{P:List Str} {vs:List Value} {i:Nat} {m:Str->Option Value},P.Nodup->P[i]?=some x->vs[i]?=some v->kindOf x≠some .local->
  bindC kindOf (P.zip vs) m x=some v
 | [],_,_,_,_,h,_,_=>by simp at h
 | _::_,[],_,_,_,_,h,_=>by simp at h
 | p::P,w::vs,0,m,nd,h1,h2,hk=>by
  simp at h1 h2; subst h1; subst h2;show bindC kindOf ((p,w)::P.zip vs) m p=_
  unfold bindC;rw[zeQ λv hv=>(jA.mp nd).1 (ql hv).1,zZ hk];simp
 | p::P,w::vs,i+1,m,nd,h1,h2,hk=>by
  show bindC kindOf ((p,w)::P.zip vs) m x=_
  unfold bindC;exact zeS (i:=i) (jA.mp nd).2 (by simpa using h1) (by simpa using h2) hk
def start(N:List Str)(vs:List V):St:=vs.map some++List.replicate (N.length-vs.length) none
def cxOf(CX:CXT)(P:Program)(w:World)(K:PySem.W.Frag)(mg:Str->Option Value)(base:Heap)(N:List Str)(qual:Str)(scope:Scope)(f:Addr)(cd:Value)(A:Around)(outer:List Env)(s:Shared)(H:Hp)(E:XK):Cx where
 prog:=P
 w:=w
 K:=K
 mg:=mg
 base:=base
 A:=A.deeper (envOfC qual scope s.heap.objs.size f cd)
 N:=N
 s₀:=s
 H₀:=H
 env:=envOfC qual scope s.heap.objs.size f cd
 outer:=outer
 stack:=envOfC qual scope s.heap.objs.size f cd::outer
 ex:=[]
 calm:=true
 fn:=λ_=>true
 pn:=[]
 xe:=λe s'=>wpAny (model P w) (A.deeper (envOfC qual scope s.heap.objs.size f cd)) (leaving (envOfC qual scope s.heap.objs.size f cd) e) (λ_ s''=>CX outer H s E e s'') (λe' s''=>CX outer H s E e' s'') s'
def zfI{sc:Scope}{n:Nat}{x:Str}(h:sc.names.lookup x=some .cell):∃c,(cellsFrom n sc.names []).lookup x=some c:=by
 have q:=uv sc.names n [] (.inl h);exact vh.mp q
def zjm{CX:CXT}{P:Program}{w:World}{K:PySem.W.Frag}{mg:Str->Option Value}{base:Heap}{N ps:List Str}{qual:Str}{scope:Scope}{f:Addr}{cd:Value}{A:Around}{outer:List Env}{s s1:Shared}{H:Hp}{E:XK}{us:List Value}{vs:List V}
  (S:FnScope N ps scope) (hd:A.handled=none) (e0:Env0 P w K mg base A outer s H) (hl:vs.length=ps.length) (r:Vals vs us)
  (x:InCallC s s.heap.objs.size (bindL (envOfC qual scope s.heap.objs.size f cd).kindOf (ps.zip us) λ_=>none) (cellsFrom (s.heap.objs.size+1) scope.names []) (bindC (envOfC qual scope s.heap.objs.size f cd).kindOf (ps.zip us) λ_=>none) s1) :
  Inv (cxOf CX P w K mg base N qual scope f cd A outer s H E) [] (start N vs) H s1:=by
 have hpl:ps.length<=N.length:=by have:=ju List.length S.pre; rw[qu] at this; omega
 obtain⟨h1,tk,rfl,hk⟩:=x.done;have noA:∀b:Addr,b∉(cxOf CX P w K mg base N qual scope f cd A outer s H E).ex:=λb z=>absurd (show b∈([]:List Addr) from z) (by simp)
 refine⟨⟨e0.mod,S.kind,rfl,rfl,zu _,λy z c h1 h2=>?_,λy hy=>?_,λy c _ h=>?_,λ_=>hd,Around.frames_deeper e0.frames,.inr ⟨rfl,rfl⟩,λb z=>absurd z (noA b),e0.bs,e0.bsz,λb _ _=>noA b,λb z=>absurd z (noA b),e0.funs,e0.frf⟩,
  rfl,e0.bare,Un.kept hk,⟨_,x.toInCall.ns,λi y v h1 h2 h3=>?_⟩,λy c h=>⟨_,x.cell y c h⟩,e0.hok.fresh (zu _),λy c h=>?_,λp hp=>absurd (show p∈([]:List (Addr×Obj)) from hp) (by simp),e0.hok.kept hk,?_⟩
 .exact name_of_addr x.apart (vf h1) (vf h2)
 .have hy:scope.names.lookup y=some .cell\/scope.names.lookup y=some .free:=hy
  rcases hy with hy | hy
  .exact zfI hy
  .exact absurd rfl (S.nofree _ (vf hy))
 .exact qL (x.above y c (vf h))
 .have hi:i<vs.length:=by
   unfold start at h2;by_cases hi:i<vs.length
   .exact hi
   .rw[kj (by simpa using hi)] at h2
    rw[qG] at h2;split at h2<;>cases h2
  have ha:vs[i]?=some v:=by
   unfold start at h2;rw[zX (by simpa using hi),kJ] at h2;cases e:vs[i]? with
   | none=>rw[e] at h2; cases h2
   | some a=>rw[e] at h2; cases h2; rfl
  obtain⟨u,hu,rv⟩:=r.get ha;have hp:ps[i]?=some y:=by
   rw[<-S.pre,uf ∅]; exact h1
  have ndP:ps.Nodup:=by rw[<-S.pre]; exact S.nd.sublist (yN _ _)
  refine⟨u,rv,?_⟩;rcases S.par y (qd hp) with k | k
  .exact .inl ⟨k,ze6 ndP hp hu k⟩
  .obtain⟨c,e⟩:=zfI (n:=s.heap.objs.size+1) k
   refine .inr ⟨.inl k,c,e,?_⟩;have q:=x.cell y c e;rw[zeS ndP hp hu (by show scope.names.lookup y≠_; rw[k]; decide)] at q;exact q
 .exact e0.hok.fresh (qL (x.above y c (vf h)))
 .unfold start
  show _=N.length
  rw[zW,zL,qM];omega
def zqq{CX:CXT}{P:Program}{w:World}{K:PySem.W.Frag}{mg:Str->Option Value}{base:Heap}{k:Nat}{f:Addr}{name qual:Str}{params:Arguments}{body:List Stmt}{scope:Scope}{dV kV doc pm cdv ct oc:Value}{an od:Option Addr}
  {osl:Array (Option Value)} {N ps:List Str} {sp:Sp} (lk:K.lookup f=some ⟨oc,od,.func (PySem.W.fnOf name qual params body scope dV kV doc pm an cdv ct),osl⟩) (hcd:PySem.W.codeIn K cdv qual=true) (S:FnScope N ps scope)
  (len:∀vs H Q E,sp vs H Q E->vs.length=ps.length)
  (hbody:∀(A:Around) (outer:List Env) (s:Shared) (H:Hp) (vs:List V) (Q:VK) (E:XK),Room k (A.deeper (envOfC qual scope s.heap.objs.size f cdv))->sp vs H Q E->
   ∃t,PSs (cxOf CX P w K mg base N qual scope f cdv A outer s H E) body t/\t { nx:=λ_ H'=>Q .non H',rt:=Q } (start N vs) H) :
  FnOk P w K mg base CX (k+1) f (PySem.W.fnOf name qual params body scope dV kV doc pm an cdv ct) ps sp:=by
 refine⟨len,λA outer s H args us vs Q E hr e0 hb r hsp=>?_⟩;have hl:=len _ _ _ _ hsp;have KX:K.In s.heap:=e0.mod.kin.keeps λb o e=>(e0.bs b o e).1
 have lim:s.heap.NoLimit:=e0.mod.nolimit.keeps λb o e=>(e0.bs b o e).1
 have hkind:∀y∈ps.zip us,scope.names.lookup y.1=some .local\/(scope.names.lookup y.1=some .cell/\((cellsFrom (s.heap.objs.size+1) scope.names []).lookup y.1).isSome=true):=λ⟨n,v⟩ hy=>by
  rcases S.par n (ql hy).1 with q | q
  .exact .inl q
  .exact .inr ⟨q,uv _ _ _ (.inl q)⟩
 refine codeAny_call_function hr.depth (KX _ _ lk) rfl S.co S.gen rfl (PySem.W.codeRec_of KX hcd) (hb _ _ _ _ ?_);refine wpAny_newFunctionEnv_cells S.kind hkind λenv he s1 x=>?_
 subst he;refine⟨lim.keeps x.toInCall.keep,codeAny_func ?_⟩;obtain⟨t,ht,hq⟩:=hbody A outer s H vs Q E (hr.deeper _) hsp;have I:Inv (cxOf CX P w K mg base N qual scope f cdv A outer s H E) [] (start N vs) H s1:=zjm S hr.hd e0 hl r x;refine jV (ht [] s1 (start N vs) H _ I hq) (λfl s' hs=>?_) λe s' hs=>hs
 have fin:∀{σ':St} {H':Hp} {v:V} {u:Value},Inv (cxOf CX P w K mg base N qual scope f cdv A outer s H E) [] σ' H' s'->RelV v u->Q v H'->CE outer P w H s Q u s':=
  λ{σ' H' v u} J rv q=>⟨v,H',J.os,J.bare,J.base,J.hok,rv,q⟩
 cases fl with
 | ret u=>
  obtain⟨v,σ',H',J,rv,q⟩:=hs;exact fin J rv q
 | next=>
  obtain⟨σ',H',J,q⟩:=hs;exact fin (v:=V.non) (u:=Value.none) J rfl q
 | brk=>
  obtain⟨_,_,_,q⟩:=hs;exact False.elim q
 | cont=>
  obtain⟨_,_,_,q⟩:=hs;exact False.elim q
end L2
namespace L2
open PySem PySem.Spec PyProof.Rows
section
variable{X:Cx}{x:Str}{p pos:Pos}{e:Expr}{es:List Expr}{t:TA}{id T:String}{r:List V->Hp->VK->Prop}
def tCB(r:List V->Hp->VK->Prop)(t:TA):TE:=λσ H Q=>t σ H λvs H1=>r vs H1 Q
def zfH(hc:zar X (.builtin id) r)(hg:Gl X x)(hm:X.mg x=none)(hv:bootBuiltins x=some (.builtin id))(ha:PA X (e::es) t)(hn:x≠"__name__":=by decide)(hdb:(x==("__debug__":Str))=false:=by decide)
  (he:starEach (e::es) X.env=(false,eval e X.env)::starEach es X.env:=by rfl) (hpl:(backTo pos (starEach es X.env)).any (·.1)=false:=by rfl):PE X (.Call (.Name x p) (e::es) [] pos) (tCB r t):=by
 intro pins s σ H Q I h;refine qe (zbu I hg hm hv ?_ hn hdb);exact yW (thn (ha pos pins s σ H _ I h) λus s1 ⟨vs,H1,I1,r1,q1⟩=>hc pins s1 σ H1 vs us Q I1 r1 q1) he hpl
def ziY(hc:zar X (.type T) r)(hg:Gl X x)(hm:X.mg x=none)(hv:bootBuiltins x=some (.type T))(ha:PA X (e::es) t)(hn:x≠"__name__":=by decide)(hdb:(x==("__debug__":Str))=false:=by decide)
  (he:starEach (e::es) X.env=(false,eval e X.env)::starEach es X.env:=by rfl) (hpl:(backTo pos (starEach es X.env)).any (·.1)=false:=by rfl):PE X (.Call (.Name x p) (e::es) [] pos) (tCB r t):=by
 intro pins s σ H Q I h;refine qe (zbu I hg hm hv ?_ hn hdb);exact qi (thn (ha pos pins s σ H _ I h) λus s1 ⟨vs,H1,I1,r1,q1⟩=>hc pins s1 σ H1 vs us Q I1 r1 q1) he hpl
end
end L2
namespace HT
open PySem PyProof.Rows
section
open PySem.SeqAt
open PySem.AutoSeq1 (wpAny_loadPart')
open PySem.MeetsSeq PySem.MeetsSeq2 PySem.MeetsSeq3
end
section
variable{prog:Program}{w:World}{A:Around}{E:Value->Shared->Prop}{s:Shared}
def cat_tup{t b:Addr}{vs ws:List Value}{Q:Value->Shared->Prop}(ht:IsTup s.heap t vs.toArray)(hb:IsTup s.heap b ws.toArray)(hv:vs≠[])
  (h1:ws=[]->Q (.ref t) s) (h2:ws≠[]->Q (.ref s.heap.objs.size) { s with heap:=s.heap.push { cls:=.type "tuple",data:=.seq (vs++ws).toArray } })
  (hsz:vs.length+ws.length<=sizeLine):wpAny (model prog w) A (binaryOp .Add (.ref t) (.ref b)) Q E s:=by
 obtain⟨⟨cls,dd,data,sl⟩,ho,hc,n,hd⟩:=id ht;obtain⟨⟨cls2,dd2,data2,sl2⟩,ho2,hc2,n2,hd2⟩:=id hb;simp only at hc hd hc2 hd2;subst hc hd hc2 hd2;have e:vs.toArray++ws.toArray=(vs++ws).toArray:=by simp
 by_cases hw:ws=[]
 .exact xZ ⟨_,ho,rfl⟩ ⟨_,ho2,rfl⟩ uh seq_tuple_add wW wF (wA _ _)
   (tuple_addW1 t b vs.toArray ws.toArray n n2 dd dd2 sl sl2 (by simpa using hv) (by simp[hw])) ⟨ho,ho2,h1 hw⟩
 .refine xZ ⟨_,ho,rfl⟩ ⟨_,ho2,rfl⟩ uh seq_tuple_add wW wF (wA _ _)
   (tuple_addW2 t b vs.toArray ws.toArray n n2 dd dd2 sl sl2 (by simpa using hv) (by simpa using hw) (by rw[zM,zM]; exact hsz)) ⟨ho,ho2,?_⟩
  rw[e];exact h2 hw
def sIx(n d:Nat):Option Int->Nat
 | none=>d
 | some v=>if v<0 then (v+(n:Int)).toNat else min v.toNat n
def znV(n d:Nat)(hd:d<=n)(o:Option Int):sIx n d o<=n:=by
 cases o with
 | none=>exact hd
 | some v=>
  show(if v<0 then (v+(n:Int)).toNat else min v.toNat n)<=n
  by_cases hv:v<0
  .rw[zR hv]; omega
  .rw[zZ hv]; exact Nat.min_le_right _ _
def zhC(v:Int)(n d:Nat):(if v<0 then max (v+(n:Int)) 0 else min v (n:Int))=((sIx n d (some v):Nat):Int):=by
 show(if v<0 then max (v+(n:Int)) 0 else min v (n:Int))=(((if v<0 then (v+(n:Int)).toNat else min v.toNat n):Nat):Int)
 by_cases hv:v<0
 .simp only[zR hv]; omega
 .simp only[zZ hv]; omega
def zhZ(lo hi:Option Int)(n:Nat):Builtin.Slice.sliceAdjust lo hi 1 (n:Int)=(((sIx n 0 lo:Nat):Int),((sIx n n hi:Nat):Int)):=by
 have h1:¬((1:Int)<0):=by omega
 unfold Builtin.Slice.sliceAdjust;simp only[h1,jt];refine Prod.ext ?_ ?_
 .cases lo with
  | none=>rfl
  | some v=>exact zhC v n 0
 .cases hi with
  | none=>rfl
  | some v=>exact zhC v n n
def ziE(i j:Nat):Builtin.Slice.slicePlaces (i:Int) (j:Int) 1=j-i:=by
 unfold Builtin.Slice.slicePlaces;have h1:(1:Int)>0:=by omega
 simp only[h1,jd,Int.ediv_one];split<;>omega
def zdO{v:Value}{o:Option Int}{Q:Option Int->Shared->Prop}(p:IsPart v o)(h:Q o s):wpAny (model prog w) A (Builtin.Slice.slicePartIndex v) Q E s:=by
 cases p with
 | none=>exact slicePart_none h
 | int i t=>exact slicePart_int h
def zbP{sl:Addr}{vl vu:Value}{lo hi:Option Int}{n:Nat}{Q:Int×Int×Nat->Shared->Prop}(hs:s.heap.IsSliceOf sl vl vu .none)(pl:IsPart vl lo)(pu:IsPart vu hi)
  (h:Q (((sIx n 0 lo:Nat):Int),1,sIx n n hi-sIx n 0 lo) s):wpAny (model prog w) A (Builtin.Slice.sliceApplied (.ref sl) (pure (n:Int))) Q E s:=by
 obtain⟨os,hos,hcs,hds⟩:=id hs;unfold Builtin.Slice.sliceApplied Builtin.Slice.sliceFields;refine za (za (jU hos hds (x:=vl) rfl (za (jU hos hds (x:=vu) rfl (za (jU hos hds (x:=.none) rfl (zg ?_)))))));refine za (slicePart_none ?_);show wpAny _ _ (if ((1:Int)==0)=true then _ else _) _ _ s
 rw[zZ (by decide)];refine za (zdO pl (za (zdO pu (za (zg ?_)))));show wpAny _ _ (match Builtin.Slice.sliceAdjust lo hi 1 (n:Int) with | (lo,hi)=>pure (lo,(1:Int),Builtin.Slice.slicePlaces lo hi 1)) _ _ s
 rw[zhZ lo hi n];show wpAny _ _ (pure (((sIx n 0 lo:Nat):Int),(1:Int),Builtin.Slice.slicePlaces ((sIx n 0 lo:Nat):Int) ((sIx n n hi:Nat):Int) 1)) _ _ s
 rw[ziE];exact zg h
def zkw(xs:Array Value)(i k:Nat):((List.range k).filterMap λ(m:Nat)=>xs[((i:Int)+(m:Int)*1).toNat]?).toArray=((xs.toList.drop i).take k).toArray:=by
 have e:(λ(m:Nat)=>xs[((i:Int)+(m:Int)*1).toNat]?)=λm=>xs[i+m]?:=by
  funext m
  have:((i:Int)+(m:Int)*1).toNat=i+m:=by omega
  rw[this]
 rw[e];have:=pick_run xs i k;rw[yE] at this;have e2:((λx=>xs[x]?)∘λx=>i+x)=λm=>xs[i+m]?:=rfl
 rw[e2] at this;rw[this]
def getItem_tuple_cut{t sl:Addr}{items:Array Value}{vl vu:Value}{lo hi:Option Int}{Q:Value->Shared->Prop}(ht:IsTup s.heap t items)(hs:s.heap.IsSliceOf sl vl vu .none)(pl:IsPart vl lo)(pu:IsPart vu hi)
  (hw:¬(sIx items.size 0 lo=0/\sIx items.size items.size hi=items.size))
  (h:Q (.ref s.heap.objs.size) { s with heap:=s.heap.push { cls:=.type "tuple",data:=.seq ((items.toList.drop (sIx items.size 0 lo)).take (sIx items.size items.size hi-sIx items.size 0 lo)).toArray } })
  (hsz:items.size<=sizeLine):wpAny (model prog w) A (getItem (.ref t) (.ref sl)) Q E s:=by
 have htake:sizeOk (.seq ((items.toList.drop (sIx items.size 0 lo)).take (sIx items.size items.size hi-sIx items.size 0 lo)).toArray):=by
  show((items.toList.drop (sIx items.size 0 lo)).take (sIx items.size items.size hi-sIx items.size 0 lo)).toArray.size<=sizeLine
  rw[zM,qu,qI,zY];omega
 have hj:sIx items.size items.size hi<=items.size:=znV _ _ (zu _) hi;obtain⟨os,hos,hcs,hds⟩:=id hs;have hTs:s.TypeIs (.ref sl) "slice":=⟨os,hos,hcs⟩;unfold getItem;try with_reducible refine jb ?_
 first | refine za (zg ?_) | skip
 refine za (wpAny_sequenceKey ht.typeIs (by decide) ?_)
 refine za (jq (name:=Str.ofString "__getitem__") ht.typeIs jx
  (jj jx ht.typeIs entry_tuple_getitem ?_ (args_tuple_getitem _ _)))
 show wpAny _ _ (Builtin.Tuple.tupleItemsOf (.ref t) >>= _) _ _ s
 refine za (yV ht ?_);refine za (qp hTs ?_);rw[zR (by decide)];refine za (zbP hs pl pu ?_);have hno:¬((((sIx items.size 0 lo:Nat):Int)==0&&(1:Int)==1&&(sIx items.size items.size hi-sIx items.size 0 lo)==items.size)=true):=by
  intro q;rw[zr,zr] at q;have q1:((sIx items.size 0 lo:Nat):Int)=0:=eq_of_beq q.1.1;have q2:sIx items.size items.size hi-sIx items.size 0 lo=items.size:=eq_of_beq q.2;exact hw ⟨by omega,by omega⟩
 show wpAny _ _ (if (((sIx items.size 0 lo:Nat):Int)==0&&(1:Int)==1&&(sIx items.size items.size hi-sIx items.size 0 lo)==items.size)=true then _ else _) _ _ s
 rw[zZ hno,zkw];first
  | exact za (m:=Builtin.Tuple.tupleExact _) (kO (zg ⟨_,rfl,zg h⟩) htake)
  | exact za (m:=Builtin.Tuple.tupleExact _) (kO (za (zg (zg ⟨_,rfl,zg h⟩))) htake)
  | exact za (za (m:=Builtin.Tuple.tupleExact _) (kO (zg (zg ⟨_,rfl,zg h⟩)) htake))
  | exact za (za (m:=Builtin.Tuple.tupleExact _) (kO (zg ⟨_,rfl,zg h⟩) htake))
end
end HT
namespace L2
open PySem PySem.Spec PyProof.Rows
abbrev TO:=St->Hp->(Option Int->Hp->Prop)->Prop
def PO(X:Cx)(e:Option Expr)(t:TO):Prop:=
 ∀(pins:List (Addr×Obj)) (s:Shared) (σ:St) (H:Hp) (Q:Option Int->Hp->Prop),Inv X pins σ H s->t σ H Q->
  wpAny (model X.prog X.w) X.A (evalPart e X.env) (λu s'=>∃o H',Inv X pins σ H' s'/\IsPart u o/\Q o H') X.xe s
def zm3:TO:=λ_ H Q=>Q none H
def zpX(t:TE):TO:=λσ H Q=>t σ H λx H1=>∃i,x=.int i/\Q (some i) H1
section
variable{X:Cx}{e:Expr}{te:TE}{lo hi:Option Expr}{tl th:TO}{pos p2:Pos}
def znl:PO X none zm3:=by
 intro pins s σ H Q I h;rw[evalPart_none];exact zg ⟨none,H,I,.none,h⟩
def zmQ(h:PE X e te):PO X (some e) (zpX te):=by
 intro pins s σ H Q I hw;rw[evalPart_some];refine thn (h pins s σ H _ I hw) λu s1 ⟨x,H1,I1,r1,q1⟩=>?_
 obtain⟨i,rfl,q⟩:=q1;obtain⟨t,rfl⟩:=r1;exact⟨some i,H1,I1,.int i t,q⟩
def SlR(X:Cx)(r:V->Option Int->Option Int->Hp->VK->Prop):Prop:=
 ∀(pins:List (Addr×Obj)) (s:Shared) (σ:St) (H:Hp) (x:V) (v vl vu:Value) (lo hi:Option Int) (sl:Addr) (Q:VK),Inv X pins σ H s->RelV x v->s.heap.IsSliceOf sl vl vu .none->IsPart vl lo->IsPart vu hi->r x lo hi H Q->
  ∃T id,typeLookup (.type T) "__getitem__" = pure (some (.builtin id))/\s.TypeIs v T/\wpAny (model X.prog X.w) X.A (getItem v (.ref sl)) (EP X pins σ Q) X.xe s
def tSl(r:V->Option Int->Option Int->Hp->VK->Prop)(te:TE)(tl th:TO):TE:=λσ H Q=>te σ H λx H1=>tl σ H1 λl H2=>th σ H2 λu H3=>r x l u H3 Q
def zfX{r:V->Option Int->Option Int->Hp->VK->Prop}(hr:SlR X r)(he:PE X e te)(hl:PO X lo tl)(hu:PO X hi th):PE X (.Subscript e (.Slice lo hi none p2) pos) (tSl r te tl th):=by
 intro pins s σ H Q I h;refine Subscript_ (thn (he pins s σ H _ I h) λv s1 ⟨x,H1,I1,r1,q1⟩=>?_);refine wpAny_Slice (thn (hl pins s1 σ H1 _ I1 q1) λvl s2 ⟨l,H2,I2,pl,q2⟩=>thn (hu pins s2 σ H2 _ I2 q2) λvu s3 ⟨u,H3,I3,pu,q3⟩=>?_);rw[evalPart_none];refine zg ?_;have I4:Inv X pins σ H3 { s3 with heap:=s3.heap.push { cls:=.type "slice",data:=.fields #[vl,vu,.none] } }:=I3.kept (t':=s3.toks) λb ob q=>zc _ q
 obtain⟨T,id,hT,ht,hg⟩:=hr pins { s3 with heap:=s3.heap.push { cls:=.type "slice",data:=.fields #[vl,vu,.none] } } σ H3 x v vl vu l u s3.heap.objs.size Q I4 r1 (Heap.IsSliceOf.new ..) pl pu q3;show wpAny (model X.prog X.w) X.A (subscriptTail e (.Slice lo hi none p2) v (.ref s3.heap.objs.size)) (EP X pins σ Q) X.xe { s3 with heap:=s3.heap.push { cls:=.type "slice",data:=.fields #[vl,vu,.none] } }
 exact tail_any (ops:=[.ref s3.heap.objs.size,v]) ht hT hg (by with_unfolding_all rfl)
def cutV(xs:List V)(lo hi:Option Int):List V:=(xs.drop (HT.sIx xs.length 0 lo)).take (HT.sIx xs.length xs.length hi-HT.sIx xs.length 0 lo)
def zds(xs:List V)(lo hi:Option Int):(cutV xs lo hi).length<=xs.length:=by
 unfold cutV;rw[qu,qI];omega
def rSlT(K:PySem.W.Frag):V->Option Int->Option Int->Hp->VK->Prop:=λx lo hi H Q=>∃a xs,x=.ref a/\SqT K H a xs /\
 ¬(HT.sIx xs.length 0 lo=0/\HT.sIx xs.length xs.length hi=xs.length)/\∀p,H p=none->Q (.ref p) (upd H p (.tup (cutV xs lo hi)))
def zoh:SlR X (rSlT X.K):=by
 intro pins s σ H x v vl vu lo hi sl Q I rx hs pl pu h;obtain⟨a,xs,rfl,hx,hw,q⟩:=h;cases rx;obtain⟨its,r,ht,hz⟩:=I.tuple hx;have hlen:its.toArray.size=xs.length:=by rw[zM]; exact r.length.symm
 refine⟨"tuple",_,jx.lookup,ht.typeIs,?_⟩;refine HT.getItem_tuple_cut ht hs pl pu (by rw[hlen]; exact hw) ?_ (by rw[hlen]; exact hz);rw[hlen];refine⟨.ref s.heap.objs.size,_,I.laid (t':=s.toks) (o:=.tup (cutV xs lo hi)) (λb ob q=>zc _ q) (zu _) ?_,rfl,q _ (I.hok.fresh (zu _))⟩;exact⟨zF (zds xs lo hi) hz,_,(r.drop (HT.sIx xs.length 0 lo)).take (HT.sIx xs.length xs.length hi-HT.sIx xs.length 0 lo),IsTup.new _ _,.new _ _⟩
def zqr(K:PySem.W.Frag):R2:=λx y H Q=>∃a b xs ys,x=.ref a/\y=.ref b/\SqT K H a xs/\SqT K H b ys/\xs≠[]/\xs.length+ys.length<=sizeLine /\
 (ys=[]->Q (.ref a) H)/\(ys≠[]->∀p,H p=none->Q (.ref p) (upd H p (.tup (xs++ys))))
def Vals.nil_iff{xs:List V}{us:List Value}(r:Vals xs us):us=[]↔xs=[]:=by
 cases r with
 | nil=>simp
 | cons _ _=>simp
def znG:OpR X (binaryOp .Add) (zqr X.K):=by
 intro pins s σ H x y v u Q I rx ry h;obtain⟨a,b,xs,ys,rfl,rfl,ha,hb,hx,hz,q1,q2⟩:=h;cases rx;cases ry;obtain⟨its,r1,p1,_⟩:=I.tuple ha;obtain⟨its2,r2,p2,_⟩:=I.tuple hb;refine HT.cat_tup p1 p2 (λz=>hx (r1.nil_iff.mp z)) (λz=>⟨.ref a,H,I,rfl,q1 (r2.nil_iff.mp z)⟩) (λz=>?_) (by rw[<-r1.length,<-r2.length]; exact hz);refine⟨.ref s.heap.objs.size,_,I.laid (t':=s.toks) (o:=.tup (xs++ys)) (λb ob q=>zc _ q) (zu _) ?_,rfl,q2 (λw=>z (r2.nil_iff.mpr w)) _ (I.hok.fresh (zu _))⟩;exact⟨by rw[zW]; exact hz,_,r1.append r2,IsTup.new _ _,.new _ _⟩
end
end L2
namespace L2
open PySem PySem.Spec PyProof.Rows
def ixN(n:Nat)(i:Int):Option Nat:=if 0<=i then (if i<n then some i.toNat else none) else if -(n:Int)<=i then some (i+n).toNat else none
def atI{α:Type}(xs:List α)(i:Int):Option α:=(ixN xs.length i).bind λj=>xs[j]?
def zhB{n:Nat}{i:Int}{j:Nat}(h:ixN n i=some j):seqIndex? i n=some j/\j<n/\-(n:Int)<=i/\i<n:=by
 unfold ixN at h;by_cases h0:0<=i
 .rw[zR h0] at h
  by_cases h1:i<n
  .rw[zR h1] at h
   have e:i.toNat=j:=zU h;exact⟨by rw[seqIndex_of h0 h1,e],by omega,by omega,h1⟩
  .rw[zZ h1] at h; cases h
 .rw[zZ h0] at h
  by_cases h1:-(n:Int)<=i
  .rw[zR h1] at h
   have e:(i+n).toNat=j:=zU h;exact⟨by rw[seqIndex_neg ∅ h1,e],by omega,h1,by omega⟩
  .rw[zZ h1] at h; cases h
def zeE{α:Type}{xs:List α}{i:Int}{v:α}(h:atI xs i=some v):∃j,seqIndex? i xs.length=some j/\xs[j]?=some v/\j<xs.length/\-(xs.length:Int)<=i/\i<xs.length:=by
 unfold atI at h;cases e:ixN xs.length i with
 | none=>rw[e] at h; cases h
 | some j=>
  rw[e] at h;obtain⟨h1,h2,h3,h4⟩:=zhB e;exact⟨j,h1,h,h2,h3,h4⟩
def zcj(b:Expr):Prop:=∀o i,subscripted b false o i=operate [o,i] (getItem o i)
def IxR(X:Cx)(r:R2):Prop:=
 ∀(value slice:Expr) (pins:List (Addr×Obj)) (s:Shared) (σ:St) (H:Hp) (x y:V) (v u:Value) (Q:VK),Inv X pins σ H s->RelV x v->RelV y u->r x y H Q->
  subscripted slice false v u=operate [v,u] (getItem v u)->wpAny (model X.prog X.w) X.A (subscriptTail value slice v u) (EP X pins σ Q) X.xe s
def MtR(X:Cx)(id:String)(r:V->List V->Hp->VK->Prop):Prop:=
 ∀(pins:List (Addr×Obj)) (s:Shared) (σ:St) (H:Hp) (x:V) (xs:List V) (v:Value) (us:List Value) (Q:VK),Inv X pins σ H s->RelV x v->Vals xs us->r x xs H Q->
  wpAny (model X.prog X.w) X.A (call (.builtin id) (v::us)) (EP X pins σ Q) X.xe s
section
variable{X:Cx}{a b:Expr}{ta tb:TE}{pos:Pos}
def zl1{r:R2}(hr:IxR X r)(ha:PE X a ta)(hb:PE X b tb)(hs:zcj b):PE X (.Subscript a b pos) (tOp r ta tb):=by
 intro pins s σ H Q I h;exact Subscript_ (binT ha hb I h λv u s2 x y H2 I2 rx ry q=>hr a b pins s2 σ H2 x y v u Q I2 rx ry q (hs _ _))
def rIxL(K:PySem.W.Frag):R2:=λx y H Q=>∃p xs i v,x=.ref p/\y=.int i/\SqL K H p xs/\atI xs i=some v/\Q v H
def rIxT(K:PySem.W.Frag):R2:=λx y H Q=>∃p xs i v,x=.ref p/\y=.int i/\SqT K H p xs/\atI xs i=some v/\Q v H
def rIxS:R2:=λx y H Q=>∃z i c,x=.str z/\y=.int i/\z.length<=sizeLine/\atI z.cps.toList i=some c/\Q (.str ⟨#[c]⟩) H
def zmG:IxR X (rIxL X.K):=by
 intro value slice pins s σ H x y v u Q I rx ry h hs;obtain⟨p,xs,i,z,rfl,rfl,hq,he,q⟩:=h;cases rx;obtain⟨t,rfl⟩:=ry;obtain⟨its,r,pl,hz⟩:=I.list hq;obtain⟨j,h1,h2,h3,h4,h5⟩:=zeE he;obtain⟨w,ew,rw'⟩:=r.get h2;have hl:=r.length;have hn:=zcn;have fin:EP X pins σ Q w s:=⟨z,H,I,rw',q⟩;by_cases h0:0<=i
 .have hj:i.toNat=j:=by
   rw[seqIndex_of h0 h5] at h1;exact zU h1
  exact item_listR pl.isList h0 ∅ (by rw[hj]; simpa using ew) fin hs
 .have hj:(i+(its.toArray.size:Int)).toNat=j:=by
   rw[seqIndex_neg ∅ h4] at h1;rw[zM,<-hl];exact zU h1
  exact subscriptTail_builtinR (x:=w) pl.isList.typeIs slot_list_getitem.lookup
   (wpAny_getItem_list_neg (Q:=λr s'=>r=w/\EP X pins σ Q r s') pl.isList ∅ (by rw[zM]<;>omega) ∅ (by rw[hj]; simpa using ew) ⟨rfl,fin⟩) hs
def zgQ:IxR X (rIxT X.K):=by
 intro value slice pins s σ H x y v u Q I rx ry h hs;obtain⟨p,xs,i,z,rfl,rfl,hq,he,q⟩:=h;cases rx;obtain⟨t,rfl⟩:=ry;obtain⟨its,r,pl,hz⟩:=I.tuple hq;obtain⟨j,h1,h2,h3,h4,h5⟩:=zeE he;obtain⟨w,ew,rw'⟩:=r.get h2;have hl:=r.length;have hn:=zcn;have fin:EP X pins σ Q w s:=⟨z,H,I,rw',q⟩;exact subscriptTail_builtinR (x:=w) pl.typeIs slot_tuple_getitem.lookup
  (getItem_tuple (j:=j) (Q:=λr s'=>r=w/\EP X pins σ Q r s') pl ∅ ∅ (by rw[zM,<-hl]; exact h1) (by simpa using ew) ⟨rfl,fin⟩) hs
def zpi:IxR X rIxS:=by
 intro value slice pins s σ H x y v u Q I rx ry h hs;obtain⟨z,i,c,rfl,rfl,hz,he,q⟩:=h;obtain⟨t,rfl⟩:=rx;obtain⟨t',rfl⟩:=ry;obtain⟨j,h1,h2,h3,h4,h5⟩:=zeE he;have hl:z.cps.toList.length=z.length:=by simp[Str.length]
 rw[hl] at h1 h4 h5;have hn:=zcn
 exact tail_any (typeIs_str s z t) slot_str_getitem.lookup (getItem_str (c:=c) (by
  have e1:decide (i < -(2 ^ 63:Int))=false:=jc ∅;have e2:decide (i>=2 ^ 63)=false:=jc ∅
  rw[e1,e2,yH]) (by rw[h1]; simpa using h2) ⟨.str ⟨#[c]⟩,H,I.tok _,⟨_,rfl⟩,q⟩) hs
def ziG(its:List Value)(n j:Nat)(u:Value):Obj.mapSeq (·.setIfInBounds j u) { cls:=.type "list",data:=.seq its.toArray n }={ cls:=.type "list",data:=.seq (its.set j u).toArray n }:=by
 simp[Obj.mapSeq]
theorem Inv.lst{pins:List (Addr×Obj)}{σ:St}{H:Hp}{s:Shared}{p:Addr}{xs:List V}(I:Inv X pins σ H s)(h:H p=some (.lst xs)) :
  ∃(its:List Value) (n:Nat),Vals xs its/\s.heap.get? p=some { cls:=.type "list",data:=.seq its.toArray n }/\xs.length<=sizeLine:=by
 obtain⟨z,its,n,r,e⟩:=I.hok p _ h;exact⟨its,n,r,e,z⟩
def Inv.lstUpd{pins:List (Addr×Obj)}{σ:St}{H:Hp}{s:Shared}{p:Addr}{xs ys:List V}{its its':List Value}{n n':Nat}{f:Obj->Obj}(I:Inv X pins σ H s)(h:H p=some (.lst xs))
  (ho:s.heap.get? p=some { cls:=.type "list",data:=.seq its.toArray n }) (hf:f { cls:=.type "list",data:=.seq its.toArray n }={ cls:=.type "list",data:=.seq its'.toArray n' }) (r:Vals ys its') (hz:ys.length<=sizeLine) (t:Nat) :
  Inv X pins σ (upd H p (.lst ys)) { s with heap:=s.heap.update p f,toks:=t }:=by
 have e:(s.heap.update p f).get? p=some { cls:=.type "list",data:=.seq its'.toArray n' }:=by
  rw[jr f ho (by rw[hf]<;>rfl),hf]
 refine I.write (x:=p) (e:=p) (by rw[h]; trivial) (.inl rfl) (λb u hb q=>(j5 _ _ (jk hb)).trans q) ⟨_,e⟩ ?_;exact⟨hz,its',n',r,e⟩
def zqn:V->V->V->Hp->(Hp->Prop)->Prop:=λo i v H Q=>∃p xs k j,o=.ref p/\i=.int k/\H p=some (.lst xs)/\ixN xs.length k=some j/\Q (upd H p (.lst (xs.set j v)))
def set_list:PSet X zqn:=by
 intro pins s σ H o i v ov iv u Q I ro ri rv h;obtain⟨p,xs,k,j,rfl,rfl,hp,hj,q⟩:=h;cases ro;obtain⟨t,rfl⟩:=ri;obtain⟨its,n,r,ho,hz⟩:=I.lst hp;obtain⟨h1,h2,h3,h4⟩:=zhB hj;have hl:=r.length;have hn:=zcn;have I':Inv X pins σ (upd H p (.lst (xs.set j v))) { s with heap:=s.heap.update p (Obj.mapSeq (·.setIfInBounds j u)) }:=
  I.lstUpd hp ho (ziG its n j u) (r.set rv j) (by rw[List.length_set]; exact hz) s.toks
 by_cases h0:0<=k
 .have hk:k.toNat=j:=by
   rw[seqIndex_of h0 h4] at h1;exact zU h1
  exact PySem.W.ki_setAt ho h0 ∅ (by rw[zM,<-hl]; exact h4) (by rw[hk]; exact⟨_,I',q⟩)
 .have hk:(k+(its.toArray.size:Int)).toNat=j:=by
   rw[seqIndex_neg ∅ h3] at h1;rw[zM,<-hl];exact zU h1
  exact PySem.W.ki_setBack ho ∅ (by rw[zM,<-hl]; exact h3) ∅ (by rw[hk]; exact⟨_,I',q⟩)
def zfV(lo hi:Option Int)(n:Nat):(sliceBounds lo hi none n).1=((HT.sIx n 0 lo:Nat):Int)/\(sliceBounds lo hi none n).2.1=((HT.sIx n n hi:Nat):Int)/\(sliceBounds lo hi none n).2.2=1:=by
 refine⟨?_,?_,rfl⟩
 .cases lo with
  | none=>simp[sliceBounds,HT.sIx]
  | some i=>
   simp only[sliceBounds,HT.sIx,Option.getD_none,show(1:Int)>0 by decide,jd];by_cases h:i<0
   .simp only[h,jd]<;>omega
   .simp only[h,jt]<;>omega
 .cases hi with
  | none=>simp[sliceBounds,HT.sIx]
  | some i=>
   simp only[sliceBounds,HT.sIx,Option.getD_none,show(1:Int)>0 by decide,jd];by_cases h:i<0
   .simp only[h,jd]<;>omega
   .simp only[h,jt]<;>omega
theorem zft(its:List Value)(lo hi:Option Int):slicePick its.toArray lo hi none=((its.drop (HT.sIx its.length 0 lo)).take (HT.sIx its.length its.length hi-HT.sIx its.length 0 lo)).toArray:=by
 obtain⟨h1,h2,h3⟩:=zfV lo hi its.toArray.size;unfold slicePick;rw[h1,h2,h3];simp only[sliceRange_one,pick_run,zM]<;>rfl
def rSlL(K:PySem.W.Frag):V->Option Int->Option Int->Hp->VK->Prop:=λx lo hi H Q=>∃a xs,x=.ref a/\SqL K H a xs/\∀p,H p=none->Q (.ref p) (upd H p (.lst (cutV xs lo hi)))
def zhn:SlR X (rSlL X.K):=by
 intro pins s σ H x v vl vu lo hi sl Q I rx hs pl pu h;obtain⟨a,xs,rfl,hx,q⟩:=h;cases rx;obtain⟨its,r,ht,hz⟩:=I.list hx;have hlen:=r.length;refine⟨"list",_,slot_list_getitem.lookup,ht.isList.typeIs,?_⟩;refine wpAny_getItem_list_slice ht.isList hs pl pu .none (by simp) ?_ (by rw[zM]<;>omega);rw[zft,<-hlen];refine⟨.ref s.heap.objs.size,_,I.laid (t':=s.toks) (o:=.lst (cutV xs lo hi)) (λb ob q=>zc _ q) (zu _) ?_,rfl,q _ (I.hok.fresh (zu _))⟩;exact⟨zF (zds xs lo hi) hz,_,0,(r.drop (HT.sIx xs.length 0 lo)).take (HT.sIx xs.length xs.length hi-HT.sIx xs.length 0 lo),zA _ rfl⟩
def zcW:zar X (.builtin "len") (λxs H Q=>∃p ys,xs=[.ref p]/\(SqL X.K H p ys\/SqT X.K H p ys)/\Q (.int ys.length) H):=by
 intro pins s σ H xs us Q I r h;obtain⟨p,ys,rfl,hq,q⟩:=h;obtain⟨u,rfl,rx⟩:=vals1 r;cases rx;have hn:=zcn;rcases hq with hq | hq
 .obtain⟨its,r',pl,hz⟩:=I.list hq
  have hlen:=r'.length;exact Calls.call_len_list pl.isList (by simp only[zM]<;>omega) ⟨.int ys.length,H,I.tok _,⟨s.toks+1,by rw[zM,hlen]⟩,q⟩
 .obtain⟨its,r',pl,hz⟩:=I.tuple hq
  have hlen:=r'.length;exact len_tuple pl (by simp only[zM]<;>omega) ⟨.int ys.length,H,I.tok _,⟨s.toks+1,by rw[zM,hlen]⟩,q⟩
def zgR:zar X (.builtin "len") (λxs H Q=>∃z,xs=[.str z]/\z.length<=sizeLine/\Q (.int z.length) H):=by
 intro pins s σ H xs us Q I r h;obtain⟨z,rfl,hz,q⟩:=h;obtain⟨u,rfl,t,rfl⟩:=vals1 r;have hn:=zcn;exact len_str ∅ ⟨.int z.length,H,I.tok _,⟨_,rfl⟩,q⟩
def zcZ:zar X (.type "list") (λxs H Q=>∃p ys,xs=[.ref p]/\(SqL X.K H p ys\/SqT X.K H p ys)/\∀l,H l=none->Q (.ref l) (upd H l (.lst ys))):=by
 intro pins s σ H xs us Q I r h;obtain⟨p,ys,rfl,hq,q⟩:=h;obtain⟨u,rfl,rx⟩:=vals1 r;cases rx;have fin:∀(its:List Value),Vals ys its->ys.length<=sizeLine->∀(h':Heap) (c':Nat),(∀b o',s.heap.get? b=some o'->h'.get? b=some o')->
   h'.get? s.heap.objs.size=some { cls:=.type "list",dict:=none,data:=.seq its.toArray c',slots:=#[] }->EP X pins σ Q (.ref s.heap.objs.size) { s with heap:=h' }:=λits r' hz h' c' kp e=>
  ⟨.ref s.heap.objs.size,_,I.laid (t':=s.toks) kp (zu _) (show ObjOk X.prog X.w _ h' _ (.lst ys) from ⟨hz,its,c',r',e⟩),rfl,q _ (I.hok.fresh (zu _))⟩
 rcases hq with hq | hq
 .obtain⟨its,r',pl,hz⟩:=I.list hq
  have hlen:=r'.length;obtain⟨o,ho,hc,n,hd⟩:=pl.isList;exact call_list_seq p (.inl rfl) ho hc hd (λh' c' kp e=>fin its r' hz h' c' kp e) (by simp only[zM]<;>omega)
 .obtain⟨its,r',pl,hz⟩:=I.tuple hq
  have hlen:=r'.length;obtain⟨o,ho,hc,n,hd⟩:=pl;exact call_list_seq p (.inr rfl) ho hc hd (λh' c' kp e=>fin its r' hz h' c' kp e) (by simp only[zM]<;>omega)
def zcK:zar X (.type "tuple") (λxs H Q=>∃p ys,xs=[.ref p]/\((SqL X.K H p ys/\∀l,H l=none->Q (.ref l) (upd H l (.tup ys)))\/(SqT X.K H p ys/\Q (.ref p) H))):=by
 intro pins s σ H xs us Q I r h;obtain⟨p,ys,rfl,h⟩:=h;obtain⟨u,rfl,rx⟩:=vals1 r;cases rx;rcases h with ⟨hq,q⟩ | ⟨hq,q⟩
 .obtain⟨its,r',pl,hz⟩:=I.list hq
  have hlen:=r'.length;refine call_tuple_list pl.isList (λh' kp=>?_) (by simp only[zM]<;>omega);have I1:Inv X pins σ H { s with heap:=h' }:=I.kept (t':=s.toks) kp;have I2:Inv X pins σ (upd H h'.objs.size (.tup ys)) { s with heap:=h'.push { cls:=.type "tuple",data:=.seq its.toArray } }:=
   I1.laid (t':=s.toks) (λb o e=>zc _ e) (zu _) (show ObjOk X.prog X.w _ _ _ (.tup ys) from ⟨hz,its,r',IsTup.new _ _,.new _ _⟩)
  exact⟨.ref h'.objs.size,_,I2,rfl,q _ (I1.hok.fresh (zu _))⟩
 .obtain⟨its,r',pl,hz⟩:=I.tuple hq
  exact call_tuple_same pl ⟨.ref p,H,I,rfl,q⟩
def tyV(K:PySem.W.Frag)(T:String)(x:V)(H:Hp):Prop:=match x with
 | .str _=>T="str"
 | .int _=>T="int"
 | .ref p=>(T="list" /\ ∃xs,SqL K H p xs)\/(T="tuple" /\ ∃o,K.lookup p=some o/\o.cls=.type "tuple" /\ o.dict=none) \/
   (T="dict" /\ ((∃kvs,H p=some (.dK kvs))\/∃kvs,H p=some (.dT kvs)))\/(T="set" /\ ∃S n,H p=some (.set S n))
 | _=>False
def zj3{pins:List (Addr×Obj)}{σ:St}{H:Hp}{s:Shared}{T:String}{x:V}{v:Value}(I:Inv X pins σ H s)(r:RelV x v)(ty:tyV X.K T x H) :
  s.TypeIs v T/\∀a,v=.ref a->∃ob,s.heap.get? a=some ob/\ob.dict=none:=by
 cases x with
 | str z=>
  obtain⟨t,rfl⟩:=r;cases (show T="str" from ty);exact⟨typeIs_str s z t,λ_ e=>nomatch e⟩
 | int i=>
  obtain⟨t,rfl⟩:=r;cases (show T="int" from ty);exact⟨xV s i t,λ_ e=>nomatch e⟩
 | ref p=>
  cases r;rcases ty with ⟨rfl,xs,hq⟩ | ⟨rfl,o,hk,hc,hd⟩ | ⟨rfl,hk⟩ | ⟨rfl,S,n,hk⟩
  .obtain⟨its,_,pl,_⟩:=I.list hq
   refine⟨pl.isList.typeIs,λa e=>?_⟩;cases e;obtain⟨o,n,e,c,hd,_⟩:=pl;exact⟨o,e,hd⟩
  .refine⟨⟨o,I.kIn p o hk,hc⟩,λa e=>?_⟩
   cases e;exact⟨o,I.kIn _ o hk,hd⟩
  .have z:∃o,s.heap.get? p=some o/\o.ExactDict:=by
    rcases hk with ⟨kvs,hk⟩ | ⟨kvs,hk⟩
    .obtain⟨_,_,_,_,o,_,_,e,ex,_⟩:=I.hok p _ hk
     exact⟨o,e,ex⟩
    .obtain⟨_,_,_,_,o,_,_,e,ex,_⟩:=I.hok p _ hk
     exact⟨o,e,ex⟩
   obtain⟨o,e,ex⟩:=z;refine⟨⟨o,e,ex.1⟩,λa e2=>?_⟩;cases e2;exact⟨o,e,ex.2.1⟩
  .obtain⟨o,_,_,_,e,ex,_⟩:=I.hok p _ hk
   refine⟨⟨o,e,ex.1⟩,λa e2=>?_⟩;cases e2;exact⟨o,e,ex.2.1⟩
 | _=>exact False.elim ty
def tBM0(K:PySem.W.Frag)(T:String)(r:V->List V->Hp->VK->Prop)(to:TE):TE:=λσ H Q=>to σ H λx H1=>tyV K T x H1/\r x [] H1 Q
def tBM(K:PySem.W.Frag)(T:String)(r:V->List V->Hp->VK->Prop)(to:TE)(t:TA):TE:=λσ H Q=>to σ H λx H1=>tyV K T x H1/\t σ H1 λxs H2=>r x xs H2 Q
variable{o e:Expr}{es:List Expr}{to:TE}{t:TA}{name:Str}{apos cpos:Pos}{T id:String}{r:V->List V->Hp->VK->Prop}
def zom(pa:PlainAttrs T)(slot:Slot T name id)(hty:typeOf (.builtin id)=pure (.type "method_descriptor"))(hm:MtR X id r)(ho:PE X o to)
  (hbase:attributeBase o name X.env (eval o X.env)=eval o X.env:=by rfl) (hline:(apos.endLine==cpos.line)=true:=by rfl):PE X (.Call (.Attribute o name apos) [] [] cpos) (tBM0 X.K T r to):=by
 intro pins s σ H Q I h;refine wpAny_Call_method0_late hbase hline (thn (ho pins s σ H _ I h) λv s1 ⟨x,H1,I1,r1,ty,q1⟩=>?_);obtain⟨h1,h2⟩:=zj3 I1 r1 ty;exact⟨T,id,pa,slot,hty,h1,h2,vP rfl (PySem.evalArgs_none (hm pins s1 σ H1 x [] v [] Q I1 r1 .nil q1))⟩
def zl8(pa:PlainAttrs T)(slot:Slot T name id)(hty:typeOf (.builtin id)=pure (.type "method_descriptor"))(hm:MtR X id r)(ho:PE X o to)(ha:PA X (e::es) t)
  (hbase:attributeBase o name X.env (eval o X.env)=eval o X.env:=by rfl)
  (hfew:((backTo cpos (starEach (e::es) X.env)).all (λx=>!x.1)&&(backToKw cpos (keywordEach [] X.env)).all (λx=>x.1.isSome)
   && decide ((e::es).length+([]:List Keyword).length+(if ([]:List Keyword).isEmpty then 0 else 1)<30))=true:=by rfl)
  (hline:(apos.endLine==cpos.line)=true:=by rfl) (hs:starEach (e::es) X.env=(false,eval e X.env)::starEach es X.env:=by rfl) (hplain:(backTo cpos (starEach es X.env)).any (·.1)=false:=by rfl) :
  PE X (.Call (.Attribute o name apos) (e::es) [] cpos) (tBM X.K T r to t):=by
 intro pins s σ H Q I h;refine wpAny_Call_method_late hbase hfew hline rfl (thn (ho pins s σ H _ I h) λv s1 ⟨x,H1,I1,r1,ty,q1⟩=>?_);obtain⟨h1,h2⟩:=zj3 I1 r1 ty;refine⟨T,id,pa,slot,hty,h1,h2,?_⟩;have hA:=ha cpos pins s1 σ H1 _ I1 q1;rw[hs] at hA ⊢;refine vP (by show(false||(backTo cpos (starEach es X.env)).any (·.1))=false; rw[hplain]<;>rfl) (yR ?_);exact thn hA λus s2 ⟨vs,H2,I2,r2,q2⟩=>hm pins s2 σ H2 x vs v us Q I2 r1 r2 q2
end
end L2
namespace L2
open PySem PySem.Spec PyProof.Rows
def MtM(X:Cx)(id:String)(r:V->List V->Hp->VK->Prop):Prop:=
 ∀(pins:List (Addr×Obj)) (s:Shared) (σ:St) (H:Hp) (x:V) (xs:List V) (v:Value) (us:List Value) (Q:VK),Inv X pins σ H s->RelV x v->Vals xs us->r x xs H Q->
  wpAny (model X.prog X.w) X.A (call (.builtin id) (v::us)) (EP X pins σ Q) X.xe s
def Vals.one:∀{x:V} {us:List Value},Vals [x] us->∃u,us=[u]/\RelV x u
 | _,_,.cons r .nil=>⟨_,rfl,r⟩
theorem Vals.zero:∀{us:List Value},Vals [] us->us=[]
 | _,.nil=>rfl
theorem Vals.dropLast{xs:List V}{us:List Value}(h:Vals xs us):Vals xs.dropLast us.dropLast:=by
 induction h with
 | nil=>exact .nil
 | cons r t ih=>
  cases t with
  | nil=>exact .nil
  | cons q t'=>exact .cons r ih
theorem Vals.rep{xs:List V}{us:List Value}(h:Vals xs us):∀k:Nat,Vals (List.replicate k xs).flatten (List.replicate k us).flatten
 | 0=>.nil
 | k+1=>by
  rw[qj,qj,qN,qN];exact Vals.append h (Vals.rep h k)
theorem ziI{α:Type}(l:List α):l.eraseIdx (l.length-1)=l.dropLast:=by
 induction l with
 | nil=>rfl
 | cons a r ih=>
  cases r with
  | nil=>rfl
  | cons b r=>
   have e:(a::b::r).length-1=((b::r).length-1)+1:=by
    have h1:(a::b::r).length=r.length+2:=rfl;have h2:(b::r).length=r.length+1:=rfl;omega
   rw[e,ur,ih];all_goals rfl
theorem foldl_rep(its:List Value):∀(k:Nat) (acc:List Value),
  List.foldl (λx1 x2=>x1++x2) acc.toArray (List.replicate k its.toArray)=(acc++(List.replicate k its).flatten).toArray
 | 0,acc=>by simp
 | k+1,acc=>by
  have e:acc.toArray++its.toArray=(acc++its).toArray:=by simp
  have e2:(acc++its)++(List.replicate k its).flatten=acc++(List.replicate (k+1) its).flatten:=by
   rw[qj,qN,wC]
  rw[<-e2,<-foldl_rep its k (acc++its),<-e,qj,List.foldl_cons]
section
variable{X:Cx}{pins:List (Addr×Obj)}{σ:St}{H:Hp}{s:Shared}{l b:Addr}{xs ys zs:List V}
def Inv.lset{its its':List Value}{n:Nat}{f:Array Value->Array Value}{t':Nat}(I:Inv X pins σ H s)(hH:H l=some (.lst xs))
  (e:s.heap.get? l=some { cls:=.type "list",data:=.seq its.toArray n }) (hf:f its.toArray=its'.toArray) (hv:Vals ys its') (hz:ys.length<=sizeLine) :
  Inv X pins σ (upd H l (.lst ys)) { s with heap:=s.heap.update l (Obj.mapSeq f),toks:=t' }:=by
 have q:=PySem.IsL.update e f;rw[hf] at q;refine I.write (x:=l) (e:=l) (by rw[hH]; exact trivial) (.inl rfl) (λb' u hb hu=>(j5 s.heap (Obj.mapSeq f) (jk hb)).trans hu) ⟨_,q⟩ ?_;exact⟨hz,its',_,hv,q⟩
def Inv.lnew{its:List Value}{t':Nat}(I:Inv X pins σ H s)(hv:Vals ys its)(hz:ys.length<=sizeLine) :
  Inv X pins σ (upd H s.heap.objs.size (.lst ys)) { s with heap:=s.heap.push { cls:=.type "list",data:=.seq its.toArray },toks:=t' }:=
 I.laid (λ_ _ q=>zc _ q) (zu _) ⟨hz,its,0,hv,zA _ rfl⟩
theorem Inv.fresh(I:Inv X pins σ H s):H s.heap.objs.size=none:=I.hok.fresh (zu _)
def Inv.lstM(I:Inv X pins σ H s)(hH:H l=some (.lst xs)):xs.length<=sizeLine/\∃(its:List Value) (n:Nat),Vals xs its/\xs.length=its.length/\s.heap.get? l=some { cls:=.type "list",data:=.seq its.toArray n }:=by
 obtain⟨z,its,n,r,e⟩:=I.hok l _ hH;exact⟨z,its,n,r,r.length,e⟩
def zkN{n:Nat}(h:n<=sizeLine):Builtin.List.listTooLong n=false:=by
 unfold Builtin.List.listTooLong;exact jc ∅
end
section
variable{X:Cx}
def znE:V->List V->Hp->VK->Prop:=λx vs H Q=>∃l xs y,x=.ref l/\vs=[y]/\H l=some (.lst xs)/\xs.length<sizeLine/\Q .non (upd H l (.lst (xs++[y])))
def zeM:MtM X "list.append" znE:=by
 intro pins s σ H x vs v us Q I rx rv h;obtain⟨l,xs,y,rfl,rfl,hH,hz,q⟩:=h;cases rx;obtain⟨u,rfl,ru⟩:=rv.one;obtain⟨z,its,n,r,hl,e⟩:=I.lstM hH;refine vQ F.slot_list_append ⟨_,e,rfl⟩ F.entry_list_append (F.args_list_append_2 _ _) (PySem.list_append l its.toArray n u (by rw[zM]; omega)) ⟨e,?_⟩;refine⟨.non,_,I.lset (its':=its++[u]) hH e (by simp) (r.append (.cons ru .nil)) ?_,rfl,q⟩;rw[zW,vM];omega
def rPop:V->List V->Hp->VK->Prop:=λx vs H Q=>∃l xs y,x=.ref l/\vs=[]/\H l=some (.lst xs)/\xs[xs.length-1]?=some y/\Q y (upd H l (.lst xs.dropLast))
def znM:MtM X "list.pop" rPop:=by
 intro pins s σ H x vs v us Q I rx rv h;obtain⟨l,xs,y,rfl,rfl,hH,hy,q⟩:=h;cases rx;have hus:=rv.zero;subst hus;obtain⟨z,its,n,r,hl,e⟩:=I.lstM hH;obtain⟨u,hu,ru⟩:=r.get hy;have hy':its.toArray[its.toArray.size-1]?=some u:=by
  show its.toArray[its.length-1]?=some u
  rw[<-yo,<-hl];exact hu
 refine vQ F.slot_list_pop ⟨_,e,rfl⟩ F.entry_list_pop (F.args_list_pop_1 _) (MeetsSeq.list_pop_last l its.toArray n u hy' (by rw[zM]; omega)) ⟨e,?_⟩;refine⟨y,_,I.lset (its':=its.dropLast) hH e ?_ r.dropLast ?_,ru,q⟩
 .show its.toArray.eraseIdxIfInBounds (its.toArray.size-1)=its.dropLast.toArray
  rw[zM,List.eraseIdxIfInBounds_toArray,ziI]
 .rw[List.length_dropLast]
  omega
def len_rep{α:Type}(xs:List α)(k:Nat):(List.replicate k xs).flatten.length=k*xs.length:=by
 induction k with
 | zero=>simp
 | succ k ih=>rw[qj,qN,zW,ih,Nat.succ_mul,Nat.add_comm]
end
end L2
namespace L2
open PySem PySem.Spec PyProof.Rows
section
variable{κ:Type}[DecidableEq κ]
def valV(kvs:List (κ×V))(k:κ):Option V:=(kvs.find? λkv=>decide (kv.1=k)).map (·.2)
def putK(kvs:List (κ×V))(k:κ)(v:V):List (κ×V):=
 if (kvs.any λkv=>decide (kv.1=k))=true then kvs.map (λkv=>if kv.1=k then (kv.1,v) else kv) else kvs++[(k,v)]
def zdI{p:κ×V}{r:List (κ×V)}{k:κ}(e:p.1=k):valV (p::r) k=some p.2:=by simp[valV,jC,e]
def zdA{p:κ×V}{r:List (κ×V)}{k:κ}(e:¬p.1=k):valV (p::r) k=valV r k:=by simp[valV,jC,e]
theorem zgb(k:κ):∀kvs:List (κ×V),(kvs.any λkv=>decide (kv.1=k))=(valV kvs k).isSome
 | []=>rfl
 | p::r=>by
  rw[vB];by_cases e:p.1=k
  .simp only[zdI e,kI e,Bool.true_or,Option.isSome_some]
  .rw[zdA e,jc e,Bool.false_or]; exact zgb k r
def zca(kvs:List (κ×V))(k:κ)(v:V):(putK kvs k v).length<=kvs.length+1:=by
 unfold putK;split
 .rw[zL]; omega
 .rw[zW,zG,kZ]; omega
theorem RelO.isSome_eq{o:Option V}{u:Option Value}(r:RelO o u):o.isSome=u.isSome:=by
 cases o with
 | none=>cases u with
  | none=>rfl
  | some _=>exact(show False from r).elim
 | some _=>cases u with
  | none=>exact(show False from r).elim
  | some _=>rfl
theorem RelO.getD{o:Option V}{u:Option Value}{d:V}{d':Value}(r:RelO o u)(rd:RelV d d'):RelV (o.getD d) (u.getD d'):=by
 cases o with
 | none=>cases u with
  | none=>exact rd
  | some _=>exact(show False from r).elim
 | some _=>cases u with
  | none=>exact(show False from r).elim
  | some _=>exact r
def KV.val{kvs:List (κ×V)}{vs:List (κ×Value)}(r:KV kvs vs)(k:κ):RelO (valV kvs k) (valueAt vs k):=by
 unfold KV at r;induction r with
 | nil=>exact True.intro
 | @cons p q ps qs h t ih=>
  obtain⟨h1,h2⟩:=h;by_cases e:p.1=k
  .have e':q.1=k:=h1.symm.trans e
   have b:valueAt (q::qs) k=some q.2:=by simp[valueAt,jC,e']
   rw[zdI e,b]; exact h2
  .have e':¬q.1=k:=λz=>e (h1.trans z)
   have b:valueAt (q::qs) k=valueAt qs k:=by simp[valueAt,jC,e']
   rw[zdA e,b]; exact ih
theorem KV.any{kvs:List (κ×V)}{vs:List (κ×Value)}(r:KV kvs vs)(k:κ):(kvs.any λkv=>decide (kv.1=k))=vs.any λkv=>decide (kv.1=k):=by
 unfold KV at r;induction r with
 | nil=>rfl
 | cons h t ih=>rw[vB,vB,ih,h.1]
def KV.repl{kvs:List (κ×V)}{vs:List (κ×Value)}(r:KV kvs vs)(k:κ){y:V}{u:Value}(ry:RelV y u) :
  KV (kvs.map λkv=>if kv.1=k then (kv.1,y) else kv) (vs.map λkv=>if kv.1=k then (kv.1,u) else kv):=by
 unfold KV at r ⊢;induction r with
 | nil=>exact .nil
 | @cons p q ps qs h t ih=>
  rw[zH,zH];refine .cons ?_ ih;obtain⟨h1,h2⟩:=h;by_cases e:p.1=k
  .rw[zR e,zR (h1.symm.trans e)]; exact⟨h1,ry⟩
  .rw[zZ e,zZ (λz=>e (h1.trans z))]; exact⟨h1,h2⟩
def KV.put{kvs:List (κ×V)}{vs:List (κ×Value)}(r:KV kvs vs)(k:κ){y:V}{u:Value}(ry:RelV y u):KV (putK kvs k y) (stored vs k u):=by
 unfold putK stored;rw[r.any k];by_cases e:(vs.any λkv=>decide (kv.1=k))=true
 .rw[zR e,zR e]; exact r.repl k ry
 .rw[zZ e,zZ e]; exact Paired.snoc r ⟨rfl,ry⟩
theorem KV.length{kvs:List (κ×V)}{vs:List (κ×Value)}(r:KV kvs vs):kvs.length=vs.length:=Paired.length r
end
def zfD{P:Program}{w:World}{k:Key}{u:Value}(r:RelV (kV k) u):(zat P w).is k u=true:=by
 cases k with
 | inl i=>obtain⟨t,e⟩:=(show ∃t,u=Value.int i t from r); subst e; exact zg4 P w i t
 | inr x=>obtain⟨t,e⟩:=(show ∃t,u=Value.str x t from r); subst e; exact zgY P w x t
theorem zeN{P:Program}{w:World}:∀{ks:List Key} {us:List Value},Vals (ks.map kV) us->ItemsAre (zat P w) ks us
 | [],_,r=>by rw[jw] at r; cases r; exact .nil
 | k::ks,_,r=>by
  rw[zH] at r;cases r with
  | cons h t=>exact .cons (zfD h) (zeN t)
abbrev KT(H:Hp):List (List Key×V)->List (List Key×Addr×Value)->Prop:=Paired λp q=>p.1=q.1/\H q.2.1=some (.tup (p.1.map kV))/\RelV p.2 q.2.2
def KT.val{H:Hp}{kvs:List (List Key×V)}{xs:List (List Key×Addr×Value)}(r:KT H kvs xs)(k:List Key):RelO (valV kvs k) ((atKey xs k).map (·.2)):=by
 induction r with
 | nil=>exact True.intro
 | @cons p q ps qs h t ih=>
  obtain⟨h1,_,h2⟩:=h;by_cases e:p.1=k
  .have e':q.1=k:=h1.symm.trans e
   have b:atKey (q::qs) k=some q.2:=by simp[atKey,jC,e']
   rw[zdI e,b]; exact h2
  .have e':¬q.1=k:=λz=>e (h1.trans z)
   have b:atKey (q::qs) k=atKey qs k:=by simp[atKey,jC,e']
   rw[zdA e,b]; exact ih
def KT.repl{H:Hp}{kvs:List (List Key×V)}{xs:List (List Key×Addr×Value)}(r:KT H kvs xs)(k:List Key){y:V}{u:Value}(ry:RelV y u) :
  KT H (kvs.map λkv=>if kv.1=k then (kv.1,y) else kv) (xs.map (putAt k u)):=by
 induction r with
 | nil=>exact .nil
 | @cons p q ps qs h t ih=>
  rw[zH,zH];refine .cons ?_ ih;obtain⟨h1,h2,h3⟩:=h;unfold putAt;by_cases e:p.1=k
  .rw[zR e,zR (h1.symm.trans e)]; exact⟨h1,h2,ry⟩
  .rw[zZ e,zZ (λz=>e (h1.trans z))]; exact⟨h1,h2,h3⟩
def KT.put{H:Hp}{kvs:List (List Key×V)}{xs:List (List Key×Addr×Value)}(r:KT H kvs xs)(k:List Key){b:Addr}{y:V}{u:Value}(hb:H b=some (.tup (k.map kV)))(ry:RelV y u) :
  KT H (putK kvs k y) (storedH xs k b u):=by
 have e:(kvs.any λkv=>decide (kv.1=k))=(atKey xs k).isSome:=by
  rw[zgb,(r.val k).isSome_eq,Option.isSome_map]
 unfold putK storedH;rw[e];by_cases q:(atKey xs k).isSome=true
 .rw[zR q,zR q]; exact r.repl k ry
 .rw[zZ q,zZ q]; exact Paired.snoc r ⟨rfl,hb,ry⟩
def KT.keeps{H H':Hp}{kvs:List (List Key×V)}{xs:List (List Key×Addr×Value)}(r:KT H kvs xs)(ht:∀b ys,H b=some (.tup ys)->H' b=some (.tup ys)):KT H' kvs xs:=
 Paired.mapP r λ_ _ z=>⟨z.1,ht _ _ z.2.1,z.2.2⟩
section
variable{P:Program}{w:World}{H:Hp}{h:Heap}{a:Addr}
def zlY{u:HO}(ok:HOk P w H h)(e:Rd H a u):ObjOk P w H h a u:=e.ok ok
def zee{kvs:List (Key×V)}(ok:HOk P w H h)(e:Rd H a (.dK kvs)):kvs.length<=sizeLine/\(a==sysModules)=false/\∃vs,KV kvs vs/\h.DictOf (zat P w) a vs:=
 show ObjOk P w H h a (.dK kvs) from zlY ok e
def zqf{kvs:List (Key×V)}(ok:HOk P w H h)(e:H a=some (.dK kvs)):kvs.length<=sizeLine/\(a==sysModules)=false/\∃vs,KV kvs vs/\h.DictOf (zat P w) a vs:=zee ok (.inl e)
def zgg{ks:List Key}(ok:HOk P w H h)(e:H a=some (.tup (ks.map kV))):(tupleKind (zat P w)).is h ks a:=by
 obtain⟨_,its,r,⟨o,h1,h2,n,h3⟩,_⟩:=(show ObjOk P w H h a (.tup (ks.map kV)) from ok a _ e);exact⟨o,its.toArray,n,h1,h2,h3,by simpa using zeN r⟩
def zhK{kvs:List (List Key×V)}(ok:HOk P w H h)(e:Rd H a (.dT kvs)):kvs.length<=sizeLine/\(a==sysModules)=false /\
  ∃xs,KT H kvs xs/\h.DictOfH (tupleKind (zat P w)) a xs:=by
 obtain⟨z,y,xs,r,o,es,ep,h1,h2,h3,h4,h5⟩:=(show ObjOk P w H h a (.dT kvs) from zlY ok e);refine⟨z,y,xs,r,o,es,ep,h1,h2,h3,h4,λx hx=>?_,h5⟩;have all:∀{l:List (List Key×V)} {m:List (List Key×Addr×Value)},KT H l m->∀x∈m,(tupleKind (zat P w)).is h x.1 x.2.1:=by
  intro l m q;induction q with
  | nil=>intro x hx; exact nomatch hx
  | @cons p q ps qs hq t ih=>
   intro x hx;rcases zf.mp hx with e | hx
   .subst e
    exact zgg ok (by rw[<-hq.1]; exact hq.2.1)
   .exact ih x hx
 exact all r x hx
def zbK{kvs:List (List Key×V)}(ok:HOk P w H h)(e:H a=some (.dT kvs)):kvs.length<=sizeLine/\(a==sysModules)=false /\
  ∃xs,KT H kvs xs/\h.DictOfH (tupleKind (zat P w)) a xs:=zhK ok (.inl e)
end
def DGet(H:Hp)(a:Addr)(y:V)(r:Option V):Prop:=
 (∃kvs k,Rd H a (.dK kvs)/\y=kV k/\r=valV kvs k)\/∃kvs k b,Rd H a (.dT kvs)/\y=.ref b/\H b=some (.tup (k.map kV))/\r=valV kvs k
def DPut(H:Hp)(a:Addr)(y v:V)(H':Hp):Prop:=
 (∃kvs k,H a=some (.dK kvs)/\y=kV k/\kvs.length<sizeLine/\H'=upd H a (.dK (putK kvs k v))) \/
 ∃kvs k b,H a=some (.dT kvs)/\y=.ref b/\H b=some (.tup (k.map kV))/\kvs.length<sizeLine/\H'=upd H a (.dT (putK kvs k v))
section
variable{X:Cx}{pins:List (Addr×Obj)}{σ:St}{H:Hp}{s:Shared}{a:Addr}{y v:V}{u r:Value}{o:Option V}{A:Around}{E:Value->Shared->Prop}
def Inv.big(I:Inv X pins σ H s):sysModules<s.heap.objs.size:=by
 have h:mainGlobals<s.heap.objs.size:=(I.mod.glob.keeps I.bk).lt;exact uC (by decide) h
def zeH{h':Heap}{t':Nat}{ob:HO}(I:Inv X pins σ H s)(mu:Mut (H a))(hs:Heap.SameBut a s.heap h')(he:∃q,h'.get? a=some q)(new:ObjOk X.prog X.w (upd H a ob) h' a ob) :
  Inv X pins σ (upd H a ob) { s with heap:=h',toks:=t' }:=
 I.write (x:=a) (e:=a) mu (.inl rfl) (λb q hb z=>(hs.2 b hb).trans z) he new
def zgh{P:Program}{w:World}{H':Hp}{h':Heap}{kvs:List (Key×V)}{vs:List (Key×Value)}(z:kvs.length<=sizeLine)(hd:(a==sysModules)=false)(rel:KV kvs vs)(dd:h'.DictOf (zat P w) a vs) :
  ObjOk P w H' h' a (.dK kvs):=⟨z,hd,vs,rel,dd⟩
def zj5{H':Hp}{Q:Unit->Shared->Prop}(hu:A.units+1<cLine)(I:Inv X pins σ H s)(g:DPut H a y v H')(ry:RelV y u)(rv:RelV v r)(h:∀s',Inv X pins σ H' s'->Q () s') :
  wpAny (model X.prog X.w) A (setItem (.ref a) u r) Q E s:=by
 rcases g with ⟨kvs,k,e,ey,l,eH⟩ | ⟨kvs,k,b,e,ey,eb,l,eH⟩
 .subst ey eH
  obtain⟨z,hd,vs,rel,dd⟩:=zqf I.hok e;have hz:vs.length<=sizeLine:=by rw[<-rel.length]; exact z
  have hl:(putK kvs k v).length<=sizeLine:=by have:=zca kvs k v; omega
  refine wpAny_setItem_pairs (hsz:=hz) (zfD ry) dd λh' dd' hs=>h _ ?_
  have he:∃q,h'.get? a=some q:=let ⟨q,_,_,hq,_⟩:=dd'; ⟨q,hq⟩;exact zeH I (by rw[e]; exact True.intro) hs he (zgh hl hd (rel.put k rv) dd')
 .subst ey eH
  cases (show u=Value.ref b from ry);obtain⟨z,hd,xs,rel,dd⟩:=zbK I.hok e;have hz:xs.length<=sizeLine:=by rw[<-Paired.length rel]; exact z
  have hl:(putK kvs k v).length<=sizeLine:=by have:=zca kvs k v; omega
  refine wpAny_setItem_heap (hsz:=hz) (xH hu) (zgg I.hok eb) dd λh' dd' hs=>h _ ?_
  obtain⟨q,es,ep,hq,h2,h3,h4,_,h5⟩:=dd';refine zeH I (by rw[e]; exact True.intro) hs ⟨q,hq⟩ ⟨hl,hd,_,(rel.put k eb rv).keeps λc ys ec=>?_,q,es,ep,hq,h2,h3,h4,h5⟩;rw[zac (zqi ec e (λz=>nomatch z))];exact ec
end
def zlf{P:Program}{w:World}{H:Hp}(h:Heap)(hb:sysModules<h.objs.size):ObjOk P w H (h.push { cls:=.type "dict",data:=.dict #[] }) h.objs.size (.dK []):=
 ⟨j8 _,jn.mpr (jk (zP hb)),[],.nil,Heap.DictOf.new h⟩
def zoI:TE:=λ_ H Q=>∀p,H p=none->Q (.ref p) (upd H p (.dK []))
section
variable{X:Cx}{pos:Pos}
def zgT:PE X (.Dict [] [] pos) zoI:=λpins s σ H Q I h=>
 wpAny_Dict_empty ⟨.ref s.heap.objs.size,_,I.laid (a:=s.heap.objs.size) (o:=.dK []) (t':=s.toks) (λ_ _ q=>zc _ q) (zu _) (zlf s.heap I.big),rfl,h _ (I.hok.fresh (zu _))⟩
end
def zbR(kvs more:List (Key×V)):List (Key×V):=more.foldl (λacc kv=>putK acc kv.1 kv.2) kvs
def KV.merge:∀{more:List (Key×V)} {rs:List (Key×Value)} {kvs:List (Key×V)} {vs:List (Key×Value)},KV more rs->KV kvs vs->KV (zbR kvs more) (merged vs rs):=by
 intro more rs kvs vs r;unfold KV at r;induction r generalizing kvs vs with
 | nil=>intro q; exact q
 | @cons p q ps qs h t ih=>
  intro r0;have e:KV (putK kvs p.1 p.2) (stored vs q.1 q.2):=by
   have:=r0.put p.1 h.2;rw[<-h.1]; exact this
  exact ih e
theorem zcL:∀(more kvs:List (Key×V)),(zbR kvs more).length<=kvs.length+more.length
 | [],kvs=>by show kvs.length<=kvs.length+0; omega
 | p::r,kvs=>by
  have h1:=zcL r (putK kvs p.1 p.2);have h2:=zca kvs p.1 p.2;show(zbR (putK kvs p.1 p.2) r).length<=_
  rw[zG]; omega
structure M2(X:Cx)(o:Expr)(m:Str)(apos:Pos)(e f:Expr)(cpos:Pos):Prop where
 base:attributeBase o m X.env (eval o X.env)=eval o X.env
 few:((backTo cpos (starEach [e,f] X.env)).all (λx=>!x.1)&&(backToKw cpos (keywordEach [] X.env)).all (λx=>x.1.isSome)
  && decide (([e,f]:List Expr).length+([]:List Keyword).length+(if ([]:List Keyword).isEmpty then 0 else 1)<30))=true
 line:(apos.endLine==cpos.line)=true
 trees:backTo cpos (starEach [e,f] X.env)=[(false,eval e X.env),(false,eval f X.env)]
def IsD(H:Hp)(a:Addr):Prop:=(∃kvs,Rd H a (.dK kvs))\/∃kvs,Rd H a (.dT kvs)
def zpM{X:Cx}{pins:List (Addr×Obj)}{σ:St}{H:Hp}{s:Shared}{a:Addr}(I:Inv X pins σ H s)(d:IsD H a) :
  s.TypeIs (.ref a) "dict" /\ (∀b,Value.ref a=.ref b->∃ob,s.heap.get? b=some ob/\ob.dict=none)/\(a==sysModules)=false:=by
 rcases d with ⟨kvs,e⟩ | ⟨kvs,e⟩
 .obtain⟨_,hd,vs,_,dd⟩:=zee I.hok e
  refine⟨dd.typeIs,λb q=>?_,hd⟩;cases q;obtain⟨ob,_,_,h1,h2,_⟩:=dd;exact⟨ob,h1,h2.2.1⟩
 .obtain⟨_,hd,xs,_,dd⟩:=zhK I.hok e
  refine⟨dd.typeIs,λb q=>?_,hd⟩;cases q;obtain⟨ob,_,_,h1,h2,_⟩:=dd;exact⟨ob,h1,h2.2.1⟩
section
variable{X:Cx}{pins:List (Addr×Obj)}{σ:St}{H:Hp}{s:Shared}{a:Addr}{y d:V}{u r:Value}{o:Option V}{A:Around}{E:Value->Shared->Prop}
def zon{Q:Value->Shared->Prop}(hu:A.units+1<cLine)(I:Inv X pins σ H s)(g:DGet H a y o)(ry:RelV y u)(rd:RelV d r)(h:∀w' s',Inv X pins σ H s'->RelV (o.getD d) w'->Q w' s') :
  wpAny (model X.prog X.w) A (call (.builtin "dict.get") [.ref a,u,r]) Q E s:=by
 rcases g with ⟨kvs,k,e,ey,l⟩ | ⟨kvs,k,b,e,ey,eb,l⟩
 .subst ey
  obtain⟨z,hd,vs,rel,dd⟩:=zee I.hok e;refine call_meetsIn yd dd.typeIs uw (ul _ _ _) (meets_dict_get_default (zat X.prog X.w) a (zfD ry) hd r) ⟨_,dd.mapOf,h _ _ (I.tok _) ?_⟩;rw[l];exact(rel.val k).getD rd
 .subst ey
  cases (show u=Value.ref b from ry);obtain⟨z,hd,xs,rel,dd⟩:=zhK I.hok e;refine call_meetsIn yd dd.typeIs uw (ul _ _ _) (meetsH_dict_get_default (tupleKind (zat X.prog X.w)) a b hd r) ⟨xH hu,k,xs,zgg I.hok eb,dd,h _ _ (I.tok _) ?_⟩;rw[l];exact(rel.val k).getD rd
end
def zpk(td ty tx:TE):TE:=λσ H Q=>td σ H λx H1=>∃a,x=.ref a/\IsD H1 a/\ty σ H1 λy H2=>tx σ H2 λz H3=>∃o,DGet H3 a y o/\Q (o.getD z) H3
section
variable{X:Cx}{o e f:Expr}{apos cpos:Pos}{td ty tx:TE}
def zkL(hu:X.A.units+1<cLine)(ho:PE X o td)(he:PE X e ty)(hf:PE X f tx)(m:M2 X o "get" apos e f cpos):PE X (.Call (.Attribute o "get" apos) [e,f] [] cpos) (zpk td ty tx):=by
 intro pins s σ H Q I h;refine wpAny_Call_method m.base m.few m.line PySem.F.plainAttrs_dict yd PySem.F.type_dict_get (thn (ho pins s σ H _ I h) λu s1 ⟨x,H1,I1,rx,a,ex,d,q1⟩=>?_);subst ex;obtain rfl:u=Value.ref a:=rx;obtain⟨t1,t2,_⟩:=zpM I1 d;refine⟨t1,t2,?_⟩;rw[m.trees]
 refine vP rfl (yR (vN (thn (he pins s1 σ H1 _ I1 q1) λiv s2 ⟨y,H2,I2,ry,q2⟩=>
  vN (thn (hf pins s2 σ H2 _ I2 q2) λfv s3 ⟨z,H3,I3,rz,ov,g,q3⟩=>vU ?_))))
 exact zon hu I3 g ry rz λw' s4 I4 rw'=>⟨_,H3,I4,rw',q3⟩
end
section
variable{X:Cx}{pins:List (Addr×Obj)}{σ:St}{H:Hp}{s:Shared}{a:Addr}{kvs:List (Key×V)}{A:Around}{E:Value->Shared->Prop}
def zk1{Q:Value->Shared->Prop}(I:Inv X pins σ H s)(e:Rd H a (.dK kvs))(h:∀p s',H p=none->Inv X pins σ (upd H p (.dK kvs)) s'->Q (.ref p) s'):wpAny (model X.prog X.w) A (call (.type "dict") [.ref a]) Q E s:=by
 obtain⟨z,hd,vs,rel,dd⟩:=zee I.hok e;refine kt_call_dict hd dd (by rw[<-rel.length]; exact z) λh' dd' hs=>?_
 refine h _ _ (I.hok.fresh (zu _)) (I.laid (a:=s.heap.objs.size) (o:=.dK kvs) (t':=s.toks) (λb q hq=>?_) (zu _) (zgh z (jn.mpr (jk (zP I.big))) rel dd'));exact(hs.2 b (zP (zJ hq))).trans (zc _ hq)
end
end L2
namespace Att
open PySem PySem.W PySem.Calls PyProof.Rows
def zef{P:Params}{h:Heap}:∀(ns:List Int) (vs:List Value),WellAll P h vs (ns.map WData.int)->IntsAre vs ns:=by
 intro ns;induction ns with
 | nil=>
  intro vs w;rw[jw] at w;cases w;exact .nil
 | cons n ns ih=>
  intro vs w;rw[zH] at w;cases w with
  | cons a b=>
   cases a;exact .cons _ _ (ih _ b)
def zjh{l:OpenLaw}{n:Nat}(hn:l.most=some n){P:Params}{h:Heap}{args:List WData}{vals:List Value}
  (hpre:l.row.toRowW.claim.pre args=true) (hwl:WellAll P h vals args) :
  ∃a vs ns,vals=[Value.ref a]/\args=[WData.list (ns.map WData.int)]/\h.get? a=some { cls:=.type "list",data:=.seq vs.toArray }/\IntsAre vs ns/\ns.length<=n:=by
 have hsh:WShape.hasAll [] args [.list .int]=true:=(pre_splitW hpre).1;have hc:l.pre.holds [] { args:=args }=true:=(pre_splitW hpre).2;obtain⟨d,r,rfl,h1,h2⟩:=hasAllW_cons hsh;obtain rfl:=hasAllW_nil h2;obtain⟨xs,rfl,h3⟩:=hasW_list h1;obtain⟨ns,rfl⟩:=items_int h3;have hlen:ns.length<=n:=by
  unfold OpenLaw.pre at hc;have h4:(WTm.not (.lt (.lit (.int (n:Int))) (.len (.arg 0)))).holds [] { args:=[.list (ns.map .int)] }=true:=by
   have h4:=(holds_andW hc).1;rw[hn] at h4;exact h4
  have h5:=condW_of h4 (w_not (w_lt w_lit (w_len_list (w_arg rfl))));rw[zL] at h5;refine jR λq=>?_
  have q':(n:Int)<((ns.length:Nat):Int):=by omega
  first
   | (rw[kI q'] at h5; exact absurd h5 (by decide))
   | (simp at h5; omega)
 cases hwl with
 | cons w1 w2=>
  cases w2;cases w1 with
  | list ho hall=>exact⟨_,_,ns,rfl,rfl,ho,zef ns _ hall,hlen⟩
theorem zjk(l:OpenLaw)(args:List WData):l.row.toRowW.claim.post args (.bool true) args=true:=
 postW_of (r:=l.row.toRowW) (X:=(true==true))
  (show WShape.has [] (.bool true) .bool=true by first | rfl | decide | simp[WShape.has,WShape.arms,WShape.armsAll])
  (show(WTm.eq .res (.lit (.bool true))).value [] { args:=args,res:=some (.bool true),after:=args }=some (.bool (true==true)) from w_eq_bool (w_res rfl) w_lit) rfl
def attach_call{l:OpenLaw}{n:Nat}{q:Program}{loose:List Str}{XP:(Str->Option Value)->Heap->Prop}{YP:World->Heap->Prop}{d:DefRec}
  (hn:l.most=some n) (hdf:d.params.defaults=[])
  (call:∀(w:World) (s₀ s₁:Shared) (mg mb:Str->Option Value) (fa:Addr) (o:Obj) (pm cd doc:Value) (a:Addr) (vs:List Value) (ns:List Int),
   Ground q loose [] XP w s₀ mg mb s₁.heap->YP w s₁.heap->
   s₁.heap.get? fa=some o->o.data=.func (docDef d.name d.params d.body d.scope pm cd doc)->s₁.heap.CodeRec cd d.name->mg d.name=some (.ref fa)->
   s₁.heap.get? a=some { cls:=.type "list",data:=.seq vs.toArray }->IntsAre vs ns->ns.length<=n->s₁.gens = #[]->
   codeAny (model l.prog w) callerA (.call (.ref fa) ⟨[.ref a],[]⟩) (λr s'=>r=.ok (.ret (.bool true))/\OldK s₁.heap s'.heap/\s'.os=s₁.os/\AllBare s'.gens) s₁) :
  WalkO q loose XP YP l.row.toRowW d [] (λf vs=>PySem.call f vs):=by
 intro w s₀ s₁ mg mb G Y fa o pm cd doc dV kV ho hd hcd hD hmg hg args vals as hpre hlay hrd hwl hlo;obtain rfl:dV=.none:=Dflts.none hD hdf;obtain rfl:kV=.none:=Dflts.noKw hD;obtain⟨a,vs,ns,rfl,rfl,hobj,hints,hlen⟩:=zjh hn hpre hwl;refine enter_call (yx (call w s₀ s₁ mg mb fa o pm cd doc a vs ns G Y ho (fd_plain hd) hcd hmg hobj hints hlen hg) λr s' hq=>?_);obtain⟨rfl,h2,h3,h4⟩:=hq;exact⟨.inl ⟨.bool true,.bool true,[],rfl,λ_=>rfl,.bool true,zjk l _,λ_=>⟨List.Pairwise.nil,λ_ hm=>(nomatch hm)⟩⟩,h2,h3,h4⟩
end Att
namespace L2
open PySem PySem.Spec PyProof.Rows
theorem zfj:∀{vs:List Value} {ns:List Int},IntsAre vs ns->Vals (ns.map V.int) vs
 | _,_,.nil=>.nil
 | _,_,.cons n t h=>.cons ⟨t,rfl⟩ (zfj h)
def Only(H:Hp):Prop:=∀b,H b=none\/∃o xs,H b=some (.frz o (.lst xs))
def zlm{P:Program}{w:World}{K:PySem.W.Frag}{mg mb:Str->Option Value}{CX:CXT}{k:Nat}{fa a:Addr}{fd:FuncData}{x:Str}{sp:Sp}{s₁:Shared}{vs:List Value}{ns:List Int}
  (KX:K.In s₁.heap) (hns:s₁.heap.Ns mainGlobals mg) (hb:s₁.heap.Ns builtinsNs mb) (hbb:∀x:Str,x≠"__name__"->mb x=bootBuiltins x) (hlim:s₁.heap.NoLimit) (hg:s₁.gens = #[])
  (ha:s₁.heap.get? a=some { cls:=.type "list",data:=.seq vs.toArray }) (hi:IntsAre vs ns) (hl:ns.length<=sizeLine) (hr:Room k callerA)
  (F:∀base:Heap,K.In base->base.Ns mainGlobals mg->FnOk P w K mg base CX k fa fd [x] sp) (hbind:∀(s:Shared) (u:Value),BindsTo s fd ⟨[u],[]⟩ [(x,u)])
  (hsp:∀H:Hp,Only H->SqL K H a (ns.map V.int)->sp [.ref a] H (λv _=>v=.bl true) λ_ _ _=>False)
  (hCX:∀H e s',CX [] H s₁ (λ_ _ _=>False) e s'->False) :
  codeAny (model P w) callerA (.call (.ref fa) ⟨[.ref a],[]⟩) (λr s'=>r=.ok (.ret (.bool true))/\OldK s₁.heap s'.heap/\s'.os=s₁.os/\AllBare s'.gens) s₁:=by
 have rv:=zfj hi;have lenV:=hi.length;have core:∀H:Hp,Only H->SqL K H a (ns.map V.int)->HOk P w H s₁.heap->(∀b,H b≠none->b=a)->(H a≠none->K.lookup a=none)->
   codeAny (model P w) callerA (.call (.ref fa) ⟨[.ref a],[]⟩) (λr s'=>r=.ok (.ret (.bool true))/\OldK s₁.heap s'.heap/\s'.os=s₁.os/\AllBare s'.gens) s₁:=by
  intro H hO hS hok hA hK;have base_of:∀{b:Addr} {o:Obj},s₁.heap.get? b=some o->H b=none->(hidT s₁.heap H).get? b=some o:=λe n=>zk9 e n
  have noA:∀{b:Addr} {o:Obj} {es:Array DictEntry} {ep:Nat},s₁.heap.get? b=some o->o.data=.dict es ep->H b=none:=λ{b o es ep} e d=>by
   cases q:H b with
   | none=>rfl
   | some u=>
    have e':b=a:=hA b (by rw[q]; simp);subst e';rw[ha] at e; cases e;have d':Data.seq vs.toArray _=Data.dict es ep:=d;cases d'
  have nsK:∀{b:Addr} {m:Str->Option Value},s₁.heap.Ns b m->(hidT s₁.heap H).Ns b m:=λ{b m} ⟨o,es,ep,e,d,r⟩=>⟨o,es,ep,base_of e (noA e d),d,r⟩
  have hKb:K.In (hidT s₁.heap H):=λb o e=>base_of (KX b o e) (by
   cases q:H b with
   | none=>rfl
   | some u=>
    have e':b=a:=hA b (by rw[q]; simp);subst e'
    rw[hK (by rw[q]; simp)] at e; cases e)
  have hM:Mod K mg (hidT s₁.heap H):=⟨hKb,nsK hns,⟨mb,nsK hb,hbb⟩,let ⟨mc,h1,h2⟩:=hlim; ⟨mc,nsK h1,h2⟩⟩;have e0:Env0 P w K mg (hidT s₁.heap H) callerA [] s₁ H:=⟨rfl,hM,λb o e=>zmN e,Nat.le_of_eq (zjq _ _),trivial,λb hb=>absurd (show b∈([]:List Addr) from hb) (by simp),hok,.of_eq hg⟩;refine yx ((F _ hKb (nsK hns)).run callerA [] s₁ H ⟨[.ref a],[]⟩ [.ref a] [.ref a] _ _ hr e0 (hbind s₁ (.ref a)) (.cons rfl .nil) (hsp H hO hS)) λr s' h=>?_
  cases r with
  | error e=>exact(hCX H e s' h).elim
  | ok fl=>
   cases fl with
   | next=>exact False.elim h
   | brk=>exact False.elim h
   | cont=>exact False.elim h
   | ret u=>
    obtain⟨v,H',os,bare,un,hok',r',q⟩:=h;have q':v=.bl true:=q;subst q';obtain rfl:u=Value.bool true:=r';refine⟨rfl,OldK.of_keep λb o e=>?_,os,bare⟩;cases q:H b with
    | none=>exact un.keep b o e q (by intro z; exact absurd (show b∈([]:List Addr) from z) (by simp)) (by simp)
    | some u=>
     rcases hO b with z | ⟨ob,xs,z⟩
     .rw[q] at z; cases z
     .have z2:=un.frzs b ob _ z
      obtain⟨e1,_⟩:=hok b _ z;obtain⟨e2,_⟩:=hok' b _ z2;rw[e] at e1; cases e1;exact e2
 cases hk:K.lookup a with
 | some o=>
  have e:=KX a o hk;rw[ha] at e;cases e;refine core (λ_=>none) (λ_=>.inl rfl) (.inr ⟨_,vs.toArray,_,hk,rfl,rfl,rfl,by rw[zM,lenV]; exact hl,by simpa using rv⟩) (λb u z=>by have z':(none:Option HO)=some u:=z; cases z') (λb z=>absurd rfl z) λz=>absurd rfl z
 | none=>
  refine core (λb=>if b=a then some (.frz { cls:=.type "list",data:=.seq vs.toArray } (.lst (ns.map V.int))) else none) (λb=>?_) (.inl (.inr ⟨{ cls:=.type "list",data:=.seq vs.toArray },zR rfl⟩)) (λb u z=>?_) (λb z=>?_) λ_=>hk
  .by_cases hb:b=a
   .exact .inr ⟨_,_,zR hb⟩
   .exact .inl (zZ hb)
  .by_cases hb:b=a
   .have z':=(zR hb).symm.trans z
    cases z';subst hb;exact⟨ha,by rw[zL]; exact hl,vs,_,rv,ha⟩
   .have z':=(zZ hb).symm.trans z
    cases z'
  .by_cases hb:b=a
   .exact hb
   .exact absurd (zZ hb) z
end L2
namespace L2
open PySem PySem.Spec PyProof.Rows
end L2
namespace L2
open PySem PySem.Spec PyProof.Rows
def za0(s:Stmt):Arguments:=match s with
 | .FunctionDef _ a _ _ _ _ _ _ _ _=>a
 | _=>{ posonlyargs:=[],args:=[],vararg:=none,kwonlyargs:=[],kw_defaults:=[],kwarg:=none,defaults:=[] }
def zaA(s:Stmt):List Stmt:=match s with
 | .FunctionDef _ _ b _ _ _ _ _ _ _=>b
 | _=>[]
def zag(s:Stmt):Scope:=match s with
 | .FunctionDef _ _ _ _ _ _ sc _ _ _=>sc
 | _=>{ kind:=.function,names:=[],isGenerator:=false,isCoroutine:=false }
abbrev CX0:CXT:=λ_ _ _ _ _ _=>False
abbrev E0:XK:=λ_ _ _=>False
def zl2{X:Cx}:zeh CX0 X E0:=λ_ _ _ _ _ _ _ h=>h.elim
structure Fun(K:PySem.W.Frag)(x qual:Str)(st:Stmt)(f:Addr)(fd:FuncData):Prop where
 ex:∃(oc:Value) (od:Option Addr) (kV doc pm:Value) (an:Option Addr) (cdv ct:Value) (osl:Array (Option Value)),
  fd=PySem.W.fnOf x qual (za0 st) (zaA st) (zag st) .none kV doc pm an cdv ct/\K.lookup f=some ⟨oc,od,.func fd,osl⟩/\PySem.W.codeIn K cdv qual=true
 kp:PySem.W.keepIn K (.ref f)=true
section
variable{P:Program}{w:World}{K:PySem.W.Frag}{mg:Str->Option Value}{base:Heap}
def Fun.ok{x qual:Str}{st:Stmt}{f:Addr}{fd:FuncData}{N ps:List Str}{k:Nat}{sp:Sp}(F:Fun K x qual st f fd)(S:FnScope N ps (zag st))(len:∀vs H Q E,sp vs H Q E->vs.length=ps.length)
  (hbody:∀(cdv:Value) (A:Around) (outer:List Env) (s:Shared) (H:Hp) (vs:List V) (Q:VK) (E:XK),Room k (A.deeper (envOfC qual (zag st) s.heap.objs.size f cdv))->sp vs H Q E->
   ∃t,PSs (cxOf CX0 P w K mg base N qual (zag st) f cdv A outer s H E).nox (zaA st) t/\t { nx:=λ_ H'=>Q .non H',rt:=Q } (start N vs) H):FnOk P w K mg base CX0 (k+1) f fd ps sp:=by
 obtain⟨oc,od,kV,doc,pm,an,cdv,ct,osl,rfl,lk,hcd⟩:=F.ex;refine zqq lk hcd S len λA outer s H vs Q E hr hsp=>?_
 obtain⟨t,h,q⟩:=hbody cdv A outer s H vs Q E hr hsp;exact⟨t,h.nox,q⟩
def Fun.binds{x qual:Str}{st:Stmt}{f:Addr}{fd:FuncData}{ps:List Str}(F:Fun K x qual st f fd)
  (h:∀(kV doc pm:Value) (an:Option Addr) (cdv ct:Value) (us:List Value),us.length=ps.length->bindArgs (PySem.W.fnOf x qual (za0 st) (zaA st) (zag st) .none kV doc pm an cdv ct) ⟨us,[]⟩=pure (ps.zip us)):Binds K fd ps []:=by
 obtain⟨oc,od,kV,doc,pm,an,cdv,ct,osl,rfl,lk,hcd⟩:=F.ex;exact .all (h kV doc pm an cdv ct)
def zop{x qual:Str}{st:Stmt}{f:Addr}{oc:Value}{od an:Option Addr}{osl:Array (Option Value)}{kV doc pm cdv ct:Value}(l:K.lookup f=some ⟨oc,od,.func (PySem.W.fnOf x qual (za0 st) (zaA st) (zag st) .none kV doc pm an cdv ct),osl⟩)
  (c:PySem.W.codeIn K cdv qual=true) (k:PySem.W.keepIn K (.ref f)=true):Fun K x qual st f (PySem.W.fnOf x qual (za0 st) (zaA st) (zag st) .none kV doc pm an cdv ct):=⟨⟨oc,od,kV,doc,pm,an,cdv,ct,osl,rfl,l,c⟩,k⟩
end
end L2
end
set_option bootstrap.genMatcherCode false
set_option genSizeOf false
set_option genSizeOfSpec false
namespace L2
open PySem PySem.W PyProof.Rows
section
variable{prog:Program}{w:World}{A:Around}{E:Value->Shared->Prop}
theorem zeU{it t:Addr}{items:Array Value}(hh:A.handled=none)(hne:t≠it):∀(n i:Nat) (s:Shared) (Q:List Value->Shared->Prop),s.heap.IsListIter it t i->s.heap.IsList t items->i+n<=items.size->
  (∀h' tk,h'.IsListIter it t (i+n)->h'.IsList t items->(∀b o,b≠it->s.heap.get? b=some o->h'.get? b=some o)->Q ((items.toList.drop i).take n) { s with heap:=h',toks:=tk })->wpAny (model prog w) A (draw (.ref it) n) Q E s
 | 0,i,s,Q,hit,ht,_,hQ=>by
  show wpAny _ _ (pure []) Q E s
  exact zg (by simpa using hQ s.heap s.toks hit ht λ_ _ _ e=>e)
 | n+1,i,s,Q,hit,ht,hle,hQ=>by
  have hlt:i<items.size:=by omega
  show wpAny _ _ (pyNext (.ref it) >>= _) Q E s
  refine za ((xW hh it t hne items).item i s _ _ hlt ⟨hit,ht⟩ λv h1 tk hv st k1=>?_);rw[show items[i]?=some items[i] by simp[hlt]] at hv;cases hv;refine za (jb (zeU hh hne n (i+1) _ _ st.1 st.2 ∅ λh2 tk2 a1 a2 a3=>zg ?_));have hd:items.toList.drop i=items[i]::items.toList.drop (i+1):=by simp[qW,hlt]
  have:=hQ h2 tk2 (by rw[show i+(n+1)=i+1+n by omega]; exact a1) a2 λb o ne e=>a3 b o ne (k1 b o (by simpa using ne) e)
  rw[hd,uP] at this;exact this
def zgV{s:Shared}{t:Addr}{items:Array Value}{targets:List (Bool×(Value->Sem Unit))}{Q:Unit->Shared->Prop}(hh:A.handled=none)(ht:s.heap.IsList t items)
  (hn:targets.length=items.size) (hstar:targets.findIdx? (·.1)=none)
  (h:∀h' tk,(∀b o,s.heap.get? b=some o->h'.get? b=some o)->wpAny (model prog w) A (assignInOrder (targets.map (·.2)) items.toList) Q E { s with heap:=h',toks:=tk }) :
  wpAny (model prog w) A (unpack (.ref t) targets) Q E s:=by
 have hlt:t<s.heap.objs.size:=by obtain⟨o,ho,_⟩:=ht; exact zJ ho
 unfold unpack;rw[hn,hstar];refine za (jb ?_);unfold unpackItems notIterableAtAll;refine za (za (uA ht.typeIs PySem.slot_list_iter.lookup (zg ?_)));simp only[zQ,jt];refine za (jb (q8 ht ?_));refine za (jb (zeU hh (zP hlt) items.size 0 _ _ ⟨_,zA _ rfl,rfl,rfl⟩ (ht.push _) ∅ λh1 tk hit1 ht1 k1=>?_));have hall:List.take items.size (List.drop 0 items.toList)=items.toList:=by
  rw[xX]; exact wX (by simp)
 rw[hall,zZ (by simp)];refine za (jb ((xW hh s.heap.objs.size t (zP hlt) items).done _ _ _ ⟨by simpa using hit1,ht1⟩ λh2 tk2 k2=>?_));simp only[Option.isSome_none,zQ,jt];refine zg (h h2 tk2 λb o e=>?_);have ne:=zP (zJ e);exact k2 b o (by simpa using ne) (k1 b o ne (zc _ e))
end
variable{X:Cx}{pos:Pos}
def gLst(K:PySem.W.Frag)(n:Nat)(t:TGs):TG:=λv σ H Q=>∃a xs,v=.ref a/\SqL K H a xs/\xs.length=n/\t xs σ H Q
def zpa{es:List Expr}{k:Nat}{t:TGs}{n:Nat}(hc:X.calm=true)(h:PGs X es t)
  (hn:(assignEach es X.env).length=n) (hst:(assignEach es X.env).findIdx? (·.1)=none):PG X (.Tuple es k pos) (gLst X.K n t):=by
 intro pins s σ H v u Q I r hw;obtain⟨a,xs,e1,hq,hl,hw⟩:=hw;subst e1;cases r;obtain⟨its,rv,⟨o,m,g1,g2,g3,g4⟩,hz⟩:=I.list hq;rw[assign_Tuple];refine za (xF (zgV (items:=its.toArray) (I.ok.hd hc) ⟨o,g1,g2,m,g4⟩ (by simp[hn,<-hl,rv.length]) hst λh' tk hx=>?_));have I1:Inv X pins σ H { s with heap:=h',toks:=tk }:=I.kept (t':=tk) λb o e=>hx b o e
 exact h pins _ σ H xs _ Q I1 (by simpa using rv) hw
end L2
namespace ML
open PySem PySem.Spec PyProof.Rows L2
inductive W where
 | non | bl (b:Bool) | int (i:Int) | str (x:Str) | tup (l:List W) | fls (l:List W) | ref (n:Nat) | fdc (l:List (Key×W)) | fn (a:Addr)
 deriving Inhabited
inductive MO where
 | lst (l:List W) | dic (l:List (Key×W)) | ins (c:Nat) (fs:List (Str×W)) | tdc (ks:List (List Str))
structure Cl where
 c:Nat->Addr
 P:Program
 w:World
noncomputable def TDat(P:Program)(w:World)(a:Addr)(xs:List (List Str×Addr×Value)):Heap->Prop:=λh=>∃o es ep,h.get? a=some o/\o.ExactDict/\o.data=.dict es ep/\es.toList=xs.map (entryOfKey (tupleKind (strKind P w)))
abbrev MH:=List MO
abbrev M(α:Type):=MH->Option (α×MH)
abbrev En:=List (Option W)
abbrev ME:=En->M W
abbrev MT:=En->M Bool
noncomputable def bnd{α β:Type}(m:M α)(f:α->M β):M β:=λh=>match m h with
 | some (a,h')=>f a h'
 | none=>none
def u0{α β:Type}{m:M α}{f:α->M β}{h:MH}{r:β×MH}(e:bnd m f h=some r):∃a h',m h=some (a,h')/\f a h'=some r:=by
 unfold bnd at e;split at e
 .rename_i a h' e'
  exact⟨a,h',e',e⟩
 .cases e
noncomputable def SqF(K:PySem.W.Frag)(μ:List Addr)(H:Hp)(a:Addr)(vs:List V):Prop:=(Rd H a (.lst vs)/\a∉μ) \/
 ∃(o:Obj) (its:Array Value) (n:Nat),K.lookup a=some o/\o.cls=.type "list" /\ o.dict=none/\o.data=.seq its n/\its.size<=sizeLine/\Vals vs its.toList
def SqF.sq{K:PySem.W.Frag}{μ:List Addr}{H:Hp}{a:Addr}{vs:List V}(h:SqF K μ H a vs):SqL K H a vs:=h.elim (λh=>.inl h.1) .inr
noncomputable def SqD(μ:List Addr)(H:Hp)(a:Addr)(l:List (Key×V)):Prop:=Rd H a (.dK l)/\a∉μ
section rel
variable(K:PySem.W.Frag)(cl:Cl)(μ:List Addr)(H:Hp)
mutual
inductive RW:W->V->Prop
 | non:RW .non .non
 | bl (b:Bool):RW (.bl b) (.bl b)
 | int (i:Int):RW (.int i) (.int i)
 | str (x:Str):RW (.str x) (.str x)
 | tup {a:Addr} {vs:List V} {l:List W}:SqT K H a vs->RWs l vs->RW (.tup l) (.ref a)
 | ref {n:Nat} {a:Addr}:μ[n]?=some a->RW (.ref n) (.ref a)
 | fls {a:Addr} {vs:List V} {l:List W}:SqF K μ H a vs->RWs l vs->RW (.fls l) (.ref a)
 | fdc {a:Addr} {l:List (Key×W)} {l':List (Key×V)} {ws:List W} {vs:List V}:SqD μ H a l'->l.map (·.1)=l'.map (·.1)->ws=l.map (·.2)->vs=l'.map (·.2)->RWs ws vs->RW (.fdc l) (.ref a)
 | fn {a:Addr}:RW (.fn a) (.ref a)
inductive RWs:List W->List V->Prop
 | nil:RWs [] []
 | cons {w:W} {v:V} {l:List W} {vs:List V}:RW w v->RWs l vs->RWs (w::l) (v::vs)
end
noncomputable def RKs{κ:Type}(l:List (κ×W))(l':List (κ×V)):Prop:=l.map (·.1)=l'.map (·.1)/\RWs K μ H (l.map (·.2)) (l'.map (·.2))
noncomputable def OR(a:Addr):MO->Prop
 | .lst l=>∃vs,H a=some (.lst vs)/\RWs K μ H l vs
 | .dic l=>∃l',H a=some (.dK l')/\RKs K μ H l l'
 | .ins c fs=>∃dx fs',H a=some (.ins (cl.c c) dx fs')/\RKs K μ H fs fs'
 | .tdc ks=>∃xs:List (List Str×Addr×Value),H a=some (.ext (TDat cl.P cl.w a xs))/\xs.map (·.1)=ks/\ks.Nodup/\(a==sysModules)=false/\RWs K μ H (ks.map λk=>.tup (k.map .str)) (xs.map λx=>.ref x.2.1)
structure HR(h:MH):Prop where
 len:μ.length=h.length
 nd:μ.Nodup
 ob:∀(n:Nat) (a:Addr) (o:MO),μ[n]?=some a->h[n]?=some o->OR K cl μ H a o
structure ER(ρ:En)(σ:L2.St):Prop where
 len:ρ.length=σ.length
 at_:∀(i:Nat) (w:W),ρ[i]?=some (some w)->∃v,σ[i]?=some (some v)/\RW K μ H w v
end rel
structure Ext(μ:List Addr)(H:Hp)(μ':List Addr)(H':Hp):Prop where
 pre:μ<+:μ'
 fr:∀b o,H b=some o->b∉μ->H' b=some o/\b∉μ'
section
variable{K:PySem.W.Frag}{cl:Cl}{μ μ' μ'':List Addr}{H H' H'':Hp}{h h':MH}
def Ext.refl:Ext μ H μ H:=⟨jf _,λ_ _ e n=>⟨e,n⟩⟩
theorem Ext.trans(a:Ext μ H μ' H')(b:Ext μ' H' μ'' H''):Ext μ H μ'' H'':=
 ⟨a.pre.trans b.pre,λc o e n=>let ⟨e1,n1⟩:=a.fr c o e n; b.fr c o e1 n1⟩
def Ext.get(a:Ext μ H μ' H'){n:Nat}{x:Addr}(e:μ[n]?=some x):μ'[n]?=some x:=by
 obtain⟨r,rfl⟩:=a.pre;rw[zX (zE.mp e).1]; exact e
theorem OR.some{a:Addr}{o:MO}(q:OR K cl μ H a o):∃u,H a=some u/\Mut (some u):=by
 cases o with
 | lst l=>obtain⟨vs,q,_⟩:=q; exact⟨_,q,trivial⟩
 | dic l=>obtain⟨l',q,_⟩:=q; exact⟨_,q,trivial⟩
 | ins c fs=>obtain⟨dx,fs',q,_⟩:=q; exact⟨_,q,trivial⟩
 | tdc ks=>obtain⟨xs,q,_⟩:=q; exact⟨_,q,trivial⟩
def HR.mem_some(R:HR K cl μ H h){a:Addr}(hm:a∈μ):∃u,H a=some u/\Mut (some u):=by
 obtain⟨n,hn⟩:=vL.mp hm;have hl:n<h.length:=by rw[<-R.len]; exact(zE.mp hn).1
 exact(R.ob n a h[n] hn (zO hl)).some
def HR.fresh(R:HR K cl μ H h){a:Addr}(e:H a=none):a∉μ:=λhm=>by
 obtain⟨u,q,_⟩:=R.mem_some hm;rw[e] at q; cases q
def HR.notours(R:HR K cl μ H h){a:Addr}{u:HO}(e:H a=some u)(n:¬Mut (some u)):a∉μ:=λhm=>by
 obtain⟨u',q,m⟩:=R.mem_some hm;rw[e] at q; cases q;exact n m
def HR.notup(R:HR K cl μ H h){a:Addr}{xs:List V}(e:Rd H a (.tup xs)):a∉μ:=by
 rcases e with e | ⟨o,e⟩
 .exact R.notours e λz=>z
 .exact R.notours e λz=>z
def SqF.ext(E:Ext μ H μ' H'){a:Addr}{vs:List V}(e:SqF K μ H a vs):SqF K μ' H' a vs:=by
 rcases e with ⟨e | ⟨o,e⟩,n⟩ | e
 .exact .inl ⟨.inl (E.fr _ _ e n).1,(E.fr _ _ e n).2⟩
 .exact .inl ⟨.inr ⟨o,(E.fr _ _ e n).1⟩,(E.fr _ _ e n).2⟩
 .exact .inr e
def SqD.ext(E:Ext μ H μ' H'){a:Addr}{l:List (Key×V)}(e:SqD μ H a l):SqD μ' H' a l:=by
 obtain⟨e | ⟨o,e⟩,n⟩:=e
 .exact⟨.inl (E.fr _ _ e n).1,(E.fr _ _ e n).2⟩
 .exact⟨.inr ⟨o,(E.fr _ _ e n).1⟩,(E.fr _ _ e n).2⟩
def SqT.ext(R:HR K cl μ H h)(E:Ext μ H μ' H'){a:Addr}{xs:List V}(e:SqT K H a xs):SqT K H' a xs:=by
 rcases e with e | e
 .have n:=R.notup e
  rcases e with e | ⟨o,e⟩
  .exact .inl (.inl (E.fr _ _ e n).1)
  .exact .inl (.inr ⟨o,(E.fr _ _ e n).1⟩)
 .exact .inr e
mutual
theorem RW.ext(R:HR K cl μ H h)(E:Ext μ H μ' H'):∀{w:W} {v:V},RW K μ H w v->RW K μ' H' w v
 | _,_,.non=>.non
 | _,_,.bl b=>.bl b
 | _,_,.int i=>.int i
 | _,_,.str x=>.str x
 | _,_,.tup s r=>.tup (SqT.ext R E s) (RWs.ext R E r)
 | _,_,.ref e=>.ref (E.get e)
 | _,_,.fls s r=>.fls (SqF.ext E s) (RWs.ext R E r)
 | _,_,.fdc s k e1 e2 r=>.fdc (SqD.ext E s) k e1 e2 (RWs.ext R E r)
 | _,_,.fn=>.fn
theorem RWs.ext(R:HR K cl μ H h)(E:Ext μ H μ' H'):∀{l:List W} {vs:List V},RWs K μ H l vs->RWs K μ' H' l vs
 | _,_,.nil=>.nil
 | _,_,.cons r t=>.cons (RW.ext R E r) (RWs.ext R E t)
end
theorem ER.ext(R:HR K cl μ H h)(E:Ext μ H μ' H'){ρ:En}{σ:L2.St}(e:ER K μ H ρ σ):ER K μ' H' ρ σ:=
 ⟨e.len,λi w q=>let ⟨v,q1,r⟩:=e.at_ i w q; ⟨v,q1,r.ext R E⟩⟩
theorem RWs.length:∀{l:List W} {vs:List V},RWs K μ H l vs->l.length=vs.length
 | _,_,.nil=>rfl
 | _,_,.cons _ t=>ju (· + 1) (RWs.length t)
theorem RWs.get:∀{l:List W} {vs:List V} {i:Nat} {w:W},RWs K μ H l vs->l[i]?=some w->∃v,vs[i]?=some v/\RW K μ H w v
 | _,_,_,_,.nil,e=>by simp at e
 | _,_,0,_,.cons r _,e=>by simp at e; subst e; exact⟨_,rfl,r⟩
 | _,_,i+1,w,.cons _ t,e=>by
  obtain⟨v,h1,h2⟩:=RWs.get (i:=i) (w:=w) t (by simpa using e);exact⟨v,by simpa using h1,h2⟩
theorem RWs.append:∀{l l':List W} {vs vs':List V},RWs K μ H l vs->RWs K μ H l' vs'->RWs K μ H (l++l') (vs++vs')
 | _,_,_,_,.nil,s=>s
 | _,_,_,_,.cons r t,s=>.cons r (RWs.append t s)
theorem RWs.take:∀{l:List W} {vs:List V} (n:Nat),RWs K μ H l vs->RWs K μ H (l.take n) (vs.take n)
 | _,_,0,_=>.nil
 | _,_,_+1,.nil=>.nil
 | _,_,n+1,.cons r t=>.cons r (RWs.take n t)
theorem RWs.drop:∀{l:List W} {vs:List V} (n:Nat),RWs K μ H l vs->RWs K μ H (l.drop n) (vs.drop n)
 | _,_,0,r=>r
 | _,_,_+1,.nil=>.nil
 | _,_,n+1,.cons _ t=>RWs.drop n t
theorem RWs.set{w:W}{v:V}(r:RW K μ H w v):∀{l:List W} {vs:List V} (i:Nat),RWs K μ H l vs->RWs K μ H (l.set i w) (vs.set i v)
 | _,_,_,.nil=>.nil
 | _,_,0,.cons _ t=>.cons r t
 | _,_,i+1,.cons q t=>.cons q (RWs.set r i t)
theorem RWs.dropLast:∀{l:List W} {vs:List V},RWs K μ H l vs->RWs K μ H l.dropLast vs.dropLast
 | _,_,.nil=>.nil
 | _,_,.cons _ .nil=>.nil
 | _,_,.cons r (.cons r2 t)=>.cons r (RWs.dropLast (.cons r2 t))
theorem RWs.rep{l:List W}{vs:List V}(r:RWs K μ H l vs):∀k:Nat,RWs K μ H (List.replicate k l).flatten (List.replicate k vs).flatten
 | 0=>.nil
 | k+1=>by
  rw[qj,qj,qN,qN];exact r.append (RWs.rep r k)
theorem RWs.ints:∀ns:List Int,RWs K μ H (ns.map W.int) (ns.map V.int)
 | []=>.nil
 | n::r=>.cons (.int n) (RWs.ints r)
theorem OR.ext(R:HR K cl μ H h)(E:Ext μ H μ' H'){a:Addr}{o:MO}(e:H' a=H a)(q:OR K cl μ H a o):OR K cl μ' H' a o:=by
 cases o with
 | lst l=>obtain⟨vs,q,r⟩:=q; exact⟨vs,e.trans q,r.ext R E⟩
 | dic l=>obtain⟨l',q,k,r⟩:=q; exact⟨l',e.trans q,k,r.ext R E⟩
 | ins c fs=>obtain⟨dx,fs',q,k,r⟩:=q; exact⟨dx,fs',e.trans q,k,r.ext R E⟩
 | tdc ks=>obtain⟨xs,q,k1,k2,k3,r⟩:=q; exact⟨xs,e.trans q,k1,k2,k3,r.ext R E⟩
def Ext.new{p:Addr}{u:HO}(hp:H p=none):Ext μ H (μ++[p]) (upd H p u):=
 ⟨qx _ _,λb o e n=>by
  have ne:b≠p:=zao e hp
  exact⟨by rw[zac ne]; exact e,by simp[n,ne]⟩⟩
def Ext.side{p:Addr}{u:HO}(hp:H p=none):Ext μ H μ (upd H p u):=
 ⟨jf _,λb o e n=>⟨by rw[zac (zao e hp)]; exact e,n⟩⟩
theorem HR.side{p:Addr}{u:HO}(R:HR K cl μ H h)(hp:H p=none):HR K cl μ (upd H p u) h:=
 have hm:=R.fresh hp;⟨R.len,R.nd,λn a o e1 e2=>OR.ext R (Ext.side hp) (zac (by rintro rfl; exact hm (qd e1))) (R.ob n a o e1 e2)⟩
theorem HR.new{p:Addr}{u:HO}{o:MO}(R:HR K cl μ H h)(hp:H p=none)(q:OR K cl (μ++[p]) (upd H p u) p o):HR K cl (μ++[p]) (upd H p u) (h++[o]):=by
 have hm:=R.fresh hp;refine⟨by simp[R.len],?_,λn a o' e1 e2=>?_⟩
 .rw[yO]
  exact⟨R.nd,by simp,by simp; exactλa ha=>by rintro rfl; exact hm ha⟩
 .by_cases hn:n<μ.length
  .rw[zX hn] at e1
   rw[zX (by rw[<-R.len]; exact hn)] at e2;exact OR.ext R (Ext.new hp) (zac (by rintro rfl; exact hm (qd e1))) (R.ob n a o' e1 e2)
  .rw[kj ∅] at e1
   rw[kj (by rw[<-R.len]; omega)] at e2;rw[R.len] at e1;have:n-h.length=0:=by
    by_cases z:n-h.length=0
    .exact z
    .rw[j4 (by simp; omega)] at e1; cases e1
   rw[this] at e1 e2;simp at e1 e2;subst e1; subst e2;exact q
def Ext.put{n:Nat}{a:Addr}{u:HO}(hn:μ[n]?=some a):Ext μ H μ (upd H a u):=
 ⟨jf _,λb o e m=>⟨by rw[zac (by rintro rfl; exact m (qd hn))]; exact e,m⟩⟩
theorem HR.put{n:Nat}{a:Addr}{u:HO}{o:MO}(R:HR K cl μ H h)(hn:μ[n]?=some a)(q:OR K cl μ (upd H a u) a o):HR K cl μ (upd H a u) (h.set n o):=by
 refine⟨by simp[R.len],R.nd,λm b o' e1 e2=>?_⟩;by_cases hm:m=n
 .subst hm
  rw[hn] at e1; cases e1;rw[qJ (by rw[<-R.len]; exact(zE.mp hn).1)] at e2;cases e2;exact q
 .rw[qP (jk hm)] at e2
  have ne:b≠a:=by
   rintro rfl;obtain⟨h1,e1'⟩:=zE.mp e1;obtain⟨h2,e2'⟩:=zE.mp hn;exact hm ((wO R.nd).mp (e1'.trans e2'.symm))
  exact OR.ext R (Ext.put hn) (zac ne) (R.ob m b o' e1 e2)
end
noncomputable def KQ(K:PySem.W.Frag)(cl:Cl)(μ:List Addr)(H:Hp)(h':MH)(w:W)(Q:VK):Prop:=
 ∀μ' H' v,Ext μ H μ' H'->HR K cl μ' H' h'->RW K μ' H' w v->Q v H'
inductive tM(K:PySem.W.Frag)(cl:Cl)(m:ME)(σ:L2.St)(H:Hp)(Q:VK):Prop
 | mk (μ:List Addr) (h:MH) (ρ:En) (w:W) (h':MH) (p0:HR K cl μ H h) (p1:ER K μ H ρ σ) (p2:m ρ h=some (w,h')) (p3:KQ K cl μ H h' w Q):tM K cl m σ H Q
inductive tMT(K:PySem.W.Frag)(cl:Cl)(m:MT)(σ:L2.St)(H:Hp)(Q:Bool->Hp->Prop):Prop
 | mk (μ:List Addr) (h:MH) (ρ:En) (b:Bool) (h':MH) (p0:HR K cl μ H h) (p1:ER K μ H ρ σ) (p2:m ρ h=some (b,h')) (p3:∀μ' H',Ext μ H μ' H'->HR K cl μ' H' h'->Q b H'):tMT K cl m σ H Q
abbrev SE(X:Cx)(cl:Cl)(e:Expr)(m:ME):Prop:=PE X e (tM X.K cl m)
abbrev ST(X:Cx)(cl:Cl)(e:Expr)(m:MT):Prop:=PT X e (tMT X.K cl m)
def PE.wk{X:Cx}{e:Expr}{t t':TE}(h:PE X e t)(w:∀σ H Q,t' σ H Q->t σ H Q):PE X e t':=λpins s σ H Q I q=>h pins s σ H Q I (w σ H Q q)
def PT.wk{X:Cx}{e:Expr}{t t':TT}(h:PT X e t)(w:∀σ H Q,t' σ H Q->t σ H Q):PT X e t':=λpins s σ H Q I q=>h pins s σ H Q I (w σ H Q q)
def PA.wk{X:Cx}{e:List Expr}{t t':TA}(h:PA X e t)(w:∀σ H Q,t' σ H Q->t σ H Q):PA X e t':=λpos pins s σ H Q I q=>h pos pins s σ H Q I (w σ H Q q)
def PS.wk{X:Cx}{e:Stmt}{t t':TS}(h:PS X e t)(w:∀D σ H,t' D σ H->t D σ H):PS X e t':=λpins s σ H D I q=>h pins s σ H D I (w D σ H q)
def PSs.wk{X:Cx}{e:List Stmt}{t t':TS}(h:PSs X e t)(w:∀D σ H,t' D σ H->t D σ H):PSs X e t':=λpins s σ H D I q=>h pins s σ H D I (w D σ H q)
noncomputable def eVar(i:Nat):ME:=λρ h=>match ρ[i]? with
 | some (some w)=>some (w,h)
 | _=>none
noncomputable def eC(w:W):ME:=λ_ h=>some (w,h)
noncomputable def eOp(f:W->W->M W)(a b:ME):ME:=λρ=>bnd (a ρ) λx=>bnd (b ρ) λy=>f x y
noncomputable def eUn(f:W->M W)(a:ME):ME:=λρ=>bnd (a ρ) f
noncomputable def zbr:List ME->En->M (List W)
 | [],_=>λh=>some ([],h)
 | m::r,ρ=>bnd (m ρ) λx=>bnd (zbr r ρ) λxs h=>some (x::xs,h)
noncomputable def uW(f:List W->M W)(as:List ME):ME:=λρ=>bnd (zbr as ρ) f
noncomputable def asB(w:W):M Bool:=λh=>match w with
 | .bl b=>some (b,h)
 | _=>none
noncomputable def tVal(a:ME):MT:=λρ=>bnd (a ρ) asB
noncomputable def zdc(a b:MT):MT:=λρ=>bnd (a ρ) λx=>if x=true then b ρ else λh=>some (false,h)
noncomputable def tOrM(a b:MT):MT:=λρ=>bnd (a ρ) λx=>if x=true then (λh=>some (true,h)) else b ρ
noncomputable def zig(a:MT):MT:=λρ=>bnd (a ρ) λx h=>some (!x,h)
noncomputable def eAnd(a b:ME):ME:=λρ=>bnd (a ρ) λx=>bnd (asB x) λc=>if c=true then b ρ else λh=>some (.bl false,h)
noncomputable def eOr(a b:ME):ME:=λρ=>bnd (a ρ) λx=>bnd (asB x) λc=>if c=true then (λh=>some (.bl true,h)) else b ρ
noncomputable def eNot(a:ME):ME:=λρ=>bnd (a ρ) λx=>bnd (asB x) λc h=>some (.bl (!c),h)
noncomputable def eIf(t:MT)(a b:ME):ME:=λρ=>bnd (t ρ) λc=>if c=true then a ρ else b ρ
noncomputable def zcV(f g:W->W->M W)(a b c:ME):ME:=λρ=>bnd (a ρ) λx=>bnd (b ρ) λy=>bnd (f x y) λz=>bnd (asB z) λk=>if k=true then bnd (c ρ) λu=>g y u else λh=>some (.bl false,h)
inductive rM(K:PySem.W.Frag)(cl:Cl)(f:W->W->M W)(x:V)(y:V)(H:Hp)(Q:VK):Prop
 | mk (μ:List Addr) (h:MH) (wx:W) (wy:W) (w:W) (h':MH) (p0:HR K cl μ H h) (p1:RW K μ H wx x) (p2:RW K μ H wy y) (p3:f wx wy h=some (w,h')) (p4:KQ K cl μ H h' w Q):rM K cl f x y H Q
inductive rM1(K:PySem.W.Frag)(cl:Cl)(f:W->M W)(x:V)(H:Hp)(Q:VK):Prop
 | mk (μ:List Addr) (h:MH) (wx:W) (w:W) (h':MH) (p0:HR K cl μ H h) (p1:RW K μ H wx x) (p2:f wx h=some (w,h')) (p3:KQ K cl μ H h' w Q):rM1 K cl f x H Q
inductive rMs(K:PySem.W.Frag)(cl:Cl)(f:List W->M W)(xs:List V)(H:Hp)(Q:VK):Prop
 | mk (μ:List Addr) (h:MH) (ws:List W) (w:W) (h':MH) (p0:HR K cl μ H h) (p1:RWs K μ H ws xs) (p2:f ws h=some (w,h')) (p3:KQ K cl μ H h' w Q):rMs K cl f xs H Q
inductive tMA(K:PySem.W.Frag)(cl:Cl)(ms:List ME)(σ:L2.St)(H:Hp)(Q:List V->Hp->Prop):Prop
 | mk (μ:List Addr) (h:MH) (ρ:En) (ws:List W) (h':MH) (p0:HR K cl μ H h) (p1:ER K μ H ρ σ) (p2:zbr ms ρ h=some (ws,h')) (p3:∀μ' H' vs,Ext μ H μ' H'->HR K cl μ' H' h'->RWs K μ' H' ws vs->Q vs H'):tMA K cl ms σ H Q
abbrev SA(X:Cx)(cl:Cl)(es:List Expr)(ms:List ME):Prop:=PA X es (tMA X.K cl ms)
section
variable{X:Cx}{cl:Cl}{a b c:Expr}{ma mb mc:ME}{pos:Pos}{μ μ':List Addr}{H H':Hp}{h h':MH}
def KQ.pure{w:W}{v:V}{Q:VK}{K:PySem.W.Frag}(k:KQ K cl μ H h w Q)(R:HR K cl μ H h)(r:RW K μ H w v):Q v H:=k μ H v .refl R r
def KQ.ext{w:W}{Q:VK}{K:PySem.W.Frag}(E:Ext μ H μ' H')(k:KQ K cl μ H h w Q):KQ K cl μ' H' h w Q:=λμ2 H2 v E2 R2 r2=>k μ2 H2 v (E.trans E2) R2 r2
def zo5(i:Nat){x:Str}(hN:X.N[i]?=some x:=by rfl)(hv:Vis X.env.scope x:=by first | exact Or.inl rfl | exact Or.inr (Or.inl rfl) | exact Or.inr (Or.inr rfl))
  (hd:(x==("__debug__":Str))=false:=by decide) (hcd:(x==("__classdict__":Str))=false:=by decide):SE X cl (.Name x pos) (eVar i):=
 PE.wk (znR (i:=i) hN hv hd hcd) λσ H Q q0=>by
  obtain⟨μ,h,ρ,w,h',R,er,e,k⟩:=q0;unfold eVar at e;split at e
  .rename_i w' q
   cases e;obtain⟨v,q1,r⟩:=er.at_ i _ q;exact⟨v,q1,k.pure R r⟩
  .cases e
def se_c{w:W}{v:V}(he:PE X a (tC v))(r:∀μ H,RW X.K μ H w v):SE X cl a (eC w):=
 PE.wk he λσ H Q q0=>by
  obtain⟨μ,h,ρ,w',h',R,er,e,k⟩:=q0;cases e;exact k.pure R (r μ H)
def zpd{i:Int}{j}:SE X cl (.Constant (.int i) j pos) (eC (.int i)):=se_c znQ λ_ _=>.int i
def zpP{i:Bool}{j}:SE X cl (.Constant (.bool i) j pos) (eC (.bl i)):=se_c zqc λ_ _=>.bl i
def zn7{j}:SE X cl (.Constant .none j pos) (eC .non):=se_c zoo λ_ _=>.non
def zoZ{i:Str}{j}:SE X cl (.Constant (.str i) j pos) (eC (.str i)):=se_c zpf λ_ _=>.str i
def zmz{x:Str}{w:W}{v:V}{u:Value}(hm:X.mg x=some u)(r:RelV v u)(rw:∀μ H,RW X.K μ H w v)(hg:Gl X x:=by rfl)(hd:(x==("__debug__":Str))=false:=by decide):SE X cl (.Name x pos) (eC w):=
 se_c (zc4 hg hm r hd) rw
def zcH{K:PySem.W.Frag}{f:W->W->M W}{σ:L2.St}{Q:VK}(q:tM K cl (eOp f ma mb) σ H Q):tOp (rM K cl f) (tM K cl ma) (tM K cl mb) σ H Q:=by
 obtain⟨μ,h,ρ,w,h',R,er,e,k⟩:=q;obtain⟨x,h1,e1,e⟩:=u0 e;obtain⟨y,h2,e2,e3⟩:=u0 e;exact⟨μ,h,ρ,x,h1,R,er,e1,λμ1 H1 vx E1 R1 rx=>⟨μ1,h1,ρ,y,h2,R1,er.ext R E1,e2,λμ2 H2 vy E2 R2 ry=>⟨μ2,h2,x,y,w,h',R2,rx.ext R1 E2,ry,e3,k.ext (E1.trans E2)⟩⟩⟩
def zpZ{op:Operator}{f:W->W->M W}(ho:OpR X (binaryOp op) (rM X.K cl f))(ha:SE X cl a ma)(hb:SE X cl b mb):SE X cl (.BinOp a op b pos) (eOp f ma mb):=
 PE.wk (zpT ho ha hb) λσ H Q q=>zcH q
def zoT{op:CmpOp}{f:W->W->M W}(ho:OpR X (compareOp op) (rM X.K cl f))(ha:SE X cl a ma)(hb:SE X cl b mb)(hm:behindInMarks op b=false:=by first | exact nomark _ | rfl):SE X cl (.Compare a [op] [b] pos) (eOp f ma mb):=
 PE.wk (zha ho ha hb hm) λσ H Q q=>zcH q
def zqk{op:UnaryOp}{f:W->M W}(ho:UnR X (unaryOp op) (rM1 X.K cl f))(ha:SE X cl a ma):SE X cl (.UnaryOp op a pos) (eUn f ma):=
 PE.wk (zqj ho ha) λσ H Q q0=>by
  obtain⟨μ,h,ρ,w,h',R,er,e,k⟩:=q0;obtain⟨x,h1,e1,e⟩:=u0 e;exact⟨μ,h,ρ,x,h1,R,er,e1,λμ1 H1 vx E1 R1 rx=>⟨μ1,h1,x,w,h',R1,rx,e,k.ext E1⟩⟩
theorem RW.bl_of{K:PySem.W.Frag}{k:Bool}{v:V}(r:RW K μ H (.bl k) v):v=.bl k:=by cases r; rfl
def zcU{w:W}{b:Bool}(e:asB w h=some (b,h')):w=.bl b/\h=h':=by
 unfold asB at e; split at e
 .cases e; exact⟨rfl,rfl⟩
 .cases e
def zb4{K:PySem.W.Frag}{σ:L2.St}{Q:Bool->Hp->Prop}(q:tMT K cl (tVal ma) σ H Q):tM K cl ma σ H λx H1=>∃c,x=.bl c/\Q c H1:=by
 obtain⟨μ,h,ρ,b,h',R,er,e,k⟩:=q;obtain⟨x,h1,e1,e⟩:=u0 e;obtain⟨rfl,rfl⟩:=zcU e;exact⟨μ,h,ρ,_,h1,R,er,e1,λμ1 H1 vx E1 R1 rx=>⟨b,rx.bl_of,k μ1 H1 E1 R1⟩⟩
def zpC(ha:SE X cl a ma)(he:∀whole,isTrue a X.env whole=(do let v <-whole; standAt a.pos; holding [v] (truthy v)):=by intro _; rfl):ST X cl a (tVal ma):=
 PT.wk (znN ha he) λσ H Q q=>zb4 q
def zoy{op:CmpOp}{f:W->W->M W}(ho:OpR X (compareOp op) (rM X.K cl f))(ha:SE X cl a ma)(hb:SE X cl b mb)(hm:behindInMarks op b=false:=by first | exact nomark _ | rfl):ST X cl (.Compare a [op] [b] pos) (tVal (eOp f ma mb)):=
 PT.wk (zhE ho ha hb hm) λσ H Q q=>by
  obtain⟨μ,h,ρ,w,h',R,er,e,k⟩:=zb4 q;exact zcH ⟨μ,h,ρ,w,h',R,er,e,k⟩
def zdS{K:PySem.W.Frag}{f g:W->W->M W}{σ:L2.St}{Q:VK}(q:tM K cl (zcV f g ma mb mc) σ H Q):zgp (rM K cl f) (rM K cl g) (tM K cl ma) (tM K cl mb) (tM K cl mc) σ H Q:=by
 obtain⟨μ,h,ρ,w,h',R,er,e,k⟩:=q;obtain⟨x,h1,e1,e⟩:=u0 e;obtain⟨y,h2,e2,e⟩:=u0 e;obtain⟨z,h3,e3,e⟩:=u0 e;obtain⟨c,h4,e4,e⟩:=u0 e;obtain⟨rfl,rfl⟩:=zcU e4;refine⟨μ,h,ρ,x,h1,R,er,e1,λμ1 H1 vx E1 R1 rx=>⟨μ1,h1,ρ,y,h2,R1,er.ext R E1,e2,λμ2 H2 vy E2 R2 ry=>⟨μ2,h2,x,y,_,h3,R2,rx.ext R1 E2,ry,e3,λμ3 H3 vz E3 R3 rz=>⟨c,rz.bl_of,?_⟩⟩⟩⟩;cases c with
 | true=>
  rw[zR rfl] at e ⊢;obtain⟨u,h5,e5,e6⟩:=u0 e;exact⟨μ3,h3,ρ,u,h5,R3,((er.ext R E1).ext R1 E2).ext R2 E3,e5,λμ4 H4 vu E4 R4 ru=>⟨μ4,h5,y,u,w,h',R4,(ry.ext R2 E3).ext R3 E4,ru,e6,k.ext (E1.trans (E2.trans (E3.trans E4)))⟩⟩
 | false=>
  rw[zZ zN] at e ⊢;cases e;exact k μ3 H3 _ (E1.trans (E2.trans E3)) R3 (.bl false)
def zlr{op op':CmpOp}{f g:W->W->M W}(ho:OpR X (compareOp op) (rM X.K cl f))(ho':OpR X (compareOp op') (rM X.K cl g))(ha:SE X cl a ma)(hb:SE X cl b mb)(hc:SE X cl c mc)
  (hm:lastMarks [op,op'] [b,c]=false:=by with_unfolding_all rfl):SE X cl (.Compare a [op,op'] [b,c] pos) (zcV f g ma mb mc):=
 PE.wk (zld ho ho' ha hb hc hm) λσ H Q q=>zdS q
def zlp{op op':CmpOp}{f g:W->W->M W}(ho:OpR X (compareOp op) (rM X.K cl f))(ho':OpR X (compareOp op') (rM X.K cl g))(ha:SE X cl a ma)(hb:SE X cl b mb)(hc:SE X cl c mc)
  (hm:lastMarks [op,op'] [b,c]=false:=by with_unfolding_all rfl):ST X cl (.Compare a [op,op'] [b,c] pos) (tVal (zcV f g ma mb mc)):=
 PT.wk (zlC ho ho' ha hb hc hm) λσ H Q q=>by
  obtain⟨μ,h,ρ,w,h',R,er,e,k⟩:=zb4 q;exact zdS ⟨μ,h,ρ,w,h',R,er,e,k⟩
abbrev SW(X:Cx)(cl:Cl)(e:Expr)(m:MT):Prop:=PW X e (tMT X.K cl m)
def PW.wk{e:Expr}{t t':TT}(h:PW X e t)(w:∀σ H Q,t' σ H Q->t σ H Q):PW X e t':=λwh pins s σ H Q I q=>h wh pins s σ H Q I (w σ H Q q)
variable{ta tb:MT}{rest:List Expr}
def zmW(ha:ST X cl a ta):SW X cl (.BoolOp .And [a] pos) ta:=pw_and1 ha
def zpv(ha:ST X cl a ta):SW X cl (.BoolOp .Or [a] pos) ta:=pw_or1 ha
def zo3(ha:ST X cl a ta)(hb:SW X cl (.BoolOp .And (b::rest) pos) tb):SW X cl (.BoolOp .And (a::b::rest) pos) (zdc ta tb):=
 PW.wk (pw_and ha hb) λσ H Q q0=>by
  obtain⟨μ,h,ρ,w,h',R,er,e,k⟩:=q0;obtain⟨x,h1,e1,e⟩:=u0 e;refine⟨μ,h,ρ,x,h1,R,er,e1,λμ1 H1 E1 R1=>?_⟩;cases x with
  | true=>rw[zR rfl] at e ⊢; exact⟨μ1,h1,ρ,w,h',R1,er.ext R E1,e,λμ2 H2 E2 R2=>k μ2 H2 (E1.trans E2) R2⟩
  | false=>rw[zZ zN] at e ⊢; cases e; exact k μ1 H1 E1 R1
def zpR(ha:ST X cl a ta)(hb:SW X cl (.BoolOp .Or (b::rest) pos) tb):SW X cl (.BoolOp .Or (a::b::rest) pos) (tOrM ta tb):=
 PW.wk (pw_or ha hb) λσ H Q q0=>by
  obtain⟨μ,h,ρ,w,h',R,er,e,k⟩:=q0;obtain⟨x,h1,e1,e⟩:=u0 e;refine⟨μ,h,ρ,x,h1,R,er,e1,λμ1 H1 E1 R1=>?_⟩;cases x with
  | false=>rw[zZ zN] at e ⊢; exact⟨μ1,h1,ρ,w,h',R1,er.ext R E1,e,λμ2 H2 E2 R2=>k μ2 H2 (E1.trans E2) R2⟩
  | true=>rw[zR rfl] at e ⊢; cases e; exact k μ1 H1 E1 R1
def zml(h:SW X cl a ta):ST X cl a ta:=h.pt
def zps(ha:ST X cl a ta):ST X cl (.UnaryOp .Not a pos) (zig ta):=
 PT.wk (zpB ha) λσ H Q q0=>by
  obtain⟨μ,h,ρ,w,h',R,er,e,k⟩:=q0;obtain⟨x,h1,e1,e⟩:=u0 e;cases e;exact⟨μ,h,ρ,x,_,R,er,e1,λμ1 H1 E1 R1=>k μ1 H1 E1 R1⟩
def zpI{op}(h:SE X cl a ma):SE X cl (.BoolOp op [a] pos) ma:=zoY h
def zoX(ha:SE X cl a ma)(hb:SE X cl (.BoolOp .And (b::rest) pos) mb):SE X cl (.BoolOp .And (a::b::rest) pos) (eAnd ma mb):=
 PE.wk (zov ha hb) λσ H Q q0=>by
  obtain⟨μ,h,ρ,w,h',R,er,e,k⟩:=q0;obtain⟨x,h1,e1,e⟩:=u0 e;obtain⟨c,h2,e2,e⟩:=u0 e;obtain⟨rfl,rfl⟩:=zcU e2;refine⟨μ,h,ρ,_,h1,R,er,e1,λμ1 H1 vx E1 R1 rx=>⟨c,rx.bl_of,?_⟩⟩;cases c with
  | true=>rw[zR rfl] at e ⊢; exact⟨μ1,h1,ρ,w,h',R1,er.ext R E1,e,k.ext E1⟩
  | false=>rw[zZ zN] at e ⊢; cases e; exact k μ1 H1 _ E1 R1 (.bl false)
def zpW(ha:SE X cl a ma)(hb:SE X cl (.BoolOp .Or (b::rest) pos) mb):SE X cl (.BoolOp .Or (a::b::rest) pos) (eOr ma mb):=
 PE.wk (zqz ha hb) λσ H Q q0=>by
  obtain⟨μ,h,ρ,w,h',R,er,e,k⟩:=q0;obtain⟨x,h1,e1,e⟩:=u0 e;obtain⟨c,h2,e2,e⟩:=u0 e;obtain⟨rfl,rfl⟩:=zcU e2;refine⟨μ,h,ρ,_,h1,R,er,e1,λμ1 H1 vx E1 R1 rx=>⟨c,rx.bl_of,?_⟩⟩;cases c with
  | false=>rw[zZ zN] at e ⊢; exact⟨μ1,h1,ρ,w,h',R1,er.ext R E1,e,k.ext E1⟩
  | true=>rw[zR rfl] at e ⊢; cases e; exact k μ1 H1 _ E1 R1 (.bl true)
def znO(ha:SE X cl a ma):SE X cl (.UnaryOp .Not a pos) (eNot ma):=
 PE.wk (zo2 ha) λσ H Q q0=>by
  obtain⟨μ,h,ρ,w,h',R,er,e,k⟩:=q0;obtain⟨x,h1,e1,e⟩:=u0 e;obtain⟨c,h2,e2,e⟩:=u0 e;obtain⟨rfl,rfl⟩:=zcU e2;cases e;exact⟨μ,h,ρ,_,_,R,er,e1,λμ1 H1 vx E1 R1 rx=>⟨c,rx.bl_of,k μ1 H1 _ E1 R1 (.bl _)⟩⟩
def zqg{t:Expr}(ht:ST X cl t ta)(ha:SE X cl a ma)(hb:SE X cl b mb):SE X cl (.IfExp t a b pos) (eIf ta ma mb):=
 PE.wk (zlk ht ha hb) λσ H Q q0=>by
  obtain⟨μ,h,ρ,w,h',R,er,e,k⟩:=q0;obtain⟨x,h1,e1,e⟩:=u0 e;refine⟨μ,h,ρ,x,h1,R,er,e1,λμ1 H1 E1 R1=>?_⟩;cases x with
  | true=>rw[zR rfl] at e ⊢; exact⟨μ1,h1,ρ,w,h',R1,er.ext R E1,e,k.ext E1⟩
  | false=>rw[zZ zN] at e ⊢; exact⟨μ1,h1,ρ,w,h',R1,er.ext R E1,e,k.ext E1⟩
variable{es:List Expr}{ms:List ME}{e:Expr}{m:ME}
def zel:SA X cl [] []:=PA.wk zi7 λσ H Q q0=>by
 obtain⟨μ,h,ρ,ws,h',R,er,e,k⟩:=q0;cases e;exact k μ H [] .refl R .nil
def zck(ha:SE X cl e m)(hr:SA X cl es ms)(hs:starEach (e::es) X.env=(false,eval e X.env)::starEach es X.env:=by rfl):SA X cl (e::es) (m::ms):=
 PA.wk (zeC ha hr hs) λσ H Q q0=>by
  obtain⟨μ,h,ρ,ws,h',R,er,e,k⟩:=q0;obtain⟨x,h1,e1,e⟩:=u0 e;obtain⟨xs,h2,e2,e⟩:=u0 e;cases e;exact⟨μ,h,ρ,x,h1,R,er,e1,λμ1 H1 vx E1 R1 rx=>⟨μ1,h1,ρ,xs,_,R1,er.ext R E1,e2,λμ2 H2 vs E2 R2 rs=>k μ2 H2 _ (E1.trans E2) R2 (.cons (rx.ext R1 E2) rs)⟩⟩
noncomputable def cap:Nat:=1000000
def zaU:cap<=sizeLine:=by decide
noncomputable def tupW:List W->M W:=λws h=>if ws.length<=cap then some (.tup ws,h) else none
noncomputable def flsW:List W->M W:=λws h=>if ws.length<=cap then some (.fls ws,h) else none
noncomputable def lstW:List W->M W:=λws h=>if ws.length<=cap then some (.ref h.length,h++[.lst ws]) else none
theorem KQ.tup{K:PySem.W.Frag}{ws:List W}{xs:List V}{Q:VK}{p:Addr}(k:KQ K cl μ H h (.tup ws) Q)(R:HR K cl μ H h)(rs:RWs K μ H ws xs)(hp:H p=none):Q (.ref p) (upd H p (.tup xs)):=
 k μ _ _ (.side hp) (R.side hp) (.tup (SqT.of zan) (rs.ext R (.side hp)))
theorem KQ.lst{K:PySem.W.Frag}{ws:List W}{xs:List V}{Q:VK}{p:Addr}(k:KQ K cl μ H (h++[.lst ws]) (.ref h.length) Q)(R:HR K cl μ H h)(rs:RWs K μ H ws xs)(hp:H p=none):Q (.ref p) (upd H p (.lst xs)):=
 k (μ++[p]) _ _ (.new hp) (R.new hp ⟨xs,zan,rs.ext R (.new hp)⟩) (.ref (by rw[<-R.len]; simp))
theorem KQ.fls{K:PySem.W.Frag}{ws:List W}{xs:List V}{Q:VK}{p:Addr}(k:KQ K cl μ H h (.fls ws) Q)(R:HR K cl μ H h)(rs:RWs K μ H ws xs)(hp:H p=none):Q (.ref p) (upd H p (.lst xs)):=
 k μ _ _ (.side hp) (R.side hp) (.fls (.inl ⟨.inl zan,R.fresh hp⟩) (rs.ext R (.side hp)))
def znW{x1}(hs:SA X cl es ms):SE X cl (.Tuple es x1 pos) (uW tupW ms):=
 PE.wk (zpt hs) λσ H Q q0=>by
  obtain⟨μ,h,ρ,w,h',R,er,e,k⟩:=q0;obtain⟨ws,h1,e1,e⟩:=u0 e;refine⟨μ,h,ρ,ws,h1,R,er,e1,λμ1 H1 vs E1 R1 rs=>?_⟩;unfold tupW at e;split at e
  .rename_i hl
   cases e;exact⟨zF (by rw[<-rs.length]; exact hl) zaU,λp hp=>(k.ext E1).tup R1 rs hp⟩
  .cases e
def zpz(hs:SA X cl es ms):SE X cl (.List es pos) (uW flsW ms):=
 PE.wk (zjn hs) λσ H Q q0=>by
  obtain⟨μ,h,ρ,w,h',R,er,e,k⟩:=q0;obtain⟨ws,h1,e1,e⟩:=u0 e;refine⟨μ,h,ρ,ws,h1,R,er,e1,λμ1 H1 vs E1 R1 rs=>?_⟩;unfold flsW at e;split at e
  .rename_i hl
   cases e;exact⟨zF (by rw[<-rs.length]; exact hl) zaU,λp hp=>(k.ext E1).fls R1 rs hp⟩
  .cases e
def zo8(hs:SA X cl es ms):SE X cl (.List es pos) (uW lstW ms):=
 PE.wk (zjn hs) λσ H Q q0=>by
  obtain⟨μ,h,ρ,w,h',R,er,e,k⟩:=q0;obtain⟨ws,h1,e1,e⟩:=u0 e;refine⟨μ,h,ρ,ws,h1,R,er,e1,λμ1 H1 vs E1 R1 rs=>?_⟩;unfold lstW at e;split at e
  .rename_i hl
   cases e;exact⟨zF (by rw[<-rs.length]; exact hl) zaU,λp hp=>(k.ext E1).lst R1 rs hp⟩
  .cases e
end
noncomputable def spM(K:PySem.W.Frag)(cl:Cl)(f:List W->M W):Sp:=λvs H Q _=>rMs K cl f vs H Q
mutual
noncomputable def low(m:Nat):W->Bool
 | .tup l=>lows m l
 | .fls l=>lows m l
 | .ref n=>decide (n<m)
 | .fdc l=>lowk m l
 | _=>true
noncomputable def lowk(m:Nat):List (Key×W)->Bool
 | []=>true
 | (_,w)::r=>low m w&&lowk m r
noncomputable def lows(m:Nat):List W->Bool
 | []=>true
 | w::r=>low m w&&lows m r
end
open Classical in
noncomputable def gc(f:List W->M W):List W->M W:=λws h=>match f ws h with
 | some (w,h')=>if h<+:h' then (if low h.length w=true then some (w,h) else match w with
   | .ref n=>match h'[n]? with
    | some (.lst l)=>if lows h.length l=true then some (.fls l,h) else some (w,h')
    | _=>some (w,h')
   | _=>some (w,h')) else some (w,h')
 | none=>none
def zaE{f:List W->M W}{ws:List W}{h h':MH}{w:W}(e:f ws h=some (w,h'))(p:low h.length w=true)(q:h<+:h'):gc f ws h=some (w,h):=by
 unfold gc; rw[e]; simp only[p,q,jd]
def zoH{f:List W->M W}{ws:List W}{h h':MH}{n:Nat}{l:List W}(e:f ws h=some (.ref n,h'))(q:h<+:h')(hn:h.length<=n)(o:h'[n]?=some (.lst l))(p:lows h.length l=true):gc f ws h=some (.fls l,h):=by
 unfold gc; rw[e];have b:low h.length (.ref n)=false:=by unfold low; simp; omega
 simp only[b,q,jd,o,p,zQ,jt]
theorem zet(m:Nat):∀l:List (Key×W),lowk m l=lows m (l.map (·.2))
 | []=>by unfold lowk lows; rfl
 | (k,w)::r=>by unfold lowk; rw[zet m r]; simp only[zH]; conv=>rhs; unfold lows
section
variable{K:PySem.W.Frag}{cl:Cl}{μ μ':List Addr}{H H':Hp}
mutual
theorem RW.low:∀{w:W} {v:V},RW K μ H w v->ML.low μ.length w=true
 | _,_,.non=>by unfold ML.low; rfl
 | _,_,.bl b=>by unfold ML.low; rfl
 | _,_,.int i=>by unfold ML.low; rfl
 | _,_,.str x=>by unfold ML.low; rfl
 | _,_,.tup s r=>by unfold ML.low; exact RWs.low r
 | _,_,.fls s r=>by unfold ML.low; exact RWs.low r
 | _,_,.fdc s k e1 e2 r=>by unfold ML.low; rw[zet,<-e1]; exact RWs.low r
 | _,_,.fn=>by unfold ML.low; rfl
 | _,_,.ref e=>by unfold ML.low; simpa using (zE.mp e).1
theorem RWs.low:∀{l:List W} {vs:List V},RWs K μ H l vs->lows μ.length l=true
 | _,_,.nil=>by unfold lows; rfl
 | _,_,.cons r t=>by unfold lows; rw[RW.low r,RWs.low t]; rfl
end
mutual
theorem RW.cut(pre:μ<+:μ'):∀{w:W} {v:V},ML.low μ.length w=true->RW K μ' H w v->RW K μ H w v
 | _,_,_,.non=>.non
 | _,_,_,.bl b=>.bl b
 | _,_,_,.int i=>.int i
 | _,_,_,.str x=>.str x
 | .tup l,_,p,.tup s r=>.tup s (RWs.cut pre (by unfold ML.low at p; exact p) r)
 | .fls l,_,p,.fls s r=>.fls (s.elim (λz=>.inl ⟨z.1,λq=>z.2 (pre.subset q)⟩) .inr) (RWs.cut pre (by unfold ML.low at p; exact p) r)
 | .fdc l,_,p,.fdc s k e1 e2 r=>.fdc ⟨s.1,λq=>s.2 (pre.subset q)⟩ k e1 e2 (RWs.cut pre (by unfold ML.low at p; rw[zet,<-e1] at p; exact p) r)
 | .fn _,_,_,.fn=>.fn
 | .ref n,_,p,.ref e=>by
  have p':n<μ.length:=by unfold ML.low at p; simpa using p
  obtain⟨t,rfl⟩:=pre;rw[zX p'] at e;exact .ref e
theorem RWs.cut(pre:μ<+:μ'):∀{l:List W} {vs:List V},lows μ.length l=true->RWs K μ' H l vs->RWs K μ H l vs
 | _,_,_,.nil=>.nil
 | w::l,_,p,.cons r t=>by
  have p':ML.low μ.length w=true/\lows μ.length l=true:=by unfold lows at p; simpa using p
  exact .cons (RW.cut pre p'.1 r) (RWs.cut pre p'.2 t)
end
theorem HR.cut{h h':MH}(R:HR K cl μ H h)(E:Ext μ H μ' H')(R':HR K cl μ' H' h')(p:h<+:h'):HR K cl μ H' h:=by
 obtain⟨t,rfl⟩:=p;refine⟨R.len,R.nd,λn a o e1 e2=>?_⟩;have q:=R.ob n a o e1 e2;have q':=R'.ob n a o (E.get e1) (by rw[zX (zE.mp e2).1]; exact e2);cases o with
 | lst l=>obtain⟨vs0,_,r0⟩:=q; obtain⟨vs,z,r⟩:=q'; exact⟨vs,z,RWs.cut E.pre r0.low r⟩
 | dic l=>obtain⟨l0,_,_,r0⟩:=q; obtain⟨l',z,k,r⟩:=q'; exact⟨l',z,k,RWs.cut E.pre r0.low r⟩
 | ins c fs=>obtain⟨_,fs0,_,_,r0⟩:=q; obtain⟨dx,fs',z,k,r⟩:=q'; exact⟨dx,fs',z,k,RWs.cut E.pre r0.low r⟩
 | tdc ks=>obtain⟨_,_,_,_,_,r0⟩:=q; obtain⟨xs,z,k1,k2,k3,r⟩:=q'; exact⟨xs,z,k1,k2,k3,RWs.cut E.pre r0.low r⟩
def zql{f:List W->M W}{vs:List V}{Q:VK}{E:XK}(q:spM K cl (gc f) vs H Q E):spM K cl f vs H Q E:=by
 obtain⟨μ,h,ws,w,h',R,rs,e,k⟩:=q;unfold gc at e;split at e
 .rename_i w1 h1 e1
  have plain:∀{w h'},some (w1,h1)=some (w,h')->KQ K cl μ H h' w Q->spM K cl f vs H Q E:=λq k=>by cases q; exact⟨μ,h,ws,_,_,R,rs,e1,k⟩
  split at e
  .rename_i c
   have cut:∀{μ' H'},Ext μ H μ' H'->Ext μ H μ H':=λE'=>⟨jf _,λb o e n=>⟨(E'.fr b o e n).1,n⟩⟩
   split at e
   .rename_i p
    cases e;refine⟨μ,h,ws,_,h1,R,rs,e1,λμ' H' v E' R' r'=>?_⟩;exact k μ H' v (cut E') (R.cut E' R' c) (RW.cut E'.pre (by rw[R.len]; exact p) r')
   .rename_i p
    split at e
    .rename_i n
     split at e
     .rename_i l ho
      split at e
      .rename_i pl
       cases e;refine⟨μ,h,ws,_,h1,R,rs,e1,λμ' H' v E' R' r'=>?_⟩;cases r' with
       | @ref _ a hm=>
        obtain⟨vs',hv,rv⟩:=R'.ob n a _ hm ho;refine k μ H' _ (cut E') (R.cut E' R' c) (.fls (.inl ⟨.inl hv,λz=>?_⟩) (RWs.cut E'.pre (by rw[R.len]; exact pl) rv));obtain⟨m,hmm⟩:=vL.mp z;have h2:=E'.get hmm;have hlt:m<μ.length:=(zE.mp hmm).1;obtain⟨z1,z2⟩:=zE.mp h2;obtain⟨z3,z4⟩:=zE.mp hm;have:m=n:=(wO R'.nd).mp (z2.trans z4.symm);subst this;refine p ?_;unfold low;rw[R.len] at hlt;simpa using hlt
      .exact plain e k
     .exact plain e k
    .exact plain e k
  .exact plain e k
 .cases e
end
section
variable{X:Cx}{cl:Cl}{k:Nat}{f:Addr}{fd:FuncData}{ps:List Str}{x:Str}{p pos:Pos}{e:Expr}{es:List Expr}{g:List W->M W}{m:ME}{ms:List ME}
def zb0{K:PySem.W.Frag}{f:List W->M W}{σ:L2.St}{H:Hp}{Q:VK}(q:tM K cl (uW f ms) σ H Q):tMA K cl ms σ H λvs H1=>rMs K cl f vs H1 Q:=by
 obtain⟨μ,h,ρ,w,h',R,er,e,k⟩:=q;obtain⟨ws,h1,e1,e⟩:=u0 e;exact⟨μ,h,ρ,ws,h1,R,er,e1,λμ1 H1 vs E1 R1 rs=>⟨μ1,h1,ws,w,h',R1,rs,e,k.ext E1⟩⟩
def znz(F:FnOk X.prog X.w X.K X.mg X.base CX0 k f fd ps (spM X.K cl g))(hr:Room k X.A)(hm:X.mg x=some (.ref f))(hk:PySem.W.keepIn X.K (.ref f)=true)(hb:Binds X.K fd ps [])
  (ha:SA X cl (e::es) ms) (hg:Gl X x:=by rfl) (hdb:(x==("__debug__":Str))=false:=by decide) (hst:starEach (e::es) X.env=(false,eval e X.env)::starEach es X.env:=by rfl) (hpl:(backTo pos (starEach es X.env)).any (·.1)=false:=by rfl):SE X cl (.Call (.Name x p) (e::es) [] pos) (uW g ms):=
 PE.wk (zmS F hr hg hm hk hb .nil zl2 ha hdb hst hpl) λσ H Q q=>by
  obtain⟨μ,h,ρ,ws,h1,R,er,e1,k1⟩:=zb0 q;exact⟨μ,h,ρ,ws,h1,R,er,e1,λμ1 H1 vs E1 R1 rs=>by show spM X.K cl g (vs++[]) H1 Q E0; rw[yg]; exact k1 μ1 H1 vs E1 R1 rs⟩
def zlT(F:FnOk X.prog X.w X.K X.mg X.base CX0 k f fd ps (spM X.K cl g))(hr:Room k X.A)(hm:X.mg x=some (.ref f))(hk:PySem.W.keepIn X.K (.ref f)=true)(hb:Binds X.K fd ps [])
  (hg:Gl X x:=by rfl) (hdb:(x==("__debug__":Str))=false:=by decide):SE X cl (.Call (.Name x p) [] [] pos) (uW g []):=
 PE.wk (zls F hr hg hm hk hb .nil zl2 hdb) λσ H Q q=>by
  obtain⟨μ,h,ρ,ws,h1,R,er,e1,k1⟩:=zb0 q;cases e1;exact k1 μ H [] .refl R .nil
def zkI{id:String}(hc:zar X (.builtin id) (rMs X.K cl g))(hm:X.mg x=none)(hv:bootBuiltins x=some (.builtin id))(ha:SA X cl (e::es) ms)(hg:Gl X x:=by rfl)(hn:x≠"__name__":=by decide)(hdb:(x==("__debug__":Str))=false:=by decide)(hst:starEach (e::es) X.env=(false,eval e X.env)::starEach es X.env:=by rfl)(hpl:(backTo pos (starEach es X.env)).any (·.1)=false:=by rfl) :
  SE X cl (.Call (.Name x p) (e::es) [] pos) (uW g ms):=
 PE.wk (zfH hc hg hm hv ha hn hdb hst hpl) λσ H Q q=>zb0 q
def zjA{id:String}(hc:zar X (.type id) (rMs X.K cl g))(hm:X.mg x=none)(hv:bootBuiltins x=some (.type id))(ha:SA X cl (e::es) ms)(hg:Gl X x:=by rfl)(hn:x≠"__name__":=by decide)(hdb:(x==("__debug__":Str))=false:=by decide)(hst:starEach (e::es) X.env=(false,eval e X.env)::starEach es X.env:=by rfl)(hpl:(backTo pos (starEach es X.env)).any (·.1)=false:=by rfl) :
  SE X cl (.Call (.Name x p) (e::es) [] pos) (uW g ms):=
 PE.wk (ziY hc hg hm hv ha hn hdb hst hpl) λσ H Q q=>zb0 q
end
inductive Fl where
 | nx (ρ:En) | ret (w:W) | bk (ρ:En) | ct (ρ:En)
abbrev MS:=En->MH->Option (Fl×MH)
abbrev MG:=W->En->M En
noncomputable def KF(K:PySem.W.Frag)(cl:Cl)(μ:List Addr)(H:Hp)(h':MH)(fl:Fl)(D:Ends):Prop:=∀μ' H',Ext μ H μ' H'->HR K cl μ' H' h'->match fl with
 | .nx ρ=>∀σ,ER K μ' H' ρ σ->D.nx σ H'
 | .ret w=>∀v,RW K μ' H' w v->D.rt v H'
 | .bk ρ=>∀σ,ER K μ' H' ρ σ->D.bk σ H'
 | .ct ρ=>∀σ,ER K μ' H' ρ σ->D.ct σ H'
inductive tMS(K:PySem.W.Frag)(cl:Cl)(m:MS)(D:Ends)(σ:L2.St)(H:Hp):Prop
 | mk (μ:List Addr) (h:MH) (ρ:En) (fl:Fl) (h':MH) (p0:HR K cl μ H h) (p1:ER K μ H ρ σ) (p2:m ρ h=some (fl,h')) (p3:KF K cl μ H h' fl D):tMS K cl m D σ H
abbrev SS(X:Cx)(cl:Cl)(st:Stmt)(m:MS):Prop:=PS X st (tMS X.K cl m)
abbrev SB(X:Cx)(cl:Cl)(st:List Stmt)(m:MS):Prop:=PSs X st (tMS X.K cl m)
inductive tMG(K:PySem.W.Frag)(cl:Cl)(g:MG)(v:V)(σ:L2.St)(H:Hp)(Q:L2.St->Hp->Prop):Prop
 | mk (μ:List Addr) (h:MH) (ρ:En) (w:W) (ρ':En) (h':MH) (p0:HR K cl μ H h) (p1:ER K μ H ρ σ) (p2:RW K μ H w v) (p3:g w ρ h=some (ρ',h')) (p4:∀μ' H' σ',Ext μ H μ' H'->HR K cl μ' H' h'->ER K μ' H' ρ' σ'->Q σ' H'):tMG K cl g v σ H Q
abbrev SG(X:Cx)(cl:Cl)(e:Expr)(g:MG):Prop:=PG X e (tMG X.K cl g)
def PG.wk{X:Cx}{e:Expr}{t t':TG}(h:PG X e t)(w:∀v σ H Q,t' v σ H Q->t v σ H Q):PG X e t':=λpins s σ H v u Q I r q=>h pins s σ H v u Q I r (w v σ H Q q)
def KF.ext{K:PySem.W.Frag}{cl:Cl}{μ μ':List Addr}{H H':Hp}{h:MH}{fl:Fl}{D:Ends}(E:Ext μ H μ' H')(k:KF K cl μ H h fl D):KF K cl μ' H' h fl D:=λμ2 H2 E2 R2=>k μ2 H2 (E.trans E2) R2
theorem KF.nx{K:PySem.W.Frag}{cl:Cl}{μ:List Addr}{H:Hp}{h:MH}{ρ:En}{σ:L2.St}{D:Ends}(k:KF K cl μ H h (.nx ρ) D)(R:HR K cl μ H h)(er:ER K μ H ρ σ):D.nx σ H:=k μ H .refl R σ er
noncomputable def zaa:MS:=λρ h=>some (.nx ρ,h)
noncomputable def sSeq(a b:MS):MS:=λρ h=>match a ρ h with
 | some (.nx ρ',h')=>b ρ' h'
 | r=>r
noncomputable def zbp(m:ME):MS:=λρ h=>match m ρ h with
 | some (_,h')=>some (.nx ρ,h')
 | none=>none
noncomputable def sRet(m:ME):MS:=λρ h=>match m ρ h with
 | some (w,h')=>some (.ret w,h')
 | none=>none
noncomputable def sIf(t:MT)(a b:MS):MS:=λρ h=>match t ρ h with
 | some (c,h')=>if c=true then a ρ h' else b ρ h'
 | none=>none
noncomputable def sAsg(m:ME)(g:MG):MS:=λρ h=>match m ρ h with
 | some (w,h')=>match g w ρ h' with
  | some (ρ',h2)=>some (.nx ρ',h2)
  | none=>none
 | none=>none
noncomputable def gNm(i:Nat):MG:=λw ρ h=>if i<ρ.length then some (ρ.set i (some w),h) else none
noncomputable def gTps:List MG->List W->En->M En
 | [],[]=>λρ h=>some (ρ,h)
 | g::gs,w::ws=>λρ=>bnd (g w ρ) λρ'=>gTps gs ws ρ'
 | _,_=>λ_ _=>none
noncomputable def gTp(gs:List MG):MG:=λw=>match w with
 | .tup ws=>gTps gs ws
 | .fls ws=>gTps gs ws
 | _=>λ_ _=>none
noncomputable def sAug(i:Nat)(f:W->W->M W)(m:ME):MS:=λρ h=>match ρ[i]? with
 | some (some x)=>match m ρ h with
  | some (y,h1)=>match f x y h1 with
   | some (z,h2)=>if i<ρ.length then some (.nx (ρ.set i (some z)),h2) else none
   | none=>none
  | none=>none
 | _=>none
section
variable{X:Cx}{cl:Cl}{st:Stmt}{rest:List Stmt}{a b:MS}{e:Expr}{m:ME}{pos:Pos}
theorem ER.set{K:PySem.W.Frag}{μ:List Addr}{H:Hp}{ρ:En}{σ:L2.St}{i:Nat}{w:W}{v:V}(er:ER K μ H ρ σ)(hi:i<ρ.length)(r:RW K μ H w v):ER K μ H (ρ.set i (some w)) (σ.set i (some v)):=by
 refine⟨by simp[er.len],λj w' e=>?_⟩;by_cases hj:j=i
 .subst hj
  rw[qJ hi] at e;cases e;exact⟨v,by rw[qJ (by rw[<-er.len]; exact hi)],r⟩
 .rw[qP (jk hj)] at e
  obtain⟨v',e',r'⟩:=er.at_ j w' e;exact⟨v',by rw[qP (jk hj)]; exact e',r'⟩
def zol:SB X cl [] zaa:=PSs.wk zmj λD σ H q0=>by
 obtain⟨μ,h,ρ,fl,h',R,er,e,k⟩:=q0;cases e;exact k.nx R er
def zoa(h1:SS X cl st a):SB X cl [st] a:=znq h1
def zmE(h1:SS X cl st a)(h2:SB X cl rest b):SB X cl (st::rest) (sSeq a b):=PSs.wk (zln h1 h2) λD σ H q0=>by
 obtain⟨μ,h,ρ,fl,h',R,er,e,k⟩:=q0;unfold sSeq at e;split at e
 .rename_i ρ1 h1 e1
  exact⟨μ,h,ρ,_,h1,R,er,e1,λμ1 H1 E1 R1 σ1 er1=>⟨μ1,h1,ρ1,fl,h',R1,er1,e,k.ext E1⟩⟩
 .rename_i r hr
  refine⟨μ,h,ρ,fl,h',R,er,e,λμ1 H1 E1 R1=>?_⟩;have k1:=k μ1 H1 E1 R1;cases fl with
  | nx ρ1=>exact absurd e (hr ρ1 h')
  | ret w=>exact k1
  | bk ρ1=>exact k1
  | ct ρ1=>exact k1
def zmv:SS X cl (.Pass pos) zaa:=PS.wk zno λD σ H q0=>by
 obtain⟨μ,h,ρ,fl,h',R,er,e,k⟩:=q0;cases e;exact k.nx R er
def zmp(he:SE X cl e m)(hs:swapsWith e none pos.line X.env=pure false:=by rfl):SS X cl (.Expr e pos) (zbp m):=PS.wk (zmV he hs) λD σ H q0=>by
 obtain⟨μ,h,ρ,fl,h',R,er,e,k⟩:=q0;unfold zbp at e;split at e
 .rename_i w h1 e1
  cases e;exact⟨μ,h,ρ,w,_,R,er,e1,λμ1 H1 v E1 R1 _=>k μ1 H1 E1 R1 σ (er.ext R E1)⟩
 .cases e
def zpw(he:SE X cl e m):SS X cl (.Return (some e) pos) (sRet m):=PS.wk (zpE he) λD σ H q0=>by
 obtain⟨μ,h,ρ,fl,h',R,er,e,k⟩:=q0;unfold sRet at e;split at e
 .rename_i w h1 e1
  cases e;exact⟨μ,h,ρ,w,_,R,er,e1,λμ1 H1 v E1 R1 r=>k μ1 H1 E1 R1 v r⟩
 .cases e
def zqe{c:Expr}{t:MT}{sa sb:List Stmt}(hc:ST X cl c t)(ha:SB X cl sa a)(hb:SB X cl sb b):SS X cl (.If c sa sb pos) (sIf t a b):=PS.wk (zqb hc ha hb) λD σ H q0=>by
 obtain⟨μ,h,ρ,fl,h',R,er,e,k⟩:=q0;unfold sIf at e;split at e
 .rename_i c h1 e1
  refine⟨μ,h,ρ,c,h1,R,er,e1,λμ1 H1 E1 R1=>?_⟩;cases c with
  | true=>rw[zR rfl] at e ⊢; exact⟨μ1,h1,ρ,fl,h',R1,er.ext R E1,e,k.ext E1⟩
  | false=>rw[zZ zN] at e ⊢; exact⟨μ1,h1,ρ,fl,h',R1,er.ext R E1,e,k.ext E1⟩
 .cases e
def zhd(i:Nat){x:Str}(hN:X.N.Nodup)(hi:X.N[i]?=some x:=by rfl)(hx:Loc X.env.scope x:=by first | exact Or.inl rfl | exact Or.inr rfl)(hf:X.fn x=true\/X.env.scope.names.lookup x=some .local:=by first | exact .inl rfl | exact .inr rfl | assumption):SG X cl (.Name x pos) (gNm i):=
 PG.wk (znr (i:=i) hN hi hx hf) λv σ H Q q0=>by
  obtain⟨μ,h,ρ,w,ρ',h',R,er,r,e,k⟩:=q0;unfold gNm at e;split at e
  .rename_i hi
   cases e;exact k μ H _ .refl R (er.set hi r)
  .cases e
inductive tMGs(K:PySem.W.Frag)(cl:Cl)(gs:List MG)(vs:List V)(σ:L2.St)(H:Hp)(Q:L2.St->Hp->Prop):Prop
 | mk (μ:List Addr) (h:MH) (ρ:En) (ws:List W) (ρ':En) (h':MH) (p0:HR K cl μ H h) (p1:ER K μ H ρ σ) (p2:RWs K μ H ws vs) (p3:gTps gs ws ρ h=some (ρ',h')) (p4:∀μ' H' σ',Ext μ H μ' H'->HR K cl μ' H' h'->ER K μ' H' ρ' σ'->Q σ' H'):tMGs K cl gs vs σ H Q
abbrev SGs(X:Cx)(cl:Cl)(es:List Expr)(gs:List MG):Prop:=PGs X es (tMGs X.K cl gs)
def PGs.wk{es:List Expr}{t t':TGs}(h:PGs X es t)(w:∀v σ H Q,t' v σ H Q->t v σ H Q):PGs X es t':=λpins s σ H v u Q I r q=>h pins s σ H v u Q I r (w v σ H Q q)
def zmR:SGs X cl [] []:=PGs.wk zng λvs σ H Q q0=>by
 obtain⟨μ,h,ρ,ws,ρ',h',R,er,rs,e,k⟩:=q0;cases rs with
 | nil=>cases e; exact⟨rfl,k μ H _ .refl R er⟩
 | cons r t=>cases e
def zk0{es:List Expr}{g:MG}{gs:List MG}(h1:SG X cl e g)(h2:SGs X cl es gs)
  (hs:(assignEach (e::es) X.env).map (·.2)=assign e X.env::(assignEach es X.env).map (·.2):=by rfl):SGs X cl (e::es) (g::gs):=PGs.wk (zkE h1 h2 hs) λvs σ H Q q0=>by
 obtain⟨μ,h,ρ,ws,ρ',h',R,er,rs,e,k⟩:=q0;cases rs with
 | nil=>cases e
 | cons r t=>
  obtain⟨ρ1,h1,e1,e2⟩:=u0 e;exact⟨_,_,rfl,μ,h,ρ,_,ρ1,h1,R,er,r,e1,λμ1 H1 σ1 E1 R1 er1=>⟨μ1,h1,ρ1,_,ρ',h',R1,er1,t.ext R E1,e2,λμ2 H2 σ2 E2 R2 er2=>k μ2 H2 σ2 (E1.trans E2) R2 er2⟩⟩
def zgk{ρ':En}{h':MH}:∀{gs:List MG} {l:List W} {ρ:En} {h:MH},gTps gs l ρ h=some (ρ',h')->gs.length=l.length:=by
 intro gs;induction gs with
 | nil=>intro l ρ h e; cases l with | nil=>rfl | cons=>cases e
 | cons g gs ih=>
  intro l ρ h e;cases l with
  | nil=>cases e
  | cons w l=>
   obtain⟨ρ1,h1,e1,e2⟩:=u0 e;simp only[zG]; rw[ih e2]
def PG.or{e:Expr}{t1 t2 t:TG}(h1:PG X e t1)(h2:PG X e t2)(k:∀v σ H Q,t v σ H Q->t1 v σ H Q\/t2 v σ H Q):PG X e t:=λpins s σ H v u Q I r q=>(k v σ H Q q).elim (h1 pins s σ H v u Q I r) (h2 pins s σ H v u Q I r)
def zoR{es:List Expr}{n:Nat}{gs:List MG}(hc:X.calm=true)(hg:SGs X cl es gs)
  (hl:(assignEach es X.env).length=gs.length:=by rfl) (hst:(assignEach es X.env).findIdx? (·.1)=none:=by rfl):SG X cl (.Tuple es n pos) (gTp gs):=PG.or (zoS hc hg hl hst) (zpa hc hg hl hst) λv σ H Q q0=>by
 obtain⟨μ,h,ρ,w,ρ',h',R,er,r,e,k⟩:=q0;cases r with
 | @tup a vs l s rs=>
  have e':gTps gs l ρ h=some (ρ',h'):=e;exact .inl ⟨a,vs,rfl,s,by rw[<-rs.length]; exact(zgk e').symm,μ,h,ρ,l,ρ',h',R,er,rs,e',k⟩
 | @fls a vs l s rs=>
  have e':gTps gs l ρ h=some (ρ',h'):=e;exact .inr ⟨a,vs,rfl,s.sq,by rw[<-rs.length]; exact(zgk e').symm,μ,h,ρ,l,ρ',h',R,er,rs,e',k⟩
 | _=>cases e
def zj4{tg:Expr}{g:MG}(he:SE X cl e m)(hg:SG X cl tg g)(hs:swapsWithSole [tg] e pos.line X.env=pure false:=by rfl)(hw:swappedStores [tg] e X.env=pure none:=by rfl)
  (h1:(assignEach [tg] X.env).map (·.2)=[assign tg X.env]:=by rfl):SS X cl (.Assign [tg] e pos) (sAsg m g):=PS.wk (zpb he hg hs hw h1) λD σ H q0=>by
 obtain⟨μ,h,ρ,fl,h',R,er,e,k⟩:=q0;unfold sAsg at e;split at e
 .rename_i w h1 e1
  split at e
  .rename_i ρ2 h2 e2
   cases e;exact⟨μ,h,ρ,w,h1,R,er,e1,λμ1 H1 v E1 R1 r=>⟨μ1,h1,ρ,w,ρ2,_,R1,er.ext R E1,r,e2,λμ2 H2 σ2 E2 R2 er2=>k μ2 H2 (E1.trans E2) R2 σ2 er2⟩⟩
  .cases e
 .cases e
def zoG(i:Nat){x:Str}{pos':Pos}(hN:X.N.Nodup)(he:SE X cl e m)(hi:X.N[i]?=some x:=by rfl)(hx:Loc X.env.scope x:=by first | exact Or.inl rfl | exact Or.inr rfl)(hs:swapsWith e (some (.Name x pos')) pos.line X.env=pure false:=by rfl)
  (hf:X.fn x=true\/X.env.scope.names.lookup x=some .local:=by first | exact .inl rfl | exact .inr rfl | assumption):SS X cl (.Assign [.Name x pos'] e pos) (sAsg m (gNm i)):=PS.wk (zos (i:=i) hN hi hx he hs hf) λD σ H q0=>by
 obtain⟨μ,h,ρ,fl,h',R,er,e,k⟩:=q0;unfold sAsg at e;split at e
 .rename_i w h1 e1
  split at e
  .rename_i ρ2 h2 e2
   cases e;refine⟨μ,h,ρ,w,h1,R,er,e1,λμ1 H1 v E1 R1 r=>?_⟩;unfold gNm at e2;split at e2
   .rename_i hi
    cases e2;exact k μ1 H1 E1 R1 _ ((er.ext R E1).set hi r)
   .cases e2
  .cases e
 .cases e
def zpD(i:Nat){x:Str}{op:Operator}{f:W->W->M W}{pos':Pos}(hN:X.N.Nodup)(ho:PIp X op (rM X.K cl f))(he:SE X cl e m)(hi:X.N[i]?=some x:=by rfl)(hx:Loc X.env.scope x:=by first | exact Or.inl rfl | exact Or.inr rfl)
  (hf:X.fn x=true\/X.env.scope.names.lookup x=some .local:=by first | exact .inl rfl | exact .inr rfl | assumption):SS X cl (.AugAssign (.Name x pos') op e pos) (sAug i f m):=PS.wk (zn6 (i:=i) hN hi hx he ho hf) λD σ H q0=>by
 obtain⟨μ,h,ρ,fl,h',R,er,e,k⟩:=q0;unfold sAug at e;split at e
 .rename_i w0 e0
  split at e
  .rename_i y h1 e1
   split at e
   .rename_i z h2 e2
    split at e
    .rename_i hi
     cases e;obtain⟨v0,q0,r0⟩:=er.at_ i w0 e0;exact⟨v0,q0,μ,h,ρ,y,h1,R,er,e1,λμ1 H1 vy E1 R1 ry=>⟨μ1,h1,w0,y,z,_,R1,r0.ext R E1,ry,e2,λμ2 H2 vz E2 R2 rz=>k μ2 H2 (E1.trans E2) R2 _ (((er.ext R E1).ext R1 E2).set hi rz)⟩⟩
    .cases e
   .cases e
  .cases e
 .cases e
end
noncomputable def zaH(c:MT)(b:MS):Nat->MS
 | 0=>λ_ _=>none
 | n+1=>λρ h=>match c ρ h with
  | some (true,h1)=>match b ρ h1 with
   | some (.nx ρ2,h2)=>zaH c b n ρ2 h2
   | some (.ct ρ2,h2)=>zaH c b n ρ2 h2
   | some (.bk ρ2,h2)=>some (.nx ρ2,h2)
   | some (.ret w,h2)=>some (.ret w,h2)
   | none=>none
  | some (false,h1)=>some (.nx ρ,h1)
  | none=>none
theorem zbq{c:MT}{b:MS}:∀{n:Nat} {ρ:En} {h:MH} {r:Fl×MH},zaH c b n ρ h=some r->∀k,zaH c b (n+k) ρ h=some r
 | 0,_,_,_,e,_=>by cases e
 | n+1,ρ,h,r,e,k=>by
  rw[show n+1+k=(n+k)+1 by omega];unfold zaH at e ⊢;cases e1:c ρ h with
  | none=>rw[e1] at e; cases e
  | some p=>
   obtain⟨t,h1⟩:=p;rw[e1] at e;cases t with
   | false=>exact e
   | true=>
    simp only at e ⊢;cases e2:b ρ h1 with
    | none=>rw[e2] at e; cases e
    | some q=>
     obtain⟨fl,h2⟩:=q;rw[e2] at e;cases fl with
     | nx ρ2=>exact zbq (n:=n) e k
     | ct ρ2=>exact zbq (n:=n) e k
     | bk ρ2=>exact e
     | ret w=>exact e
open Classical in
noncomputable def zbz(c:MT)(b:MS):MS:=λρ h=>if q:∃n r,zaH c b n ρ h=some r then some q.choose_spec.choose else none
def zko{c:MT}{b:MS}{n:Nat}{ρ:En}{h:MH}{r:Fl×MH}(e:zaH c b n ρ h=some r):zbz c b ρ h=some r:=by
 unfold zbz;have q:∃n r,zaH c b n ρ h=some r:=⟨n,r,e⟩;rw[dif_pos q];have e1:=q.choose_spec.choose_spec;have e2:=zbq e1 n;have e3:=zbq e q.choose;rw[Nat.add_comm] at e3;rw[e2] at e3;exact e3
def zkg{c:MT}{b:MS}{ρ:En}{h:MH}{r:Fl×MH}(e:zbz c b ρ h=some r):∃n,zaH c b n ρ h=some r:=by
 unfold zbz at e;split at e
 .rename_i q
  have e1:=q.choose_spec.choose_spec;cases e;exact⟨_,e1⟩
 .cases e
section
variable{X:Cx}{cl:Cl}{pos:Pos}
def zlo{c:Expr}{body:List Stmt}{t:MT}{b:MS}(hc:ST X cl c t)(hb:SB X cl body b)(hp:PassesOwn (model X.prog X.w) X.A X.env X.xe:=by exact yz):SS X cl (.While c body [] pos) (zbz t b):=PS.wk (zkC hp hc hb) λD σ H q0=>by
 obtain⟨μ,h,ρ,fl,h',R,er,e,k⟩:=q0;obtain⟨n0,e⟩:=zkg e;refine⟨λn σ H=>∃μ h ρ fl h',HR X.K cl μ H h/\ER X.K μ H ρ σ/\zaH t b n ρ h=some (fl,h')/\KF X.K cl μ H h' fl D,⟨n0,μ,h,ρ,fl,h',R,er,e,k⟩,?_⟩;rintro n σ H ⟨μ,h,ρ,fl,h',R,er,e,k⟩;cases n with
 | zero=>cases e
 | succ n=>
  unfold zaH at e;cases e1:t ρ h with
  | none=>rw[e1] at e; cases e
  | some p=>
   obtain⟨c,h1⟩:=p;rw[e1] at e;refine⟨μ,h,ρ,c,h1,R,er,e1,λμ1 H1 E1 R1=>?_⟩;cases c with
   | false=>
    rw[zZ zN];cases e;exact k μ1 H1 E1 R1 σ (er.ext R E1)
   | true=>
    rw[zR rfl];refine⟨λσ' H'=>∃μ h ρ fl h',HR X.K cl μ H' h/\ER X.K μ H' ρ σ'/\zaH t b n ρ h=some (fl,h')/\KF X.K cl μ H' h' fl D,λσ' H' q=>⟨n,jQ n,q⟩,?_⟩;simp only at e;cases e2:b ρ h1 with
    | none=>rw[e2] at e; cases e
    | some q=>
     obtain⟨f2,h2⟩:=q;rw[e2] at e;refine⟨μ1,h1,ρ,f2,h2,R1,er.ext R E1,e2,λμ2 H2 E2 R2=>?_⟩;cases f2 with
     | nx ρ2=>exactλσ2 er2=>⟨μ2,h2,ρ2,fl,h',R2,er2,e,k.ext (E1.trans E2)⟩
     | ct ρ2=>exactλσ2 er2=>⟨μ2,h2,ρ2,fl,h',R2,er2,e,k.ext (E1.trans E2)⟩
     | bk ρ2=>cases e; exactλσ2 er2=>k μ2 H2 (E1.trans E2) R2 σ2 er2
     | ret w=>cases e; exactλv rv=>k μ2 H2 (E1.trans E2) R2 v rv
end
inductive Src where
 | items (l:List W) | live (n:Nat)
noncomputable def za6(s:Src)(i:Nat)(h:MH):Option (Option W):=match s with
 | .items l=>some l[i]?
 | .live n=>match h[n]? with
  | some (.lst l)=>some l[i]?
  | _=>none
noncomputable def JR(K:PySem.W.Frag)(cl:Cl)(J:It)(s:Src)(μ:List Addr)(H:Hp):Prop:=∀μ2 H2 h2,Ext μ H μ2 H2->HR K cl μ2 H2 h2->∀i,
 (∀w,za6 s i h2=some (some w)->J.go i H2/\∀x H3,J.yld i H2 x H3->Ext μ2 H2 μ2 H3/\HR K cl μ2 H3 h2/\RW K μ2 H3 w x)/\(za6 s i h2=some none->J.stop i H2)
abbrev MI:=En->M Src
inductive tMI(K:PySem.W.Frag)(cl:Cl)(m:MI)(σ:L2.St)(H:Hp)(R:It->Hp->Prop):Prop
 | mk (μ:List Addr) (h:MH) (ρ:En) (src:Src) (h':MH) (p0:HR K cl μ H h) (p1:ER K μ H ρ σ) (p2:m ρ h=some (src,h')) (p3:∀μ' H' J,Ext μ H μ' H'->HR K cl μ' H' h'->JR K cl J src μ' H'->R J H'):tMI K cl m σ H R
abbrev SI(X:Cx)(cl:Cl)(tg e:Expr)(m:MI):Prop:=PI X tg e (tMI X.K cl m)
def PI.wk{X:Cx}{tg e:Expr}{t t':TI}(h:PI X tg e t)(w:∀σ H Q,t' σ H Q->t σ H Q):PI X tg e t':=λpins s σ H Q I q=>h pins s σ H Q I (w σ H Q q)
def JR.ext{K:PySem.W.Frag}{cl:Cl}{J:It}{s:Src}{μ μ':List Addr}{H H':Hp}(E:Ext μ H μ' H')(j:JR K cl J s μ H):JR K cl J s μ' H':=λμ2 H2 h2 E2=>j μ2 H2 h2 (E.trans E2)
noncomputable def forN(s:Src)(g:MG)(b:MS):Nat->Nat->MS
 | 0,_=>λ_ _=>none
 | k+1,i=>λρ h=>match za6 s i h with
  | some (some w)=>match g w ρ h with
   | some (ρ1,h1)=>match b ρ1 h1 with
    | some (.nx ρ2,h2)=>forN s g b k (i+1) ρ2 h2
    | some (.ct ρ2,h2)=>forN s g b k (i+1) ρ2 h2
    | some (.bk ρ2,h2)=>some (.nx ρ2,h2)
    | some (.ret w,h2)=>some (.ret w,h2)
    | none=>none
   | none=>none
  | some none=>some (.nx ρ,h)
  | none=>none
noncomputable def forL(g:MG)(b:MS):List W->MS
 | []=>λρ h=>some (.nx ρ,h)
 | w::r=>λρ h=>match g w ρ h with
  | some (ρ1,h1)=>match b ρ1 h1 with
   | some (.nx ρ2,h2)=>forL g b r ρ2 h2
   | some (.ct ρ2,h2)=>forL g b r ρ2 h2
   | some (.bk ρ2,h2)=>some (.nx ρ2,h2)
   | some (.ret w,h2)=>some (.ret w,h2)
   | none=>none
  | none=>none
theorem zcq{g:MG}{b:MS}(l:List W):∀(k i:Nat) (ρ:En) (h:MH),l.length+1<=i+k->i<=l.length->forN (.items l) g b k i ρ h=forL g b (l.drop i) ρ h
 | 0,i,ρ,h,hk,hi=>by omega
 | k+1,i,ρ,h,hk,hi=>by
  by_cases hl:i<l.length
  .rw[qW hl]
   unfold forN forL;simp only[za6,zO hl];cases e1:g l[i] ρ h with
   | none=>rfl
   | some p=>
    obtain⟨ρ1,h1⟩:=p;simp only;cases e2:b ρ1 h1 with
    | none=>rfl
    | some q=>
     obtain⟨fl,h2⟩:=q;cases fl with
     | nx ρ2=>exact zcq l k (i+1) ρ2 h2 ∅ hl
     | ct ρ2=>exact zcq l k (i+1) ρ2 h2 ∅ hl
     | bk ρ2=>rfl
     | ret w=>rfl
  .have hi':i=l.length:=by omega
   subst hi';rw[xu];unfold forN forL;simp[za6]
noncomputable def zkr(s:Src)(h:MH):Nat:=match s with
 | .items l=>l.length
 | .live n=>match h[n]? with
  | some (.lst l)=>l.length
  | _=>0
noncomputable def sFor(mi:MI)(g:MG)(b:MS):MS:=λρ h=>match mi ρ h with
 | some (.items l,h1)=>forL g b l ρ h1
 | some (.live n,h1)=>forN (.live n) g b (zkr (.live n) h1+1) 0 ρ h1
 | none=>none
section
variable{X:Cx}{cl:Cl}{pos:Pos}
def zgi{K:PySem.W.Frag}{J:It}{src:Src}{g:MG}{b:MS}{D:Ends}{σ:L2.St}{μ:List Addr}{H:Hp}{h h':MH}{ρ:En}{fl:Fl}{k0:Nat}(R:HR K cl μ H h)(er:ER K μ H ρ σ)(j:JR K cl J src μ H)(e:forN src g b k0 0 ρ h=some (fl,h'))
  (k:KF K cl μ H h' fl D):∃W:Nat->Nat->L2.St->Hp->Prop,(∃m,W 0 m σ H)/\∀i m σ H,W i m σ H->
   (J.stop i H/\D.nx σ H)\/(J.go i H/\∃N:L2.St->Hp->Prop,(∀σ' H',N σ' H'->∃m',m'<m/\W (i+1) m' σ' H')/\∀x H',J.yld i H x H'->tMG K cl g x σ H' λσ2 H2=>tMS K cl b { D with nx:=N,ct:=N,bk:=D.nx } σ2 H2):=by
 refine⟨λi m σ H=>∃μ h ρ fl h',HR K cl μ H h/\ER K μ H ρ σ/\JR K cl J src μ H/\forN src g b m i ρ h=some (fl,h')/\KF K cl μ H h' fl D,⟨k0,μ,h,ρ,fl,h',R,er,j,e,k⟩,?_⟩;rintro i m σ H ⟨μ,h,ρ,fl,h',R,er,j,e,k⟩;cases m with
 | zero=>cases e
 | succ m=>
  unfold forN at e;obtain⟨jg,js⟩:=j μ H h .refl R i;cases es:za6 src i h with
  | none=>rw[es] at e; cases e
  | some o=>
   rw[es] at e;cases o with
   | none=>
    cases e;exact .inl ⟨js es,k.nx R er⟩
   | some w=>
    obtain⟨go,yl⟩:=jg w es;simp only at e;cases e1:g w ρ h with
    | none=>rw[e1] at e; cases e
    | some p=>
     obtain⟨ρ1,h1⟩:=p;rw[e1] at e;simp only at e;cases e2:b ρ1 h1 with
     | none=>rw[e2] at e; cases e
     | some q=>
      obtain⟨f2,h2⟩:=q;rw[e2] at e;refine .inr ⟨go,λσ' H'=>∃μ h ρ fl h',HR K cl μ H' h/\ER K μ H' ρ σ'/\JR K cl J src μ H'/\forN src g b m (i+1) ρ h=some (fl,h')/\KF K cl μ H' h' fl D,λσ' H' q=>⟨m,jQ m,q⟩,λx H1 y1=>?_⟩;obtain⟨E1,R1,rx⟩:=yl x H1 y1;refine⟨μ,h,ρ,w,ρ1,h1,R1,er.ext R E1,rx,e1,λμ2 H2 σ2 E2 R2 er2=>⟨μ2,h1,ρ1,f2,h2,R2,er2,e2,λμ3 H3 E3 R3=>?_⟩⟩;have E:=E1.trans (E2.trans E3);cases f2 with
      | nx ρ2=>exactλσ3 er3=>⟨μ3,h2,ρ2,fl,h',R3,er3,j.ext E,e,k.ext E⟩
      | ct ρ2=>exactλσ3 er3=>⟨μ3,h2,ρ2,fl,h',R3,er3,j.ext E,e,k.ext E⟩
      | bk ρ2=>cases e; exactλσ3 er3=>k μ3 H3 E R3 σ3 er3
      | ret w=>cases e; exactλv rv=>k μ3 H3 E R3 v rv
def zo9{tg iter:Expr}{body:List Stmt}{mi:MI}{g:MG}{b:MS}(hc:X.calm=true)(hi:SI X cl tg iter mi)(hg:SG X cl tg g)(hb:SB X cl body b)
  (hs:∀x,foldedSetIterable iter X.env x=pure x:=by intro _; rfl) (hp:PassesOwn (model X.prog X.w) X.A X.env X.xe:=by exact yz):SS X cl (.For tg iter body [] pos) (sFor mi g b):=PS.wk (zo0 hp hc hi hg hb hs) λD σ H q0=>by
 obtain⟨μ,h,ρ,fl,h',R,er,e,k⟩:=q0;unfold sFor at e;split at e
 .rename_i l h1 e1
  refine⟨μ,h,ρ,.items l,h1,R,er,e1,λμ1 H1 J E1 R1 j=>?_⟩;have q:=zcq (g:=g) (b:=b) l (l.length+1) 0 ρ h1 ∅ ∅;rw[xX,e] at q;exact zgi R1 (er.ext R E1) j q (k.ext E1)
 .rename_i n h1 e1
  exact⟨μ,h,ρ,.live n,h1,R,er,e1,λμ1 H1 J E1 R1 j=>zgi R1 (er.ext R E1) j e (k.ext E1)⟩
 .cases e
end
noncomputable def fnM(np k:Nat)(b:MS):List W->M W:=λws h=>if ws.length=np then (match b (ws.map some++List.replicate k none) h with
 | some (.ret w,h')=>some (w,h')
 | some (.nx _,h')=>some (.non,h')
 | _=>none) else none
section
variable{P:Program}{w:World}{K:PySem.W.Frag}{mg:Str->Option Value}{base:Heap}{cl:Cl}
def zfO{μ:List Addr}{H:Hp}{N:List Str}{ws:List W}{vs:List V}{k:Nat}(rs:RWs K μ H ws vs)(hk:N.length-vs.length=k):ER K μ H (ws.map some++List.replicate k none) (L2.start N vs):=by
 subst hk;unfold L2.start;refine⟨by simp[rs.length],λi w e=>?_⟩;by_cases hi:i<ws.length
 .rw[zX (by simpa using hi),kJ] at e
  cases e1:ws[i]? with
  | none=>rw[e1] at e; cases e
  | some w'=>
   rw[e1] at e;cases e;obtain⟨v,e2,r⟩:=rs.get e1;exact⟨v,by rw[zX (by rw[zL,<-rs.length]; exact hi),kJ,e2]; rfl,r⟩
 .rw[kj (by simpa using hi),qG] at e
  split at e<;>cases e
def zp8{x qual:Str}{st:Stmt}{f:Addr}{fd:FuncData}{N ps:List Str}{k np ns:Nat}{b:MS}(F:Fun K x qual st f fd)(S:FnScope N ps (zag st))(hnp:ps.length=np)(hns:N.length-np=ns)
  (hb:∀(cdv:Value) (A:Around) (outer:List Env) (s:Shared) (H:Hp) (E:XK),Room k (A.deeper (envOfC qual (zag st) s.heap.objs.size f cdv))->
   SB (cxOf CX0 P w K mg base N qual (zag st) f cdv A outer s H E).nox cl (zaA st) b):FnOk P w K mg base CX0 (k+1) f fd ps (spM K cl (gc (fnM np ns b))):=by
 have len:∀vs H Q E,spM K cl (fnM np ns b) vs H Q E->vs.length=ps.length:=by
  rintro vs H Q E ⟨μ,h,ws,w,h',R,rs,e,k⟩;unfold fnM at e;split at e
  .rename_i hl
   rw[hnp,<-hl,rs.length]
  .cases e
 refine FnOk.imp (sp:=spM K cl (fnM np ns b)) (F.ok S len λcdv A outer s H vs Q E hr hsp=>⟨_,hb cdv A outer s H E hr,?_⟩) λvs H Q E q=>zql (E:=E) q
 have hlen:=len _ _ _ _ hsp;obtain⟨μ,h,ws,w,h',R,rs,e,k⟩:=hsp;unfold fnM at e;split at e
 .rename_i hl
  split at e
  .rename_i w1 h1 e1
   cases e;exact⟨μ,h,_,_,_,R,zfO rs (by rw[hlen,hnp]; exact hns),e1,λμ1 H1 E1 R1 v rv=>k μ1 H1 v E1 R1 rv⟩
  .rename_i ρ1 h1 e1
   cases e;exact⟨μ,h,_,_,_,R,zfO rs (by rw[hlen,hnp]; exact hns),e1,λμ1 H1 E1 R1 σ1 _=>k μ1 H1 .non E1 R1 .non⟩
  .cases e
 .cases e
end
noncomputable def getL(h:MH):W->Option (List W)
 | .fls l=>some l
 | .ref n=>match h[n]? with
  | some (.lst l)=>some l
  | _=>none
 | _=>none
section
variable{K:PySem.W.Frag}{cl:Cl}{μ:List Addr}{H:Hp}{h:MH}
def zaJ{w:W}{v:V}{l:List W}(R:HR K cl μ H h)(r:RW K μ H w v)(e:getL h w=some l):∃a vs,v=.ref a/\SqL K H a vs/\RWs K μ H l vs:=by
 cases r with
 | @fls a vs l' s rs=>cases e; exact⟨a,vs,rfl,s.sq,rs⟩
 | @ref n a hn=>
  simp only[getL] at e;split at e
  .rename_i l' ho
   cases e;obtain⟨vs,hv,rs⟩:=R.ob n a _ hn ho;exact⟨a,vs,rfl,SqL.of hv,rs⟩
  .cases e
 | _=>cases e
theorem RW.int_of{i:Int}{v:V}(r:RW K μ H (.int i) v):v=.int i:=by cases r; rfl
theorem RW.str_of{i:Str}{v:V}(r:RW K μ H (.str i) v):v=.str i:=by cases r; rfl
def RW.tup_of{l:List W}{v:V}(r:RW K μ H (.tup l) v):∃a vs,v=.ref a/\SqT K H a vs/\RWs K μ H l vs:=by cases r with | @tup a vs l s rs=>exact⟨a,vs,rfl,s,rs⟩
end
noncomputable def addI(x y:W):Option W:=match x,y with
 | .int i,.int j=>some (.int (i+j))
 | .str i,.str j=>if i.length+j.length<=cap then some (.str (i++j)) else none
 | .tup l,.tup l'=>if l.length+l'.length<=cap then some (.tup (l++l')) else none
 | _,_=>none
noncomputable def addW(x y:W):M W:=λh=>match addI x y with
 | some w=>some (w,h)
 | none=>match getL h x,getL h y with
  | some l,some l'=>if l.length+l'.length<=cap then some (.fls (l++l'),h) else none
  | _,_=>none
noncomputable def addM(x y:W):M W:=λh=>match getL h x,getL h y with
 | some l,some l'=>if l.length+l'.length<=cap then some (.ref h.length,h++[.lst (l++l')]) else none
 | _,_=>none
section
variable{prog:Program}{w:World}{A:Around}{E:Value->Shared->Prop}{s:Shared}
def zlH{t b:Addr}{vs ws:List Value}{Q:Value->Shared->Prop}(ht:s.heap.IsList t vs.toArray)(hb:s.heap.IsList b ws.toArray)
  (h2:Q (.ref s.heap.objs.size) { s with heap:=s.heap.push { cls:=.type "list",data:=.seq (vs++ws).toArray } })
  (hsz:vs.length+ws.length<=sizeLine):wpAny (model prog w) A (binaryOp .Add (.ref t) (.ref b)) Q E s:=by
 obtain⟨⟨cls,dd,data,sl⟩,ho,hc,n,hd⟩:=id ht;obtain⟨⟨cls2,dd2,data2,sl2⟩,ho2,hc2,n2,hd2⟩:=id hb;simp only at hc hd hc2 hd2;subst hc hd hc2 hd2;have e:vs.toArray++ws.toArray=(vs++ws).toArray:=by simp
 refine xZ ⟨_,ho,rfl⟩ ⟨_,ho2,rfl⟩ noFill_list_add seq_list_add PySem.F.slot_list_add PySem.F.entry_list_add (PySem.F.args_list_add_2 _ _)
  (list_addW t b vs.toArray ws.toArray n n2 dd dd2 sl sl2 (by rw[zM,zM]; exact hsz)) ⟨ho,ho2,?_⟩
 rw[e];exact h2
def zlb{t b:Addr}{ws:List Value}{Q:Value->Shared->Prop}(ht:IsTup s.heap t ([]:List Value).toArray)(hb:IsTup s.heap b ws.toArray)(h1:Q (.ref b) s) :
  wpAny (model prog w) A (binaryOp .Add (.ref t) (.ref b)) Q E s:=by
 obtain⟨⟨cls,dd,data,sl⟩,ho,hc,n,hd⟩:=id ht;obtain⟨⟨cls2,dd2,data2,sl2⟩,ho2,hc2,n2,hd2⟩:=id hb;simp only at hc hd hc2 hd2;subst hc hd hc2 hd2;exact xZ ⟨_,ho,rfl⟩ ⟨_,ho2,rfl⟩ uh seq_tuple_add wW wF (wA _ _)
  (tuple_addW0 t b _ ws.toArray n n2 dd dd2 sl sl2 rfl) ⟨ho,ho2,h1⟩
end
section
variable{X:Cx}{cl:Cl}
def zhG{P:List W->MH->W->MH->Prop}{pins:List (Addr×Obj)}{s:Shared}{σ:L2.St}{H:Hp}{x y:V}{v u:Value}{Q:VK}{μ:List Addr}{h:MH}{wx wy:W}{l l':List W}(I:Inv X pins σ H s)(rx:RelV x v)(ry:RelV y u)
  (R:HR X.K cl μ H h) (ax:RW X.K μ H wx x) (ay:RW X.K μ H wy y) (e1:getL h wx=some l) (e2:getL h wy=some l') (hl:l.length+l'.length<=cap)
  (k:∀p xs,H p=none->RWs X.K μ H (l++l') xs->Q (.ref p) (upd H p (.lst xs))):wpAny (model X.prog X.w) X.A (binaryOp .Add v u) (EP X pins σ Q) X.xe s:=by
 obtain⟨a,vs,rfl,sa,ra⟩:=zaJ R ax e1;obtain⟨b,vs',rfl,sb,rb⟩:=zaJ R ay e2;cases rx;cases ry;obtain⟨its,r1,p1,_⟩:=I.list sa;obtain⟨its2,r2,p2,_⟩:=I.list sb;have hz:vs.length+vs'.length<=sizeLine:=zF (by rw[<-ra.length,<-rb.length]; exact hl) zaU;refine zlH p1.isList p2.isList ?_ (by rw[<-r1.length,<-r2.length]; exact hz);exact⟨.ref _,_,I.lnew (t':=s.toks) (r1.append r2) (by rw[zW]; exact hz),rfl,k _ _ I.fresh (ra.append rb)⟩
def zns:OpR X (binaryOp .Add) (rM X.K cl addW):=by
 rintro pins s σ H x y v u Q I rx ry ⟨μ,h,wx,wy,w,h',R,ax,ay,e,k⟩;unfold addW at e;split at e
 .rename_i w' e'
  cases e;unfold addI at e';split at e'
  .rename_i i j
   cases e';exact zoz pins s σ H x y v u Q I rx ry ⟨i,j,ax.int_of,ay.int_of,k.pure R (.int _)⟩
  .rename_i i j
   split at e'
   .rename_i hl
    cases e';exact zh9 pins s σ H x y v u Q I rx ry ⟨i,j,ax.str_of,ay.str_of,zF hl zaU,k.pure R (.str _)⟩
   .cases e'
  .rename_i l l'
   split at e'
   .rename_i hl
    cases e';obtain⟨a,vs,rfl,sa,ra⟩:=ax.tup_of;obtain⟨b,vs',rfl,sb,rb⟩:=ay.tup_of;by_cases hv:vs=[]
    .subst hv
     cases ra;cases rx;cases ry;obtain⟨its,r1,p1,_⟩:=I.tuple sa;obtain⟨its2,r2,p2,_⟩:=I.tuple sb;cases r1;exact zlb p1 p2 ⟨.ref b,H,I,rfl,k.pure R (.tup sb rb)⟩
    .refine znG pins s σ H _ _ v u Q I rx ry ⟨a,b,vs,vs',rfl,rfl,sa,sb,hv,zF (by rw[<-ra.length,<-rb.length]; exact hl) zaU,λz=>?_,λ_ p hp=>k.tup R (ra.append rb) hp⟩
     subst z;cases rb;rw[yg] at k;exact k.pure R (.tup sa ra)
   .cases e'
  .cases e'
 .split at e
  .rename_i l l' e1 e2
   split at e
   .rename_i hl
    cases e;exact zhG (P:=λ_ _ _ _=>True) I rx ry R ax ay e1 e2 hl λp xs hp rs=>k.fls R rs hp
   .cases e
  .cases e
def zny:OpR X (binaryOp .Add) (rM X.K cl addM):=by
 rintro pins s σ H x y v u Q I rx ry ⟨μ,h,wx,wy,w,h',R,ax,ay,e,k⟩;unfold addM at e;split at e
 .rename_i l l' e1 e2
  split at e
  .rename_i hl
   cases e;exact zhG (P:=λ_ _ _ _=>True) I rx ry R ax ay e1 e2 hl λp xs hp rs=>k.lst R rs hp
  .cases e
 .cases e
end
noncomputable def subW(x y:W):M W:=λh=>match x,y with
 | .int i,.int j=>some (.int (i-j),h)
 | _,_=>none
noncomputable def small(i:Int):Bool:=decide (-(2 ^ 64)<i/\i<2 ^ 64)
noncomputable def mulW(x y:W):M W:=λh=>match x,y with
 | .int i,.int j=>if (small i||small j)=true then some (.int (i*j),h) else none
 | .tup l,.int j=>if 0<=j/\j<=1000/\l.length<=1000 then some (.tup (List.replicate j.toNat l).flatten,h) else none
 | .fls l,.int j=>if 0<=j/\j<=1000/\l.length<=1000 then some (.fls (List.replicate j.toNat l).flatten,h) else none
 | _,_=>none
noncomputable def modW(x y:W):M W:=λh=>match x,y with
 | .int i,.int j=>if 0<j then some (.int (i%j),h) else none
 | _,_=>none
noncomputable def divW(x y:W):M W:=λh=>match x,y with
 | .int i,.int j=>if 0<j/\j<1073741824 then some (.int (i/j),h) else none
 | _,_=>none
noncomputable def powW(x y:W):M W:=λh=>match x,y with
 | .int i,.int j=>if 0<=j/\j<=100/\i.natAbs<1000 then some (.int (i ^ j.toNat),h) else none
 | _,_=>none
noncomputable def cmpI(p:Int->Int->Bool)(x y:W):M W:=λh=>match x,y with
 | .int i,.int j=>some (.bl (p i j),h)
 | _,_=>none
noncomputable def negW(x:W):M W:=λh=>match x with
 | .int i=>some (.int (-i),h)
 | _=>none
noncomputable def zcg(b:Bool)(x y:W):M W:=λh=>match x,y with
 | .non,.non=>some (.bl b,h)
 | .tup _,.non=>some (.bl (!b),h)
 | .fls _,.non=>some (.bl (!b),h)
 | .int _,.non=>some (.bl (!b),h)
 | .str _,.non=>some (.bl (!b),h)
 | .bl _,.non=>some (.bl (!b),h)
 | .ref _,.non=>some (.bl (!b),h)
 | _,_=>none
section
variable{X:Cx}{cl:Cl}
def zmX:OpR X (binaryOp .Sub) (rM X.K cl subW):=by
 rintro pins s σ H x y v u Q I rx ry ⟨μ,h,wx,wy,w,h',R,ax,ay,e,k⟩;unfold subW at e;split at e
 .cases e; exact znT pins s σ H x y v u Q I rx ry ⟨_,_,ax.int_of,ay.int_of,k.pure R (.int _)⟩
 .cases e
def zmF:OpR X (binaryOp .Mod) (rM X.K cl modW):=by
 rintro pins s σ H x y v u Q I rx ry ⟨μ,h,wx,wy,w,h',R,ax,ay,e,k⟩;unfold modW at e;split at e
 .split at e
  .rename_i hj; cases e; exact zpL pins s σ H x y v u Q I rx ry ⟨_,_,ax.int_of,ay.int_of,hj,k.pure R (.int _)⟩
  .cases e
 .cases e
def znt:OpR X (binaryOp .FloorDiv) (rM X.K cl divW):=by
 rintro pins s σ H x y v u Q I rx ry ⟨μ,h,wx,wy,w,h',R,ax,ay,e,k⟩;unfold divW at e;split at e
 .split at e
  .rename_i hj; cases e; exact znj pins s σ H x y v u Q I rx ry ⟨_,_,ax.int_of,ay.int_of,hj,k.pure R (.int _)⟩
  .cases e
 .cases e
def zmJ:OpR X (binaryOp .Pow) (rM X.K cl powW):=by
 rintro pins s σ H x y v u Q I rx ry ⟨μ,h,wx,wy,w,h',R,ax,ay,e,k⟩;unfold powW at e;split at e
 .split at e
  .rename_i hj; cases e; exact zpp pins s σ H x y v u Q I rx ry ⟨_,_,ax.int_of,ay.int_of,⟨hj.1,by omega,zK hj.2.2 (by decide)⟩,k.pure R (.int _)⟩
  .cases e
 .cases e
def zde{op:CmpOp}{p:Int->Int->Bool}(ho:OpR X (compareOp op) (rI0 λi j=>.bl (p i j))):OpR X (compareOp op) (rM X.K cl (cmpI p)):=by
 rintro pins s σ H x y v u Q I rx ry ⟨μ,h,wx,wy,w,h',R,ax,ay,e,k⟩;unfold cmpI at e;split at e
 .cases e; exact ho pins s σ H x y v u Q I rx ry ⟨_,_,ax.int_of,ay.int_of,k.pure R (.bl _)⟩
 .cases e
def zpr:OpR X (compareOp .Lt) (rM X.K cl (cmpI λi j=>decide (i<j))):=zde zpO
def zpy:OpR X (compareOp .LtE) (rM X.K cl (cmpI λi j=>decide (i<=j))):=zde zqC
def zpm:OpR X (compareOp .Gt) (rM X.K cl (cmpI λi j=>decide (j<i))):=zde zpS
def zoN:OpR X (compareOp .GtE) (rM X.K cl (cmpI λi j=>decide (j<=i))):=zde zqt
def znv:UnR X (unaryOp .USub) (rM1 X.K cl negW):=by
 rintro pins s σ H x v Q I rx ⟨μ,h,wx,w,h',R,ax,e,k⟩;unfold negW at e;split at e
 .cases e; exact zpl pins s σ H x v Q I rx ⟨_,ax.int_of,k.pure R (.int _)⟩
 .cases e
def znw:PIp X .Add (rM X.K cl (λx y=>match x,y with | .int i,.int j=>λh=>some (.int (i+j),h) | _,_=>λ_=>none)):=by
 rintro pins s σ H x y v u Q I rx ry ⟨μ,h,wx,wy,w,h',R,ax,ay,e,k⟩;try dsimp only at e
 split at e
 .cases e; exact zoq pins s σ H x y v u Q I rx ry ⟨_,_,ax.int_of,ay.int_of,k.pure R (.int _)⟩
 .cases e
def zd1{K:PySem.W.Frag}{μ:List Addr}{H:Hp}{h h':MH}{wx wy w:W}{x y:V}{b:Bool}(ax:RW K μ H wx x)(ay:RW K μ H wy y)(e:zcg b wx wy h=some (w,h')):h=h'/\y=.non/\w=.bl (if b then decide (x=.non) else !decide (x=.non)):=by
 unfold zcg at e;split at e<;>first | (cases e; cases ax; cases ay; refine⟨rfl,rfl,?_⟩; cases b<;>simp) | cases e
def zoe:OpR X (compareOp .Is) (rM X.K cl (zcg true)):=by
 rintro pins s σ H x y v u Q I rx ry ⟨μ,h,wx,wy,w,h',R,ax,ay,e,k⟩;obtain⟨rfl,hy,rfl⟩:=zd1 ax ay e;exact znY pins s σ H x y v u Q I rx ry ⟨hy,k.pure R (.bl _)⟩
def zi8:OpR X (compareOp .IsNot) (rM X.K cl (zcg false)):=by
 rintro pins s σ H x y v u Q I rx ry ⟨μ,h,wx,wy,w,h',R,ax,ay,e,k⟩;obtain⟨rfl,hy,rfl⟩:=zd1 ax ay e;exact zmr pins s σ H x y v u Q I rx ry ⟨hy,k.pure R (.bl _)⟩
end
noncomputable def lenW(ws:List W):M W:=λh=>match ws with
 | [.tup l]=>some (.int l.length,h)
 | [.str x]=>if x.length<=cap then some (.int x.length,h) else none
 | [w]=>match getL h w with
  | some l=>some (.int l.length,h)
  | none=>none
 | _=>none
noncomputable def ixW(x y:W):M W:=λh=>match x,y with
 | .tup l,.int i=>match atI l i with
  | some w=>some (w,h)
  | none=>none
 | .str z,.int i=>if z.length<=cap then (match atI z.cps.toList i with
  | some c=>some (.str ⟨#[c]⟩,h)
  | none=>none) else none
 | x,.int i=>match getL h x with
  | some l=>match atI l i with
   | some w=>some (w,h)
   | none=>none
  | none=>none
 | _,_=>none
noncomputable def cutW(l:List W)(lo hi:Option Int):List W:=(l.drop (HT.sIx l.length 0 lo)).take (HT.sIx l.length l.length hi-HT.sIx l.length 0 lo)
theorem RWs.atI{K:PySem.W.Frag}{μ:List Addr}{H:Hp}{l:List W}{vs:List V}{i:Int}{w:W}(rs:RWs K μ H l vs)(e:L2.atI l i=some w):∃v,L2.atI vs i=some v/\RW K μ H w v:=by
 unfold L2.atI at e ⊢;rw[<-rs.length];cases q:ixN l.length i with
 | none=>rw[q] at e; cases e
 | some j=>
  rw[q] at e;exact rs.get e
theorem RWs.cutW{K:PySem.W.Frag}{μ:List Addr}{H:Hp}{l:List W}{vs:List V}(rs:RWs K μ H l vs)(lo hi:Option Int):RWs K μ H (cutW l lo hi) (cutV vs lo hi):=by
 unfold ML.cutW cutV;rw[<-rs.length];exact(rs.drop _).take _
section
variable{X:Cx}{cl:Cl}{a b:Expr}{ma mb:ME}{pos:Pos}
def zjZ:zar X (.builtin "len") (rMs X.K cl lenW):=by
 rintro pins s σ H xs us Q I rs ⟨μ,h,ws,w,h',R,ax,e,k⟩;unfold lenW at e;split at e
 .rename_i l
  cases e;cases ax with | cons r t=>cases t with | nil=>
   obtain⟨a,vs,rfl,sa,ra⟩:=r.tup_of;exact zcW pins s σ H _ us Q I rs ⟨a,vs,rfl,.inr sa,by rw[<-ra.length]; exact k.pure R (.int _)⟩
 .rename_i z
  split at e
  .rename_i hl
   cases e;cases ax with | cons r t=>cases t with | nil=>
    cases r.str_of;exact zgR pins s σ H _ us Q I rs ⟨z,rfl,zF hl zaU,k.pure R (.int _)⟩
  .cases e
 .split at e
  .rename_i l el
   cases e;cases ax with | cons r t=>cases t with | nil=>
    obtain⟨a,vs,rfl,sa,ra⟩:=zaJ R r el;exact zcW pins s σ H _ us Q I rs ⟨a,vs,rfl,.inl sa,by rw[<-ra.length]; exact k.pure R (.int _)⟩
  .cases e
 .cases e
def ix_W:IxR X (rM X.K cl ixW):=by
 rintro value slice pins s σ H x y v u Q I rx ry ⟨μ,h,wx,wy,w,h',R,ax,ay,e,k⟩ hs;unfold ixW at e;split at e
 .rename_i l i
  split at e
  .rename_i w' e'
   cases e;obtain⟨a,vs,rfl,sa,ra⟩:=ax.tup_of;obtain⟨v',ev,rv⟩:=ra.atI e';exact zgQ value slice pins s σ H _ y v u Q I rx ry ⟨a,vs,i,v',rfl,ay.int_of,sa,ev,k.pure R rv⟩ hs
  .cases e
 .rename_i z i
  split at e
  .rename_i hl
   split at e
   .rename_i c e'
    cases e;exact zpi value slice pins s σ H _ y v u Q I rx ry ⟨z,i,c,ax.str_of,ay.int_of,zF hl zaU,e',k.pure R (.str _)⟩ hs
   .cases e
  .cases e
 .rename_i i hn1 hn2
  split at e
  .rename_i l el
   split at e
   .rename_i w' e'
    cases e;obtain⟨a,vs,rfl,sa,ra⟩:=zaJ R ax el;obtain⟨v',ev,rv⟩:=ra.atI e';exact zmG value slice pins s σ H _ y v u Q I rx ry ⟨a,vs,i,v',rfl,ay.int_of,sa,ev,k.pure R rv⟩ hs
   .cases e
  .cases e
 .cases e
def zqy(ha:SE X cl a ma)(hb:SE X cl b mb)(hs:zcj b:=by exactλ_ _=>rfl):SE X cl (.Subscript a b pos) (eOp ixW ma mb):=
 PE.wk (zl1 ix_W ha hb hs) λσ H Q q=>zcH q
end
section
variable{prog:Program}{w:World}{A:Around}{E:Value->Shared->Prop}{s:Shared}
open HT in
def zcN{t sl:Addr}{items:Array Value}{vl vu:Value}{lo hi:Option Int}{Q:Value->Shared->Prop}(ht:IsTup s.heap t items)(hs:s.heap.IsSliceOf sl vl vu .none)(pl:IsPart vl lo)(pu:IsPart vu hi)
  (hw:sIx items.size 0 lo=0/\sIx items.size items.size hi=items.size) (h:Q (.ref t) s):wpAny (model prog w) A (getItem (.ref t) (.ref sl)) Q E s:=by
 obtain⟨os,hos,hcs,hds⟩:=id hs;have hTs:s.TypeIs (.ref sl) "slice":=⟨os,hos,hcs⟩;unfold getItem;try with_reducible refine jb ?_
 first | refine za (zg ?_) | skip
 refine za (wpAny_sequenceKey ht.typeIs (by decide) ?_)
 refine za (jq (name:=Str.ofString "__getitem__") ht.typeIs jx
  (jj jx ht.typeIs entry_tuple_getitem ?_ (args_tuple_getitem _ _)))
 show wpAny _ _ (Builtin.Tuple.tupleItemsOf (.ref t) >>= _) _ _ s
 refine za (yV ht ?_);refine za (qp hTs ?_);rw[zR (by decide)];refine za (zbP hs pl pu ?_);have hno:((((sIx items.size 0 lo:Nat):Int)==0&&(1:Int)==1&&(sIx items.size items.size hi-sIx items.size 0 lo)==items.size)=true):=by
  rw[hw.1,hw.2]; simp
 show wpAny _ _ (if (((sIx items.size 0 lo:Nat):Int)==0&&(1:Int)==1&&(sIx items.size items.size hi-sIx items.size 0 lo)==items.size)=true then _ else _) _ _ s
 rw[zR hno];unfold Builtin.Tuple.tupleIsExact;refine za (za (qp ht.typeIs (zg ?_)));rw[zR (by decide)];first
  | exact za (qt (zg ⟨_,rfl,zg h⟩))
  | exact za (qt (za (zg (zg ⟨_,rfl,zg h⟩))))
  | exact za (za (qt (zg ⟨_,rfl,zg h⟩)))
end
noncomputable def slW(x:W)(lo hi:Option Int):M W:=λh=>match x with
 | .tup l=>some (.tup (cutW l lo hi),h)
 | .str z=>if z.length<=cap then some (.str (Txt.slice z lo hi),h) else none
 | x=>match getL h x with
  | some l=>some (.fls (cutW l lo hi),h)
  | none=>none
noncomputable def za7(m:Option ME):En->M (Option Int):=λρ=>match m with
 | none=>λh=>some (none,h)
 | some m=>bnd (m ρ) λw h=>match w with
  | .int i=>some (some i,h)
  | _=>none
noncomputable def eSl(a:ME)(lo hi:Option ME):ME:=λρ=>bnd (a ρ) λx=>bnd (za7 lo ρ) λl=>bnd (za7 hi ρ) λu=>slW x l u
section
variable{X:Cx}{cl:Cl}{a:Expr}{ma:ME}{pos p2:Pos}
inductive tMO(K:PySem.W.Frag)(cl:Cl)(m:Option ME)(σ:L2.St)(H:Hp)(Q:Option Int->Hp->Prop):Prop
 | mk (μ:List Addr) (h:MH) (ρ:En) (o:Option Int) (h':MH) (p0:HR K cl μ H h) (p1:ER K μ H ρ σ) (p2:za7 m ρ h=some (o,h')) (p3:∀μ' H',Ext μ H μ' H'->HR K cl μ' H' h'->Q o H'):tMO K cl m σ H Q
abbrev SO(X:Cx)(cl:Cl)(e:Option Expr)(m:Option ME):Prop:=PO X e (tMO X.K cl m)
def PO.wk{e:Option Expr}{t t':TO}(h:PO X e t)(w:∀σ H Q,t' σ H Q->t σ H Q):PO X e t':=λpins s σ H Q I q=>h pins s σ H Q I (w σ H Q q)
def zm9:SO X cl none none:=PO.wk znl λσ H Q q0=>by
 obtain⟨μ,h,ρ,o,h',R,er,e,k⟩:=q0;cases e;exact k μ H .refl R
def zm1(ha:SE X cl a ma):SO X cl (some a) (some ma):=PO.wk (zmQ ha) λσ H Q q0=>by
 obtain⟨μ,h,ρ,o,h',R,er,e,k⟩:=q0;obtain⟨x,h1,e1,e⟩:=u0 e;split at e
 .rename_i i
  cases e;exact⟨μ,h,ρ,_,_,R,er,e1,λμ1 H1 v E1 R1 r=>⟨i,r.int_of,k μ1 H1 E1 R1⟩⟩
 .cases e
def zms{pins:List (Addr×Obj)}{s:Shared}{σ:L2.St}{H:Hp}{a:Addr}{v vl vu:Value}{lo hi:Option Int}{sl:Addr}{Q:VK}{xs:List V}(I:Inv X pins σ H s)(rx:RelV (.ref a) v)(hs:s.heap.IsSliceOf sl vl vu .none)(pl:IsPart vl lo)(pu:IsPart vu hi)
  (hx:SqT X.K H a xs) (q1:cutV xs lo hi=xs->Q (.ref a) H) (q2:∀p,H p=none->Q (.ref p) (upd H p (.tup (cutV xs lo hi)))) :
  ∃T id,typeLookup (.type T) "__getitem__" = pure (some (.builtin id))/\s.TypeIs v T/\wpAny (model X.prog X.w) X.A (getItem v (.ref sl)) (EP X pins σ Q) X.xe s:=by
 by_cases hw:HT.sIx xs.length 0 lo=0/\HT.sIx xs.length xs.length hi=xs.length
 .cases rx
  obtain⟨its,r,ht,hz⟩:=I.tuple hx;have hlen:its.toArray.size=xs.length:=by rw[zM]; exact r.length.symm
  refine⟨"tuple",_,jx.lookup,ht.typeIs,?_⟩;refine zcN ht hs pl pu (by rw[hlen]; exact hw) ⟨.ref a,H,I,rfl,q1 ?_⟩;unfold cutV;rw[hw.1,hw.2];simp
 .exact zoh pins s σ H _ v vl vu lo hi sl Q I rx hs pl pu ⟨a,xs,rfl,hx,hw,q2⟩
def zqB{lo hi:Option Expr}{ml mh:Option ME}(ha:SE X cl a ma)(hl:SO X cl lo ml)(hh:SO X cl hi mh):SE X cl (.Subscript a (.Slice lo hi none p2) pos) (eSl ma ml mh):=by
 have hr:SlR X (λx lo hi H Q=>∃μ h wx w h',HR X.K cl μ H h/\RW X.K μ H wx x/\slW wx lo hi h=some (w,h')/\KQ X.K cl μ H h' w Q):=by
  rintro pins s σ H x v vl vu lo hi sl Q I rx hs pl pu ⟨μ,h,wx,w,h',R,ax,e,k⟩;unfold slW at e;split at e
  .rename_i l
   cases e;obtain⟨a,vs,rfl,sa,ra⟩:=ax.tup_of;refine zms I rx hs pl pu sa (λz=>k.pure R (.tup sa ?_)) λp hp=>k.tup R (ra.cutW lo hi) hp
   have q:=ra.cutW lo hi;rw[z] at q;exact q
  .rename_i z
   split at e
   .rename_i hl
    cases e;cases ax.str_of;obtain⟨tk,rfl⟩:=rx;refine⟨"str",_,F.slot_str_getitem.lookup,typeIs_str _ _ _,?_⟩;obtain⟨l,el⟩:∃l:Option (Int×Tok),vl=partValue l/\lo=l.map (·.1):=by
     cases pl with
     | none=>exact⟨none,rfl,rfl⟩
     | int i t=>exact⟨some (i,t),rfl,rfl⟩
    obtain⟨u,eu⟩:∃l:Option (Int×Tok),vu=partValue l/\hi=l.map (·.1):=by
     cases pu with
     | none=>exact⟨none,rfl,rfl⟩
     | int i t=>exact⟨some (i,t),rfl,rfl⟩
    obtain⟨rfl,rfl⟩:=el;obtain⟨rfl,rfl⟩:=eu;exact wpAny_getItem_str_slice (l:=l) (u:=u) (st:=none) hs rfl (post_val_or_str ⟨zF (Txt.slice_le z _ _) (zF hl zaU),λt' k'=>⟨.str _,H,I.tok k',⟨t',rfl⟩,k.pure R (.str _)⟩⟩)
   .cases e
  .split at e
   .rename_i l el
    cases e;obtain⟨a,vs,rfl,sa,ra⟩:=zaJ R ax el;exact zhn pins s σ H _ v vl vu lo hi sl Q I rx hs pl pu ⟨a,vs,rfl,sa,λp hp=>k.fls R (ra.cutW lo hi) hp⟩
   .cases e
 refine PE.wk (zfX hr ha hl hh) λσ H Q ⟨μ,h,ρ,w,h',R,er,e,k⟩=>?_
 obtain⟨x,h1,e1,e⟩:=u0 e;obtain⟨l,h2,e2,e⟩:=u0 e;obtain⟨u,h3,e3,e⟩:=u0 e
 exact⟨μ,h,ρ,x,h1,R,er,e1,λμ1 H1 vx E1 R1 rx=>⟨μ1,h1,ρ,l,h2,R1,er.ext R E1,e2,λμ2 H2 E2 R2=>⟨μ2,h2,ρ,u,h3,R2,(er.ext R E1).ext R1 E2,e3,λμ3 H3 E3 R3=>
  ⟨μ3,h3,x,w,h',R3,(rx.ext R1 E2).ext R2 E3,e,k.ext (E1.trans (E2.trans E3))⟩⟩⟩⟩
end
def zdJ:fillsNumberSlot (.type "tuple") "mul" = pure false:=
 PySem.fillsNumberSlot_seq (id:="tuple.__mul__") (r:=some (.builtin "tuple.__rmul__")) v6.lookup ⋯ F.slot_tuple_rmul.lookup ⋯
theorem zf2:seqRepeat? (.type "tuple")=pure (some (.builtin "tuple.__mul__")):=by
 unfold seqRepeat?;rw[PySem.seqSlot_of (T:="tuple") (name:="__mul__") (id:="tuple.__mul__") v6.lookup ⋯,PySem.seqSlot_of (T:="tuple") (name:="__rmul__") (id:="tuple.__rmul__") F.slot_tuple_rmul.lookup ⋯];rfl
def zb9(a:Int)(t:Tok)(l:Addr)(items:Array Value)(n:Nat)(dd:Option Addr)(sl:Array (Option Value)) :
  Meets (Builtin.«int.__rmul__» ⟨[.int a t,.ref l],[]⟩) (λ_ R s=>s.heap.get? l=some { cls:=.type "tuple",dict:=dd,data:=.seq items n,slots:=sl }/\R (.ok (.ret Value.notImplemented)) s):=
 .of_wp λprog w A R s h=>by obtain⟨hp,g,d,tk,os⟩:=s; obtain⟨hl,h⟩:=h; wp_walk; exact⟨_,rfl,h⟩
def zii(l:Addr)(items:Array Value)(n:Nat)(dd:Option Addr)(sl:Array (Option Value))(x:Int)(u:Tok)(hf:¬((decide (x < -2 ^ 63)||decide (x>=2 ^ 63))=true))(hc:(items.isEmpty||x==1)=true) :
  Meets (Builtin.«tuple.__mul__» ⟨[.ref l,.int x u],[]⟩) (λ_ R s=>s.heap.get? l=some { cls:=.type "tuple",dict:=dd,data:=.seq items n,slots:=sl }/\R (.ok (.ret (.ref l))) s):=
 .of_wp λprog w A R s h=>by
  obtain⟨hp,g,d,tk,os⟩:=s; obtain⟨hl,h⟩:=h;have f1:=v7;have ht:IsTup ({ heap:=hp,gens:=g,drawn:=d,toks:=tk,os:=os }:Shared).heap l items:=⟨_,hl,rfl,n,rfl⟩;wp_walk using wpAny_loadPart' hl
  rw[zZ hf];try dsimp only
  refine za (yV ht ?_);try dsimp only
  rw[zR hc];unfold Builtin.Tuple.tupleIsExact;refine za (za (qp ht.typeIs (zg ?_)));rw[zR (by decide)];exact za (qt (zg ⟨_,rfl,h⟩))
def ziF (l : Addr) (items : Array Value) (n : Nat) (dd : Option Addr) (sl : Array (Option Value)) (x : Int) (u : Tok) (hf : ¬ ((decide (x < -2 ^ 63) || decide (x >= 2 ^ 63)) = true)) (hc : ¬ (items.isEmpty || x == 1) = true) (h0 : ¬ (decide (x <= 0) || items.isEmpty) = true)
   (h1 : ¬ (items.size * x > (2 ^ 63 - 1) / 8)) (h2 : ¬ Builtin.Tuple.tupleTooMany (items.size * x) = true) (hz : sizeOk (Data.seq (List.foldl (λx1 x2 => x1 ++ x2) #[] (List.replicate x.toNat items)))) :
    Meets (Builtin.«tuple.__mul__» ⟨[.ref l, .int x u], []⟩) (λ_ R s => s.heap.get? l = some { cls := .type "tuple", dict := dd, data := .seq items n, slots := sl } /\
      R (.ok (.ret (.ref s.heap.objs.size))) { s with heap := s.heap.push { cls := Value.type "tuple", data := Data.seq (List.foldl (λx1 x2 => x1 ++ x2) #[] (List.replicate x.toNat items)) } }) :=
  .of_wp λprog w A R s h => by
    obtain ⟨hp, g, d, tk, os⟩ := s; obtain ⟨hl, h⟩ := h;have f1 := v7;have ht : IsTup ({ heap := hp, gens := g, drawn := d, toks := tk, os := os } : Shared).heap l items := ⟨_, hl, rfl, n, rfl⟩;wp_walk using wpAny_loadPart' hl
    rw [zZ hf];try dsimp only
    refine za (yV ht ?_);try dsimp only
    rw [zZ hc, zZ h0, zZ h1, zZ h2];refine za (m := Builtin.Tuple.tupleExact _) (kO (zg ⟨_, rfl, h⟩) hz)
def ziD(l:Addr)(items:Array Value)(n:Nat)(dd:Option Addr)(sl:Array (Option Value))(x:Int)(u:Tok)(hf:¬((decide (x < -2 ^ 63)||decide (x>=2 ^ 63))=true))(hc:¬(items.isEmpty||x==1)=true)(h0:(decide (x<=0)||items.isEmpty)=true) :
  Meets (Builtin.«tuple.__mul__» ⟨[.ref l,.int x u],[]⟩) (λ_ R s=>s.heap.get? l=some { cls:=.type "tuple",dict:=dd,data:=.seq items n,slots:=sl } /\
   R (.ok (.ret (.ref s.heap.objs.size))) { s with heap:=s.heap.push { cls:=Value.type "tuple",data:=Data.seq #[] } }):=
 .of_wp λprog w A R s h=>by
  obtain⟨hp,g,d,tk,os⟩:=s; obtain⟨hl,h⟩:=h;have f1:=v7;have ht:IsTup ({ heap:=hp,gens:=g,drawn:=d,toks:=tk,os:=os }:Shared).heap l items:=⟨_,hl,rfl,n,rfl⟩;wp_walk using wpAny_loadPart' hl
  rw[zZ hf];try dsimp only
  refine za (yV ht ?_);try dsimp only
  rw[zZ hc,zR h0];refine za (m:=Builtin.Tuple.tupleExact _) (kO (zg ⟨_,rfl,h⟩) (by show 0<=sizeLine; decide))
section
variable{X:Cx}{cl:Cl}
def zmx{pins:List (Addr×Obj)}{s:Shared}{σ:L2.St}{H:Hp}{a:Addr}{k:Int}{v u:Value}{Q:VK}{xs:List V}(I:Inv X pins σ H s)(rx:RelV (.ref a) v)(ry:RelV (.int k) u)(hx:SqT X.K H a xs)(h1:0<=k)(h2:k<=1000)(hz:xs.length<=1000)
  (q1:(List.replicate k.toNat xs).flatten=xs->Q (.ref a) H) (q2:∀p,H p=none->Q (.ref p) (upd H p (.tup (List.replicate k.toNat xs).flatten))):wpAny (model X.prog X.w) X.A (binaryOp .Mult v u) (EP X pins σ Q) X.xe s:=by
 cases rx;obtain⟨t,rfl⟩:=ry;obtain⟨its,r,ht,_⟩:=I.tuple hx;have hlen:=r.length;obtain⟨⟨cls,dd,data,sl⟩,e,hc,n,hd⟩:=id ht;simp only at hc hd;subst hc hd;have hsl:(sizeLine:Nat)=16777216:=jD;have hnew:List.foldl (λx1 x2=>x1++x2) #[] (List.replicate k.toNat its.toArray)=(List.replicate k.toNat its).flatten.toArray:=by
  have:=foldl_rep its k.toNat [];rw[jh] at this;exact this
 have hrl:k.toNat*its.length<=1000*1000:=Nat.mul_le_mul ∅ ∅;have hf:¬((decide (k < -2 ^ 63)||decide (k>=2 ^ 63))=true):=by
  simp only[Bool.or_eq_true,vH]; omega
 have road:∀{R:Value->Shared->Prop},wpAny (model X.prog X.w) X.A (call (.builtin "tuple.__mul__") [.ref a,.int k t]) R X.xe s->wpAny (model X.prog X.w) X.A (binaryOp .Mult (.ref a) (.int k t)) R X.xe s:=λhcall=>
  uN (T:="tuple") (U:="int") (by decide) ⟨_,e,rfl⟩ (λs'=>xV s' k t) zdJ F.fills_int_mul yG zf2 F.slot_int_index.lookup
   (vQ yG (xV s k t) F.entry_int_rmul (F.args_int_rmul_2 _ _) (zb9 k t a its.toArray n dd sl) ⟨e,rfl,⟨_,e,rfl⟩,hcall⟩)
 refine road ?_;by_cases c1:(its.toArray.isEmpty||k==1)=true
 .refine vQ v6 ⟨_,e,rfl⟩ xY (xP _ _) (zii a its.toArray n dd sl k t hf c1) ⟨e,.ref a,H,I,rfl,q1 ?_⟩
  rcases uR.mp c1 with c | c
  .have:its=[]:=by simpa using c
   subst this;cases r;simp
  .have:k=1:=by simpa using c
   subst this;simp
 .by_cases c2:(decide (k<=0)||its.toArray.isEmpty)=true
  .refine vQ v6 ⟨_,e,rfl⟩ xY (xP _ _) (ziD a its.toArray n dd sl k t hf c1 c2) ⟨e,?_⟩
   have hk:k=0:=by
    have ne:its.toArray.isEmpty=false:=by
     cases z:its.toArray.isEmpty with
     | false=>rfl
     | true=>exact absurd (by rw[z]; rfl) c1
    rw[ne,yH] at c2;have:=jW c2;omega
   subst hk;exact⟨.ref _,_,I.laid (t':=s.toks) (o:=.tup (List.replicate (0:Int).toNat xs).flatten) (λb ob q=>zc _ q) (zu _) ⟨by simp,[],by simpa using Paired.nil,IsTup.new _ _,.new _ _⟩,rfl,q2 _ I.fresh⟩
  .refine vQ v6 ⟨_,e,rfl⟩ xY (xP _ _) (ziF a its.toArray n dd sl k t hf c1 c2 ?_ ?_ ?_) ⟨e,?_⟩
   .rw[zM]
    have:(its.length:Int)*k<=1000*1000:=by
     have:(its.length:Int)*k=((k.toNat*its.length:Nat):Int):=by
      rw[yX]; push_cast; rw[uQ h1]
     omega
    omega
   .rw[zM]
    unfold Builtin.Tuple.tupleTooMany;have:(its.length:Int)*k<=1000*1000:=by
     have:(its.length:Int)*k=((k.toNat*its.length:Nat):Int):=by
      rw[yX]; push_cast; rw[uQ h1]
     omega
    simp only[vH];omega
   .rw[hnew]
    show((List.replicate k.toNat its).flatten.toArray).size<=sizeLine
    rw[zM,len_rep];omega
   .rw[hnew]
    exact⟨.ref _,_,I.laid (t':=s.toks) (o:=.tup (List.replicate k.toNat xs).flatten) (λb ob q=>zc _ q) (zu _) ⟨by rw[len_rep,hlen]; omega,_,r.rep k.toNat,IsTup.new _ _,.new _ _⟩,rfl,q2 _ I.fresh⟩
def zmm{pins:List (Addr×Obj)}{s:Shared}{σ:L2.St}{H:Hp}{a:Addr}{k:Int}{v u:Value}{Q:VK}{xs:List V}(I:Inv X pins σ H s)(rx:RelV (.ref a) v)(ry:RelV (.int k) u)(hx:SqL X.K H a xs)(h1:0<=k)(h2:k<=1000)(hz:xs.length<=1000)
  (q2:∀p,H p=none->Q (.ref p) (upd H p (.lst (List.replicate k.toNat xs).flatten))):wpAny (model X.prog X.w) X.A (binaryOp .Mult v u) (EP X pins σ Q) X.xe s:=by
 cases rx;obtain⟨t,rfl⟩:=ry;obtain⟨its,r,⟨o,n,e,hc,hd,hda⟩,_⟩:=I.list hx;obtain⟨cls,dd,data,sl⟩:=o;simp only at hc hd hda;subst hc hda;have hlen:=r.length;have hsl:(sizeLine:Nat)=16777216:=jD;have hrl:its.length*k.toNat<=1000*1000:=Nat.mul_le_mul ∅ ∅;have hfit:¬(!Builtin.List.listFitsIndex k)=true:=by simp[Builtin.List.listFitsIndex]; omega
 have hcap:¬its.toArray.size*k.toNat>(2 ^ 63-1)/8:=by rw[zM]; omega
 have hlong:¬Builtin.List.listTooLong (its.toArray.size*k.toNat)=true:=by rw[zM]; simp[Builtin.List.listTooLong,sizeLine]; omega
 have hnew:List.foldl (λx1 x2=>x1++x2) #[] (List.replicate (if its.toArray.isEmpty=true then 0 else k.toNat) its.toArray)=(List.replicate k.toNat its).flatten.toArray:=by
  have f0:∀m:Nat,List.foldl (λx1 x2=>x1++x2) #[] (List.replicate m its.toArray)=(List.replicate m its).flatten.toArray:=λm=>by
   have z:=foldl_rep its m [];rw[jh] at z;exact z
  rw[f0];cases its with
  | nil=>simp
  | cons c r'=>rw[zZ (by simp)]
 refine uN (T:="list") (U:="int") (by decide) ⟨_,e,rfl⟩ (λs'=>xV s' k t) noFill_list_mul F.fills_int_mul yG repeat_list F.slot_int_index.lookup (vQ yG (xV s k t) F.entry_int_rmul (F.args_int_rmul_2 _ _) (lm_int_rmul_list_any k t a its.toArray n dd sl) ⟨e,rfl,⟨_,e,rfl⟩,vQ F.slot_list_mul ⟨_,e,rfl⟩ F.entry_list_mul (F.args_list_mul_2 _ _) (lm_list_mul_any a its.toArray n dd sl k t hfit hcap hlong) ⟨e,?_⟩⟩);rw[hnew];exact⟨.ref _,_,I.lnew (t':=s.toks) (r.rep k.toNat) (by rw[len_rep,hlen,yX]; omega),rfl,q2 _ I.fresh⟩
def zmA:OpR X (binaryOp .Mult) (rM X.K cl mulW):=by
 rintro pins s σ H x y v u Q I rx ry ⟨μ,h,wx,wy,w,h',R,ax,ay,e,k⟩;unfold mulW at e;split at e
 .rename_i i j
  split at e
  .rename_i hj
   cases e;refine znZ pins s σ H x y v u Q I rx ry ⟨_,_,ax.int_of,ay.int_of,?_,k.pure R (.int _)⟩;unfold small at hj;rw[Bool.or_eq_true,vH,vH] at hj;exact hj
  .cases e
 .rename_i l j
  split at e
  .rename_i hj
   cases e;obtain⟨a,vs,rfl,sa,ra⟩:=ax.tup_of;cases ay.int_of;refine zmx I rx ry sa hj.1 hj.2.1 (by rw[<-ra.length]; exact hj.2.2) (λz=>k.pure R (.tup sa ?_)) λp hp=>k.tup R (ra.rep _) hp
   have q:=ra.rep j.toNat;rw[z] at q;exact q
  .cases e
 .rename_i l j
  split at e
  .rename_i hj
   cases e;obtain⟨a,vs,rfl,sa,ra⟩:=zaJ R ax (show getL _ (.fls l)=some l from rfl);cases ay.int_of;exact zmm I rx ry sa hj.1 hj.2.1 (by rw[<-ra.length]; exact hj.2.2) λp hp=>k.fls R (ra.rep _) hp
  .cases e
 .cases e
end
noncomputable def mapO{α β:Type}(f:α->Option β):List α->Option (List β)
 | []=>some []
 | x::r=>match f x,mapO f r with
  | some y,some ys=>some (y::ys)
  | _,_=>none
noncomputable def zad:Nat->MH->W->Option PyData
 | 0,_,_=>none
 | _+1,_,.non=>some .none
 | _+1,_,.bl b=>some (.bool b)
 | _+1,_,.int i=>some (.int i)
 | _+1,_,.str x=>if PyData.strOk x then some (.str x) else none
 | n+1,h,.tup l=>(mapO (zad n h) l).map .tuple
 | n+1,h,.fls l=>(mapO (zad n h) l).map .list
 | n+1,h,.ref k=>match h[k]? with
  | some (.lst l)=>(mapO (zad n h) l).map .list
  | _=>none
 | _+1,_,.fdc _=>none
 | _+1,_,.fn _=>none
section
variable{X:Cx}{cl:Cl}{pins:List (Addr×Obj)}{σ:L2.St}{μ:List Addr}{H:Hp}{s:Shared}{h:MH}
def za3(I:Inv X pins σ H s)(R:HR X.K cl μ H h):∀(n:Nat) {w:W} {x:V} {v:Value} {d:PyData},RW X.K μ H w x->RelV x v->zad n h w=some d->(∃as,Reads s.heap v d as)/\d.canLay0=true/\d.depth<=n:=by
 intro n;induction n with
 | zero=>intro w x v d _ _ e; cases e
 | succ n ih=>
  have all:∀{l:List W} {vs:List V} {us:List Value} {ds:List PyData},RWs X.K μ H l vs->Vals vs us->mapO (zad n h) l=some ds->(∃as,ReadsAll s.heap us ds as)/\PyData.canLayAll0 ds=true/\PyData.depthAll ds<=n:=by
   intro l;induction l with
   | nil=>intro vs us ds r t e; cases r; cases t; cases e; exact⟨⟨_,.nil⟩,by unfold PyData.canLayAll0; rfl,by unfold PyData.depthAll; omega⟩
   | cons w l ihl=>
    intro vs us ds r t e;cases r with | cons r rs=>cases t with | cons t ts=>
    unfold mapO at e;split at e
    .rename_i y ys e1 e2
     cases e;obtain⟨⟨as,h1⟩,h2,h3⟩:=ih r t e1;obtain⟨⟨bs,g1⟩,g2,g3⟩:=ihl rs ts e2;refine⟨⟨_,.cons h1 g1⟩,by unfold PyData.canLayAll0; rw[h2,g2]; rfl,?_⟩;unfold PyData.depthAll;omega
    .cases e
  have lists:∀{l:List W} {a:Addr} {vs:List V} {d:PyData},SqL X.K H a vs->RWs X.K μ H l vs->(mapO (zad n h) l).map PyData.list=some d->(∃as,Reads s.heap (.ref a) d as)/\d.canLay0=true/\d.depth<=n+1:=by
   intro l a vs d sq rs e;cases e1:mapO (zad n h) l with
   | none=>rw[e1] at e; cases e
   | some ds=>
    rw[e1] at e;cases e;obtain⟨its,rv,⟨o,m,h1,h2,h3,h4⟩,_⟩:=I.list sq;obtain⟨⟨as,g1⟩,g2,g3⟩:=all rs rv e1;exact⟨⟨_,.list h1 h2 h4 (by simpa using g1)⟩,by unfold PyData.canLay0; exact g2,by unfold PyData.depth; omega⟩
  intro w x v d r t e;cases r with
  | non=>cases e; cases t; exact⟨⟨_,.none⟩,by unfold PyData.canLay0; rfl,by unfold PyData.depth; omega⟩
  | bl b=>cases e; cases t; exact⟨⟨_,.bool b⟩,by unfold PyData.canLay0; rfl,by unfold PyData.depth; omega⟩
  | int i=>cases e; obtain⟨tk,rfl⟩:=t; exact⟨⟨_,.int i tk⟩,by unfold PyData.canLay0; rfl,by unfold PyData.depth; omega⟩
  | str z=>
   simp only[zad] at e;split at e
   .rename_i ok
    cases e; obtain⟨tk,rfl⟩:=t; exact⟨⟨_,.str z tk⟩,by unfold PyData.canLay0; exact ok,by unfold PyData.depth; omega⟩
   .cases e
  | @tup a vs l sq rs=>
   simp only[zad] at e;cases t;cases e1:mapO (zad n h) l with
   | none=>rw[e1] at e; cases e
   | some ds=>
    rw[e1] at e;cases e;obtain⟨its,rv,⟨o,h1,h2,m,h4⟩,_⟩:=I.tuple sq;obtain⟨⟨as,g1⟩,g2,g3⟩:=all rs rv e1;exact⟨⟨_,.tuple h1 h2 h4 (by simpa using g1)⟩,by unfold PyData.canLay0; exact g2,by unfold PyData.depth; omega⟩
  | @fls a vs l sq rs=>cases t; simp only[zad] at e; exact lists sq.sq rs e
  | fdc=>cases e
  | fn=>cases e
  | @ref k a hk=>
   cases t;simp only[zad] at e;split at e
   .rename_i l ho
    obtain⟨vs,hv,rs⟩:=R.ob k a _ hk ho;exact lists (SqL.of hv) rs e
   .cases e
end
section
variable{X:Cx}{cl:Cl}{pins:List (Addr×Obj)}{σ:L2.St}{μ:List Addr}{H:Hp}{s:Shared}{h:MH}
def zg2(I:Inv X pins σ H s)(R:HR X.K cl μ H h)(n:Nat):∀{l:List W} {vs:List V} {us:List Value} {ds:List PyData},RWs X.K μ H l vs->Vals vs us->mapO (zad n h) l=some ds->(∃as,ReadsAll s.heap us ds as)/\PyData.canLayAll0 ds=true:=by
 intro l;induction l with
 | nil=>intro vs us ds r t e; cases r; cases t; cases e; exact⟨⟨_,.nil⟩,by unfold PyData.canLayAll0; rfl⟩
 | cons w l ihl=>
  intro vs us ds r t e;cases r with | cons r rs=>cases t with | cons t ts=>
  unfold mapO at e;split at e
  .rename_i y ys e1 e2
   cases e;obtain⟨⟨as,h1⟩,h2,h3⟩:=za3 I R n r t e1;obtain⟨⟨bs,g1⟩,g2⟩:=ihl rs ts e2;exact⟨⟨_,.cons h1 g1⟩,by unfold PyData.canLayAll0; rw[h2,g2]; rfl⟩
  .cases e
end
noncomputable def deep:Nat:=60
noncomputable def eqF(x y:W):Option Bool:=match x,y with
 | .str a,.str b=>some (a==b)
 | .int a,.int b=>some (a==b)
 | .bl a,.bl b=>some (a==b)
 | _,_=>none
noncomputable def eqB(h:MH)(x y:W):Option Bool:=match eqF x y with
 | some b=>some b
 | none=>match zad deep h x,zad deep h y with
  | some d,some e=>some (PyData.eqv d e)
  | _,_=>none
noncomputable def eqW(neg:Bool)(x y:W):M W:=λh=>match eqB h x y with
 | some b=>some (.bl (if neg then !b else b),h)
 | none=>none
noncomputable def zaD(h:MH):W->Option (List W)
 | .tup l=>some l
 | w=>getL h w
noncomputable def zqo(j i:Str):Bool:=!(Builtin.Str.occurrences j i 0 j.length 1).isEmpty
noncomputable def inB(h:MH)(x y:W):Option Bool:=match x,y with
 | .str i,.str j=>some (zqo j i)
 | x,y=>match zaD h y with
  | some l=>match zad deep h x,mapO (zad deep h) l with
   | some d,some ds=>some (ds.any λe=>PyData.eqv e d)
   | _,_=>none
  | none=>none
noncomputable def inW(neg:Bool)(x y:W):M W:=λh=>match inB h x y with
 | some b=>some (.bl (if neg then !b else b),h)
 | none=>none
section
variable{X:Cx}{cl:Cl}
def zkq(hu:X.A.units+64<cLine){pins:List (Addr×Obj)}{s:Shared}{σ:L2.St}{H:Hp}{x y:V}{v u:Value}{Q:VK}{μ:List Addr}{h:MH}{wx wy:W}{b:Bool}(I:Inv X pins σ H s)(rx:RelV x v)(ry:RelV y u)
  (R:HR X.K cl μ H h) (ax:RW X.K μ H wx x) (ay:RW X.K μ H wy y) (e:eqB h wx wy=some b) :
  (Q (.bl b) H->wpAny (model X.prog X.w) X.A (compareOp .Eq v u) (EP X pins σ Q) X.xe s)/\(Q (.bl (!b)) H->wpAny (model X.prog X.w) X.A (compareOp .NotEq v u) (EP X pins σ Q) X.xe s):=by
 unfold eqB at e;split at e
 .rename_i b' e'
  cases e;unfold eqF at e';split at e'
  .rename_i i j
   cases e';cases ax.str_of;cases ay.str_of;exact⟨λq=>zh6 pins s σ H _ _ v u Q I rx ry ⟨rfl,by rw[zdh]; exact q⟩,λq=>zil pins s σ H _ _ v u Q I rx ry ⟨rfl,by rw[zdh]; exact q⟩⟩
  .rename_i i j
   cases e';cases ax.int_of;cases ay.int_of;exact⟨λq=>zh6 pins s σ H _ _ v u Q I rx ry ⟨rfl,by rw[zdb]; exact q⟩,λq=>zil pins s σ H _ _ v u Q I rx ry ⟨rfl,by rw[zdb]; exact q⟩⟩
  .rename_i i j
   cases e';cases ax.bl_of;cases ay.bl_of;exact⟨λq=>zh6 pins s σ H _ _ v u Q I rx ry ⟨rfl,by rw[zek]; exact q⟩,λq=>zil pins s σ H _ _ v u Q I rx ry ⟨rfl,by rw[zek]; exact q⟩⟩
  .cases e'
 .split at e
  .rename_i d d' e1 e2
   cases e;obtain⟨⟨as,r1⟩,c1,d1⟩:=za3 I R deep ax rx e1;obtain⟨⟨bs,r2⟩,c2,d2⟩:=za3 I R deep ay ry e2;have hr:X.A.units+min d.depth d'.depth<cLine:=by
    have:min d.depth d'.depth<=d.depth:=Nat.min_le_left _ _;unfold deep at d1;omega
   exact⟨λq=>SeqAt.compareEq_reads r1 r2 c1 c2 hr ⟨.bl _,H,I,rfl,q⟩,λq=>SeqAt.compareNe_reads r1 r2 c1 c2 hr ⟨.bl _,H,I,rfl,q⟩⟩
  .cases e
def zoL(hu:X.A.units+64<cLine):OpR X (compareOp .Eq) (rM X.K cl (eqW false)):=by
 rintro pins s σ H x y v u Q I rx ry ⟨μ,h,wx,wy,w,h',R,ax,ay,e,k⟩;unfold eqW at e;split at e
 .rename_i b eb
  cases e;exact(zkq hu I rx ry R ax ay eb).1 (k.pure R (.bl _))
 .cases e
def zpK(hu:X.A.units+64<cLine):OpR X (compareOp .NotEq) (rM X.K cl (eqW true)):=by
 rintro pins s σ H x y v u Q I rx ry ⟨μ,h,wx,wy,w,h',R,ax,ay,e,k⟩;unfold eqW at e;split at e
 .rename_i b eb
  cases e;exact(zkq hu I rx ry R ax ay eb).2 (k.pure R (.bl _))
 .cases e
def zbc{K:PySem.W.Frag}{μ:List Addr}{H:Hp}{h:MH}{w:W}{v:V}{l:List W}(R:HR K cl μ H h)(r:RW K μ H w v)(e:zaD h w=some l):∃a vs,v=.ref a/\(SqL K H a vs\/SqT K H a vs)/\RWs K μ H l vs:=by
 unfold zaD at e;split at e
 .cases e
  obtain⟨a,vs,rfl,sa,ra⟩:=r.tup_of;exact⟨a,vs,rfl,.inr sa,ra⟩
 .obtain⟨a,vs,rfl,sa,ra⟩:=zaJ R r e
  exact⟨a,vs,rfl,.inl sa,ra⟩
def zkp(hu:X.A.units+64<cLine){pins:List (Addr×Obj)}{s:Shared}{σ:L2.St}{H:Hp}{x y:V}{v u:Value}{Q:VK}{μ:List Addr}{h:MH}{wx wy:W}{b:Bool}(I:Inv X pins σ H s)(rx:RelV x v)(ry:RelV y u)
  (R:HR X.K cl μ H h) (ax:RW X.K μ H wx x) (ay:RW X.K μ H wy y) (e:inB h wx wy=some b) :
  (Q (.bl b) H->wpAny (model X.prog X.w) X.A (compareOp .In v u) (EP X pins σ Q) X.xe s)/\(Q (.bl (!b)) H->wpAny (model X.prog X.w) X.A (compareOp .NotIn v u) (EP X pins σ Q) X.xe s):=by
 unfold inB at e;split at e
 .rename_i i j
  cases e;exact⟨λq=>zjx pins s σ H x y v u Q I rx ry ⟨i,j,ax.str_of,ay.str_of,q⟩,λq=>zgF pins s σ H x y v u Q I rx ry ⟨i,j,ax.str_of,ay.str_of,q⟩⟩
 .split at e
  .rename_i l el
   split at e
   .rename_i d ds e1 e2
    cases e;obtain⟨a,vs,rfl,sa,ra⟩:=zbc R ay el;cases ry;obtain⟨⟨as,r1⟩,c1,d1⟩:=za3 I R deep ax rx e1;have big:zad (deep+1) h (.tup l)=some (.tuple ds):=by simp only[zad]; rw[e2]; rfl
    have big2:zad (deep+1) h (.fls l)=some (.list ds):=by simp only[zad]; rw[e2]; rfl
    have hr:X.A.units+1+min (PyData.depthAll ds) d.depth<cLine:=by
     have:min (PyData.depthAll ds) d.depth<=d.depth:=Nat.min_le_right _ _;unfold deep at d1;omega
    rcases sa with sa | sa
    .obtain⟨its,rv,⟨o,m,h1,h2,h3,h4⟩,_⟩:=I.list sa
     obtain⟨⟨as2,g1⟩,c2⟩:=zg2 I R deep ra rv e2;have r2:Reads s.heap (.ref a) (.list ds) _:=.list h1 h2 h4 (by simpa using g1);exact⟨λq=>SeqAt.in_list_reads r2 r1 c2 c1 hr ⟨.bl _,H,I,rfl,q⟩,λq=>SeqAt.notIn_list_reads r2 r1 c2 c1 hr ⟨.bl _,H,I,rfl,q⟩⟩
    .obtain⟨⟨bs,r2⟩,c2,_⟩:=za3 I R (deep+1) (.tup sa ra) rfl big
     have c2':PyData.canLayAll0 ds=true:=by unfold PyData.canLay0 at c2; exact c2
     exact⟨λq=>SeqAt.in_tuple_reads r2 r1 c2' c1 hr ⟨.bl _,H,I,rfl,q⟩,λq=>SeqAt.notIn_tuple_reads r2 r1 c2' c1 hr ⟨.bl _,H,I,rfl,q⟩⟩
   .cases e
  .cases e
def zob(hu:X.A.units+64<cLine):OpR X (compareOp .In) (rM X.K cl (inW false)):=by
 rintro pins s σ H x y v u Q I rx ry ⟨μ,h,wx,wy,w,h',R,ax,ay,e,k⟩;unfold inW at e;split at e
 .rename_i b eb
  cases e;exact(zkp hu I rx ry R ax ay eb).1 (k.pure R (.bl _))
 .cases e
def zkc(hu:X.A.units+64<cLine):OpR X (compareOp .NotIn) (rM X.K cl (inW true)):=by
 rintro pins s σ H x y v u Q I rx ry ⟨μ,h,wx,wy,w,h',R,ax,ay,e,k⟩;unfold inW at e;split at e
 .rename_i b eb
  cases e;exact(zkp hu I rx ry R ax ay eb).2 (k.pure R (.bl _))
 .cases e
end
inductive Ty where
 | int | str | bool | tuple | list | dict
 deriving DecidableEq
noncomputable def Ty.name:Ty->String
 | .int=>"int" | .str=>"str" | .bool=>"bool" | .tuple=>"tuple" | .list=>"list" | .dict=>"dict"
noncomputable def tyW(h:MH):W->Option Ty
 | .bl _=>some .bool
 | .int _=>some .int
 | .str _=>some .str
 | .tup _=>some .tuple
 | .fls _=>some .list
 | .ref n=>match h[n]? with
  | some (.lst _)=>some .list
  | some (.dic _)=>some .dict
  | _=>none
 | .fdc _=>some .dict
 | .fn _=>none
 | .non=>none
noncomputable def isTy(T:Ty)(x:W)(h:MH):Option Bool:=match x with
 | .non=>some false
 | x=>match tyW h x with
  | some t=>some (decide (t=T)||(decide (t=.bool)&&decide (T=.int)))
  | none=>none
noncomputable def isW(T:Ty)(x:W):M W:=λh=>match isTy T x h with
 | some b=>some (.bl b,h)
 | none=>none
def zjU(K:PySem.W.Frag):∀(t T:Ty),PySem.W.kitOne K (.type t.name) (.type T.name)=some (decide (t=T)||(decide (t=.bool)&&decide (T=.int))):=by
 intro t T;cases t<;>cases T<;>kernel_rfl
def zlE(K:PySem.W.Frag):∀(T:Ty),PySem.W.kitOne K (.type "NoneType") (.type T.name)=some false:=by
 intro T;cases T<;>kernel_rfl
section
variable{X:Cx}{cl:Cl}{a:Expr}{ma:ME}{pos p p2:Pos}
def zjr(T:Ty):zar X (.builtin "isinstance") (λxs H Q=>∃x,xs=[x,.ty T.name]/\rM1 X.K cl (isW T) x H Q):=by
 rintro pins s σ H xs us Q I rs ⟨x,rfl,μ,h,wx,w,h',R,ax,e,k⟩;obtain⟨u,u2,rfl,ru,ru2⟩:=vals2 rs;obtain rfl:u2=.type T.name:=ru2;unfold isW at e;split at e
 .rename_i b eb
  cases e;have q:Q (.bl b) H:=k.pure R (.bl _);have fin:∀tk,EP X pins σ Q (.bool b) { s with toks:=tk }:=λtk=>⟨.bl b,H,I.tok tk,rfl,q⟩
  have go:∀{t:Ty},tyW h wx=some t->PySem.W.kitOne X.K (.type t.name) (.type T.name)=some b:=λ{t} e1=>by
   rw[zjU];unfold isTy at eb;split at eb
   .cases e1
   .rw[e1] at eb; exact eb
  cases ax with
  | non=>
   cases eb;cases ru;exact je PySem.W.kitx_none I.kIn True.intro (zlE X.K T) (λz=>nomatch z) fin
  | bl y=>cases ru; exact je PySem.W.kitx_bool I.kIn True.intro (go (t:=.bool) rfl) (λz=>nomatch z) fin
  | int i=>obtain⟨t,rfl⟩:=ru; exact je PySem.W.kitx_int I.kIn True.intro (go (t:=.int) rfl) (λz=>nomatch z) fin
  | str y=>obtain⟨t,rfl⟩:=ru; exact je PySem.W.kitx_str I.kIn True.intro (go (t:=.str) rfl) (λz=>nomatch z) fin
  | @tup a vs l sa ra=>
   cases ru;obtain⟨its,_,⟨o,h1,h2,_⟩,_⟩:=I.tuple sa;exact je uT I.kIn ⟨o,h1,h2⟩ (go (t:=.tuple) rfl) (λz=>nomatch z) fin
  | @fls a vs l sa ra=>
   cases ru;obtain⟨its,_,⟨o,n,h1,h2,_⟩,_⟩:=I.list sa.sq;exact je wz I.kIn ⟨o,h1,h2⟩ (go (t:=.list) rfl) (λz=>nomatch z) fin
  | @fdc a l l' ws vs sa kk e1 e2 ra=>
   cases ru;have g:=go (t:=.dict) rfl;obtain⟨_,_,vs',_,dd⟩:=zee I.hok sa.1;obtain⟨o,es,ep,h1,h2,_⟩:=dd;exact je yL I.kIn ⟨o,h1,h2.1⟩ g (λz=>nomatch z) fin
  | @fn a=>
   simp only[isTy,tyW] at eb;cases eb
  | @ref n a hn=>
   cases ru;cases et:tyW h (.ref n) with
   | none=>simp only[isTy,et] at eb; cases eb
   | some t=>
    have g:=go et;simp only[tyW] at et;split at et
    .rename_i l ho
     cases et;obtain⟨vs,hv,_⟩:=R.ob n a _ hn ho;obtain⟨its,_,⟨o,n,h1,h2,_⟩,_⟩:=I.list (SqL.of hv);exact je wz I.kIn ⟨o,h1,h2⟩ g (λz=>nomatch z) fin
    .rename_i l ho
     cases et;obtain⟨l',hv,_⟩:=R.ob n a _ hn ho;exact zj6 (x:=.ref a) I rfl (.dK hv) g fin
    .cases et
 .cases e
def zo1(T:Ty){y:Str}(ha:SE X cl a ma)(hi:X.mg "isinstance" = none)(ht:X.mg y=none)(hv:bootBuiltins y=some (.type T.name))(hg:Gl X "isinstance":=by rfl)(hg2:Gl X y:=by rfl)
  (hn:y≠"__name__":=by decide) (hdb:(y==("__debug__":Str))=false:=by decide)
  (hs1:starEach [a,.Name y p2] X.env=(false,eval a X.env)::starEach [.Name y p2] X.env:=by rfl) (hs2:starEach [.Name y p2] X.env=(false,eval (.Name y p2) X.env)::starEach [] X.env:=by rfl)
  (hpl:(backTo pos (starEach [.Name y p2] X.env)).any (·.1)=false:=by rfl):SE X cl (.Call (.Name "isinstance" p) [a,.Name y p2] [] pos) (eUn (isW T) ma):=
 PE.wk (zfH (zjr (cl:=cl) T) hg hi PyProof.Rows.boot_isinstance (zeC ha (zeC (zna hg2 ht hv (show RelV (.ty T.name) (.type T.name) from rfl) hn hdb) zi7 hs2) hs1) (by decide) (by decide) hs1 hpl) λσ H Q q0=>by
  obtain⟨μ,h,ρ,w,h',R,er,e,k⟩:=q0;obtain⟨x,h1,e1,e⟩:=u0 e;exact⟨μ,h,ρ,x,h1,R,er,e1,λμ1 H1 vx E1 R1 rx=>⟨vx,rfl,μ1,h1,x,w,h',R1,rx,e,k.ext E1⟩⟩
noncomputable def intW(ws:List W):M W:=λh=>match ws with
 | [.int i]=>some (.int i,h)
 | [.bl b]=>some (.int (if b then 1 else 0),h)
 | _=>none
noncomputable def strW(ws:List W):M W:=λh=>match ws with
 | [.int i]=>if i.natAbs.log2<1920 then some (.str (toString i),h) else none
 | _=>none
noncomputable def zbv(ws:List W):M W:=λh=>match ws with
 | [.tup l]=>some (.tup l,h)
 | [w]=>match getL h w with
  | some l=>some (.tup l,h)
  | none=>none
 | _=>none
noncomputable def zh0(ws:List W):M W:=λh=>match ws with
 | [w]=>match zaD h w with
  | some l=>some (.fls l,h)
  | none=>none
 | _=>none
noncomputable def zh2(ws:List W):M W:=λh=>match ws with
 | [w]=>match zaD h w with
  | some l=>some (.ref h.length,h++[.lst l])
  | none=>none
 | _=>none
def zjI:zar X (.type "int") (rMs X.K cl intW):=by
 rintro pins s σ H xs us Q I rs ⟨μ,h,ws,w,h',R,ax,e,k⟩;unfold intW at e;split at e
 .cases e
  cases ax with | cons r t=>cases t with | nil=>
   cases r.int_of;exact zff pins s σ H _ us Q I rs (.inl ⟨_,rfl,k.pure R (.int _)⟩)
 .cases e
  cases ax with | cons r t=>cases t with | nil=>
   cases r.bl_of;exact zff pins s σ H _ us Q I rs (.inr ⟨_,rfl,k.pure R (.int _)⟩)
 .cases e
def zkn:zar X (.type "str") (rMs X.K cl strW):=by
 rintro pins s σ H xs us Q I rs ⟨μ,h,ws,w,h',R,ax,e,k⟩;unfold strW at e;split at e
 .split at e
  .rename_i hl
   cases e;cases ax with | cons r t=>cases t with | nil=>
    cases r.int_of;exact zgM pins s σ H _ us Q I rs ⟨_,rfl,hl,k.pure R (.str _)⟩
  .cases e
 .cases e
def zg7:zar X (.type "tuple") (rMs X.K cl zbv):=by
 rintro pins s σ H xs us Q I rs ⟨μ,h,ws,w,h',R,ax,e,k⟩;unfold zbv at e;split at e
 .rename_i l
  cases e;cases ax with | cons r t=>cases t with | nil=>
   obtain⟨a,vs,rfl,sa,ra⟩:=r.tup_of;exact zcK pins s σ H _ us Q I rs ⟨a,vs,rfl,.inr ⟨sa,k.pure R (.tup sa ra)⟩⟩
 .split at e
  .rename_i l el
   cases e;cases ax with | cons r t=>cases t with | nil=>
    obtain⟨a,vs,rfl,sa,ra⟩:=zaJ R r el;exact zcK pins s σ H _ us Q I rs ⟨a,vs,rfl,.inl ⟨sa,λp hp=>k.tup R ra hp⟩⟩
  .cases e
 .cases e
def ziA:zar X (.type "list") (rMs X.K cl zh0):=by
 rintro pins s σ H xs us Q I rs ⟨μ,h,ws,w,h',R,ax,e,k⟩;unfold zh0 at e;split at e
 .split at e
  .rename_i l el
   cases e;cases ax with | cons r t=>cases t with | nil=>
    obtain⟨a,vs,rfl,sa,ra⟩:=zbc R r el;exact zcZ pins s σ H _ us Q I rs ⟨a,vs,rfl,sa,λp hp=>k.fls R ra hp⟩
  .cases e
 .cases e
def zh4:zar X (.type "list") (rMs X.K cl zh2):=by
 rintro pins s σ H xs us Q I rs ⟨μ,h,ws,w,h',R,ax,e,k⟩;unfold zh2 at e;split at e
 .split at e
  .rename_i l el
   cases e;cases ax with | cons r t=>cases t with | nil=>
    obtain⟨a,vs,rfl,sa,ra⟩:=zbc R r el;exact zcZ pins s σ H _ us Q I rs ⟨a,vs,rfl,sa,λp hp=>k.lst R ra hp⟩
  .cases e
 .cases e
end
noncomputable def zaT(x:W)(ws:List W):M W:=λh=>match x,ws with
 | .ref n,[y]=>match h[n]? with
  | some (.lst l)=>if l.length<cap then some (.non,h.set n (.lst (l++[y]))) else none
  | _=>none
 | _,_=>none
noncomputable def zbf(x:W)(ws:List W):M W:=λh=>match x,ws with
 | .ref n,[y]=>match h[n]?,zaD h y with
  | some (.lst l),some l'=>if l.length+l'.length<=cap then some (.non,h.set n (.lst (l++l'))) else none
  | _,_=>none
 | _,_=>none
noncomputable def popM(x:W)(ws:List W):M W:=λh=>match x,ws with
 | .ref n,[]=>match h[n]? with
  | some (.lst l)=>match l[l.length-1]? with
   | some y=>some (y,h.set n (.lst l.dropLast))
   | none=>none
  | _=>none
 | _,_=>none
noncomputable def zau(f:W->List W->M W)(o:ME)(ms:List ME):ME:=λρ=>bnd (o ρ) λx h=>if (getL h x).isSome=true then bnd (zbr ms ρ) (λws=>f x ws) h else none
section
variable{X:Cx}{cl:Cl}{o e:Expr}{es:List Expr}{mo:ME}{ms:List ME}{apos cpos:Pos}{f:W->List W->M W}
inductive rMm(K:PySem.W.Frag)(cl:Cl)(f:W->List W->M W)(x:V)(xs:List V)(H:Hp)(Q:VK):Prop
 | mk (μ:List Addr) (h:MH) (wx:W) (ws:List W) (w:W) (h':MH) (p0:HR K cl μ H h) (p1:RW K μ H wx x) (p2:RWs K μ H ws xs) (p3:f wx ws h=some (w,h')) (p4:KQ K cl μ H h' w Q):rMm K cl f x xs H Q
def zfr{σ:L2.St}{H:Hp}{Q:VK}(q:tM X.K cl (zau f mo ms) σ H Q):tBM X.K "list" (rMm X.K cl f) (tM X.K cl mo) (tMA X.K cl ms) σ H Q:=by
 obtain⟨μ,h,ρ,w,h',R,er,e,k⟩:=q;obtain⟨x,h1,e1,e⟩:=u0 e;split at e
 .rename_i hl
  obtain⟨ws,h2,e2,e⟩:=u0 e;refine⟨μ,h,ρ,x,h1,R,er,e1,λμ1 H1 vx E1 R1 rx=>?_⟩;obtain⟨l,hl⟩:=vh.mp hl;obtain⟨a,vs,rfl,sa,ra⟩:=zaJ R1 rx hl;exact⟨.inl ⟨rfl,vs,sa⟩,μ1,h1,ρ,ws,h2,R1,er.ext R E1,e2,λμ2 H2 xs E2 R2 rs=>⟨μ2,h2,x,ws,w,h',R2,rx.ext R1 E2,rs,e,k.ext (E1.trans E2)⟩⟩
 .cases e
def zit{σ:L2.St}{H:Hp}{Q:VK}(q:tM X.K cl (zau f mo []) σ H Q):tBM0 X.K "list" (rMm X.K cl f) (tM X.K cl mo) σ H Q:=by
 obtain⟨μ,h,ρ,w,h',R,er,e,k⟩:=q;obtain⟨x,h1,e1,e⟩:=u0 e;split at e
 .rename_i hl
  obtain⟨ws,h2,e2,e⟩:=u0 e;cases e2;refine⟨μ,h,ρ,x,h1,R,er,e1,λμ1 H1 vx E1 R1 rx=>?_⟩;obtain⟨l,hl⟩:=vh.mp hl;obtain⟨a,vs,rfl,sa,ra⟩:=zaJ R1 rx hl;exact⟨.inl ⟨rfl,vs,sa⟩,μ1,h1,x,[],w,h',R1,rx,.nil,e,k.ext E1⟩
 .cases e
theorem KQ.put{K:PySem.W.Frag}{μ:List Addr}{H:Hp}{h:MH}{n:Nat}{a:Addr}{l:List W}{vs:List V}{w:W}{v:V}{Q:VK}(k:KQ K cl μ H (h.set n (.lst l)) w Q)(R:HR K cl μ H h)(hn:μ[n]?=some a)(rs:RWs K μ H l vs)(r:RW K μ H w v):Q v (upd H a (.lst vs)):=
 k μ _ v (.put hn) (R.put hn ⟨vs,zan,rs.ext R (.put hn)⟩) (r.ext R (.put hn))
def zif:MtM X "list.append" (rMm X.K cl zaT):=by
 rintro pins s σ H x xs v us Q I rx rs ⟨μ,h,wx,ws,w,h',R,ax,as,e,k⟩;unfold zaT at e;split at e
 .rename_i n y
  split at e
  .rename_i l ho
   split at e
   .rename_i hl
    cases e;cases ax with | @ref _ a hn=>
    cases as with | cons r t=>cases t with | nil=>
    obtain⟨vs,hv,rl⟩:=R.ob n a _ hn ho;exact zeM pins s σ H _ _ v us Q I rx rs ⟨a,vs,_,rfl,rfl,hv,zK (by rw[<-rl.length]; exact hl) zaU,k.put R hn (rl.append (.cons r .nil)) .non⟩
   .cases e
  .cases e
 .cases e
def zmH:MtM X "list.pop" (rMm X.K cl popM):=by
 rintro pins s σ H x xs v us Q I rx rs ⟨μ,h,wx,ws,w,h',R,ax,as,e,k⟩;unfold popM at e;split at e
 .rename_i n
  split at e
  .rename_i l ho
   split at e
   .rename_i y hy
    cases e;cases ax with | @ref _ a hn=>
    cases as;obtain⟨vs,hv,rl⟩:=R.ob n a _ hn ho;obtain⟨v',ev,rv⟩:=rl.get hy;exact znM pins s σ H _ _ v us Q I rx rs ⟨a,vs,v',rfl,rfl,hv,by rw[<-rl.length]; exact ev,k.put R hn rl.dropLast rv⟩
   .cases e
  .cases e
 .cases e
def zgj(T:String)(hT:T="list" \/ T="tuple")(l:Addr)(items:Array Value)(n:Nat)(b:Addr)(items2:Array Value)(n2:Nat)(dd2:Option Addr)(sl2:Array (Option Value))(hc0:¬(!items.isEmpty&&Builtin.List.listTooLong (items.size+items2.size))=true)(hc1:items.size<=sizeLine)(hs2:items.size+items2.size<=sizeLine+1) :
  Meets (Builtin.«list.extend» ⟨[.ref l,.ref b],[]⟩) (λ_ R s=>s.heap.get? l=some { cls:=.type "list",dict:=none,data:=.seq items n,slots:=#[] }/\s.heap.get? b=some { cls:=.type T,dict:=dd2,data:=.seq items2 n2,slots:=sl2 }/\R (.ok (.ret Value.none)) { s with heap:=s.heap.update l (Obj.mapSeq λx=>x++items2),toks:=s.toks }):=by
 rcases hT with rfl | rfl
 .exact .of_wp λprog w A R s h=>by
   obtain⟨hp,g,d,tk,os⟩:=s; obtain⟨hl,hb,h⟩:=h; have f1:=v7; have f2:=uV; have f3:=AutoSeq1.sub_list_list; have f4:=AutoSeq1.sub_tuple_list; have f5:=AutoSeq1.sub_list_tuple;have hz':(items++items2).size<=sizeLine+1:=by rw[Array.size_append]; exact hs2
   wp_walk using (vJ hl rfl (hz:=hc1) (_hz':=hz')),wpAny_loadPart' hl,wpAny_loadPart' hb; exact⟨_,rfl,h⟩
 .exact .of_wp λprog w A R s h=>by
   obtain⟨hp,g,d,tk,os⟩:=s; obtain⟨hl,hb,h⟩:=h; have f1:=v7; have f2:=uV; have f3:=AutoSeq1.sub_list_list; have f4:=AutoSeq1.sub_tuple_list; have f5:=AutoSeq1.sub_list_tuple;have hz':(items++items2).size<=sizeLine+1:=by rw[Array.size_append]; exact hs2
   wp_walk using (vJ hl rfl (hz:=hc1) (_hz':=hz')),wpAny_loadPart' hl,wpAny_loadPart' hb; exact⟨_,rfl,h⟩
def ziJ{pins:List (Addr×Obj)}{s:Shared}{σ:L2.St}{H:Hp}{l b:Addr}{v u:Value}{Q:VK}{xs zs:List V}(I:Inv X pins σ H s)(rx:RelV (.ref l) v)(ru:RelV (.ref b) u)(hH:H l=some (.lst xs))(hB:SqL X.K H b zs\/SqT X.K H b zs)(hz:xs.length+zs.length<=sizeLine)
  (q:Q .non (upd H l (.lst (xs++zs)))):wpAny (model X.prog X.w) X.A (call (.builtin "list.extend") [v,u]) (EP X pins σ Q) X.xe s:=by
 cases rx;cases ru;obtain⟨z,its,n,r,hl,e⟩:=I.lstM hH;have go:∀{T:String} {its2:List Value} {n2:Nat} {dd2:Option Addr} {sl2:Array (Option Value)},(T="list" \/ T="tuple")->Vals zs its2->s.heap.get? b=some { cls:=.type T,dict:=dd2,data:=.seq its2.toArray n2,slots:=sl2 }->
   wpAny (model X.prog X.w) X.A (call (.builtin "list.extend") [.ref l,.ref b]) (EP X pins σ Q) X.xe s:=by
  intro T its2 n2 dd2 sl2 hT r2 e2;have hl2:=r2.length;have hsz:its.toArray.size+its2.toArray.size<=sizeLine:=by rw[zM,zM]; omega
  have hlong:¬(!its.toArray.isEmpty&&Builtin.List.listTooLong (its.toArray.size+its2.toArray.size))=true:=by
   rw[zkN hsz,Bool.and_false];exact zN
  refine vQ F.slot_list_extend ⟨_,e,rfl⟩ F.entry_list_extend (F.args_list_extend_2 _ _) (zgj T hT l its.toArray n b its2.toArray n2 dd2 sl2 hlong (by rw[zM]; omega) ∅) ⟨e,e2,?_⟩;refine⟨.non,_,I.lset (its':=its++its2) hH e (by simp) (r.append r2) ?_,rfl,q⟩;rw[zW];omega
 rcases hB with hB | hB
 .obtain⟨its2,r2,⟨⟨c2,d2,dt2,sl2⟩,n2,h1,h2,h3,h4⟩,_⟩:=I.list hB
  simp only at h2 h4;subst h2 h4;exact go (.inl rfl) r2 h1
 .obtain⟨its2,r2,⟨⟨c2,d2,dt2,sl2⟩,h1,h2,n2,h4⟩,_⟩:=I.tuple hB
  simp only at h2 h4;subst h2 h4;exact go (.inr rfl) r2 h1
def zhP:MtM X "list.extend" (rMm X.K cl zbf):=by
 rintro pins s σ H x xs v us Q I rx rs ⟨μ,h,wx,ws,w,h',R,ax,as,e,k⟩;unfold zbf at e;split at e
 .rename_i n y
  split at e
  .rename_i l l' ho el
   split at e
   .rename_i hl
    cases e;cases ax with | @ref _ a hn=>
    cases as with | cons r t=>cases t with | nil=>
    obtain⟨vs,hv,rl⟩:=R.ob n a _ hn ho;obtain⟨b,zs,rfl,sb,rb⟩:=zbc R r el;obtain⟨u,rfl,ru⟩:=rs.one;exact ziJ I rx ru hv sb (zF (by rw[<-rl.length,<-rb.length]; exact hl) zaU) (k.put R hn (rl.append rb) .non)
   .cases e
  .cases e
 .cases e
def zkk(ho:SE X cl o mo)(ha:SA X cl (e::es) ms)(hbase:attributeBase o "append" X.env (eval o X.env)=eval o X.env:=by rfl)
  (hfew:((backTo cpos (starEach (e::es) X.env)).all (λx=>!x.1)&&(backToKw cpos (keywordEach [] X.env)).all (λx=>x.1.isSome)
   && decide ((e::es).length+([]:List Keyword).length+(if ([]:List Keyword).isEmpty then 0 else 1)<30))=true:=by rfl)
  (hline:(apos.endLine==cpos.line)=true:=by rfl) (hs:starEach (e::es) X.env=(false,eval e X.env)::starEach es X.env:=by rfl) (hplain:(backTo cpos (starEach es X.env)).any (·.1)=false:=by rfl) :
  SE X cl (.Call (.Attribute o "append" apos) (e::es) [] cpos) (zau zaT mo ms):=
 PE.wk (zl8 wD PySem.F.slot_list_append PySem.F.type_list_append zif ho ha hbase hfew hline hs hplain) λσ H Q q=>zfr q
def zi4(ho:SE X cl o mo)(ha:SA X cl (e::es) ms)(hbase:attributeBase o "extend" X.env (eval o X.env)=eval o X.env:=by rfl)
  (hfew:((backTo cpos (starEach (e::es) X.env)).all (λx=>!x.1)&&(backToKw cpos (keywordEach [] X.env)).all (λx=>x.1.isSome)
   && decide ((e::es).length+([]:List Keyword).length+(if ([]:List Keyword).isEmpty then 0 else 1)<30))=true:=by rfl)
  (hline:(apos.endLine==cpos.line)=true:=by rfl) (hs:starEach (e::es) X.env=(false,eval e X.env)::starEach es X.env:=by rfl) (hplain:(backTo cpos (starEach es X.env)).any (·.1)=false:=by rfl) :
  SE X cl (.Call (.Attribute o "extend" apos) (e::es) [] cpos) (zau zbf mo ms):=
 PE.wk (zl8 wD PySem.F.slot_list_extend PySem.F.type_list_extend zhP ho ha hbase hfew hline hs hplain) λσ H Q q=>zfr q
def zpF(ho:SE X cl o mo)(hbase:attributeBase o "pop" X.env (eval o X.env)=eval o X.env:=by rfl)(hline:(apos.endLine==cpos.line)=true:=by rfl) :
  SE X cl (.Call (.Attribute o "pop" apos) [] [] cpos) (zau popM mo []):=
 PE.wk (zom wD PySem.F.slot_list_pop PySem.F.type_list_pop zmH ho hbase hline) λσ H Q q=>zit q
end
noncomputable def srcOf(x:W):M Src:=λh=>match x with
 | .tup l=>some (.items l,h)
 | .fls l=>some (.items l,h)
 | .ref n=>match h[n]? with
  | some (.lst _)=>some (.live n,h)
  | _=>none
 | _=>none
noncomputable def iSeq(m:ME):MI:=λρ=>bnd (m ρ) srcOf
noncomputable def upto(n:Nat):List W:=(_root_.List.range n).map λ(i:Nat)=>W.int (i:Int)
noncomputable def rngW(ws:List W):M Src:=λh=>match ws with
 | [.int j]=>if -(2 ^ 62)<=j/\j<2 ^ 62 then some (.items (upto j.toNat),h) else none
 | _=>none
noncomputable def iRng(ms:List ME):MI:=λρ=>bnd (zbr ms ρ) rngW
section
variable{X:Cx}{cl:Cl}{tg e:Expr}{m:ME}{ms:List ME}{p pos:Pos}
def zn1{tl:TE}(hl:PE X e tl):PI X tg e (λσ H R=>tl σ H λx H1=>∃a,x=.ref a/\(((∃xs,SqL X.K H1 a xs)/\R (Itl X.K a) H1)\/((∃xs,SqT X.K H1 a xs)/\R (Itt X.K a) H1))):=by
 intro pins s σ H R I h;refine thn (hl pins s σ H _ I h) λv s1 ⟨x,H1,I1,r1,q1⟩=>?_
 obtain⟨a,e,q1⟩:=q1;subst e;cases r1;rcases q1 with ⟨⟨xs,hq⟩,q⟩ | ⟨⟨xs,hq⟩,q⟩
 .obtain⟨its,rv,p,hz⟩:=I1.list hq
  refine q8 p.isList ?_;refine⟨s1.heap.objs.size,[s1.heap.objs.size],_,_,H1,rfl,I1.kept (t':=s1.toks) λb o e=>zc _ e,zj1 a _,⟨_,zA _ rfl,rfl,rfl⟩,λb hb=>?_,q⟩;have e:b=s1.heap.objs.size:=by simpa using hb
  subst e;exact I1.fpOk (zu _) (I1.hok.fresh (zu _))
 .obtain⟨its,rv,p,hz⟩:=I1.tuple hq
  refine wL (show s1.heap.IsTuple a its.toArray from p) ?_;refine⟨s1.heap.objs.size,[s1.heap.objs.size],_,_,H1,rfl,I1.kept (t':=s1.toks) λb o e=>zc _ e,zih a _,⟨_,zA _ rfl,rfl,rfl⟩,λb hb=>?_,q⟩;have e:b=s1.heap.objs.size:=by simpa using hb
  subst e;exact I1.fpOk (zu _) (I1.hok.fresh (zu _))
def zoE{K:PySem.W.Frag}{μ:List Addr}{H:Hp}{h:MH}{a:Addr}{vs:List V}{l:List W}(R:HR K cl μ H h)(sa:SqT K H a vs)(ra:RWs K μ H l vs):JR K cl (Itt K a) (.items l) μ H:=by
 intro μ2 H2 h2 E2 R2 i;have sa2:=SqT.ext R E2 sa;have ra2:=ra.ext R E2;refine⟨λw ew=>?_,λes=>?_⟩
 .have ew':l[i]?=some w:=zU ew
  obtain⟨v,ev,rv⟩:=ra2.get ew';refine⟨⟨vs,v,sa2,ev⟩,λx H3 y=>?_⟩;obtain⟨rfl,y⟩:=y;have:=y vs sa2;rw[ev] at this;cases this;exact⟨.refl,R2,rv⟩
 .have es':l[i]?=none:=zU es
  exact⟨vs,sa2,by rw[<-ra.length]; exact jB.mp es'⟩
def zoi{K:PySem.W.Frag}{μ:List Addr}{H:Hp}{h:MH}{a:Addr}{vs:List V}{l:List W}(R:HR K cl μ H h)(sa:SqF K μ H a vs)(ra:RWs K μ H l vs):JR K cl (Itl K a) (.items l) μ H:=by
 intro μ2 H2 h2 E2 R2 i;have sa2:=(SqF.ext E2 sa).sq;have ra2:=ra.ext R E2;refine⟨λw ew=>?_,λes=>?_⟩
 .have ew':l[i]?=some w:=zU ew
  obtain⟨v,ev,rv⟩:=ra2.get ew';refine⟨⟨vs,v,sa2,ev⟩,λx H3 y=>?_⟩;obtain⟨rfl,y⟩:=y;have:=y vs sa2;rw[ev] at this;cases this;exact⟨.refl,R2,rv⟩
 .have es':l[i]?=none:=zU es
  exact⟨vs,sa2,by rw[<-ra.length]; exact jB.mp es'⟩
def zmw{K:PySem.W.Frag}{μ:List Addr}{H:Hp}{a:Addr}{n:Nat}(hn:μ[n]?=some a):JR K cl (Itl K a) (.live n) μ H:=by
 intro μ2 H2 h2 E2 R2 i;have hn2:=E2.get hn;refine⟨λw ew=>?_,λes=>?_⟩
 .unfold za6 at ew
  dsimp only at ew;split at ew
  .rename_i l ho
   have ew':l[i]?=some w:=zU ew;obtain⟨vs,hv,ra⟩:=R2.ob n a _ hn2 ho;obtain⟨v,ev,rv⟩:=ra.get ew';refine⟨⟨vs,v,SqL.of hv,ev⟩,λx H3 y=>?_⟩;obtain⟨rfl,y⟩:=y;have:=y vs (SqL.of hv);rw[ev] at this;cases this;exact⟨.refl,R2,rv⟩
  .cases ew
 .unfold za6 at es
  dsimp only at es;split at es
  .rename_i l ho
   have es':l[i]?=none:=zU es;obtain⟨vs,hv,ra⟩:=R2.ob n a _ hn2 ho;exact⟨vs,SqL.of hv,by rw[<-ra.length]; exact jB.mp es'⟩
  .cases es
def zpx(he:SE X cl e m):SI X cl tg e (iSeq m):=PI.wk (zn1 he) λσ H Q q0=>by
 obtain⟨μ,h,ρ,src,h',R,er,e,k⟩:=q0;obtain⟨x,h1,e1,e⟩:=u0 e;refine⟨μ,h,ρ,x,h1,R,er,e1,λμ1 H1 v E1 R1 r=>?_⟩;unfold srcOf at e;split at e
 .cases e
  obtain⟨a,vs,rfl,sa,ra⟩:=r.tup_of;exact⟨a,rfl,.inr ⟨⟨vs,sa⟩,k μ1 H1 _ E1 R1 (zoE R1 sa ra)⟩⟩
 .cases e
  cases r with | @fls a vs l sa ra=>
  exact⟨a,rfl,.inl ⟨⟨vs,sa.sq⟩,k μ1 H1 _ E1 R1 (zoi R1 sa ra)⟩⟩
 .rename_i n
  split at e
  .rename_i l ho
   cases e;cases r with | @ref _ a hn=>
   obtain⟨vs,hv,ra⟩:=R1.ob n a _ hn ho;exact⟨a,rfl,.inl ⟨⟨vs,SqL.of hv⟩,k μ1 H1 _ E1 R1 (zmw hn)⟩⟩
  .cases e
 .cases e
def zo7{K:PySem.W.Frag}{μ:List Addr}{H:Hp}{n:Nat}:JR K cl (Itr 0 n) (.items (upto n)) μ H:=by
 intro μ2 H2 h2 E2 R2 i;refine⟨λw ew=>?_,λes=>?_⟩
 .have ew':(upto n)[i]?=some w:=zU ew
  unfold upto at ew';rw[kJ] at ew';by_cases hi:i<n
  .rw[List.getElem?_range hi] at ew'
   cases ew';refine⟨hi,λx H3 y=>?_⟩;obtain⟨rfl,rfl⟩:=y;exact⟨.refl,R2,by rw[Int.zero_add]; exact .int _⟩
  .rw[j4 (by simpa using hi)] at ew'
   cases ew'
 .have es':(upto n)[i]?=none:=zU es
  have:=jB.mp es';unfold upto at this;rw[zL,yP] at this;exact this
def zoF(hm:X.mg "range" = none)(ha:SA X cl [e] ms)(hg:Gl X "range":=by rfl)(hs:starEach [e] X.env=[(false,eval e X.env)]:=by rfl):SI X cl tg (.Call (.Name "range" p) [e] [] pos) (iRng ms):=
 PI.wk (zjQ hg hm ha hs) λσ H Q q0=>by
  obtain⟨μ,h,ρ,src,h',R,er,e,k⟩:=q0;obtain⟨ws,h1,e1,e⟩:=u0 e;refine⟨μ,h,ρ,ws,h1,R,er,e1,λμ1 H1 vs E1 R1 rs=>?_⟩;unfold rngW at e;split at e
  .rename_i j
   split at e
   .rename_i hj
    cases e;cases rs with | cons r t=>cases t with | nil=>
    cases r.int_of;exact⟨j,rfl,hj.1,hj.2,k μ1 H1 _ E1 R1 zo7⟩
   .cases e
  .cases e
end
noncomputable def relS(sc scope:Scope):Scope:={ scope with names:=scope.names.map λ(n,k)=>if (k==.free&&sc.kind==.function&&sc.names.lookup n==some .cell) then (n,.cell) else (n,k) }
noncomputable def cof(sc:Scope)(x:Str):Bool:=sc.names.lookup x==some .cell||sc.names.lookup x==some .free
noncomputable def zbg(sc:Scope)(N:List Str)(scope:Scope)(N':List Str)(nl:Nat)(ks:List Nat):Bool:=
 scope.kind==.function&&scope.names.all (λy=>y.2 != .cell)&&scope.names.all (λy=>y.2 != .local||scope.names.lookup y.1==some .local)
 && N'.length==nl+ks.length&&scope.names.all (λy=>y.2 != .free||cof sc y.1)
 && (List.range ks.length).all λj=>match ks[j]?,N'[nl+j]? with
  | some k,some x=>N[k]?==some x&&cof sc x&&cof (relS sc scope) x
  | _,_=>false
structure CompOk(sc:Scope)(N:List Str)(scope:Scope)(N':List Str)(nl:Nat)(ks:List Nat):Prop where
 kind:scope.kind=.function
 ncell:∀y∈scope.names,y.2≠.cell
 names:∀y∈scope.names,y.2=.local->scope.names.lookup y.1=some .local
 len:N'.length=nl+ks.length
 fall:∀y∈scope.names,y.2=.free->cof sc y.1=true
 fr:∀j k,ks[j]?=some k->∃x,N[k]?=some x/\N'[nl+j]?=some x/\cof sc x=true/\cof (relS sc scope) x=true
def zbA{sc:Scope}{N:List Str}{scope:Scope}{N':List Str}{nl:Nat}{ks:List Nat}(h:zbg sc N scope N' nl ks=true):CompOk sc N scope N' nl ks:=by
 unfold zbg at h;simp only[zr] at h;obtain⟨⟨⟨⟨⟨h1,h2⟩,h3⟩,h4⟩,h5⟩,h6⟩:=h;refine⟨by simpa using h1,λy hy=>?_,λy hy e=>?_,by simpa using h4,λy hy e=>?_,λj k e=>?_⟩
 .have:=kE.mp h2 y hy; simpa using this
 .have:=kE.mp h3 y hy; simpa[e] using this
 .have:=kE.mp h5 y hy; simpa[e] using this
 .have hj:j<ks.length:=(zE.mp e).1
  have:=kE.mp h6 j (jY.mpr hj);rw[e] at this;cases e2:N'[nl+j]? with
  | none=>rw[e2] at this; simp at this
  | some x=>
   rw[e2] at this;simp only[zr] at this;exact⟨x,by simpa using this.1.1,rfl,this.1.2,this.2⟩
def zcS{sc:Scope}{x:Str}(h:cof sc x=true):sc.names.lookup x=some .cell\/sc.names.lookup x=some .free:=by
 unfold cof at h;rcases uR.mp h with h | h
 .exact .inl (by simpa using h)
 .exact .inr (by simpa using h)
noncomputable def cxC(X:Cx)(scope:Scope)(cs:List (Str×Addr))(C:Addr)(N:List Str)(s₀:Shared)(H₀:Hp)(ex:List Addr):Cx:=
 { X with N:=N,s₀:=s₀,H₀:=H₀,env:=compEnvC scope cs C X.env,outer:=X.stack,ex:=ex,fn:=λ_=>false,pn:=[],xe:=λ_ _=>False }
def zh7{env:Env}(names:List (Str×NameKind))(h:∀y∈names,y.2=.free->∃c,env.cells.lookup y.1=some c):∀cs0:List (Str×Addr),(∀x c,cs0.lookup x=some c->env.cells.lookup x=some c)->
  ∃cs,(forIn names cs0 λ(x:Str×NameKind) (r:List (Str×Addr))=>if (x.2==NameKind.free)=true then do
    let a <-cellOf env x.1
    pure (ForInStep.yield ((x.1,a)::r)) else pure (ForInStep.yield r):Sem (List (Str×Addr)))=pure cs/\(∀x c,cs.lookup x=some c->env.cells.lookup x=some c)/\(∀y∈names,y.2=.free->∃c,cs.lookup y.1=some c)/\∀x c,cs0.lookup x=some c->∃c',cs.lookup x=some c':=by
 induction names with
 | nil=>intro cs0 h0; exact⟨cs0,by simp,h0,λy hy=>by simp at hy,λx c e=>⟨c,e⟩⟩
 | cons y r ih=>
  intro cs0 h0;have hr:∀z∈r,z.2=.free->∃c,env.cells.lookup z.1=some c:=λz hz=>h z (zq _ hz)
  by_cases hy:(y.2==NameKind.free)=true
  .obtain⟨c,hc⟩:=h y zy (by simpa using hy)
   have h1:∀x c',((y.1,c)::cs0).lookup x=some c'->env.cells.lookup x=some c':=λx c' e=>by
    rw[j9] at e;split at e
    .rename_i q
     have:x=y.1:=by simpa using q
     subst this;rw[<-e]; exact hc
    .exact h0 x c' e
   obtain⟨cs,e1,e2,e3,e4⟩:=ih hr ((y.1,c)::cs0) h1;have hself:∃c',cs.lookup y.1=some c':=e4 y.1 c (by rw[j9]; simp);refine⟨cs,?_,e2,λz hz e=>?_,λx c' e=>?_⟩
   .rw[yf,zR hy]
    have:cellOf env y.1=pure c:=by unfold cellOf; rw[hc]
    rw[this];simp only[pure_bind];exact e1
   .rcases zf.mp hz with rfl | hz
    .exact hself
    .exact e3 z hz e
   .by_cases q:x=y.1
    .subst q; exact hself
    .refine e4 x c' ?_
     rw[j9];have:(x==y.1)=false:=by simpa using q
     rw[this]; exact e
  .obtain⟨cs,e1,e2,e3,e4⟩:=ih hr cs0 h0
   refine⟨cs,?_,e2,λz hz e=>?_,e4⟩
   .rw[yf,zZ hy]
    simp only[pure_bind];exact e1
   .rcases zf.mp hz with rfl | hz
    .exact absurd (by simpa using e) hy
    .exact e3 z hz e
theorem zfs{env:Env}{scope:Scope}(h:∀y∈scope.names,y.2=.free->∃c,env.cells.lookup y.1=some c) :
  ∃cs,closureFor scope env=pure cs/\(∀x c,cs.lookup x=some c->env.cells.lookup x=some c)/\(∀y∈scope.names,y.2=.free->∃c,cs.lookup y.1=some c):=by
 obtain⟨cs,e1,e2,e3,_⟩:=zh7 scope.names h [] (λx c e=>by simp at e);refine⟨cs,?_,e2,e3⟩
 have q:closureFor scope env=((forIn scope.names ([]:List (Str×Addr)) λ(x:Str×NameKind) (r:List (Str×Addr))=>if (x.2==NameKind.free)=true then do
    let a <-cellOf env x.1
    pure (ForInStep.yield ((x.1,a)::r)) else pure (ForInStep.yield r):Sem (List (Str×Addr))) >>= λcs=>pure cs):=rfl
 rw[q,e1];rfl
section
variable{X:Cx}{pins:List (Addr×Obj)}{σ:L2.St}{H:Hp}{s:Shared}
def zfY{sc scope:Scope}(nc:∀y∈scope.names,y.2≠.cell){x:Str}(h:cof (relS sc scope) x=true):∃y∈scope.names,y.1=x/\y.2=.free:=by
 have go:∀l:List (Str×NameKind),(∀y∈l,y.2≠.cell)->∀k:NameKind,(k=.cell\/k=.free)->(l.map λ(n,k)=>if (k==NameKind.free&&sc.kind==ScopeKind.function&&sc.names.lookup n==some NameKind.cell) then (n,NameKind.cell) else (n,k)).lookup x=some k->∃y∈l,y.1=x/\y.2=.free:=by
  intro l;induction l with
  | nil=>intro _ k _ e; simp at e
  | cons y r ih=>
   obtain⟨n,k0⟩:=y;intro nc k hk e;rw[zH,j9] at e;have fstq:(if (k0==NameKind.free&&sc.kind==ScopeKind.function&&sc.names.lookup n==some NameKind.cell)=true then (n,NameKind.cell) else (n,k0)).1=n:=by split<;>rfl
   by_cases q:x=n
   .refine⟨(n,k0),zy,q.symm,?_⟩
    have:(x==n)=true:=by simpa using q
    simp only[fstq,this] at e;split at e
    .rename_i c
     simp only[zr] at c;simpa using c.1.1
    .have e':k0=k:=by simpa using e
     rcases hk with rfl | rfl
     .exact absurd e' (nc (n,k0) zy)
     .exact e'
   .have:(x==n)=false:=by simpa using q
    simp only[fstq,this] at e;obtain⟨y,hy,e1,e2⟩:=ih (λy hy=>nc y (zq _ hy)) k hk e;exact⟨y,zq _ hy,e1,e2⟩
 rcases zcS h with h | h
 .exact go scope.names nc _ (.inl rfl) h
 .exact go scope.names nc _ (.inr rfl) h
def zow{sc scope:Scope}{N N':List Str}{nl:Nat}{ks:List Nat}{cs:List (Str×Addr)}{C:Addr}{ex:List Addr}(I:Inv X pins σ H s)(hsc:X.env.scope=sc)(ok:CompOk sc N scope N' nl ks)
  (hcs:∀x c,cs.lookup x=some c->X.env.cells.lookup x=some c) (hall:∀y∈scope.names,y.2=.free->∃c,cs.lookup y.1=some c) (hC:s.heap.objs.size<=C) (hex:∀b∈ex,FpOk X pins H b) (hob:∀b∈ex,b<s.heap.objs.size):(cxC X scope cs C N' s H ex).Ok:=by
 subst hsc;refine⟨I.ok.mod,ok.kind,I.ok.glob,I.ok.blt,hC,λx y c h1 h2=>I.ok.inj x y c (hcs x c h1) (hcs y c h2),λx hx=>?_,λx c h=>?_,I.ok.hd,I.ok.frames,.inl rfl,λb hb=>?_,I.bs,zF I.ok.bsz I.sz,λb o e hb=>?_,λb hb z=>?_,I.stack,I.stkFree⟩
 .have hc:cof (relS X.env.scope scope) x=true:=by
   unfold cof;rcases hx with hx | hx
   .rw[show(relS X.env.scope scope).names.lookup x=some .cell from hx]; rfl
   .rw[show(relS X.env.scope scope).names.lookup x=some .free from hx]; rfl
  obtain⟨y,hy,rfl,e⟩:=zfY ok.ncell hc;exact hall y hy e
 .cases h
 .obtain⟨h0,h1,h2,h3,h4,h5⟩:=hex b hb
  exact⟨λz=>absurd (zK (hob b hb) (z▸hC)) (jX _),λx c e=>h4 x c (hcs x c e)⟩
 .obtain⟨h0,h1,h2,h3,h4,h5⟩:=hex b hb
  rcases h3 with h3 | h3
  .exact I.ok.noex b o e h3
  .exact absurd (zK (zJ e) (zF I.ok.bsz h3)) (jX _)
 .obtain⟨h0,h1,h2,h3,h4,h5⟩:=hex b hb
  rcases zf.mp (I.stkSub b z) with e | e
  .exact h1 e
  .exact h2 e
end
section
variable{prog:Program}{w:World}{A:Around}{R:Result->Shared->Prop}{s:Shared}
noncomputable def zhy(ifs:List Expr)(env:Env):Sem Bool:=forIn ifs true λc r=>if r=true then do let ok <-isTrue c env (eval c env); pure (ForInStep.yield ok) else pure (ForInStep.yield r)
def zgH{elt target iter:Expr}{ifs:List Expr}{scope:Scope}{pos:Pos}{it acc:Value}{env:Env}(I:Nat->Shared->Prop)
  (turn:∀n s,I n s->wpAny (model prog w) A (pyNext it) (λr s₁=>match r with
   | none=>R (.ok .next) s₁
   | some v=>wpAny (model prog w) A (letOwnedTupleGo target it v) (λ_ s₁'=>wpAny (model prog w) A (assign target env v) (λ_ s₂=>
     wpAny (model prog w) A (zhy ifs env) (λok s₃=>
      if ok=true then wpAny (model prog w) A (eval elt env) (λx s₄=>
       wpAny (model prog w) A (call (.builtin "list.append") [acc,x]) (λ_ s₅=>∃m,m<n/\I m s₅) (λ_ _=>False) s₄) (λ_ _=>False) s₃
      else ∃m,m<n/\I m s₃) (λ_ _=>False) s₂) (λ_ _=>False) s₁') (λ_ _=>False) s₁) (λ_ _=>False) s)
  (n:Nat) (h:I n s) :
  codeAny (model prog w) A (.compLoop (.ListComp elt [⟨target,iter,ifs,0⟩] scope pos) 0 it acc env) R s:=by
 refine codeAny_loop rfl I (λn s hI=>?_) n h;show wpAny _ A ((compTurn (.ListComp elt [⟨target,iter,ifs,0⟩] scope pos) 0 it acc env).onRaise (λx=>do noteFrame x env; theTreesLotGoes x)) _ _ s
 refine wpAny_noted ?_;rw[compTurn_list];refine za (xF (za (jV (turn n s hI) (λr s₁ h₁=>?_) λ_ _ h'=>h'.elim)));cases r with
 | none=>exact zg h₁
 | some v=>
  refine za (jV h₁ (λ_ s₁' h₁'=>?_) λ_ _ h'=>h'.elim);refine za (jV h₁' (λ_ s₂ h₂=>za (jV h₂ (λok s₃ h₃=>?_) λ_ _ h'=>h'.elim)) λ_ _ h'=>h'.elim);cases ok with
  | false=>exact zg ⟨rfl,h₃⟩
  | true=>
   exact za (za (jV h₃ (λx s₄ h₄=>za (jV h₄ (λ_ s₅ h₅=>zg (zg ⟨rfl,h₅⟩)) λ_ _ h'=>h'.elim)) λ_ _ h'=>h'.elim))
end
noncomputable def STs(X:Cx)(cl:Cl)(ifs:List Expr)(t:MT):Prop:=∀(pins:List (Addr×Obj)) (s:Shared) (σ:L2.St) (H:Hp) (Q:Bool->Hp->Prop),Inv X pins σ H s->tMT X.K cl t σ H Q->wpAny (model X.prog X.w) X.A (zhy ifs X.env) (TP X pins σ Q) X.xe s
noncomputable def zba:MT:=λ_ h=>some (true,h)
section
variable{X:Cx}{cl:Cl}{c:Expr}{t:MT}
def znm:STs X cl [] zba:=λpins s σ H Q I q0=>by
 obtain⟨μ,h,ρ,b,h',R,er,e,k⟩:=q0;cases e;exact wpAny_tests_nil ⟨H,I,k μ H .refl R⟩
def znL(h:ST X cl c t):STs X cl [c] t:=λpins s σ H Q I q=>wpAny_tests_one (h pins s σ H Q I q)
end
noncomputable def blank(nl:Nat)(ρ:En):En:=List.replicate nl none++ρ.drop nl
noncomputable def za9(src:Src)(nl:Nat)(g:MG)(t:MT)(m:ME)(n0:Nat):Nat->Nat->En->MH->Option MH
 | 0,_,_,_=>none
 | k+1,i,ρ,h=>match za6 src i h with
  | none=>none
  | some none=>some h
  | some (some w)=>match g w ρ h with
   | none=>none
   | some (ρ1,h1)=>match t ρ1 h1 with
    | none=>none
    | some (false,h2)=>za9 src nl g t m n0 k (i+1) (blank nl ρ1) h2
    | some (true,h2)=>match m ρ1 h2 with
     | none=>none
     | some (y,h3)=>match h3[n0]? with
      | some (.lst acc)=>if acc.length<cap then za9 src nl g t m n0 k (i+1) (blank nl ρ1) (h3.set n0 (.lst (acc++[y]))) else none
      | _=>none
noncomputable def zaW(nl:Nat)(g:MG)(t:MT)(m:ME)(n0:Nat):List W->En->MH->Option MH
 | [],_,h=>some h
 | w::r,ρ,h=>match g w ρ h with
   | none=>none
   | some (ρ1,h1)=>match t ρ1 h1 with
    | none=>none
    | some (false,h2)=>zaW nl g t m n0 r (blank nl ρ1) h2
    | some (true,h2)=>match m ρ1 h2 with
     | none=>none
     | some (y,h3)=>match h3[n0]? with
      | some (.lst acc)=>if acc.length<cap then zaW nl g t m n0 r (blank nl ρ1) (h3.set n0 (.lst (acc++[y]))) else none
      | _=>none
theorem zcb{nl:Nat}{g:MG}{t:MT}{m:ME}{n0:Nat}(l:List W):∀(k i:Nat) (ρ:En) (h:MH),l.length+1<=i+k->i<=l.length->za9 (.items l) nl g t m n0 k i ρ h=zaW nl g t m n0 (l.drop i) ρ h
 | 0,i,ρ,h,hk,hi=>by omega
 | k+1,i,ρ,h,hk,hi=>by
  by_cases hl:i<l.length
  .rw[qW hl]
   unfold za9 zaW;simp only[za6,zO hl];cases e1:g l[i] ρ h with
   | none=>rfl
   | some p=>
    obtain⟨ρ1,h1⟩:=p;simp only;cases e2:t ρ1 h1 with
    | none=>rfl
    | some q=>
     obtain⟨b,h2⟩:=q;cases b with
     | false=>exact zcb l k (i+1) _ h2 ∅ hl
     | true=>
      simp only;cases e3:m ρ1 h2 with
      | none=>rfl
      | some q3=>
       obtain⟨y,h3⟩:=q3;simp only;split
       .split
        .exact zcb l k (i+1) _ _ ∅ hl
        .rfl
       .rfl
  .have hi':i=l.length:=by omega
   subst hi';rw[xu];unfold za9 zaW;simp[za6]
noncomputable def zb1(mi:MI)(nl:Nat)(ks:List Nat)(g:MG)(t:MT)(m:ME):En->MH->Option (Nat×MH×MH):=λρ h=>match mi ρ h with
 | none=>none
 | some (.items l,h1)=>match zaW nl g t m h1.length l (List.replicate nl none++ks.map λk=>(ρ[k]?).join) (h1++[.lst []]) with
  | some h2=>some (h1.length,h1,h2)
  | none=>none
 | some (.live n,h1)=>match za9 (.live n) nl g t m h1.length (zkr (.live n) h1+1) 0 (List.replicate nl none++ks.map λk=>(ρ[k]?).join) (h1++[.lst []]) with
  | some h2=>some (h1.length,h1,h2)
  | none=>none
noncomputable def zcX(mi:MI)(nl:Nat)(ks:List Nat)(g:MG)(t:MT)(m:ME):ME:=λρ h=>match zb1 mi nl ks g t m ρ h with
 | some (n,_,h2)=>some (.ref n,h2)
 | none=>none
open Classical in
noncomputable def zaq(mi:MI)(nl:Nat)(ks:List Nat)(g:MG)(t:MT)(m:ME):ME:=λρ h=>match zb1 mi nl ks g t m ρ h with
 | some (n,h1,h2)=>match h2[n]? with
  | some (.lst l)=>if h1<+:h2/\lows h1.length l=true then some (.fls l,h1) else none
  | _=>none
 | none=>none
theorem ER.blank{K:PySem.W.Frag}{μ:List Addr}{H:Hp}{ρ:En}{σ:L2.St}{nl:Nat}(er:ER K μ H ρ σ)(hl:nl<=ρ.length):ER K μ H (ML.blank nl ρ) σ:=by
 unfold ML.blank;refine⟨by simp; rw[<-er.len]; omega,λi w e=>?_⟩;by_cases hi:i<nl
 .rw[zX (by simpa using hi),qG] at e
  split at e<;>cases e
 .rw[kj (by simpa using hi),qM,List.getElem?_drop] at e
  exact er.at_ i w (by rw[<-e]; congr 1; omega)
section
variable{X:Cx}{cl:Cl}{pins:List (Addr×Obj)}{σ:L2.St}
noncomputable def σC(nl:Nat)(ks:List Nat)(σ:L2.St):L2.St:=List.replicate nl none++ks.map λk=>(σ[k]?).join
noncomputable def ρC(nl:Nat)(ks:List Nat)(ρ:En):En:=List.replicate nl none++ks.map λk=>(ρ[k]?).join
def erC{K:PySem.W.Frag}{μ:List Addr}{H:Hp}{ρ:En}{nl:Nat}{ks:List Nat}(er:ER K μ H ρ σ):ER K μ H (ρC nl ks ρ) (σC nl ks σ):=by
 unfold ρC σC;refine⟨by simp,λi w e=>?_⟩;by_cases hi:i<nl
 .rw[zX (by simpa using hi),qG] at e
  split at e<;>cases e
 .rw[kj (by simpa using hi),qM,kJ] at e
  rw[kj (by simpa using hi),qM,kJ];cases e1:ks[i-nl]? with
  | none=>rw[e1] at e; cases e
  | some k=>
   rw[e1] at e;have e2:(ρ[k]?).join=some w:=zU e;have e3:ρ[k]?=some (some w):=by
    cases q:ρ[k]? with
    | none=>rw[q] at e2; cases e2
    | some o=>rw[q] at e2; cases o with
     | none=>cases e2
     | some z=>cases e2; rfl
   obtain⟨v,ev,r⟩:=er.at_ k w e3;exact⟨v,by simp[ev],r⟩
def zjN{sc scope:Scope}{N N':List Str}{nl:Nat}{ks:List Nat}{cs:List (Str×Addr)}{ex:List Addr}{H:Hp}{s:Shared}{h₁:Heap}{tk:Nat}(I:Inv X pins σ H s)(hsc:X.env.scope=sc)(hN:X.N=N)(ok:CompOk sc N scope N' nl ks)
  (hcs:∀x c,cs.lookup x=some c->X.env.cells.lookup x=some c) (hall:∀y∈scope.names,y.2=.free->∃c,cs.lookup y.1=some c) (hex:∀b∈ex,FpOk X pins H b) (hob:∀b∈ex,b<s.heap.objs.size)
  {m0:Str->Option Value} (hns:h₁.Ns (s.heap.objs.size+1) m0) (old:∀b o,s.heap.get? b=some o->h₁.get? b=some o) (hD:h₁.get? s.heap.objs.size=some { cls:=.type "list",data:=.seq ([]:List Value).toArray }) :
  Inv (cxC X scope cs (s.heap.objs.size+1) N' s H ex) [] (σC nl ks σ) (upd H s.heap.objs.size (.lst [])) { s with heap:=h₁,toks:=tk }:=by
 have hfr:H s.heap.objs.size=none:=I.hok.fresh (zu _);have ltD:∀{b:Addr} {o:Obj},s.heap.get? b=some o->b≠s.heap.objs.size:=λe=>zP (zJ e)
 refine⟨zow I hsc ok hcs hall (qK _) hex hob,rfl,I.bare,Un.laid old (zu _) hfr,⟨m0,hns,λi x v e1 e2 e3=>?_⟩,λx c e=>?_,?_,λx c e=>?_,λp hp=>absurd (show p∈([]:List (Addr×Obj)) from hp) (by simp),I.hok.laid old (zu _) ⟨by simp,[],_,.nil,hD⟩,?_⟩
 .have e1':N'[i]?=some x:=e1
  unfold σC at e2;by_cases hi:i<nl
  .rw[zX (by simpa using hi),qG] at e2
   split at e2<;>cases e2
  .rw[kj (by simpa using hi),qM,kJ] at e2
   cases q1:ks[i-nl]? with
   | none=>rw[q1] at e2; cases e2
   | some k=>
    rw[q1] at e2;have q2:(σ[k]?).join=some v:=zU e2;have q3:σ[k]?=some (some v):=by
     cases q:σ[k]? with
     | none=>rw[q] at q2; cases q2
     | some o=>rw[q] at q2; cases o with
      | none=>cases q2
      | some z=>cases q2; rfl
    obtain⟨x',hx1,hx2,hx3,hx4⟩:=ok.fr (i-nl) k q1;have:x'=x:=by
     rw[show nl+(i-nl)=i by omega,e1'] at hx2;exact(zU hx2).symm
    subst this;subst hsc;obtain⟨m,hn,hl⟩:=I.loc;have vis:Vis X.env.scope x':=by rcases zcS hx3 with z | z; exact .inr (.inl z); exact .inr (.inr z)
    obtain⟨u,ru,lk⟩:=hl k x' v (by rw[hN]; exact hx1) q3 vis;refine⟨u,ru,?_⟩;rcases lk with ⟨z,_⟩ | ⟨_,c,hc,ic⟩
    .rcases zcS hx3 with y | y<;>(rw[show X.env.kindOf x'=X.env.scope.names.lookup x' from rfl,y] at z; cases z)
    .refine .inr ⟨zcS hx4,?_⟩
     obtain⟨y,hy,rfl,hyf⟩:=zfY ok.ncell hx4;obtain⟨c',hc'⟩:=hall y hy hyf;have:=hcs _ _ hc';rw[hc] at this;cases this;obtain⟨o,ho,hd⟩:=ic;exact⟨c,hc',o,old _ _ ho,hd⟩
 .obtain⟨v,o,ho,hd⟩:=I.cell x c (hcs x c e)
  exact⟨v,o,old _ _ ho,hd⟩
 .show(upd H s.heap.objs.size (.lst [])) (s.heap.objs.size+1)=none
  rw[zac (xg _)];exact I.hok.fresh (qK _)
 .obtain⟨v,o,ho,hd⟩:=I.cell x c (hcs x c e)
  rw[zac (ltD ho)];exact I.freeC x c (hcs x c e)
 .show(σC nl ks σ).length=N'.length
  unfold σC;rw[ok.len];simp
def zj9{elt tg iter:Expr}{ifs:List Expr}{scope sc:Scope}{pos:Pos}{N N':List Str}{nl:Nat}{ks:List Nat}{cs:List (Str×Addr)}{J:It}{it:Addr}{fp:List Addr}{tn:Nat->Heap->Prop}{g:MG}{t:MT}{m:ME}{src:Src}{k0:Nat}
  {H2:Hp} {s2:Shared} {μ:List Addr} {h h':MH} {ρ:En} {RR:Value->Addr->Result->Shared->Prop} {E:Value->Shared->Prop}
  (hc:X.calm=true) (hsc:X.env.scope=sc) (hN:X.N=N) (ok:CompOk sc N scope N' nl ks)
  (hg:∀cs C s₀ H₀ ex,SG (cxC X scope cs C N' s₀ H₀ ex) cl tg g) (ht:∀cs C s₀ H₀ ex,STs (cxC X scope cs C N' s₀ H₀ ex) cl ifs t) (he:∀cs C s₀ H₀ ex,SE (cxC X scope cs C N' s₀ H₀ ex) cl elt m)
  (I2:Inv X pins σ H2 s2) (T:Turn X.prog X.w X.K tg J fp it tn) (st2:tn 0 s2.heap) (f2:∀b∈fp,FpOk X pins H2 b)
  (hcs:∀x c,cs.lookup x=some c->X.env.cells.lookup x=some c) (hall:∀y∈scope.names,y.2=.free->∃c,cs.lookup y.1=some c)
  (R2:HR X.K cl μ H2 h) (er:ER X.K μ H2 ρ σ) (j:JR X.K cl J src μ H2) (e:za9 src nl g t m h.length k0 0 (ρC nl ks ρ) (h++[.lst []])=some h')
  (hRR:∀D C s' H' μ' m',D≠C->s'.heap.Ns C m'->Inv X pins σ H' s'->H' C=none->s2.heap.objs.size<=C->Ext μ H2 μ' H'->HR X.K cl μ' H' h'->μ'[h.length]?=some D->RR (.ref D) C (.ok .next) s') :
  wpAny (model X.prog X.w) X.A (newList []) (λacc s₃=>wpAny (model X.prog X.w) X.A (newFunctionEnv scope X.env.globals cs [] X.env.qual none .none (some X.env)) (λcenv s₄=>
   codeAny (model X.prog X.w) X.A (.compStart (.ListComp elt [⟨tg,iter,ifs,0⟩] scope pos) 0 (.ref it) acc { cenv with scope:=relabel scope X.env }) (RR acc cenv.locals) s₄) E s₃) E s2:=by
 refine kO (wpAny_newFunctionEnv ok.ncell (by intro y hy; simp at hy) (λh₁ hns₁ hsb₁=>?_) ok.kind);dsimp only at hns₁ hsb₁ ⊢;generalize hP:s2.heap.push { cls:=.type "list",dict:=none,data:=.seq ([]:List Value).toArray }=P at hns₁ hsb₁ ⊢;have hC:P.objs.size=s2.heap.objs.size+1:=by rw[<-hP,jK]
 rw[hC] at hns₁ hsb₁ ⊢;have old:∀b o,s2.heap.get? b=some o->h₁.get? b=some o:=λb o e=>hsb₁.extBut b o (zP (jy (zJ e))) (zc _ (hP▸zc _ e))
 have hD:h₁.get? s2.heap.objs.size=some { cls:=.type "list",data:=.seq ([]:List Value).toArray }:=hsb₁.extBut _ _ (zP (jQ _)) (zc _ (hP▸zA _ rfl));have hob:∀b∈fp,b<s2.heap.objs.size:=λb hb=>by
  obtain⟨o,ho,_⟩:=T.obj 0 _ st2 b hb;exact zJ ho
 have fr2:H2 s2.heap.objs.size=none:=I2.hok.fresh (zu _);have I3:=zjN (X:=X) (tk:=s2.toks+([]:List (Str×Value)).length) I2 hsc hN ok hcs hall f2 hob hns₁ old hD;have st3:tn 0 h₁:=T.keep 0 _ _ st2 λb _ o e=>old b o e
 have fr3:∀b∈fp,(upd H2 s2.heap.objs.size (.lst [])) b=none:=λb hb=>by
  rw[zac (zP (hob b hb))];exact(f2 b hb).1
 have fpk:∀{H:Hp},(∀b∈fp,H b=none)->∀b∈fp,FpOk (cxC X scope cs (s2.heap.objs.size+1) N' s2 H2 fp) [] H b:=λhn b hb=>by
  obtain⟨g0,g1,g2,g3,g4,g5⟩:=f2 b hb;refine⟨hn b hb,zP (jy (hob b hb)),λz=>?_,.inl hb,λx c e=>g4 x c (hcs x c e),λp hp=>absurd (show p∈([]:List (Addr×Obj)) from hp) (by simp)⟩;rcases zf.mp (I2.stkSub b z) with q | q
  .exact g1 q
  .exact g2 q
 have loop:∀s:Shared,s={ s2 with heap:=h₁,toks:=s2.toks+([]:List (Str×Value)).length }->
   codeAny (model X.prog X.w) X.A (.compLoop (.ListComp elt [⟨tg,iter,ifs,0⟩] scope pos) 0 (.ref it) (.ref s2.heap.objs.size) (compEnvC scope cs (s2.heap.objs.size+1) X.env)) (RR (.ref s2.heap.objs.size) (s2.heap.objs.size+1)) s:=by
  rintro s rfl
  refine zgH (λn s=>∃i σ' H ρ' μ' hh,Inv (cxC X scope cs (s2.heap.objs.size+1) N' s2 H2 fp) [] σ' H s/\tn i s.heap/\(∀b∈fp,H b=none)/\HR X.K cl μ' H hh/\ER X.K μ' H ρ' σ'/\Ext μ H2 μ' H/\nl<=ρ'.length/\μ'[h.length]?=some s2.heap.objs.size /\
   za9 src nl g t m h.length n i ρ' hh=some h') ?_ k0 ?_
  .rintro n s ⟨i,σ',H,ρ',μ',hh,I,st,fr,R,er',E',hl,hm,e⟩
   cases n with
   | zero=>cases e
   | succ n=>
    unfold za9 at e;obtain⟨jg,js⟩:=j μ' H hh E' R i;cases es:za6 src i hh with
    | none=>rw[es] at e; cases e
    | some o=>
     rw[es] at e;cases o with
     | none=>
      cases e;refine thn (T.done (cxC X scope cs (s2.heap.objs.size+1) N' s2 H2 fp) rfl rfl rfl hc i [] s σ' H _ I (fpk fr) st (js es)) λr s1 ⟨hr,I1⟩=>?_
      subst hr;obtain⟨m1,hn1,_⟩:=I1.loc;refine hRR _ _ s1 H μ' m1 (zP (jQ _)) hn1 ?_ I1.free (qK _) E' R hm;exact I2.call' I1.os I1.base I1.hok I1.bare λb hb=>⟨(f2 b hb).2.2.2.1,(f2 b hb).2.1,(f2 b hb).2.2.2.2.1,(f2 b hb).2.2.2.2.2⟩
     | some w=>
      obtain⟨go,yl⟩:=jg w es;simp only at e;cases e1:g w ρ' hh with
      | none=>rw[e1] at e; cases e
      | some p=>
       obtain⟨ρ1,h1⟩:=p;rw[e1] at e;simp only at e;refine thn (T.item (cxC X scope cs (s2.heap.objs.size+1) N' s2 H2 fp) rfl rfl rfl hc i [] s σ' H _ I (fpk fr) st go) λr s1 ⟨u,hr,q1⟩=>?_
       subst hr;refine thn q1 λ_ s5 ⟨x,H5,I5,r5,y5,st5,fr5⟩=>?_
       obtain⟨E5,R5,rx⟩:=yl x H5 y5;have I5':=I5.pinned (fpk fr5) (T.obj _ _ st5);refine thn (hg cs _ s2 H2 fp _ s5 σ' H5 x u (λσ6 H6=>∃μ6,Ext μ' H5 μ6 H6/\HR X.K cl μ6 H6 h1/\ER X.K μ6 H6 ρ1 σ6) I5' r5 ⟨μ',hh,ρ',w,ρ1,h1,R5,er'.ext R E5,rx,e1,λμ6 H6 σ6 E6 R6 er6=>⟨μ6,E6,R6,er6⟩⟩) λ_ s6 ⟨σ6,H6,I6,μ6,E6,R6,er6⟩=>?_
       have hl6:nl<=ρ1.length:=by
        rw[er6.len,I6.len];show nl<=N'.length
        rw[ok.len]; omega
       have E06:Ext μ H2 μ6 H6:=E'.trans (E5.trans E6);have fin:∀{s9:Shared} {H9:Hp} {μ9:List Addr} {h9:MH},Inv (cxC X scope cs (s2.heap.objs.size+1) N' s2 H2 fp) ([]++zcR fp s5.heap) σ6 H9 s9->Ext μ6 H6 μ9 H9->HR X.K cl μ9 H9 h9->za9 src nl g t m h.length n (i+1) (ML.blank nl ρ1) h9=some h'->
         ∃k,k<n+1/\∃i σ' H ρ' μ' hh,Inv (cxC X scope cs (s2.heap.objs.size+1) N' s2 H2 fp) [] σ' H s9/\tn i s9.heap/\(∀b∈fp,H b=none)/\HR X.K cl μ' H hh/\ER X.K μ' H ρ' σ'/\Ext μ H2 μ' H/\nl<=ρ'.length/\μ'[h.length]?=some s2.heap.objs.size/\za9 src nl g t m h.length k i ρ' hh=some h':=by
        intro s9 H9 μ9 h9 I9 E9 R9 e9;refine⟨n,jQ n,i+1,σ6,H9,ML.blank nl ρ1,μ9,h9,I9.unpinned,T.keep _ _ _ st5 λb hb o e=>(I9.pin (b,o) (ji _ (ji _ (zbH hb e)))).1,λb hb=>?_,R9,(er6.ext R6 E9).blank hl6,E06.trans E9,?_,E9.get (E6.get (E5.get hm)),e9⟩
        .obtain⟨o,e,d⟩:=T.obj _ _ st5 b hb
         exact(I9.pin (b,o) (ji _ (ji _ (zbH hb e)))).2.1
        .unfold ML.blank; simp
       cases e2:t ρ1 h1 with
       | none=>rw[e2] at e; cases e
       | some p2=>
        obtain⟨bb,h2⟩:=p2;rw[e2] at e;refine thn (ht cs _ s2 H2 fp _ s6 σ6 H6 (λb' H7=>b'=bb/\∃μ7,Ext μ6 H6 μ7 H7/\HR X.K cl μ7 H7 h2) I6 ⟨μ6,h1,ρ1,bb,h2,R6,er6,e2,λμ7 H7 E7 R7=>⟨rfl,μ7,E7,R7⟩⟩) λb' s7 ⟨H7,I7,hb',μ7,E7,R7⟩=>?_
        subst hb';cases b' with
        | false=>
         rw[zZ zN];exact fin I7 E7 R7 e
        | true=>
         rw[zR rfl];simp only at e;cases e3:m ρ1 h2 with
         | none=>rw[e3] at e; cases e
         | some p3=>
          obtain⟨y,h3⟩:=p3;rw[e3] at e;simp only at e;refine thn (he cs _ s2 H2 fp _ s7 σ6 H7 (λv H8=>∃μ8,Ext μ7 H7 μ8 H8/\HR X.K cl μ8 H8 h3/\RW X.K μ8 H8 y v) I7 ⟨μ7,h2,ρ1,y,h3,R7,er6.ext R6 E7,e3,λμ8 H8 v E8 R8 r8=>⟨μ8,E8,R8,r8⟩⟩) λxv s8 ⟨v,H8,I8,rv,μ8,E8,R8,r8⟩=>?_
          split at e
          .rename_i acc ho
           split at e
           .rename_i hlt
            have hm8:μ8[h.length]?=some s2.heap.objs.size:=E8.get (E7.get (E6.get (E5.get hm)));obtain⟨vs,hv,ra⟩:=R8.ob _ _ _ hm8 ho;refine thn (zeM (X:=cxC X scope cs (s2.heap.objs.size+1) N' s2 H2 fp) _ s8 σ6 H8 (.ref s2.heap.objs.size) [v] (.ref s2.heap.objs.size) [xv] (λ_ H9=>H9=upd H8 s2.heap.objs.size (.lst (vs++[v]))) I8 rfl (.cons rv .nil) ⟨_,vs,v,rfl,rfl,hv,zK (by rw[<-ra.length]; exact hlt) zaU,rfl⟩) λ_ s9 ⟨_,H9,I9,_,hH9⟩=>?_
            subst hH9;exact fin I9 (E7.trans (E8.trans (.put hm8))) (R8.put (o:=.lst (acc++[y])) hm8 ⟨vs++[v],zan,(ra.append (.cons r8 .nil)).ext R8 (.put hm8)⟩) e
           .cases e
          .cases e
  .have R3:HR X.K cl (μ++[s2.heap.objs.size]) (upd H2 s2.heap.objs.size (.lst [])) (h++[.lst []]):=R2.new fr2 ⟨[],zan,.nil⟩
   exact⟨0,σC nl ks σ,_,ρC nl ks ρ,_,_,I3,st3,fr3,R3,(erC er).ext R2 (.new fr2),.new fr2,by unfold ρC; simp,by rw[<-R2.len]; simp,e⟩
 exact codeAny_compStart_list (loop _ rfl) (T.self _ 0 _ _ _ st3 (loop _ rfl))
def zdv{elt tg iter:Expr}{ifs:List Expr}{scope sc:Scope}{pos:Pos}{N N':List Str}{nl:Nat}{ks:List Nat}{mi:MI}{g:MG}{t:MT}{m:ME}{H:Hp}{s:Shared}{μ:List Addr}{h h1 h2:MH}{n0:Nat}{ρ:En}{use:Option (Value->Sem Unit)}{Q:Value->Shared->Prop}{p2:Pos}
  (hc:X.calm=true) (hsc:X.env.scope=sc) (hN:X.N=N) (ok:CompOk sc N scope N' nl ks) (hi:SI X cl tg iter mi)
  (hg:∀cs C s₀ H₀ ex,SG (cxC X scope cs C N' s₀ H₀ ex) cl tg g) (ht:∀cs C s₀ H₀ ex,STs (cxC X scope cs C N' s₀ H₀ ex) cl ifs t) (he:∀cs C s₀ H₀ ex,SE (cxC X scope cs C N' s₀ H₀ ex) cl elt m)
  (I:Inv X pins σ H s) (R:HR X.K cl μ H h) (er:ER X.K μ H ρ σ) (e:zb1 mi nl ks g t m ρ h=some (n0,h1,h2)) (hs:∀x,foldedSetIterable iter X.env x=pure x)
  (k:∀D C s' H' μ' m' s2 H1 μ1,D≠C->s'.heap.Ns C m'->Inv X pins σ H' s'->H' C=none->X.env.locals≠C->(∀x c,X.env.cells.lookup x=some c->c≠C)->(X.s₀.heap.objs.size<=C)->(∀p∈X.pn++pins,p.1≠C)->Inv X pins σ H1 s2->Ext μ H μ1 H1->HR X.K cl μ1 H1 h1->Ext μ1 H1 μ' H'->HR X.K cl μ' H' h2->h1.length=n0->μ'[n0]?=some D->
   compPost (model X.prog X.w) X.A X.xe use Q (.ref D) C (.ok .next) s') :
  wpAny (model X.prog X.w) X.A (comprehension (.ListComp elt [⟨tg,iter,ifs,0⟩] scope pos) scope X.env p2 (newList []) false (eval iter X.env) use) Q X.xe s:=by
 subst hsc;have hcell:∀y∈scope.names,y.2=.free->∃c,X.env.cells.lookup y.1=some c:=λy hy e=>I.ok.has y.1 (zcS (ok.fall y hy e))
 obtain⟨cs,hclos,hcs,hall⟩:=zfs hcell;have key:∀{src:Src} {k0:Nat},mi ρ h=some (src,h1)->za9 src nl g t m h1.length k0 0 (ρC nl ks ρ) (h1++[.lst []])=some h2->n0=h1.length->
   wpAny (model X.prog X.w) X.A (comprehension (.ListComp elt [⟨tg,iter,ifs,0⟩] scope pos) scope X.env p2 (newList []) false (eval iter X.env) use) Q X.xe s:=by
  intro src k0 e1 e2 hn0;subst hn0;refine wpAny_comprehension_free (use:=use) rfl hs hclos ok.kind ok.names ?_;refine thn (hi pins s σ H (λJ H1=>∃μ1,Ext μ H μ1 H1/\HR X.K cl μ1 H1 h1/\JR X.K cl J src μ1 H1) I ⟨μ,h,ρ,src,h1,R,er,e1,λμ1 H1 J E1 R1 j=>⟨μ1,E1,R1,j⟩⟩) λv s1 q1=>thn q1 λitv s2 q2=>?_
  obtain⟨it,fp,tn,J,H2,rfl,I2,T,st2,f2,μ2,E2,R2,j⟩:=q2;refine zj9 (RR:=λacc C=>compPost (model X.prog X.w) X.A X.xe use Q acc C) hc rfl hN ok hg ht he I2 T st2 f2 hcs hall R2 (er.ext R E2) j e2 ?_;intro D C s' H' μ' m' hDC hns I' hfC hC E' R' hm;refine k D C s' H' μ' m' s2 H2 μ2 hDC hns I' hfC (zP (zK I2.lt hC)) (λx c e z=>?_) (zF I2.sz hC) (λp hp z=>?_) I2 E2 R2 E' R' rfl hm
  .obtain⟨v,o,ho,_⟩:=I2.cell x c e
   exact absurd (zK (zJ ho) (z▸hC)) (jX _)
  .exact absurd (zK (zJ (I2.pin p hp).1) (z▸hC)) (jX _)
 unfold zb1 at e;split at e
 .cases e
 .rename_i l h1' e1
  split at e
  .rename_i h2' e2
   cases e;have q:=zcb (nl:=nl) (g:=g) (t:=t) (m:=m) (n0:=h1.length) l (l.length+1) 0 (ρC nl ks ρ) (h1++[.lst []]) ∅ ∅;rw[xX] at q;exact key e1 (q.trans e2) rfl
  .cases e
 .rename_i n h1' e1
  split at e
  .rename_i h2' e2
   cases e;exact key e1 e2 rfl
  .cases e
def zla(sc:Scope)(N N':List Str)(nl:Nat)(ks:List Nat){elt tg iter:Expr}{ifs:List Expr}{scope:Scope}{pos:Pos}{mi:MI}{g:MG}{t:MT}{m:ME}(hc:X.calm=true)(ok:zbg sc N scope N' nl ks=true)(hi:SI X cl tg iter mi)
  (hg:∀cs C s₀ H₀ ex,SG (cxC X scope cs C N' s₀ H₀ ex) cl tg g) (ht:∀cs C s₀ H₀ ex,STs (cxC X scope cs C N' s₀ H₀ ex) cl ifs t) (he:∀cs C s₀ H₀ ex,SE (cxC X scope cs C N' s₀ H₀ ex) cl elt m)
  (hsc:X.env.scope=sc:=by rfl) (hN:X.N=N:=by rfl) (hs:∀x,foldedSetIterable iter X.env x=pure x:=by intro _; rfl):SE X cl (.ListComp elt [⟨tg,iter,ifs,0⟩] scope pos) (zcX mi nl ks g t m):=by
 rintro pins s σ H Q I ⟨μ,h,ρ,w,h',R,er,e,k⟩;unfold zcX at e;split at e
 .rename_i n0 h1 h2 e1
  cases e;rw[eval_ListComp];refine zdv (use:=none) hc hsc hN (zbA ok) hi hg ht he I R er e1 hs λD C s' H' μ' m' s2 H1 μ1 hDC hns I' hfC hL hcl hs0 hpn I2 E1 R1 E' R' hn hm=>?_
  exact⟨m',hns,λh'' hsb=>⟨.ref D,H',I'.turned (t':=s'.toks) (λb o hb e=>(hsb.2 b hb).trans e) hfC (jk hL) (.inr hs0) hcl hpn,rfl,k μ' H' _ (E1.trans E') R' (.ref hm)⟩⟩
 .cases e
def zdV{K:PySem.W.Frag}{μ μ1 μ':List Addr}{H H1 H':Hp}{h1 h2:MH}{n0:Nat}{l:List W}{D:Addr}{Q:VK}(k:KQ K cl μ H h1 (.fls l) Q)(E1:Ext μ H μ1 H1)(R1:HR K cl μ1 H1 h1)(E':Ext μ1 H1 μ' H')(R':HR K cl μ' H' h2)(hn:h1.length=n0)(hm:μ'[n0]?=some D)
  (ho:h2[n0]?=some (.lst l)) (pre:h1<+:h2) (lo:lows h1.length l=true):Q (.ref D) H':=by
 obtain⟨vs,hv,rv⟩:=R'.ob _ _ _ hm ho;have cut:Ext μ1 H1 μ1 H':=⟨jf _,λb o e n=>⟨(E'.fr b o e n).1,n⟩⟩;refine k μ1 H' _ (E1.trans cut) (R1.cut E' R' pre) (.fls (.inl ⟨.inl hv,λz=>?_⟩) (RWs.cut E'.pre (by rw[R1.len]; exact lo) rv));obtain⟨q,hq⟩:=vL.mp z;have h3:=E'.get hq;have hlt:q<μ1.length:=(zE.mp hq).1;obtain⟨z1,z2⟩:=zE.mp h3;obtain⟨z3,z4⟩:=zE.mp hm;have:q=n0:=(wO R'.nd).mp (z2.trans z4.symm);subst this;rw[R1.len] at hlt;omega
def zmu(sc:Scope)(N N':List Str)(nl:Nat)(ks:List Nat){elt tg iter:Expr}{ifs:List Expr}{scope:Scope}{pos:Pos}{mi:MI}{g:MG}{t:MT}{m:ME}(hc:X.calm=true)(ok:zbg sc N scope N' nl ks=true)(hi:SI X cl tg iter mi)
  (hg:∀cs C s₀ H₀ ex,SG (cxC X scope cs C N' s₀ H₀ ex) cl tg g) (ht:∀cs C s₀ H₀ ex,STs (cxC X scope cs C N' s₀ H₀ ex) cl ifs t) (he:∀cs C s₀ H₀ ex,SE (cxC X scope cs C N' s₀ H₀ ex) cl elt m)
  (hsc:X.env.scope=sc:=by rfl) (hN:X.N=N:=by rfl) (hs:∀x,foldedSetIterable iter X.env x=pure x:=by intro _; rfl):SE X cl (.ListComp elt [⟨tg,iter,ifs,0⟩] scope pos) (zaq mi nl ks g t m):=by
 rintro pins s σ H Q I ⟨μ,h,ρ,w,h',R,er,e,k⟩;unfold zaq at e;split at e
 .rename_i n0 h1 h2 e1
  split at e
  .rename_i l ho
   split at e
   .rename_i c
    cases e;rw[eval_ListComp];refine zdv (use:=none) hc hsc hN (zbA ok) hi hg ht he I R er e1 hs λD C s' H' μ' m' s2 H1 μ1 hDC hns I' hfC hL hcl hs0 hpn I2 E1 R1 E' R' hn hm=>?_
    exact⟨m',hns,λh'' hsb=>⟨.ref D,H',I'.turned (t':=s'.toks) (λb o hb e=>(hsb.2 b hb).trans e) hfC (jk hL) (.inr hs0) hcl hpn,rfl,zdV k E1 R1 E' R' hn hm ho c.1 c.2⟩⟩
   .cases e
  .cases e
 .cases e
def zei{elt tg iter:Expr}{ifs:List Expr}{scope sc:Scope}{pos spos:Pos}{N N':List Str}{nl:Nat}{ks:List Nat}{mi:MI}{g:MG}{t:MT}{m:ME}{H:Hp}{s:Shared}{μ:List Addr}{h h1 h2:MH}{n0:Nat}{ρ:En}{i:Nat}{x:Str}{px:Pos}{D:Ends}
  (hNd:X.N.Nodup) (hix:X.N[i]?=some x) (hx:X.env.kindOf x=some .local) (hsw:swapsWith (.ListComp elt [⟨tg,iter,ifs,0⟩] scope pos) (some (.Name x px)) spos.line X.env=pure true)
  (hc:X.calm=true) (hsc:X.env.scope=sc) (hN:X.N=N) (ok:CompOk sc N scope N' nl ks) (hi:SI X cl tg iter mi)
  (hg:∀cs C s₀ H₀ ex,SG (cxC X scope cs C N' s₀ H₀ ex) cl tg g) (ht:∀cs C s₀ H₀ ex,STs (cxC X scope cs C N' s₀ H₀ ex) cl ifs t) (he:∀cs C s₀ H₀ ex,SE (cxC X scope cs C N' s₀ H₀ ex) cl elt m)
  (I:Inv X pins σ H s) (R:HR X.K cl μ H h) (er:ER X.K μ H ρ σ) (e:zb1 mi nl ks g t m ρ h=some (n0,h1,h2)) (hs:∀x,foldedSetIterable iter X.env x=pure x)
  (k:∀A H' μ' H1 μ1,Ext μ H μ1 H1->HR X.K cl μ1 H1 h1->Ext μ1 H1 μ' H'->HR X.K cl μ' H' h2->h1.length=n0->μ'[n0]?=some A->D.nx (σ.set i (some (.ref A))) H') :
  wpAny (model X.prog X.w) X.A (exec (.Assign [.Name x px] (.ListComp elt [⟨tg,iter,ifs,0⟩] scope pos) spos) X.env) (SP X pins D) X.xe s:=by
 rw[exec_Assign_Name_used _ _ _ _ hsw];refine za (xF (za ?_));show wpAny _ X.A (do let _ <-comprehension (.ListComp elt [⟨tg,iter,ifs,0⟩] scope pos) scope X.env _ (newList []) false (eval iter X.env) (some (assign (.Name x px) X.env))) _ _ s
 refine za (jV (zdv (use:=some (assign (.Name x px) X.env)) (Q:=λ_ s'=>SP X pins D .next s') hc hsc hN ok hi hg ht he I R er e hs ?_) (λ_ s' hq=>zg (zg hq)) λ_ _ e=>e);intro A C s' H' μ' m' s2 H1 μ1 hDC hns I' hfC hL hcl hs0 hpn I2 E1 R1 E' R' hn hm;show wpAny _ X.A (assign (.Name x px) X.env (.ref A)) _ _ _
 refine wpAny_assign_Name (zeZ (v:=.ref A) I' hNd hix (.inl hx) rfl (λs'' I'' hsb=>?_) (.inr hx));obtain⟨a,sb,ha⟩:=hsb;have hCa:C≠a:=by
  rcases ha with rfl | ha
  .exact jk hL
  .exact λz=>hcl x a ha z.symm
 refine⟨m',hns.sameBut sb hCa,λh3 sb3=>⟨_,H',I''.turned (t':=s''.toks) (λb o hb e=>(sb3.2 b hb).trans e) hfC (jk hL) (.inr hs0) hcl hpn,k A H' μ' H1 μ1 E1 R1 E' R' hn hm⟩⟩
def zlI(i:Nat)(sc:Scope)(N N':List Str)(nl:Nat)(ks:List Nat){elt tg iter:Expr}{ifs:List Expr}{scope:Scope}{pos spos px:Pos}{x:Str}{mi:MI}{g:MG}{t:MT}{m:ME}(hNd:X.N.Nodup)(hc:X.calm=true)(ok:zbg sc N scope N' nl ks=true)(hi:SI X cl tg iter mi)
  (hg:∀cs C s₀ H₀ ex,SG (cxC X scope cs C N' s₀ H₀ ex) cl tg g) (ht:∀cs C s₀ H₀ ex,STs (cxC X scope cs C N' s₀ H₀ ex) cl ifs t) (he:∀cs C s₀ H₀ ex,SE (cxC X scope cs C N' s₀ H₀ ex) cl elt m)
  (hsc:X.env.scope=sc:=by rfl) (hN:X.N=N:=by rfl) (hs:∀x,foldedSetIterable iter X.env x=pure x:=by intro _; rfl) (hix:X.N[i]?=some x:=by rfl) (hx:X.env.kindOf x=some .local:=by rfl)
  (hsw:swapsWith (.ListComp elt [⟨tg,iter,ifs,0⟩] scope pos) (some (.Name x px)) spos.line X.env=pure true:=by rfl):SS X cl (.Assign [.Name x px] (.ListComp elt [⟨tg,iter,ifs,0⟩] scope pos) spos) (sAsg (zcX mi nl ks g t m) (gNm i)):=by
 rintro pins s σ H D I ⟨μ,h,ρ,fl,h',R,er,e,k⟩;unfold sAsg at e;split at e
 .rename_i w h2 e1
  split at e
  .rename_i ρ2 h3 e2
   cases e;unfold zcX at e1;split at e1
   .rename_i n0 h1 h2' e0
    cases e1;unfold gNm at e2;split at e2
    .rename_i hi'
     cases e2;exact zei hNd hix hx hsw hc hsc hN (zbA ok) hi hg ht he I R er e0 hs λA H' μ' H1 μ1 E1 R1 E' R' hn hm=>k μ' H' (E1.trans E') R' _ ((er.ext R (E1.trans E')).set hi' (.ref hm))
    .cases e2
   .cases e1
  .cases e
 .cases e
def znf(i:Nat)(sc:Scope)(N N':List Str)(nl:Nat)(ks:List Nat){elt tg iter:Expr}{ifs:List Expr}{scope:Scope}{pos spos px:Pos}{x:Str}{mi:MI}{g:MG}{t:MT}{m:ME}(hNd:X.N.Nodup)(hc:X.calm=true)(ok:zbg sc N scope N' nl ks=true)(hi:SI X cl tg iter mi)
  (hg:∀cs C s₀ H₀ ex,SG (cxC X scope cs C N' s₀ H₀ ex) cl tg g) (ht:∀cs C s₀ H₀ ex,STs (cxC X scope cs C N' s₀ H₀ ex) cl ifs t) (he:∀cs C s₀ H₀ ex,SE (cxC X scope cs C N' s₀ H₀ ex) cl elt m)
  (hsc:X.env.scope=sc:=by rfl) (hN:X.N=N:=by rfl) (hs:∀x,foldedSetIterable iter X.env x=pure x:=by intro _; rfl) (hix:X.N[i]?=some x:=by rfl) (hx:X.env.kindOf x=some .local:=by rfl)
  (hsw:swapsWith (.ListComp elt [⟨tg,iter,ifs,0⟩] scope pos) (some (.Name x px)) spos.line X.env=pure true:=by rfl):SS X cl (.Assign [.Name x px] (.ListComp elt [⟨tg,iter,ifs,0⟩] scope pos) spos) (sAsg (zaq mi nl ks g t m) (gNm i)):=by
 rintro pins s σ H D I ⟨μ,h,ρ,fl,h',R,er,e,k⟩;unfold sAsg at e;split at e
 .rename_i w h2 e1
  split at e
  .rename_i ρ2 h3 e2
   cases e;unfold zaq at e1;split at e1
   .rename_i n0 h1 h2' e0
    split at e1
    .rename_i l ho
     split at e1
     .rename_i c
      cases e1;unfold gNm at e2;split at e2
      .rename_i hi'
       cases e2;refine zei hNd hix hx hsw hc hsc hN (zbA ok) hi hg ht he I R er e0 hs λA H' μ' H1 μ1 E1 R1 E' R' hn hm=>?_
       exact zdV (Q:=λv H'=>D.nx (σ.set i (some v)) H') (λμ3 H3 v E3 R3 r3=>k μ3 H3 E3 R3 _ ((er.ext R E3).set hi' r3)) E1 R1 E' R' hn hm ho c.1 c.2
      .cases e2
     .cases e1
    .cases e1
   .cases e1
  .cases e
 .cases e
end
def zdT{X:Cx}{pins:List (Addr×Obj)}{σ:L2.St}{H:Hp}{s:Shared}{h':Heap}{t':Nat}{fp:List Addr}(I:Inv X pins σ H s)(k:∀b o,b∉fp->s.heap.get? b=some o->h'.get? b=some o)(hf:∀b∈fp,FpOk X pins H b) :
  Inv X pins σ H { s with heap:=h',toks:=t' }:=by
 have away:∀b u,H b=some u->b∉fp:=λb u e z=>by rw[(hf b z).1] at e; cases e
 refine I.step (g':=s.gens) (d':=s.drawn) (ch:=fp) (λb hb=>⟨(hf b hb).2.2.2.1,(hf b hb).2.1,(hf b hb).2.2.2.2.1,(hf b hb).2.2.2.2.2⟩) (λb o _ _ hc e _=>k b o hc e) (λb o _ _ hc e _=>⟨o.slots,k b o hc e⟩) (λ_ _ _ _ n=>n)
  (λb o hc e=>⟨o,k b o hc e⟩) (λ_ _ e=>e) (λ_ _ _ e=>e) (λb ps e=>⟨#[],by rw[e]; simp⟩) (λm hm=>?_) (λb u e=>?_) I.bare
 .obtain⟨o,es,ep,ho,r⟩:=hm
  exact⟨o,es,ep,k _ o (λz=>(hf _ z).2.1 rfl) ho,r⟩
 .refine(I.hok b u e).stay (λc v hc q=>k c v ?_ q) (λ_ q=>q) λ_ _ q=>q
  rcases hc with z | z
  .rw[z]; exact away b u e
  .exact away c _ z
structure Stp(it a:Addr)(P:Nat->Heap->Prop)(C:Heap->List Value->Prop):Prop where
 keep:∀{i:Nat} {h h':Heap},P i h->(∀o,h.get? it=some o->h'.get? it=some o)->P i h'
 keepC:∀{h h':Heap} {l:List Value},C h l->(∀o,h.get? a=some o->h'.get? a=some o)->C h' l
 obj:∀{i:Nat} {h:Heap},P i h->∃o,h.get? it=some o/\∀v,o.data≠.cell v
 item:∀{prog:Program} {w:World} {A:Around} {E:Value->Shared->Prop} {s:Shared} {i:Nat} {l:List Value} {x:Value} {Q:Value->Shared->Prop},P i s.heap->C s.heap l->l[i]?=some x->
  (∀h',P (i+1) h'->Heap.SameBut it s.heap h'->Q x { s with heap:=h' })->wpAny (model prog w) A (Builtin.SmallTypes.nextOf (.ref it)) Q E s
 last:∀{prog:Program} {w:World} {A:Around} {E:Value->Shared->Prop} {s:Shared} {i:Nat} {l:List Value} {Q:Value->Shared->Prop},A.handled=none->P i s.heap->C s.heap l->l[i]?=none->
  (∀h' e,Heap.ExtBut it s.heap h'->(∃o,h'.get? e=some o/\o.cls=.type "StopIteration")->E (.ref e) { s with heap:=h' })->wpAny (model prog w) A (Builtin.SmallTypes.nextOf (.ref it)) Q E s
def zlK(it a:Addr):Stp it a (λi h=>h.IsListIter it a i) (λh l=>h.IsList a l.toArray) where
 keep:=λp k=>p.at λo e=>k o e
 keepC:=λp k=>p.at λo e=>k o e
 obj:=λ⟨o,e,_,d⟩=>⟨o,e,λv z=>by rw[d] at z; cases z⟩
 item:=λp c e q=>wpAny_nextOf_list_item p c (by simpa using e) q
 last:=λhh p c e q=>wpAny_nextOf_list_end hh p c (by simpa using e) q
section
variable{prog:Program}{w:World}{A:Around}{E:Value->Shared->Prop}{s:Shared}
def zdl{it t:Addr}{i:Nat}{items:Array Value}{x:Value}{Q:Value->Shared->Prop}(hit:s.heap.IsTupleIter it t i)(ht:s.heap.IsTuple t items)(hx:items[i]?=some x)
  (hQ:∀h',h'.IsTupleIter it t (i+1)->Heap.SameBut it s.heap h'->Q x { s with heap:=h' }):wpAny (model prog w) A (Builtin.SmallTypes.nextOf (.ref it)) Q E s:=by
 obtain⟨oi,gi,ci,di⟩:=id hit; obtain⟨ot,gt,_,nt,dt⟩:=ht; unfold Builtin.SmallTypes.nextOf;refine za (jq (name:=Str.ofString "__next__") hit.typeIs vp (jj vp hit.typeIs uE ?_ (uy _)));show wpAny _ _ (field (.ref it) 0 >>= _) _ _ s; refine za (jU gi di (x:=.ref t) rfl ?_)
 show wpAny _ _ (if (Value.ref t==Value.none)=true then _ else _) _ _ s; rw[zZ (show ¬((Value.ref t==Value.none)=true) from zN)]
 show wpAny _ _ (field (.ref it) 1 >>= _) _ _ s; refine za (jU gi di (x:=.int i 0) rfl ?_)
 show wpAny _ _ (seqItems? (.ref t) >>= _) _ _ s; refine za (jH gt dt ?_)
 simp only[jl,hx]; refine za (yS gi di (by simp) (zg ⟨x,rfl,zg (hQ _ ?_ (jL ..))⟩));exact⟨_,jr _ gi (Obj.isFreed_of_fields (wM di _)),(Obj.cls_mapFields ..).trans ci,by rw[wM di]; simp[rawInt]⟩
def zdy{it t:Addr}{i:Nat}{items:Array Value}{Q:Value->Shared->Prop}(hh:A.handled=none)(hit:s.heap.IsTupleIter it t i)(ht:s.heap.IsTuple t items)(hx:items[i]?=none)
  (hE:∀h' e,Heap.ExtBut it s.heap h'->(∃o,h'.get? e=some o/\o.cls=.type "StopIteration")->E (.ref e) { s with heap:=h' }):wpAny (model prog w) A (Builtin.SmallTypes.nextOf (.ref it)) Q E s:=by
 obtain⟨oi,gi,ci,di⟩:=id hit; obtain⟨ot,gt,_,nt,dt⟩:=ht; unfold Builtin.SmallTypes.nextOf;refine za (jq (name:=Str.ofString "__next__") hit.typeIs vp (jj vp hit.typeIs uE ?_ (uy _)));show wpAny _ _ (field (.ref it) 0 >>= _) _ _ s; refine za (jU gi di (x:=.ref t) rfl ?_)
 show wpAny _ _ (if (Value.ref t==Value.none)=true then _ else _) _ _ s; rw[zZ (show ¬((Value.ref t==Value.none)=true) from zN)]
 show wpAny _ _ (field (.ref it) 1 >>= _) _ _ s; refine za (jU gi di (x:=.int i 0) rfl ?_)
 show wpAny _ _ (seqItems? (.ref t) >>= _) _ _ s; refine za (jH gt dt ?_)
 simp only[jl,hx]; refine za (qt (za (yS gi di (by simp) ?_))); show wpAny _ _ (newExc (.type "StopIteration") [] >>= _) _ _ _
 refine za ?_; simp only[newExc,newTuple]; refine za (kO ?_ (by size_fits));refine za (m:=firstArgMember _ _) (wj (a:=Value.none) (by first | rfl | (simp only[firstArgMember]; rfl)) ?_); refine kO ?_ (by size_fits);simp only[raiseNew]; refine za (wpAny_handled ?_); first | rw[show A.in1.handled=none from hh] | rw[hh]
 refine za (zg (xf ?_)); exact hE _ _ (((jL ..).extBut.push _).push _) ⟨_,zA _ rfl,rfl⟩
end
def ziW(it a:Addr):Stp it a (λi h=>h.IsTupleIter it a i) (λh l=>h.IsTuple a l.toArray) where
 keep:=λp k=>p.at λo e=>k o e
 keepC:=λp k=>p.at λo e=>k o e
 obj:=λ⟨o,e,_,d⟩=>⟨o,e,λv z=>by rw[d] at z; cases z⟩
 item:=λp c e q=>zdl p c (by simpa using e) q
 last:=λhh p c e q=>zdy hh p c (by simpa using e) q
structure ZApart(z TI TO i1 i2 a1 a2:Addr):Prop where
 nd:[z,TI,TO,i1,i2].Nodup
 f1:a1∉[z,TI,TO,i1,i2]
 f2:a2∉[z,TI,TO,i1,i2]
noncomputable def ZSt(z TI TO i1 i2:Addr)(P1 P2:Nat->Heap->Prop)(f0:Value)(k1 k2:Nat)(h:Heap):Prop:=IsZip h z TI TO f0/\IsPair h TI (.ref i1) (.ref i2)/\(∃a b,IsPair h TO a b)/\P1 k1 h/\P2 k2 h
section
variable{prog:Program}{w:World}{A:Around}{E:Value->Shared->Prop}{s:Shared}{z TI TO i1 i2 a1 a2:Addr}{P1 P2:Nat->Heap->Prop}{C1 C2:Heap->List Value->Prop}
def zll(S1:Stp i1 a1 P1 C1)(S2:Stp i2 a2 P2 C2)(D:ZApart z TI TO i1 i2 a1 a2){k:Nat}{l1 l2:List Value}{x y:Value}{Q:Option Value->Shared->Prop}(st:ZSt z TI TO i1 i2 P1 P2 .none k k s.heap)(c1:C1 s.heap l1)(c2:C2 s.heap l2)(hx:l1[k]?=some x)(hy:l2[k]?=some y)
  (hQ:∀h',ZSt z TI TO i1 i2 P1 P2 (rawInt s.heap.objs.size) (k+1) (k+1) h'->h'.get? s.heap.objs.size=some { cls:=.type "tuple",data:=.seq #[x,y] }->(∀c o,c∉[z,TI,TO,i1,i2]->s.heap.get? c=some o->h'.get? c=some o)->Q (some (.ref s.heap.objs.size)) { s with heap:=h' }) :
  wpAny (model prog w) A (pyNext (.ref z)) Q E s:=by
 obtain⟨hz,hTI,⟨a,b,hTO⟩,p1,p2⟩:=st;have n:=D.nd;simp only[jA,zf,zm,zV,yc] at n;obtain⟨⟨n1,n2,n3,n4⟩,⟨n5,n6,n7⟩,⟨n8,n9⟩,n10,_⟩:=n;have g1:=D.f1; have g2:=D.f2;simp only[zf,zm,zV,yc] at g1 g2;obtain⟨g11,g12,g13,g14,g15⟩:=g1;obtain⟨g21,g22,g23,g24,g25⟩:=g2;have hT:s.TypeIs (.ref z) "zip":=⟨_,hz,rfl⟩;unfold pyNext;refine za (q9 (jq (name:=Str.ofString "__next__") hT yF (jj yF hT F.entry_zip_next ?_ (F.args_zip_next_1 _))));show wpAny _ _ (field (.ref z) 2 >>= _) _ _ _; refine za (jU hz rfl (x:=.bool false) rfl ?_)
 show wpAny _ _ (field (.ref z) 3 >>= _) _ _ _; refine za (jU hz rfl (x:=.ref TI) rfl ?_)
 refine za (jH hTI rfl ?_); show wpAny _ _ (Builtin.SmallTypes.ownedTupleIsFree (.ref z) >>= _) _ _ _
 refine za ?_; unfold Builtin.SmallTypes.ownedTupleIsFree;refine za (jU hz rfl (x:=.none) rfl (zg ?_)); simp only[jd];refine za (qt ?_); refine za (jU hz rfl (x:=.ref TO) rfl ?_);refine za (jo hz (by simp) λh1 q1 e1=>?_); replace q1:IsZip h1 z TI TO .ellipsis:=q1;refine za ?_; simp only[List.zipIdx_cons,List.zipIdx_nil,yf,List.forIn_nil];refine za (za (xG ?_)); show wpAny _ _ (Builtin.SmallTypes.nextOf (.ref i1) >>= _) _ _ _
 refine za (S1.item (S1.keep p1 λo e=>e1.extBut _ _ (jk n3) e) (S1.keepC c1 λo e=>e1.extBut _ _ g11 e) hx λh2 r1 e2=>zg ?_);have t2:IsPair h2 TO a b:=e2.extBut _ _ n8 (e1.extBut _ _ (jk n2) hTO);refine za (jH t2 rfl ?_); refine za (yK t2 λh3 t3 e3=>?_);replace t3:IsPair h3 TO x b:=t3
 refine za (wpAny_letGo (zg ?_)); refine za (za (xG ?_)); show wpAny _ _ (Builtin.SmallTypes.nextOf (.ref i2) >>= _) _ _ _
 refine za (S2.item (S2.keep p2 λo e=>e3.extBut _ _ (jk n9) (e2.extBut _ _ (jk n10) (e1.extBut _ _ (jk n4) e))) (S2.keepC c2 λo e=>e3.extBut _ _ g23 (e2.extBut _ _ g24 (e1.extBut _ _ g21 e))) hy λh4 r2 e4=>zg ?_);have t4:IsPair h4 TO x b:=e4.extBut _ _ n9 t3;refine za (jH t4 rfl ?_); refine za (yK t4 λh5 t5 e5=>?_);replace t5:IsPair h5 TO x y:=t5
 refine za (wpAny_letGo (zg (zg ?_))); refine za (jH t5 rfl ?_); refine za (uL ?_);have sz:h5.objs.size=s.heap.objs.size:=by rw[e5.1,e4.1,e3.1,e2.1,e1.1]
 have all:∀c o,c∉[z,TI,TO,i1,i2]->s.heap.get? c=some o->h5.get? c=some o:=λc o hc e=>by
  simp only[zf,zm,zV,yc] at hc;exact e5.extBut _ _ hc.2.2.1 (e4.extBut _ _ hc.2.2.2.2 (e3.extBut _ _ hc.2.2.1 (e2.extBut _ _ hc.2.2.2.1 (e1.extBut _ _ hc.1 e))))
 have z5:IsZip h5 z TI TO .ellipsis:=e5.extBut _ _ n2 (e4.extBut _ _ n4 (e3.extBut _ _ n2 (e2.extBut _ _ n3 q1)));have ti5:IsPair h5 TI (.ref i1) (.ref i2):=e5.extBut _ _ n5 (e4.extBut _ _ n7 (e3.extBut _ _ n5 (e2.extBut _ _ n6 (e1.extBut _ _ (jk n1) hTI))));have u1:P1 (k+1) h5:=S1.keep r1 λo e=>e5.extBut _ _ (jk n8) (e4.extBut _ _ n10 (e3.extBut _ _ (jk n8) e))
 have u2:P2 (k+1) h5:=S2.keep r2 λo e=>e5.extBut _ _ (jk n9) e
 have zlt:z<h5.objs.size:=zJ z5;show wpAny _ _ (Builtin.SmallTypes.ownedTupleHandOut (.ref z) (.ref h5.objs.size) >>= _) _ _ _
 refine za ?_; unfold Builtin.SmallTypes.ownedTupleHandOut;have z6:IsZip (h5.push { cls:=.type "tuple",data:=.seq #[x,y] }) z TI TO .ellipsis:=zc _ z5;refine za (jo z6 (by simp) λh7 z7 e7=>?_); replace z7:IsZip h7 z TI TO (rawInt h5.objs.size):=z7;refine jo z7 (by simp) λh8 z8 e8=>?_
 replace z8:IsZip h8 z TI TO (rawInt h5.objs.size):=z8
 have up:∀c o,c≠z->h5.get? c=some o->h8.get? c=some o:=λc o c1 e=>e8.extBut _ _ c1 (e7.extBut _ _ c1 (zc _ e))
 have t8:h8.get? h5.objs.size=some { cls:=.type "tuple",data:=.seq #[x,y] }:=e8.extBut _ _ (vK zlt) (e7.extBut _ _ (vK zlt) (zA _ rfl));rw[sz] at z8 t8;refine zg ⟨_,rfl,zg ?_⟩;show Q (some (.ref h5.objs.size)) _
 rw[sz];exact hQ h8 ⟨z8,up _ _ (jk n1) ti5,⟨x,y,up _ _ (jk n2) t5⟩,S1.keep u1 λo e=>up _ o (jk n3) e,S2.keep u2 λo e=>up _ o (jk n4) e⟩ t8 λc o hc e=>up c o (λq=>hc (by simp[q])) (all c o hc e)
def zkW(S1:Stp i1 a1 P1 C1)(S2:Stp i2 a2 P2 C2)(D:ZApart z TI TO i1 i2 a1 a2){k:Nat}{l1 l2:List Value}{Q:Option Value->Shared->Prop}(hh:A.handled=none)(st:ZSt z TI TO i1 i2 P1 P2 .none k k s.heap)(c1:C1 s.heap l1)(c2:C2 s.heap l2)(he:l1[k]?=none\/l2[k]?=none)
  (hQ:∀h',(∀c o,c∉[z,TI,TO,i1,i2]->s.heap.get? c=some o->h'.get? c=some o)->Q none { s with heap:=h' }):wpAny (model prog w) A (pyNext (.ref z)) Q E s:=by
 obtain⟨hz,hTI,⟨a,b,hTO⟩,p1,p2⟩:=st;have n:=D.nd;simp only[jA,zf,zm,zV,yc] at n;obtain⟨⟨n1,n2,n3,n4⟩,⟨n5,n6,n7⟩,⟨n8,n9⟩,n10,_⟩:=n;have g1:=D.f1; have g2:=D.f2;simp only[zf,zm,zV,yc] at g1 g2;obtain⟨g11,g12,g13,g14,g15⟩:=g1;obtain⟨g21,g22,g23,g24,g25⟩:=g2;have hT:s.TypeIs (.ref z) "zip":=⟨_,hz,rfl⟩;have stop:∀{h':Heap} {e:Addr},(∃o,h'.get? e=some o/\o.cls=.type "StopIteration")->(∀c o,c∉[z,TI,TO,i1,i2]->s.heap.get? c=some o->h'.get? c=some o)->
   wpAny (model prog w) A (isInstance (.ref e) (.type "StopIteration") >>= λx=>if x=true then pure none else throw (.ref e)) Q E { s with heap:=h' }:=λ{h' e} ⟨o,ho,hc⟩ kk=>
  za (vD (T:="StopIteration") (b:=true) ⟨o,ho,hc⟩ uO (zg (hQ _ kk)))
 unfold pyNext;refine za (q9 (jq (name:=Str.ofString "__next__") hT yF (jj yF hT F.entry_zip_next ?_ (F.args_zip_next_1 _))));show wpAny _ _ (field (.ref z) 2 >>= _) _ _ _; refine za (jU hz rfl (x:=.bool false) rfl ?_)
 show wpAny _ _ (field (.ref z) 3 >>= _) _ _ _; refine za (jU hz rfl (x:=.ref TI) rfl ?_)
 refine za (jH hTI rfl ?_); show wpAny _ _ (Builtin.SmallTypes.ownedTupleIsFree (.ref z) >>= _) _ _ _
 refine za ?_; unfold Builtin.SmallTypes.ownedTupleIsFree;refine za (jU hz rfl (x:=.none) rfl (zg ?_)); simp only[jd];refine za (qt ?_); refine za (jU hz rfl (x:=.ref TO) rfl ?_);refine za (jo hz (by simp) λh1 q1 e1=>?_); replace q1:IsZip h1 z TI TO .ellipsis:=q1;refine za ?_; simp only[List.zipIdx_cons,List.zipIdx_nil,yf,List.forIn_nil];refine za (za (xG ?_)); show wpAny _ _ (Builtin.SmallTypes.nextOf (.ref i1) >>= _) _ _ _
 have p1':=S1.keep (h':=h1) p1 λo e=>e1.extBut _ _ (jk n3) e
 have c1':=S1.keepC (h':=h1) c1 λo e=>e1.extBut _ _ g11 e
 cases hx:l1[k]? with
 | none=>
  refine za (S1.last hh p1' c1' hx λh2 e e2 ⟨oe,ge,ce⟩=>?_);have z2:IsZip h2 z TI TO .ellipsis:=e2 _ _ n3 q1;have ne:e≠z:=λq=>by subst q; rw[z2] at ge; cases ge; simp at ce
  refine jo z2 (by simp) λh3 _ e3=>?_
  refine stop ⟨oe,e3.extBut _ _ ne ge,ce⟩ λc o hc g=>?_
  simp only[zf,zm,zV,yc] at hc;exact e3.extBut _ _ hc.1 (e2 _ _ hc.2.2.2.1 (e1.extBut _ _ hc.1 g))
 | some x=>
  have hy:l2[k]?=none:=by rcases he with h | h; rw[hx] at h; cases h; exact h
  refine za (S1.item p1' c1' hx λh2 r1 e2=>zg ?_);have t2:IsPair h2 TO a b:=e2.extBut _ _ n8 (e1.extBut _ _ (jk n2) hTO);refine za (jH t2 rfl ?_); refine za (yK t2 λh3 t3 e3=>?_);refine za (wpAny_letGo (zg ?_)); refine za (za (xG ?_)); show wpAny _ _ (Builtin.SmallTypes.nextOf (.ref i2) >>= _) _ _ _
  refine za (S2.last hh (S2.keep p2 λo e=>e3.extBut _ _ (jk n9) (e2.extBut _ _ (jk n10) (e1.extBut _ _ (jk n4) e))) (S2.keepC c2 λo e=>e3.extBut _ _ g23 (e2.extBut _ _ g24 (e1.extBut _ _ g21 e))) hy λh4 e e4 ⟨oe,ge,ce⟩=>?_);have z4:IsZip h4 z TI TO .ellipsis:=e4 _ _ n4 (e3.extBut _ _ n2 (e2.extBut _ _ n3 q1));have ne:e≠z:=λq=>by subst q; rw[z4] at ge; cases ge; simp at ce
  refine jo z4 (by simp) λh5 _ e5=>?_
  refine stop ⟨oe,e5.extBut _ _ ne ge,ce⟩ λc o hc g=>?_
  simp only[zf,zm,zV,yc] at hc;exact e5.extBut _ _ hc.1 (e4 _ _ hc.2.2.2.2 (e3.extBut _ _ hc.2.2.1 (e2.extBut _ _ hc.2.2.2.1 (e1.extBut _ _ hc.1 g))))
end
noncomputable def Itb(v:Value)(o:Obj)(C:Heap->Prop):Prop:=∀(prog:Program) (w:World) (A:Around) (E:Value->Shared->Prop) (s:Shared) (Q:Value->Shared->Prop),C s.heap->Q (.ref s.heap.objs.size) { s with heap:=s.heap.push o }->wpAny (model prog w) A (pyIter v) Q E s
def zkP(a:Addr)(l:List Value):Itb (.ref a) { cls:=.type "list_iterator",data:=.fields #[.ref a,.int 0 0] } (λh=>h.IsList a l.toArray):=λ_ _ _ _ _ _ c q=>q8 c q
def zjb(a:Addr)(l:List Value):Itb (.ref a) { cls:=.type "tuple_iterator",data:=.fields #[.ref a,.int 0 0] } (λh=>h.IsTuple a l.toArray):=λ_ _ _ _ _ _ c q=>wL c q
section
variable{v1 v2:Value}{o1 o2:Obj}{C1 C2:Heap->Prop}
abbrev zp1(h:Heap)(o1:Obj):Heap:=h.push o1
abbrev zp2(h:Heap)(o1 o2:Obj):Heap:=(zp1 h o1).push o2
abbrev zp3(h:Heap)(o1 o2:Obj):Heap:=(zp2 h o1 o2).push { cls:=.type "tuple",data:=.seq #[.ref h.objs.size,.ref (zp1 h o1).objs.size] }
abbrev zp4(h:Heap)(o1 o2:Obj):Heap:=(zp3 h o1 o2).push { cls:=.type "tuple",data:=.seq #[.none,.none] }
abbrev zp5(h:Heap)(o1 o2:Obj):Heap:=(zp4 h o1 o2).push { cls:=.type "zip",data:=.fields #[.none,.bool false,.bool false,.ref (zp2 h o1 o2).objs.size,.ref (zp3 h o1 o2).objs.size] }
def zmC(r1:Itb v1 o1 C1)(r2:Itb v2 o2 C2) :
  Meets (Builtin.«zip.__new__» ⟨[.type "zip",v1,v2],[]⟩) (λ_ R s=>C1 s.heap/\C2 (s.heap.push o1)/\R (.ok (.ret (.ref (zp4 s.heap o1 o2).objs.size))) { s with heap:=zp5 s.heap o1 o2 }):=
 .of_wp λprog w A R s h=>by
  obtain⟨hp,g,d,tk,os⟩:=s; obtain⟨k1,k2,h⟩:=h;have hsub:=sub_zip;have q1:∀{A:Around} {E:Value->Shared->Prop} {Q:Value->Shared->Prop},Q (.ref hp.objs.size) ⟨hp.push o1,g,d,tk,os⟩->wpAny (model prog w) A (pyIter v1) Q E ⟨hp,g,d,tk,os⟩:=λq=>r1 prog w _ _ _ _ k1 q
  have q2:∀{A:Around} {E:Value->Shared->Prop} {Q:Value->Shared->Prop},Q (.ref (hp.push o1).objs.size) ⟨(hp.push o1).push o2,g,d,tk,os⟩->wpAny (model prog w) A (pyIter v2) Q E ⟨hp.push o1,g,d,tk,os⟩:=λq=>r2 prog w _ _ _ _ k2 q
  wp_walk using q1,q2
  exact⟨_,rfl,h⟩
end
section
variable{prog:Program}{w:World}{A:Around}{E:Value->Shared->Prop}{s:Shared}{v1 v2:Value}{o1 o2:Obj}{C1 C2:Heap->Prop}
def zlw(r1:Itb v1 o1 C1)(r2:Itb v2 o2 C2){Q:Value->Shared->Prop}(k1:C1 s.heap)(k2:C2 (s.heap.push o1))(hf1:o1.isFreed=false)(hf2:o2.isFreed=false)
  (h:∀h',IsZip h' (s.heap.objs.size+4) (s.heap.objs.size+2) (s.heap.objs.size+3) .none->IsPair h' (s.heap.objs.size+2) (.ref s.heap.objs.size) (.ref (s.heap.objs.size+1))->
   IsPair h' (s.heap.objs.size+3) .none .none->h'.get? s.heap.objs.size=some o1->h'.get? (s.heap.objs.size+1)=some o2->(∀c o,s.heap.get? c=some o->h'.get? c=some o)->Q (.ref (s.heap.objs.size+4)) { s with heap:=h' }) :
  wpAny (model prog w) A (call (.type "zip") [v1,v2]) Q E s:=by
 refine callType_new F.called_zip (by decide) (F.typeCall_zip_2 _ _) (F.newCall_zip_2 _ _) (λobj=>F.args_object_init_3 obj _ _) F.entry_zip_new (zmC r1 r2) ⟨k1,k2,?_⟩;have y1:(zp1 s.heap o1).objs.size=s.heap.objs.size+1:=jK ..;have y2:(zp2 s.heap o1 o2).objs.size=s.heap.objs.size+2:=by rw[jK,y1]
 have y3:(zp3 s.heap o1 o2).objs.size=s.heap.objs.size+3:=by rw[jK,y2]
 have y4:(zp4 s.heap o1 o2).objs.size=s.heap.objs.size+4:=by rw[jK,y3]
 have b5:(zp5 s.heap o1 o2).get? (zp4 s.heap o1 o2).objs.size=some _:=zA _ rfl;have b4:(zp5 s.heap o1 o2).get? (zp3 s.heap o1 o2).objs.size=some _:=zc _ (zA _ rfl);have b3:(zp5 s.heap o1 o2).get? (zp2 s.heap o1 o2).objs.size=some _:=zc _ (zc _ (zA _ rfl));have b2:(zp5 s.heap o1 o2).get? (zp1 s.heap o1).objs.size=some _:=zc _ (zc _ (zc _ (zA _ hf2)));have b1:(zp5 s.heap o1 o2).get? s.heap.objs.size=some _:=zc _ (zc _ (zc _ (zc _ (zA _ hf1))));show _/\_
 rw[y2,y3,y4] at b5; rw[y1,y2] at b3; rw[y3] at b4; rw[y1] at b2; rw[y4];exact⟨⟨_,b5,rfl⟩,h _ b5 b3 b4 b1 b2 λc o x=>zc _ (zc _ (zc _ (zc _ (zc _ x))))⟩
end
def zcp{X:Cx}{pins:List (Addr×Obj)}{σ:L2.St}{H:Hp}{s:Shared}{h':Heap}{t':Nat}{fp:List Addr}{p:Addr}{o:HO}(I:Inv X pins σ H s)(k:∀b o,b∉fp->s.heap.get? b=some o->h'.get? b=some o)(hf:∀b∈fp,FpOk X pins H b)
  (hp:s.heap.objs.size<=p) (new:ObjOk X.prog X.w (upd H p o) h' p o):Inv X pins σ (upd H p o) { s with heap:=h',toks:=t' }:=by
 have hn:H p=none:=I.hok.fresh hp;have away:∀b u,H b=some u->b∉fp:=λb u e z=>by rw[(hf b z).1] at e; cases e
 have lt:∀b u,s.heap.get? b=some u->b≠p:=λb u e=>zP (zK (zJ e) hp)
 refine I.step (g':=s.gens) (d':=s.drawn) (ch:=fp) (λb hb=>⟨(hf b hb).2.2.2.1,(hf b hb).2.1,(hf b hb).2.2.2.2.1,(hf b hb).2.2.2.2.2⟩) (λb o _ _ hc e _=>k b o hc e) (λb o _ _ hc e _=>⟨o.slots,k b o hc e⟩) (λb u _ e n=>by rw[zac (lt b u e)]; exact n)
  (λb o hc e=>⟨o,k b o hc e⟩) (λb xs e=>by rw[zac (zao e hn)]; exact e) (λb u v e=>by rw[zac (zao e hn)]; exact e) (λb ps e=>⟨#[],by rw[zac (zao e hn),e]; simp⟩) (λm hm=>?_) (λb u e=>?_) I.bare
 .obtain⟨o,es,ep,ho,r⟩:=hm
  exact⟨o,es,ep,k _ o (λz=>(hf _ z).2.1 rfl) ho,r⟩
 .by_cases hb:b=p
  .subst hb; rw[zan] at e; cases e; exact new
  .rw[zac hb] at e
   refine(I.hok b u e).stay (λc v hc q=>k c v ?_ q) (λc q=>by rw[zac (zao q hn)]; exact q) λc xs q=>by rw[zac (zao q hn)]; exact q
   rcases hc with z | z
   .rw[z]; exact away b u e
   .exact away c _ z
noncomputable def SqX(K:PySem.W.Frag)(tp:Bool)(H:Hp)(a:Addr)(xs:List V):Prop:=if tp=true then SqT K H a xs else SqL K H a xs
noncomputable def Ctn(tp:Bool)(a:Addr)(h:Heap)(l:List Value):Prop:=if tp=true then h.IsTuple a l.toArray else h.IsList a l.toArray
noncomputable def Pit(tp:Bool)(it a:Addr)(i:Nat)(h:Heap):Prop:=if tp=true then h.IsTupleIter it a i else h.IsListIter it a i
noncomputable def itO(tp:Bool)(a:Addr):Obj:=if tp=true then { cls:=.type "tuple_iterator",data:=.fields #[.ref a,.int 0 0] } else { cls:=.type "list_iterator",data:=.fields #[.ref a,.int 0 0] }
def zaI(tp:Bool)(it a:Addr):Stp it a (Pit tp it a) (Ctn tp a):=by
 cases tp
 .exact zlK it a
 .exact ziW it a
def zhV(tp:Bool)(a:Addr)(l:List Value):Itb (.ref a) (itO tp a) (λh=>Ctn tp a h l):=by
 cases tp
 .exact zkP a l
 .exact zjb a l
theorem zdE(tp:Bool)(a:Addr):(itO tp a).isFreed=false:=by cases tp<;>rfl
def zep{tp:Bool}{it a:Addr}{h:Heap}(e:h.get? it=some (itO tp a)):Pit tp it a 0 h:=by
 cases tp
 .exact⟨_,e,rfl,rfl⟩
 .exact⟨_,e,rfl,rfl⟩
section
variable{X:Cx}{pins:List (Addr×Obj)}{σ:L2.St}{H:Hp}{s:Shared}
def zaZ{tp:Bool}{a:Addr}{xs:List V}(I:Inv X pins σ H s)(h:SqX X.K tp H a xs):∃l,Vals xs l/\Ctn tp a s.heap l:=by
 cases tp
 .obtain⟨its,r,p,_⟩:=I.list (show SqL X.K H a xs from h)
  exact⟨its,r,p.isList⟩
 .obtain⟨its,r,p,_⟩:=I.tuple (show SqT X.K H a xs from h)
  exact⟨its,r,p⟩
def zey{tp:Bool}{a:Addr}{xs ys:List V}(I:Inv X pins σ H s)(h:SqX X.K tp H a xs)(h':SqX X.K tp H a ys):xs=ys:=by
 cases tp
 .exact I.list_inj (show SqL X.K H a xs from h) h'
 .exact I.tuple_inj (show SqT X.K H a xs from h) h'
def zbm{tp:Bool}{a b:Addr}{xs:List V}(I:Inv X pins σ H s)(h:SqX X.K tp H a xs)(f:FpOk X pins H b):a≠b:=by
 have k:∀o,X.K.lookup a=some o->a≠b:=λo e z=>by
  subst z;have eb:X.base.get? a=some o:=I.mod.kin _ _ e;rcases f.2.2.2.1 with q | q
  .exact I.ok.noex _ _ eb q
  .exact absurd (zK (zJ eb) (zF I.ok.bsz q)) (jX _)
 have r:∀u,Rd H a u->a≠b:=λu q=>by
  rcases q with q | ⟨o,q⟩<;>exact zao q f.1
 cases tp
 .rcases(show SqL X.K H a xs from h) with q | ⟨o,_,_,e,_⟩
  .exact r _ q
  .exact k o e
 .rcases(show SqT X.K H a xs from h) with q | ⟨o,_,_,e,_⟩
  .exact r _ q
  .exact k o e
end
noncomputable def Itz (K : PySem.W.Frag) (t1 t2 : Bool) (a1 a2 : Addr) : It :=
  ⟨λi H => ∃ xs ys x y, SqX K t1 H a1 xs /\ SqX K t2 H a2 ys /\ xs[i]? = some x /\ ys[i]? = some y,
   λi H v H' => ∃ p x y, H p = none /\ v = .ref p /\ H' = upd H p (.tup [x, y]) /\ (∀ xs, SqX K t1 H a1 xs -> xs[i]? = some x) /\ ∀ ys, SqX K t2 H a2 ys -> ys[i]? = some y,
   λi H => ∃ xs ys, SqX K t1 H a1 xs /\ SqX K t2 H a2 ys /\ (xs.length <= i \/ ys.length <= i)⟩
def zkA{P:Program}{w:World}{K:PySem.W.Frag}{elts:List Expr}{n:Nat}{tpos:Pos}(t1 t2:Bool)(z TI TO i1 i2 a1 a2:Addr)(nd:[z,TI,TO,i1,i2].Nodup) :
  Turn P w K (.Tuple elts n tpos) (Itz K t1 t2 a1 a2) [z,TI,TO,i1,i2] z (λi h=>ZSt z TI TO i1 i2 (Pit t1 i1 a1) (Pit t2 i2 a2) .none i i h) where
 mem:=by simp
 obj:=λi h st b hb=>by
  obtain⟨hz,hTI,⟨a,b',hTO⟩,p1,p2⟩:=st;simp only[zf,zm,zV] at hb;rcases hb with rfl | rfl | rfl | rfl | rfl
  .exact⟨_,hz,λv q=>by cases q⟩
  .exact⟨_,hTI,λv q=>by cases q⟩
  .exact⟨_,hTO,λv q=>by cases q⟩
  .exact(zaI t1 _ a1).obj p1
  .exact(zaI t2 _ a2).obj p2
 keep:=λi h h' st k=>by
  obtain⟨hz,hTI,⟨a,b',hTO⟩,p1,p2⟩:=st;exact⟨k z (by simp) _ hz,k TI (by simp) _ hTI,⟨a,b',k TO (by simp) _ hTO⟩,(zaI t1 i1 a1).keep p1 λo e=>k i1 (by simp) o e,(zaI t2 i2 a2).keep p2 λo e=>k i2 (by simp) o e⟩
 item:=by
  intro X hP hw hK hc i pins s σ H E I hf st hg;subst hP hw hK;obtain⟨xs,ys,x,y,d1,d2,hx,hy⟩:=hg;obtain⟨l1,r1,c1⟩:=zaZ I d1;obtain⟨l2,r2,c2⟩:=zaZ I d2;obtain⟨u1,e1,ru1⟩:=r1.get hx;obtain⟨u2,e2,ru2⟩:=r2.get hy;have D:ZApart z TI TO i1 i2 a1 a2:=⟨nd,λq=>zbm I d1 (hf _ q) rfl,λq=>zbm I d2 (hf _ q) rfl⟩;refine zll (zaI t1 i1 a1) (zaI t2 i2 a2) D st c1 c2 e1 e2 λh' st' ht kp=>⟨_,rfl,?_⟩
  obtain⟨hz,hTI,⟨a,b',hTO⟩,p1,p2⟩:=st';have n:=nd;simp only[jA,zf,zm,zV,yc] at n;obtain⟨⟨n1,n2,n3,n4⟩,_⟩:=n;refine wpAny_letOwnedTupleGo_zip hz λh2 hz2 sb=>?_
  have zlt:z<s.heap.objs.size:=by obtain⟨q,_⟩:=st; exact zJ q
  have ht2:h2.get? s.heap.objs.size=some { cls:=.type "tuple",data:=.seq #[u1,u2] }:=sb.extBut _ _ (vK zlt) ht;have I2:Inv X pins σ (upd H s.heap.objs.size (.tup [x,y])) { s with heap:=h2 }:=zcp (t':=s.toks) (fp:=[z,TI,TO,i1,i2]) I (λb o hb e=>sb.extBut _ _ (λq=>hb (by simp[q])) (kp b o hb e)) hf (zu _)
   ⟨by show 2<=sizeLine; decide,[u1,u2],.cons ru1 (.cons ru2 .nil),⟨_,ht2,rfl,_,rfl⟩,⟨_,ht2,rfl⟩⟩
  refine⟨.ref s.heap.objs.size,_,I2,rfl,⟨_,x,y,I.hok.fresh (zu _),rfl,rfl,λxs' q=>by rw[zey I q d1]; exact hx,λys' q=>by rw[zey I q d2]; exact hy⟩,?_,λb hb=>?_⟩
  .exact⟨hz2,sb.extBut _ _ (jk n1) hTI,⟨a,b',sb.extBut _ _ (jk n2) hTO⟩,(zaI t1 i1 a1).keep p1 λo e=>sb.extBut _ _ (jk n3) e,(zaI t2 i2 a2).keep p2 λo e=>sb.extBut _ _ (jk n4) e⟩
  .obtain⟨o,ho,_⟩:∃o,s.heap.get? b=some o/\True:=by
    obtain⟨hz0,hTI0,⟨a0,b0,hTO0⟩,p10,p20⟩:=st;simp only[zf,zm,zV] at hb;rcases hb with rfl | rfl | rfl | rfl | rfl
    .exact⟨_,hz0,trivial⟩
    .exact⟨_,hTI0,trivial⟩
    .exact⟨_,hTO0,trivial⟩
    .obtain⟨o,q,_⟩:=(zaI t1 _ a1).obj p10; exact⟨o,q,trivial⟩
    .obtain⟨o,q,_⟩:=(zaI t2 _ a2).obj p20; exact⟨o,q,trivial⟩
   rw[zac (zP (zJ ho))];exact(hf b hb).1
 done:=by
  intro X hP hw hK hc i pins s σ H E I hf st hg;subst hP hw hK;obtain⟨xs,ys,d1,d2,he⟩:=hg;obtain⟨l1,r1,c1⟩:=zaZ I d1;obtain⟨l2,r2,c2⟩:=zaZ I d2;have D:ZApart z TI TO i1 i2 a1 a2:=⟨nd,λq=>zbm I d1 (hf _ q) rfl,λq=>zbm I d2 (hf _ q) rfl⟩;refine zkW (zaI t1 i1 a1) (zaI t2 i2 a2) D (I.ok.hd hc) st c1 c2 ?_ λh' kp=>⟨rfl,zdT (t':=s.toks) I kp hf⟩
  rcases he with he | he
  .exact .inl (j4 (by rw[<-r1.length]; exact he))
  .exact .inr (j4 (by rw[<-r2.length]; exact he))
 self:=λ_ _ _ _ _ st h=>wpAny_pyIter_zip st.1 h
noncomputable def zcA(h:MH)(w:W):Option (List W):=match w with
 | .tup l=>some l
 | .fls l=>some l
 | _=>none
noncomputable def zipW(ws:List W):M Src:=λh=>match ws with
 | [x,y]=>match zcA h x,zcA h y with
  | some l,some l'=>some (.items ((l.zip l').map λp=>.tup [p.1,p.2]),h)
  | _,_=>none
 | _=>none
noncomputable def iZip(ms:List ME):MI:=λρ=>bnd (zbr ms ρ) zipW
section
variable{X:Cx}{cl:Cl}{elts:List Expr}{n:Nat}{tpos p pos:Pos}{e1 e2:Expr}{ms:List ME}
def zdx{K:PySem.W.Frag}{μ:List Addr}{H:Hp}{h:MH}{w:W}{v:V}{l:List W}(r:RW K μ H w v)(e:zcA h w=some l):∃tp a vs,v=.ref a/\RWs K μ H l vs/\SqX K tp H a vs/\(∀μ2 H2 h2,HR K cl μ H h->Ext μ H μ2 H2->HR K cl μ2 H2 h2->SqX K tp H2 a vs):=by
 unfold zcA at e;split at e
 .cases e
  obtain⟨a,vs,rfl,sa,ra⟩:=r.tup_of;exact⟨true,a,vs,rfl,ra,sa,λμ2 H2 h2 R E R2=>SqT.ext R E sa⟩
 .cases e
  cases r with | @fls a vs l sa ra=>
  exact⟨false,a,vs,rfl,ra,sa.sq,λμ2 H2 h2 R E R2=>(SqF.ext E sa).sq⟩
 .cases e
def zoJ(hm:X.mg "zip" = none)(ha:SA X cl [e1,e2] ms)(hg:Gl X "zip":=by rfl)(hst:starEach [e1,e2] X.env=(false,eval e1 X.env)::starEach [e2] X.env:=by rfl)(hpl:(backTo pos (starEach [e2] X.env)).any (·.1)=false:=by rfl) :
  SI X cl (.Tuple elts n tpos) (.Call (.Name "zip" p) [e1,e2] [] pos) (iZip ms):=by
 rintro pins s σ H R I ⟨μ,h,ρ,src,h',R0,er,e,k⟩;obtain⟨ws,h1,e1',e⟩:=u0 e;have hv:bootBuiltins "zip" = some (.type "zip"):=by decide +kernel
 refine qe (zbu I hg hm hv ?_ (by decide) (by decide));refine qi (thn (ha pos pins s σ H (λvs H1=>∃μ1,Ext μ H μ1 H1/\HR X.K cl μ1 H1 h1/\RWs X.K μ1 H1 ws vs) I ⟨μ,h,ρ,ws,h1,R0,er,e1',λμ1 H1 vs E1 R1 rs=>⟨μ1,E1,R1,rs⟩⟩) λus s1 ⟨vs,H1,I1,r1,μ1,E1,R1,rs⟩=>?_) hst hpl;unfold zipW at e;split at e
 .rename_i x y
  split at e
  .rename_i l l' q1 q2
   cases e;cases rs with | cons rx t=>cases t with | cons ry t=>cases t with | nil=>
   obtain⟨t1,a1,xs,rfl,ra1,d1,f1⟩:=zdx (cl:=cl) rx q1;obtain⟨t2,a2,ys,rfl,ra2,d2,f2⟩:=zdx (cl:=cl) ry q2;obtain⟨u1,u2,rfl,ru1,ru2⟩:=vals2 r1;cases ru1;cases ru2;obtain⟨l1,v1,c1⟩:=zaZ I1 d1;obtain⟨l2,v2,c2⟩:=zaZ I1 d2;refine zlw (zhV t1 a1 l1) (zhV t2 a2 l2) c1 ((zaI t2 0 a2).keepC c2 λo e=>zc _ e) (zdE t1 a1) (zdE t2 a2) λh2 b5 b3 b4 b1 b2 kp=>?_
   refine wpAny_pyIter_zip b5 ?_;have nd:[s1.heap.objs.size+4,s1.heap.objs.size+2,s1.heap.objs.size+3,s1.heap.objs.size,s1.heap.objs.size+1].Nodup:=by
    simp only[jA,zf,zm,zV,yc,qz,and_true,not_false_eq_true];omega
   refine⟨_,_,_,_,H1,rfl,I1.kept (t':=s1.toks) kp,zkA t1 t2 _ _ _ _ _ a1 a2 nd,⟨b5,b3,⟨_,_,b4⟩,zep b1,zep b2⟩,λb hb=>?_,k μ1 H1 _ E1 R1 ?_⟩
   .have hge:s1.heap.objs.size<=b:=by
     simp only[zf,zm,zV] at hb;rcases hb with rfl | rfl | rfl | rfl | rfl<;>omega
    exact I1.fpOk hge (I1.hok.fresh hge)
   .intro μ2 H2 h3 E2 R2 i
    have d1':=f1 μ2 H2 h3 R1 E2 R2;have d2':=f2 μ2 H2 h3 R1 E2 R2;have ra1':=ra1.ext R1 E2;have ra2':=ra2.ext R1 E2;refine⟨λw ew=>?_,λes=>?_⟩
    .have ew':((l.zip l').map λp=>W.tup [p.1,p.2])[i]?=some w:=zU ew
     rw[kJ] at ew';cases ez:(l.zip l')[i]? with
     | none=>rw[ez] at ew'; cases ew'
     | some pr=>
      rw[ez] at ew';cases ew';obtain⟨ea,eb⟩:=List.getElem?_zip_eq_some.mp ez;obtain⟨vx,evx,rvx⟩:=ra1'.get ea;obtain⟨vy,evy,rvy⟩:=ra2'.get eb;refine⟨⟨xs,ys,vx,vy,d1',d2',evx,evy⟩,λv H3 yl=>?_⟩;obtain⟨pp,x',y',hp,rfl,rfl,w1,w2⟩:=yl;have z1:=w1 xs d1';have z2:=w2 ys d2';rw[evx] at z1; rw[evy] at z2;cases z1; cases z2;exact⟨.side hp,R2.side hp,.tup (SqT.of zan) (.cons (rvx.ext R2 (.side hp)) (.cons (rvy.ext R2 (.side hp)) .nil))⟩
    .have es':((l.zip l').map λp=>W.tup [p.1,p.2])[i]?=none:=zU es
     have hl:=jB.mp es';rw[zL,vA] at hl;refine⟨xs,ys,d1',d2',?_⟩;rw[<-ra1.length,<-ra2.length];omega
  .cases e
 .cases e
end
noncomputable def zfx:List W->Option (List Bool)
 | []=>some []
 | .bl b::r=>match zfx r with
  | some l=>some (b::l)
  | none=>none
 | _=>none
noncomputable def intsOf:List W->Option (List Int)
 | []=>some []
 | .int b::r=>match intsOf r with
  | some l=>some (b::l)
  | none=>none
 | _=>none
noncomputable def zfy(f:List Bool->Bool)(ws:List W):M W:=λh=>match ws with
 | [w]=>match zaD h w with
  | some l=>match zfx l with
   | some bs=>some (.bl (f bs),h)
   | none=>none
  | none=>none
 | _=>none
noncomputable def allW:List W->M W:=zfy λl=>l.all id
noncomputable def anyW:List W->M W:=zfy λl=>l.any id
noncomputable def sumL:List Int->Int
 | []=>0
 | i::r=>i+sumL r
noncomputable def sumW(ws:List W):M W:=λh=>match ws with
 | [w]=>match zaD h w with
  | some l=>match intsOf l with
   | some bs=>some (.int (sumL bs),h)
   | none=>none
  | none=>none
 | _=>none
section
variable{K:PySem.W.Frag}{μ:List Addr}{H:Hp}
theorem zfM:∀{l:List W} {vs:List V} {us:List Value} {bs:List Bool},zfx l=some bs->RWs K μ H l vs->Vals vs us->us=bs.map Value.bool
 | [],_,_,_,e,.nil,.nil=>by cases e; rfl
 | .bl b::r,_,_,_,e,.cons rb rr,.cons tb tr=>by
  unfold zfx at e;split at e
  .rename_i l e'
   cases e;cases rb;cases tb;rw[zfM e' rr tr];rfl
  .cases e
 | .non::r,_,_,_,e,_,_=>by cases e
 | .int _::r,_,_,_,e,_,_=>by cases e
 | .str _::r,_,_,_,e,_,_=>by cases e
 | .tup _::r,_,_,_,e,_,_=>by cases e
 | .fls _::r,_,_,_,e,_,_=>by cases e
 | .ref _::r,_,_,_,e,_,_=>by cases e
 | .fdc _::r,_,_,_,e,_,_=>by cases e
 | .fn _::r,_,_,_,e,_,_=>by cases e
theorem zeL:∀{l:List W} {vs:List V} {us:List Value} {bs:List Int},intsOf l=some bs->RWs K μ H l vs->Vals vs us->us.length=bs.length/\∀i u,us[i]?=some u->∃t,u=Value.int (bs.getD i 0) t
 | [],_,_,_,e,.nil,.nil=>by cases e; exact⟨rfl,λi u e=>by simp at e⟩
 | .int b::r,_,_,_,e,.cons rb rr,.cons tb tr=>by
  unfold intsOf at e;split at e
  .rename_i l e'
   cases e;cases rb;obtain⟨t,rfl⟩:=tb;obtain⟨h1,h2⟩:=zeL e' rr tr;refine⟨by simp[h1],λi u e=>?_⟩;cases i with
   | zero=>simp at e; subst e; exact⟨t,rfl⟩
   | succ i=>simpa using h2 i u (by simpa using e)
  .cases e
 | .non::r,_,_,_,e,_,_=>by cases e
 | .bl _::r,_,_,_,e,_,_=>by cases e
 | .str _::r,_,_,_,e,_,_=>by cases e
 | .tup _::r,_,_,_,e,_,_=>by cases e
 | .fls _::r,_,_,_,e,_,_=>by cases e
 | .ref _::r,_,_,_,e,_,_=>by cases e
 | .fdc _::r,_,_,_,e,_,_=>by cases e
 | .fn _::r,_,_,_,e,_,_=>by cases e
end
def zg3(a b:List Int):sumL (a++b)=sumL a+sumL b:=by
 induction a with
 | nil=>simp[sumL]
 | cons x r ih=>simp only[jE,sumL,ih]; omega
theorem preSum_eq(bs:List Int):∀n,n<=bs.length->preSum (λi=>bs.getD i 0) n=sumL (bs.take n)
 | 0,_=>by simp[preSum,sumL]
 | n+1,h=>by
  have ih:=preSum_eq bs n ∅;have:preSum (λi=>bs.getD i 0) (n+1)=preSum (λi=>bs.getD i 0) n+bs.getD n 0:=rfl;rw[this,ih,List.take_succ,zg3];simp[zO (show n<bs.length by omega),sumL]
section
variable{X:Cx}{cl:Cl}
def zf6{pins:List (Addr×Obj)}{s:Shared}{σ:L2.St}{H:Hp}{a:Addr}{vs:List V}{A:Around}{E:Value->Shared->Prop}{R:Value->Shared->Prop}(I:Inv X pins σ H s)(sq:SqL X.K H a vs\/SqT X.K H a vs)(hh:A.handled=none)
  (k:∀(us:List Value) (it:Addr) (fp wr:List Addr) (St:Nat->Heap->Prop) (h1:Heap),Vals vs us->Walks X.prog X.w A it fp wr us.length (λi v=>us[i]?=some v) St->St 0 h1->(∀b∈fp,b<h1.objs.size)->
   (∀b∈wr,s.heap.objs.size<=b)->(∀b o,s.heap.get? b=some o->h1.get? b=some o)->R (.ref it) { s with heap:=h1 }) :
  wpAny (model X.prog X.w) A (pyIter (.ref a)) R E s:=by
 rcases sq with sq | sq
 .obtain⟨its,rv,p,hz⟩:=I.list sq
  refine q8 p.isList ?_;have hlt:a<s.heap.objs.size:=by obtain⟨o,ho,_⟩:=p.isList; exact zJ ho
  have W0:=xW (prog:=X.prog) (w:=X.w) hh s.heap.objs.size a (zP hlt) its.toArray;have W1:Walks X.prog X.w A s.heap.objs.size [s.heap.objs.size,a] [s.heap.objs.size] its.length (λi v=>its[i]?=some v) (λi h=>h.IsListIter s.heap.objs.size a i/\h.IsList a its.toArray):=by simpa using W0
  refine k its _ _ _ _ _ rv W1 ⟨⟨_,zA _ rfl,rfl,rfl⟩,p.isList.at λo e=>zc _ e⟩ (λb hb=>?_) (λb hb=>?_) λb o e=>zc _ e
  .simp only[zf,zm,zV] at hb
   simp only[jK];rcases hb with rfl | rfl
   .exact jQ _
   .exact jy hlt
  .simp only[zf,zm,zV] at hb
   rw[hb];exact zu _
 .obtain⟨its,rv,p,hz⟩:=I.tuple sq
  refine wL (show s.heap.IsTuple a its.toArray from p) ?_;have hlt:a<s.heap.objs.size:=by obtain⟨o,ho,_⟩:=id p; exact zJ ho
  have p':s.heap.IsTuple a its.toArray:=p;have W0:=Walks.tuple (prog:=X.prog) (w:=X.w) hh s.heap.objs.size a (zP hlt) its.toArray;have W1:Walks X.prog X.w A s.heap.objs.size [s.heap.objs.size,a] [s.heap.objs.size] its.length (λi v=>its[i]?=some v) (λi h=>h.IsTupleIter s.heap.objs.size a i/\h.IsTuple a its.toArray):=by simpa using W0
  refine k its _ _ _ _ _ rv W1 ⟨⟨_,zA _ rfl,rfl,rfl⟩,p'.at λo e=>zc _ e⟩ (λb hb=>?_) (λb hb=>?_) λb o e=>zc _ e
  .simp only[zf,zm,zV] at hb
   simp only[jK];rcases hb with rfl | rfl
   .exact jQ _
   .exact jy hlt
  .simp only[zf,zm,zV] at hb
   rw[hb];exact zu _
def zd6{pins:List (Addr×Obj)}{s:Shared}{σ:L2.St}{H:Hp}{h1 h2:Heap}{tk:Nat}{wr:List Addr}(I:Inv X pins σ H s)(k1:∀b o,s.heap.get? b=some o->h1.get? b=some o)(hw:∀b∈wr,s.heap.objs.size<=b)(k2:∀b o,b∉wr->h1.get? b=some o->h2.get? b=some o) :
  Inv X pins σ H { s with heap:=h2,toks:=tk }:=
 I.kept (t':=tk) λb o e=>k2 b o (λz=>absurd (zJ e) (ud.mpr (hw b z))) (k1 b o e)
def zdP{f:List Bool->Bool}{id:String}(hcall:∀{A:Around} {E:Value->Shared->Prop} {s:Shared} {x:Value} {Q:Value->Shared->Prop},A.handled=none->wpAny (model X.prog X.w) A.in1 (pyIter x) (λit s₂=>∃I fp wr n P St tr,it=.ref I/\Walks X.prog X.w A.in1 I fp wr n P St/\St 0 s₂.heap/\TruthOf X.prog X.w A.in1 P tr /\
   ∀h' tk,(∀b o,b∉wr->s₂.heap.get? b=some o->h'.get? b=some o)->Q (.bool (f ((List.range n).map tr))) { s₂ with heap:=h',toks:=tk }) E s->wpAny (model X.prog X.w) A (call (.builtin id) [x]) Q E s) (hc:X.calm=true):zar X (.builtin id) (rMs X.K cl (zfy f)):=by
 rintro pins s σ H xs us Q I rs ⟨μ,h,ws,w,h',R,ax,e,k⟩;unfold zfy at e;split at e
 .split at e
  .rename_i l el
   split at e
   .rename_i bs eb
    cases e;cases ax with | cons r t=>cases t with | nil=>
    obtain⟨a,vs,rfl,sa,ra⟩:=zbc R r el;obtain⟨u,rfl,ru⟩:=rs.one;cases ru;have hh:=I.ok.hd hc;refine hcall hh (zf6 (A:=X.A.in1) I sa hh λus it fp wr St h1 rv W hst hfp hwr k1=>?_);have hu:=zfM eb ra rv;subst hu;refine⟨it,fp,wr,_,_,St,λi=>bs.getD i false,rfl,W,hst,?_,λh2 tk k2=>?_⟩
    .intro i v s Q E hP hQ
     rw[kJ] at hP;cases eb:bs[i]? with
     | none=>rw[eb] at hP; cases hP
     | some b=>
      rw[eb] at hP;cases hP;have:bs.getD i false=b:=by simp[List.getD,eb]
      have hQ':Q (bs.getD i false) s:=hQ;rw[this] at hQ';exact j6 hQ'
    .have e2:(List.range (bs.map Value.bool).length).map (λi=>bs.getD i false)=bs:=by
      apply wR
      .simp
      .intro i h1 h2; simp at h1; simp[h1]
     rw[e2];exact⟨.bl _,H,(show Inv X pins σ H { s with heap:=h2,toks:=tk } from zd6 I k1 hwr k2),rfl,k.pure R (.bl _)⟩
   .cases e
  .cases e
 .cases e
def zjD(hc:X.calm=true):zar X (.builtin "all") (rMs X.K cl allW):=by
 refine zdP (λ{A E s x Q} hh h=>call_all_walk (jV h (λit s₂ h₂=>?_) λ_ _ e=>e)) hc;obtain⟨I,fp,wr,n,P,St,tr,rfl,W,hst,htr,hQ⟩:=h₂;refine⟨I,fp,wr,n,P,St,tr,rfl,W,hst,htr,λh' tk hk=>?_⟩;have:=hQ h' tk hk;rw[List.all_map] at this;exact this
def zi1(hc:X.calm=true):zar X (.builtin "any") (rMs X.K cl anyW):=by
 refine zdP (λ{A E s x Q} hh h=>call_any_walk (jV h (λit s₂ h₂=>?_) λ_ _ e=>e)) hc;obtain⟨I,fp,wr,n,P,St,tr,rfl,W,hst,htr,hQ⟩:=h₂;refine⟨I,fp,wr,n,P,St,tr,rfl,W,hst,htr,λh' tk hk=>?_⟩;have:=hQ h' tk hk;rw[uD] at this;exact this
def zjv(hc:X.calm=true):zar X (.builtin "sum") (rMs X.K cl sumW):=by
 rintro pins s σ H xs us Q I rs ⟨μ,h,ws,w,h',R,ax,e,k⟩;unfold sumW at e;split at e
 .split at e
  .rename_i l el
   split at e
   .rename_i bs eb
    cases e;cases ax with | cons r t=>cases t with | nil=>
    obtain⟨a,vs,rfl,sa,ra⟩:=zbc R r el;obtain⟨u,rfl,ru⟩:=rs.one;cases ru;have hh:=I.ok.hd hc;refine call_sum_walkG (zf6 (A:=X.A.in1) I sa hh λus it fp wr St h1 rv W hst hfp hwr k1=>?_);obtain⟨hl,hv⟩:=zeL eb ra rv;refine⟨it,fp,wr,_,_,St,λi=>bs.getD i 0,rfl,W,hst,hfp,hv,λh2 tk t' k2=>?_⟩;rw[hl,preSum_eq bs _ (zu _),List.take_length];exact⟨.int _,H,(show Inv X pins σ H { s with heap:=h2,toks:=tk } from zd6 I k1 hwr k2),⟨t',rfl⟩,k.pure R (.int _)⟩
   .cases e
  .cases e
 .cases e
def boot_all:bootBuiltins "all" = some (.builtin "all"):=by decide +kernel
def boot_any:bootBuiltins "any" = some (.builtin "any"):=by decide +kernel
def boot_sum:bootBuiltins "sum" = some (.builtin "sum"):=by decide +kernel
def zho:bootBuiltins "int" = some (.type Ty.int.name):=by decide +kernel
def zhI:bootBuiltins "str" = some (.type Ty.str.name):=by decide +kernel
def zkZ:bootBuiltins "bool" = some (.type Ty.bool.name):=by decide +kernel
def zfh:bootBuiltins "tuple" = some (.type Ty.tuple.name):=by decide +kernel
def zdH:bootBuiltins "list" = some (.type Ty.list.name):=by decide +kernel
def zgO:bootBuiltins "dict" = some (.type Ty.dict.name):=by decide +kernel
end
noncomputable abbrev ltW:W->W->M W:=cmpI λi j=>decide (i<j)
noncomputable abbrev leW:W->W->M W:=cmpI λi j=>decide (i<=j)
noncomputable abbrev gtW:W->W->M W:=cmpI λi j=>decide (j<i)
noncomputable abbrev geW:W->W->M W:=cmpI λi j=>decide (j<=i)
noncomputable abbrev augI:W->W->M W:=λx y=>match x,y with | .int i,.int j=>λh=>some (.int (i+j),h) | _,_=>λ_=>none
noncomputable def Itc(x:Str):It:=
 ⟨λi _=>i<x.cps.size,λi H v H'=>H'=H/\∃c,x.cps[i]?=some c/\v=.str ⟨#[c]⟩,λi _=>x.cps.size<=i⟩
section
variable{P:Program}{w:World}{K:PySem.W.Frag}{tg:Expr}
def ziP{T:String}(hn:["enumerate","zip","dict_itemiterator","dict_reverseitemiterator","odict_iterator","itertools.zip_longest","itertools.pairwise"].contains T=false)(it:Addr)(x:Str)(t:Tok)
  (W:∀A:Around,A.handled=none->Walks P w A it [it] [it] x.cps.size (SignAt x) (λi h=>h.IsStrIter it T x t i))
  (sf:∀(A:Around) (i:Nat) (s:Shared) (Q:Value->Shared->Prop) (E:Value->Shared->Prop),s.heap.IsStrIter it T x t i->Q (.ref it) s->wpAny (model P w) A (pyIter (.ref it)) Q E s) :
  Turn P w K tg (Itc x) [it] it (λi h=>i<=x.cps.size/\h.IsStrIter it T x t i) where
 mem:=by simp
 obj:=λi h st b hb=>by
  have e:b=it:=by simpa using hb
  subst e;obtain⟨_,o,e,c,d⟩:=st;exact⟨o,e,λv z=>by rw[d] at z; cases z⟩
 keep:=λi h h' st k=>by
  obtain⟨hi,o,e,c,d⟩:=st;exact⟨hi,o,k it (by simp) o e,c,d⟩
 item:=by
  intro X hP hw hK hc i pins s σ H E I hf st hg;subst hP hw hK;obtain⟨f0,f1,f2,f3,f4,f5⟩:=hf it (by simp);refine(W X.A (I.ok.hd hc)).item i s _ _ hg st.2 λv h' tk hv st' kk=>?_
  obtain⟨c,u,hcx,rfl⟩:=hv;have I1:Inv X pins σ H { s with heap:=h',toks:=tk }:=I.turned (t':=tk) (λb o hb e=>kk b o (by simpa using hb) e) f0 f1 f3 f4 f5;obtain⟨o,e,cc,d⟩:=id st';exact⟨_,rfl,zfv (s:={ s with heap:=h',toks:=tk }) e cc d hn ⟨.str ⟨#[c]⟩,H,I1,⟨u,rfl⟩,⟨rfl,c,hcx,rfl⟩,⟨hg,st'⟩,λb hb=>(hf b hb).1⟩⟩
 done:=by
  intro X hP hw hK hc i pins s σ H E I hf st hg;subst hP hw hK;obtain⟨f0,f1,f2,f3,f4,f5⟩:=hf it (by simp);have hi:i=x.cps.size:=Nat.le_antisymm st.1 hg;have st2:=st.2;rw[hi] at st2;exact(W X.A (I.ok.hd hc)).done s _ _ st2 λh' tk kk=>⟨rfl,I.turned (t':=tk) (λb o hb e=>kk b o (by simpa using hb) e) f0 f1 f3 f4 f5⟩
 self:=λA i s Q E st h=>sf A i s Q E st.2 h
end
noncomputable def signs(x:Str):List W:=x.cps.toList.map λc=>.str ⟨#[c]⟩
noncomputable def iStr(m:ME):MI:=λρ=>bnd (m ρ) λw h=>match w with
 | .str x=>some (.items (signs x),h)
 | _=>none
section
variable{X:Cx}{cl:Cl}{tg e:Expr}{m:ME}
def znn{K:PySem.W.Frag}{μ:List Addr}{H:Hp}{x:Str}:JR K cl (Itc x) (.items (signs x)) μ H:=by
 intro μ2 H2 h2 E2 R2 i;refine⟨λw ew=>?_,λes=>?_⟩
 .have ew':(signs x)[i]?=some w:=zU ew
  unfold signs at ew';rw[kJ] at ew';cases ec:x.cps.toList[i]? with
  | none=>rw[ec] at ew'; cases ew'
  | some c=>
   rw[ec] at ew';cases ew';have ec':x.cps[i]?=some c:=by rw[<-yo]; exact ec
   refine⟨(xT.mp ec').1,λv H3 y=>?_⟩;obtain⟨rfl,c',hc',rfl⟩:=y;rw[ec'] at hc';cases hc';exact⟨.refl,R2,.str _⟩
 .have es':(signs x)[i]?=none:=zU es
  have:=jB.mp es';unfold signs at this;rw[zL,zY] at this;exact this
def zog(he:SE X cl e m):SI X cl tg e (iStr m):=by
 rintro pins s σ H R I ⟨μ,h,ρ,src,h',R0,er,e,k⟩;obtain⟨x,h1,e1,e⟩:=u0 e;refine thn (he pins s σ H (λv H1=>∃μ1,Ext μ H μ1 H1/\HR X.K cl μ1 H1 h1/\RW X.K μ1 H1 x v) I ⟨μ,h,ρ,x,h1,R0,er,e1,λμ1 H1 v E1 R1 r=>⟨μ1,E1,R1,r⟩⟩) λu s1 ⟨v,H1,I1,r1,μ1,E1,R1,rv⟩=>?_
 cases x with
 | str z=>
  cases e;cases rv.str_of;obtain⟨tk,rfl⟩:=r1;have fin:∀{o:Obj} {T:String},["enumerate","zip","dict_itemiterator","dict_reverseitemiterator","odict_iterator","itertools.zip_longest","itertools.pairwise"].contains T=false->(∀A:Around,A.handled=none->Walks X.prog X.w A s1.heap.objs.size [s1.heap.objs.size] [s1.heap.objs.size] z.cps.size (SignAt z) (λi h=>h.IsStrIter s1.heap.objs.size T z tk i))->
    (∀(A:Around) (i:Nat) (s:Shared) (Q:Value->Shared->Prop) (E:Value->Shared->Prop),s.heap.IsStrIter s1.heap.objs.size T z tk i->Q (.ref s1.heap.objs.size) s->wpAny (model X.prog X.w) A (pyIter (.ref s1.heap.objs.size)) Q E s)->
    (s1.heap.push o).IsStrIter s1.heap.objs.size T z tk 0->PIE X pins σ tg R (.ref s1.heap.objs.size) { s1 with heap:=s1.heap.push o }:=λ{o T} hn W sf st=>
   ⟨_,[s1.heap.objs.size],_,_,H1,rfl,I1.kept (t':=s1.toks) λb o e=>zc _ e,ziP hn _ z tk W sf,⟨j8 _,st⟩,λb hb=>by
    have e:b=s1.heap.objs.size:=by simpa using hb
    subst e
    exact I1.fpOk (zu _) (I1.hok.fresh (zu _)),k μ1 H1 _ E1 R1 znn⟩
  cases ha:z.cps.all (· < 128)
  .exact wpAny_pyIter_wide ha (fin (T:="str_iterator") (by decide) (λA' hA=>Walks.strWide hA _ z tk) (λA i s Q E st q=>wpAny_pyIter_striter_wide st q) ⟨_,zA _ rfl,rfl,rfl⟩)
  .exact wpAny_pyIter_ascii ha (fin (T:="str_ascii_iterator") (by decide) (λA' hA=>Walks.strAscii hA _ z tk) (λA i s Q E st q=>wpAny_pyIter_striter_ascii st q) ⟨_,zA _ rfl,rfl,rfl⟩)
 | _=>cases e
end
structure Glob(K:PySem.W.Frag)(mg:Str->Option Value)(x:Str)(w:W):Prop where
 ex:∃(v:V) (u:Value),mg x=some u/\RelV v u/\∀μ H,RW K μ H w v
def Glob.se{X:Cx}{cl:Cl}{x:Str}{w:W}{pos:Pos}(G:Glob X.K X.mg x w)(hg:Gl X x:=by rfl)(hd:(x==("__debug__":Str))=false:=by decide):SE X cl (.Name x pos) (eC w):=by
 obtain⟨v,u,hm,r,rw⟩:=G.ex;exact zmz hm r rw hg hd
mutual
inductive KW(K:PySem.W.Frag):W->Value->Prop
 | int {i:Int} {t:Tok}:KW K (.int i) (.int i t)
 | str {i:Str} {t:Tok}:KW K (.str i) (.str i t)
 | fn {a:Addr}:KW K (.fn a) (.ref a)
 | tup {a:Addr} {l:List W} {o:Obj} {its:Array Value} {n:Nat}:K.lookup a=some o->(o.cls=.type "tuple" /\ o.dict=none)->o.data=.seq its n->its.size<=sizeLine->KWs K l its.toList->KW K (.tup l) (.ref a)
inductive KWs(K:PySem.W.Frag):List W->List Value->Prop
 | nil:KWs K [] []
 | cons {w:W} {v:Value} {l:List W} {vs:List Value}:KW K w v->KWs K l vs->KWs K (w::l) (v::vs)
end
mutual
theorem KW.rw{K:PySem.W.Frag}:∀{w:W} {u:Value},KW K w u->∃v,RelV v u/\∀μ H,RW K μ H w v
 | _,_,.int (i:=i) (t:=t)=>⟨.int i,⟨t,rfl⟩,λ_ _=>.int _⟩
 | _,_,.str (i:=i) (t:=t)=>⟨.str i,⟨t,rfl⟩,λ_ _=>.str _⟩
 | _,_,.fn (a:=a)=>⟨.ref a,rfl,λ_ _=>.fn⟩
 | _,_,.tup (a:=a) e c d z r=>by
  obtain⟨vs,rv,rr⟩:=KWs.rw r;exact⟨.ref a,rfl,λμ H=>.tup (.inr ⟨_,_,_,e,c,d,z,rv⟩) (rr μ H)⟩
theorem KWs.rw{K:PySem.W.Frag}:∀{l:List W} {us:List Value},KWs K l us->∃vs,Vals vs us/\∀μ H,RWs K μ H l vs
 | _,_,.nil=>⟨[],.nil,λ_ _=>.nil⟩
 | _,_,.cons r t=>by
  obtain⟨v,r1,r2⟩:=KW.rw r;obtain⟨vs,t1,t2⟩:=KWs.rw t;exact⟨v::vs,.cons r1 t1,λμ H=>.cons (r2 μ H) (t2 μ H)⟩
end
def KW.glob{K:PySem.W.Frag}{mg:Str->Option Value}{x:Str}{w:W}{u:Value}(hm:mg x=some u)(k:KW K w u):Glob K mg x w:=by
 obtain⟨v,r1,r2⟩:=k.rw;exact⟨v,u,hm,r1,r2⟩
inductive TabRel(K:PySem.W.Frag):List (Str×W)->List DictEntry->Prop
 | nil:TabRel K [] []
 | cons {k:Str} {t:Tok} {w:W} {hs:Int} {v:Value} {l:List (Str×W)} {es:List DictEntry} {e:DictEntry}:e.key=.str k t->KW K w e.val->TabRel K l es->TabRel K ((k,w)::l) (e::es)
structure TabOk(K:PySem.W.Frag)(P:Params)(mg:Str->Option Value)(x:Str)(l:List (Str×W)):Prop where
 ex:∃(a:Addr) (es:Array DictEntry) (n:Nat),mg x=some (.ref a)/\K.lookup a=some ⟨.type "dict",none,.dict es n,#[]⟩/\PySem.W.KeysLit P es.toList/\(a==sysModules)=false/\TabRel K l es.toList
theorem TabRel.find{K:PySem.W.Frag}{k:Str}:∀{l:List (Str×W)} {es:List DictEntry},TabRel K l es->match l.lookup k with
  | some w=>∃v,(es.find? λe=>Value.isStrOf k e.key).map (·.val)=some v/\KW K w v
  | none=>(es.find? λe=>Value.isStrOf k e.key).map (·.val)=none
 | _,_,.nil=>rfl
 | _,_,.cons (k:=k') (l:=l) (es:=es) (e:=e) hk r t=>by
  have ih:=TabRel.find (k:=k) t;rw[j9];by_cases q:k=k'
  .subst q
   have e1:(k==k)=true:=by simp
   have e2:Value.isStrOf k e.key=true:=by rw[hk]; simp[Value.isStrOf]
   simp only[e1,jC,e2];exact⟨_,rfl,r⟩
  .have e1:(k==k')=false:=by simpa using q
   have e2:Value.isStrOf k e.key=false:=by rw[hk]; simp[Value.isStrOf]; exactλz=>q z.symm
   simp only[e1,jC,e2];exact ih
noncomputable def tabIn(neg:Bool)(l:List (Str×W))(w:W):M W:=λh=>match w with
 | .str k=>some (.bl (if neg then !(l.lookup k).isSome else (l.lookup k).isSome),h)
 | _=>none
noncomputable def zcm(l:List (Str×W))(w:W):M W:=λh=>match w with
 | .str k=>match l.lookup k with
  | some v=>some (v,h)
  | none=>none
 | _=>none
section
variable{X:Cx}{cl:Cl}{a:Expr}{ma:ME}{x:Str}{l:List (Str×W)}{p pos:Pos}
def TabOk.at{pins:List (Addr×Obj)}{s:Shared}{σ:L2.St}{H:Hp}{d:Addr}{es:Array DictEntry}{n:Nat}(I:Inv X pins σ H s)(hl:X.K.lookup d=some ⟨.type "dict",none,.dict es n,#[]⟩)(hk:PySem.W.KeysLit X.w.params es.toList) :
  s.heap.MapOf (strKind X.prog X.w) d (λk=>findBy Value.isStrOf es k):=PySem.W.mapOf_K I.kIn hl hk
def zj0{op:CmpOp}(neg:Bool)(ho:∀{A:Around} {E:Value->Shared->Prop} {s:Shared} {d:Addr} {f:Str->Option Value} {k:Str} {t:Tok} {Q:Value->Shared->Prop},(d==sysModules)=false->s.heap.MapOf (strKind X.prog X.w) d f->Q (.bool (if neg then !(f k).isSome else (f k).isSome)) { s with toks:=s.toks+1 }->wpAny (model X.prog X.w) A (compareOp op (.str k t) (.ref d)) Q E s)
  (T:TabOk X.K X.w.params X.mg x l) (ha:SE X cl a ma) (hm:behindInMarks op (.Name x p)=false) (hg:Gl X x) (hd:(x==("__debug__":Str))=false):SE X cl (.Compare a [op] [.Name x p] pos) (eUn (tabIn neg l) ma):=by
 obtain⟨d,es,n,e1,e2,e3,e4,e5⟩:=T.ex;have hop:OpR X (compareOp op) (λx y H Q=>∃k,x=.str k/\y=.ref d/\Q (.bl (if neg then !(l.lookup k).isSome else (l.lookup k).isSome)) H):=by
  rintro pins s σ H x y v u Q I rx ry ⟨k,rfl,rfl,q⟩;obtain⟨t,rfl⟩:=rx;cases ry;refine ho e4 (TabOk.at I e2 e3) ?_;have fk:(findBy Value.isStrOf es k).isSome=(l.lookup k).isSome:=by
   have:=e5.find (k:=k);unfold findBy;rw[<-v8];cases ek:l.lookup k with
   | none=>rw[ek] at this; rw[this]; rfl
   | some w=>rw[ek] at this; obtain⟨v,e,_⟩:=this; rw[e]; rfl
  rw[fk];exact⟨.bl _,H,I.tok _,rfl,q⟩
 refine PE.wk (zha hop ha (zc4 hg e1 (show RelV (.ref d) (.ref d) from rfl) hd) hm) λσ H Q ⟨μ,h,ρ,w,h',R,er,e,k⟩=>?_
 obtain⟨y,h1,f1,e⟩:=u0 e;refine⟨μ,h,ρ,y,h1,R,er,f1,λμ1 H1 vx E1 R1 rx=>?_⟩;unfold tabIn at e;split at e
 .cases e
  exact⟨_,rx.str_of,rfl,k μ1 H1 _ E1 R1 (.bl _)⟩
 .cases e
def zlP(hu:X.A.units+64<cLine)(T:TabOk X.K X.w.params X.mg x l)(ha:SE X cl a ma)(hm:behindInMarks .In (.Name x p)=false:=by first | exact nomark _ | rfl)(hg:Gl X x:=by rfl)(hd:(x==("__debug__":Str))=false:=by decide):SE X cl (.Compare a [.In] [.Name x p] pos) (eUn (tabIn false l) ma):=
 zj0 false (λ{A E s d f k t Q} h1 h2 h3=>wpAny_in_of (qH X.prog X.w k t) h1 h2 h3) T ha hm hg hd
def zjV(hu:X.A.units+64<cLine)(T:TabOk X.K X.w.params X.mg x l)(ha:SE X cl a ma)(hm:behindInMarks .NotIn (.Name x p)=false:=by first | exact nomark _ | rfl)(hg:Gl X x:=by rfl)(hd:(x==("__debug__":Str))=false:=by decide):SE X cl (.Compare a [.NotIn] [.Name x p] pos) (eUn (tabIn true l) ma):=
 zj0 true (λ{A E s d f k t Q} h1 h2 h3=>wpAny_notIn_of (qH X.prog X.w k t) h1 h2 h3) T ha hm hg hd
def zjp(hu:X.A.units+64<cLine)(T:TabOk X.K X.w.params X.mg x l)(ha:SE X cl a ma)(hs:zcj a:=by exactλ_ _=>rfl)(hg:Gl X x:=by rfl)(hd:(x==("__debug__":Str))=false:=by decide):SE X cl (.Subscript (.Name x p) a pos) (eUn (zcm l) ma):=by
 obtain⟨d,es,n,e1,e2,e3,e4,e5⟩:=T.ex;have hix:IxR X (λx y H Q=>∃k w,x=.ref d/\y=.str k/\l.lookup k=some w/\∀v,(∀μ H,RW X.K μ H w v)->Q v H):=by
  rintro value slice pins s σ H x y v u Q I rx ry ⟨k,w,rfl,rfl,el,q⟩ hs;cases rx;obtain⟨t,rfl⟩:=ry;have hm:=TabOk.at I e2 e3;have:=e5.find (k:=k);rw[el] at this;obtain⟨v0,ev,kw⟩:=this;obtain⟨v1,r1,r2⟩:=kw.rw;refine tail_any hm.typeIs slot_dict_getitem.lookup (wpAny_getItem_of (v:=v0) (qH X.prog X.w k t) hm ?_ ⟨v1,H,I.tok _,r1,q v1 r2⟩) hs;unfold findBy;rw[<-v8];exact ev
 refine PE.wk (zl1 hix (zc4 hg e1 (show RelV (.ref d) (.ref d) from rfl) hd) ha hs) λσ H Q ⟨μ,h,ρ,w,h',R,er,e,k⟩=>?_
 obtain⟨y,h1,f1,e⟩:=u0 e;refine⟨μ,h,ρ,y,h1,R,er,f1,λμ1 H1 vx E1 R1 rx=>?_⟩;unfold zcm at e;split at e
 .split at e
  .rename_i k' w' el
   cases e;exact⟨_,_,rfl,rx.str_of,el,λv hv=>k μ1 H1 _ E1 R1 (hv μ1 H1)⟩
  .cases e
 .cases e
end
noncomputable def keyOf:W->Option Key
 | .int i=>some (.inl i)
 | .str x=>some (.inr x)
 | _=>none
noncomputable def valW(l:List (Key×W))(k:Key):Option W:=(l.find? λkv=>decide (kv.1=k)).map (·.2)
noncomputable def putW(l:List (Key×W))(k:Key)(v:W):List (Key×W):=
 if (l.any λkv=>decide (kv.1=k))=true then l.map (λkv=>if kv.1=k then (kv.1,v) else kv) else l++[(k,v)]
noncomputable def za5(l more:List (Key×W)):List (Key×W):=more.foldl (λacc kv=>putW acc kv.1 kv.2) l
noncomputable def zbW(h:MH):W->Option (List (Key×W))
 | .fdc l=>some l
 | .ref n=>match h[n]? with
  | some (.dic l)=>some l
  | _=>none
 | _=>none
inductive PR(K:PySem.W.Frag)(μ:List Addr)(H:Hp):List (Key×W)->List (Key×V)->Prop
 | nil:PR K μ H [] []
 | cons {k:Key} {w:W} {v:V} {l:List (Key×W)} {l':List (Key×V)}:RW K μ H w v->PR K μ H l l'->PR K μ H ((k,w)::l) ((k,v)::l')
section
variable{K:PySem.W.Frag}{cl:Cl}{μ μ':List Addr}{H H':Hp}{h:MH}
theorem RKs.pr:∀{l:List (Key×W)} {l':List (Key×V)},RKs K μ H l l'->PR K μ H l l'
 | [],[],_=>.nil
 | [],_::_,⟨k,_⟩=>by simp at k
 | _::_,[],⟨k,_⟩=>by simp at k
 | (k1,w)::l,(k2,v)::l',⟨k,r⟩=>by
  simp only[zH,xO] at k;obtain⟨rfl,k⟩:=k;simp only[zH] at r;cases r with | cons r t=>exact .cons r (RKs.pr ⟨k,t⟩)
theorem PR.rk:∀{l:List (Key×W)} {l':List (Key×V)},PR K μ H l l'->RKs K μ H l l'
 | _,_,.nil=>⟨rfl,.nil⟩
 | _,_,.cons r t=>⟨by simp[t.rk.1],.cons r t.rk.2⟩
theorem PR.len:∀{l:List (Key×W)} {l':List (Key×V)},PR K μ H l l'->l.length=l'.length
 | _,_,.nil=>rfl
 | _,_,.cons _ t=>ju (· + 1) t.len
theorem PR.val{k:Key}:∀{l:List (Key×W)} {l':List (Key×V)},PR K μ H l l'->match valW l k with
  | some w=>∃v,valV l' k=some v/\RW K μ H w v
  | none=>valV l' k=none
 | _,_,.nil=>rfl
 | _,_,.cons (k:=k') (l:=l) (l':=l') (w:=w) (v:=v) r t=>by
  have ih:=PR.val (k:=k) t;by_cases q:k'=k
  .have e1:valW ((k',w)::l) k=some w:=by simp[valW,jC,q]
   rw[e1];exact⟨v,by simp[valV,jC,q],r⟩
  .have e1:valW ((k',w)::l) k=valW l k:=by simp[valW,jC,q]
   have e2:valV ((k',v)::l') k=valV l' k:=by simp[valV,jC,q]
   rw[e1,e2];exact ih
theorem PR.any{k:Key}:∀{l:List (Key×W)} {l':List (Key×V)},PR K μ H l l'->(l.any λkv=>decide (kv.1=k))=(l'.any λkv=>decide (kv.1=k))
 | _,_,.nil=>rfl
 | _,_,.cons _ t=>by simp only[vB]; rw[t.any]
theorem PR.map{k:Key}{w:W}{v:V}(r:RW K μ H w v):∀{l:List (Key×W)} {l':List (Key×V)},PR K μ H l l'->PR K μ H (l.map λkv=>if kv.1=k then (kv.1,w) else kv) (l'.map λkv=>if kv.1=k then (kv.1,v) else kv)
 | _,_,.nil=>.nil
 | _,_,.cons (k:=k') q t=>by
  simp only[zH];by_cases z:k'=k
  .simp only[z,jd]; exact .cons r (t.map r)
  .simp only[z,jt]; exact .cons q (t.map r)
theorem PR.app:∀{l m:List (Key×W)} {l' m':List (Key×V)},PR K μ H l l'->PR K μ H m m'->PR K μ H (l++m) (l'++m')
 | _,_,_,_,.nil,s=>s
 | _,_,_,_,.cons r t,s=>.cons r (t.app s)
def PR.put{k:Key}{w:W}{v:V}{l:List (Key×W)}{l':List (Key×V)}(p:PR K μ H l l')(r:RW K μ H w v):PR K μ H (putW l k w) (putK l' k v):=by
 unfold putW putK;rw[<-p.any (k:=k)];split
 .exact p.map r
 .exact p.app (.cons r .nil)
def PR.merge{more:List (Key×W)}{more':List (Key×V)}{l:List (Key×W)}{l':List (Key×V)}(q:PR K μ H more more')(p:PR K μ H l l'):PR K μ H (za5 l more) (zbR l' more'):=by
 induction q generalizing l l' with
 | nil=>exact p
 | cons r t ih=>exact ih (p.put r)
theorem PR.ext(R:HR K cl μ H h)(E:Ext μ H μ' H'):∀{l:List (Key×W)} {l':List (Key×V)},PR K μ H l l'->PR K μ' H' l l'
 | _,_,.nil=>.nil
 | _,_,.cons r t=>.cons (r.ext R E) (t.ext R E)
def zdD{w:W}{v:V}{l:List (Key×W)}(R:HR K cl μ H h)(r:RW K μ H w v)(e:zbW h w=some l):∃a l',v=.ref a/\Rd H a (.dK l')/\PR K μ H l l':=by
 cases r with
 | @fdc a l0 l' ws vs s kk e1 e2 rs=>cases e; subst e1; subst e2; exact⟨a,l',rfl,s.1,RKs.pr ⟨kk,rs⟩⟩
 | @ref n a hn=>
  simp only[zbW] at e;split at e
  .rename_i l' ho
   cases e;obtain⟨l2,hv,rs⟩:=R.ob n a _ hn ho;exact⟨a,l2,rfl,.inl hv,RKs.pr rs⟩
  .cases e
 | _=>cases e
theorem zcO{w:W}{v:V}{k:Key}(r:RW K μ H w v)(e:keyOf w=some k):v=kV k:=by
 cases r<;>cases e<;>rfl
theorem KQ.fdc{l:List (Key×W)}{l':List (Key×V)}{Q:VK}{p:Addr}(k:KQ K cl μ H h (.fdc l) Q)(R:HR K cl μ H h)(pr:PR K μ H l l')(hp:H p=none):Q (.ref p) (upd H p (.dK l')):=
 k μ _ _ (.side hp) (R.side hp) (.fdc ⟨.inl zan,R.fresh hp⟩ (pr.rk.1) rfl rfl ((pr.ext R (.side hp)).rk.2))
end
noncomputable def zd4(md mk mv:ME):ME:=λρ=>bnd (md ρ) λx h=>if (zbW h x).isSome=true then bnd (mk ρ) (λy=>bnd (mv ρ) λz h=>match zbW h x,keyOf y with
  | some l,some k=>some ((valW l k).getD z,h)
  | _,_=>none) h else none
section
variable{X:Cx}{cl:Cl}{o a b:Expr}{mo ma mb:ME}{apos cpos pos:Pos}
def zlz(hu:X.A.units+64<cLine)(ho:SE X cl o mo)(ha:SE X cl a ma)(hb:SE X cl b mb)(m:M2 X o "get" apos a b cpos:=by exact⟨rfl,rfl,rfl,rfl⟩):SE X cl (.Call (.Attribute o "get" apos) [a,b] [] cpos) (zd4 mo ma mb):=
 PE.wk (zkL ∅ ho ha hb m) λσ H Q q0=>by
  obtain⟨μ,h,ρ,w,h',R,er,e,k⟩:=q0;obtain⟨x,h1,e1,e⟩:=u0 e;split at e
  .rename_i hd
   obtain⟨y,h2,e2,e⟩:=u0 e;obtain⟨z,h3,e3,e⟩:=u0 e;refine⟨μ,h,ρ,x,h1,R,er,e1,λμ1 H1 vx E1 R1 rx=>?_⟩;obtain⟨l0,hd⟩:=vh.mp hd;obtain⟨d,l',rfl,rd,_⟩:=zdD R1 rx hd;refine⟨d,rfl,.inl ⟨l',rd⟩,μ1,h1,ρ,y,h2,R1,er.ext R E1,e2,λμ2 H2 vy E2 R2 ry=>⟨μ2,h2,ρ,z,h3,R2,(er.ext R E1).ext R1 E2,e3,λμ3 H3 vz E3 R3 rz=>?_⟩⟩;split at e
   .rename_i l k' el ek
    cases e;obtain⟨d2,l2,ed,rd2,pr⟩:=zdD R3 ((rx.ext R1 E2).ext R2 E3) el;cases ed;have hk:=zcO ry ek;subst hk;refine⟨valV l2 k',.inl ⟨l2,k',rd2,rfl,rfl⟩,?_⟩;have E:=E1.trans (E2.trans E3);have:=pr.val (k:=k');cases ev:valW l k' with
    | none=>rw[ev] at this k; rw[this]; exact k μ3 H3 _ E R3 rz
    | some w0=>rw[ev] at this k; obtain⟨v0,e0,r0⟩:=this; rw[e0]; exact k μ3 H3 _ E R3 r0
   .cases e
  .cases e
def zmM:SE X cl (.Dict [] [] pos) (eC (.fdc [])):=
 PE.wk zgT λσ H Q q0=>by
  obtain⟨μ,h,ρ,w,h',R,er,e,k⟩:=q0;cases e;exactλp hp=>k.fdc R .nil hp
noncomputable def zlV:ME:=λ_ h=>some (.ref h.length,h++[.dic []])
def zkO:SE X cl (.Dict [] [] pos) zlV:=
 PE.wk zgT λσ H Q q0=>by
  obtain⟨μ,h,ρ,w,h',R,er,e,k⟩:=q0;cases e;exactλp hp=>k (μ++[p]) _ _ (.new hp) (R.new hp ⟨[],zan,rfl,.nil⟩) (.ref (by rw[<-R.len]; simp))
end
def zlA{prog:Program}{w:World}{A:Around}{it a:Addr}{P:Nat->Heap->Prop}{C:Heap->List Value->Prop}(S:Stp it a P C)(hh:A.handled=none)(hne:a≠it)(l:List Value) :
  Draws prog w A it [it,a] l.length (λi v=>l[i]?=some v) (λi h=>P i h/\C h l) where
 live:=λ_ _ st=>let ⟨o,ho,_⟩:=S.obj st.1; ⟨o,ho⟩
 frame:=λ_ _ _ st hk=>⟨S.keep st.1 λo e=>hk it (by simp) o e,S.keepC st.2 λo e=>hk a (by simp) o e⟩
 item:=λi s Q E hi st hQ=>S.item st.1 st.2 (x:=l[i]) (by simp[hi]) λh' hit' hs'=>hQ _ h' s.toks (by simp[hi]) ⟨hit',S.keepC st.2 λo e=>hs'.extBut _ _ hne e⟩ hs'
 done:=λs Q E st hE=>S.last hh st.1 st.2 (by simp) hE
section
variable{prog:Program}{w:World}{A:Around}{E:Value->Shared->Prop}{s:Shared}
def zjF{e it a:Addr}{P:Nat->Heap->Prop}{C:Heap->List Value->Prop}(S:Stp it a P C){i:Nat}{l:List Value}{j:Int}{old:Value}{Q:Option Value->Shared->Prop}(hh:A.handled=none)
  (he:IsEnum s.heap e it j old) (p:P i s.heap) (c:C s.heap l) (hx:l[i]?=none) (hQ:∀h',Heap.ExtBut it s.heap h'->Q none { s with heap:=h' }):wpAny (model prog w) A (pyNext (.ref e)) Q E s:=by
 have hT:s.TypeIs (.ref e) "enumerate":=⟨_,he,rfl⟩;unfold pyNext;refine za (q9 (jq (name:=Str.ofString "__next__") hT F.slot_enumerate_next (jj F.slot_enumerate_next hT F.entry_enumerate_next ?_ (F.args_enumerate_next_1 _))));show wpAny _ _ (field (.ref e) 2 >>= _) _ _ _; refine za (jU he rfl (x:=.ref it) rfl ?_)
 refine za (S.last hh p c hx λh' x he' hx'=>?_);obtain⟨o,ho,hc⟩:=hx'; refine za (vD (T:="StopIteration") (b:=true) ⟨o,ho,hc⟩ uO ?_); exact zg (hQ _ he')
end
def zlG{v:Value}{o:Obj}{C:Heap->Prop}(r:Itb v o C) :
  Meets (Builtin.«enumerate.__new__» ⟨[.type "enumerate",v],[]⟩) (λ_ R s=>C s.heap/\R (.ok (.ret (.ref (s.heap.push o).objs.size))) { s with heap:=(s.heap.push o).push { cls:=.type "enumerate",data:=.fields #[.none,.bool false,.ref s.heap.objs.size,rawInt 0,.none,.none] } }):=
 .of_wp λprog w A R s h=>by
  obtain⟨hp,g,d,tk,os⟩:=s; obtain⟨k1,h⟩:=h;have hsub:=sub_enumerate;have q1:∀{A:Around} {E:Value->Shared->Prop} {Q:Value->Shared->Prop},Q (.ref hp.objs.size) ⟨hp.push o,g,d,tk,os⟩->wpAny (model prog w) A (pyIter v) Q E ⟨hp,g,d,tk,os⟩:=λq=>r prog w _ _ _ _ k1 q
  wp_walk
  refine wpAny_stack_any λst=>zg ?_
  split
  .rename_i c _ _ _ _ _
   cases (c==Value.type "enumerate")<;>(wp_walk using q1; exact⟨_,rfl,h⟩)
  .wp_walk using q1
   exact⟨_,rfl,h⟩
section
variable{prog:Program}{w:World}{A:Around}{E:Value->Shared->Prop}{s:Shared}
def zjP{v:Value}{o:Obj}{C:Heap->Prop}(r:Itb v o C){Q:Value->Shared->Prop}(k1:C s.heap)(hf:o.isFreed=false)
  (h:∀h',IsEnum h' (s.heap.objs.size+1) s.heap.objs.size 0 .none->h'.get? s.heap.objs.size=some o->(∀c o,s.heap.get? c=some o->h'.get? c=some o)->Q (.ref (s.heap.objs.size+1)) { s with heap:=h' }) :
  wpAny (model prog w) A (call (.type "enumerate") [v]) Q E s:=by
 refine callType_new F.called_enumerate (by decide) (F.typeCall_enumerate_1 _) (F.newCall_enumerate_1 _) (λobj=>F.args_object_init_2 obj _) F.entry_enumerate_new (zlG r) ⟨k1,?_⟩;have hz:(s.heap.push o).objs.size=s.heap.objs.size+1:=jK ..;have b2:((s.heap.push o).push { cls:=.type "enumerate",data:=.fields #[.none,.bool false,.ref s.heap.objs.size,rawInt 0,.none,.none] }).get? (s.heap.push o).objs.size=some _:=zA _ rfl;have b1:((s.heap.push o).push { cls:=.type "enumerate",data:=.fields #[.none,.bool false,.ref s.heap.objs.size,rawInt 0,.none,.none] }).get? s.heap.objs.size=some _:=zc _ (zA _ hf);show _/\_
 rw[hz] at b2 ⊢;exact⟨⟨_,b2,rfl⟩,h _ b2 b1 λc o x=>zc _ (zc _ x)⟩
end
noncomputable def Ite (K : PySem.W.Frag) (tp : Bool) (a : Addr) : It :=
  ⟨λi H => ∃ xs x, SqX K tp H a xs /\ xs[i]? = some x,
   λi H v H' => ∃ p x, H p = none /\ v = .ref p /\ H' = upd H p (.tup [.int i, x]) /\ (∀ xs, SqX K tp H a xs -> xs[i]? = some x),
   λi H => ∃ xs, SqX K tp H a xs /\ xs.length <= i⟩
def zj2{P:Program}{w:World}{K:PySem.W.Frag}{elts:List Expr}{n:Nat}{tpos:Pos}(tp:Bool)(e it a:Addr)(hne:e≠it) :
  Turn P w K (.Tuple elts n tpos) (Ite K tp a) [e,it] e (λi h=>(∃old,IsEnum h e it i old)/\Pit tp it a i h) where
 mem:=by simp
 obj:=λi h st b hb=>by
  obtain⟨⟨old,he⟩,p⟩:=st;simp only[zf,zm,zV] at hb;rcases hb with rfl | rfl
  .exact⟨_,he,λv q=>by cases q⟩
  .exact(zaI tp _ a).obj p
 keep:=λi h h' st k=>by
  obtain⟨⟨old,he⟩,p⟩:=st;exact⟨⟨old,k e (by simp) _ he⟩,(zaI tp it a).keep p λo q=>k it (by simp) o q⟩
 item:=by
  intro X hP hw hK hc i pins s σ H E I hf st hg;subst hP hw hK;obtain⟨xs,x,d,hx⟩:=hg;obtain⟨⟨old,he⟩,p⟩:=st;obtain⟨l,r,c⟩:=zaZ I d;obtain⟨u,eu,ru⟩:=r.get hx;have ae:a≠e:=zbm I d (hf e (by simp));have ai:a≠it:=zbm I d (hf it (by simp));refine wpAny_pyNext_enum_itemD (zlA (A:=X.A.in1) (zaI tp it a) (I.ok.hd hc) ai l) he ⟨p,c⟩ (zE.mp eu).1 hne (by simp[hne,jk ae]) λx' h' tk hP ho hst' hT hsz hk=>⟨_,rfl,?_⟩
  rw[eu] at hP;cases hP;refine wpAny_letOwnedTupleGo_enum ho λh2 he2 hs2=>?_
  have elt:e<s.heap.objs.size:=zJ he;have hT2:h2.get? s.heap.objs.size=some { cls:=.type "tuple",data:=.seq #[.int i tk,u] }:=hs2.extBut _ _ (vK elt) hT;have I2:Inv X pins σ (upd H s.heap.objs.size (.tup [.int i,x])) { s with heap:=h2,toks:=tk+1 }:=zcp (t':=tk+1) (fp:=[e,it]) I (λb o hb q=>hs2.extBut _ _ (λz=>hb (by simp[z])) (hk b o (λz=>hb (by simp[z])) (λz=>hb (by simp[z])) q)) hf (zu _)
   ⟨by show 2<=sizeLine; decide,[.int i tk,u],.cons ⟨tk,rfl⟩ (.cons ru .nil),⟨_,hT2,rfl,_,rfl⟩,⟨_,hT2,rfl⟩⟩
  refine⟨.ref s.heap.objs.size,_,I2,rfl,⟨_,x,I.hok.fresh (zu _),rfl,rfl,λxs' q=>by rw[zey I q d]; exact hx⟩,⟨⟨_,he2⟩,(zaI tp it a).keep hst'.1 λo q=>hs2.extBut _ _ (jk hne) q⟩,λb hb=>?_⟩;obtain⟨o,q⟩:∃o,s.heap.get? b=some o:=by
   simp only[zf,zm,zV] at hb;rcases hb with rfl | rfl
   .exact⟨_,he⟩
   .obtain⟨o,q,_⟩:=(zaI tp _ a).obj p; exact⟨o,q⟩
  rw[zac (zP (zJ q))];exact(hf b hb).1
 done:=by
  intro X hP hw hK hc i pins s σ H E I hf st hg;subst hP hw hK;obtain⟨xs,d,hx⟩:=hg;obtain⟨⟨old,he⟩,p⟩:=st;obtain⟨l,r,c⟩:=zaZ I d;exact zjF (zaI tp it a) (I.ok.hd hc) he p c (j4 (by rw[<-r.length]; exact hx)) λh' hx'=>⟨rfl,zdT (t':=s.toks) (fp:=[e,it]) I (λb o hb q=>hx' b o (λz=>hb (by simp[z])) q) hf⟩
 self:=λ_ _ _ _ _ st h=>by obtain⟨⟨old,he⟩,_⟩:=st; exact wpAny_pyIter_enum he h
noncomputable def numbered(l:List W):List W:=l.zipIdx.map λp=>.tup [.int (p.2:Nat),p.1]
noncomputable def zl0(ws:List W):M Src:=λh=>match ws with
 | [x]=>match zcA h x with
  | some l=>some (.items (numbered l),h)
  | none=>none
 | _=>none
noncomputable def zh5(ms:List ME):MI:=λρ=>bnd (zbr ms ρ) zl0
def zcT(l:List W)(i:Nat):(numbered l)[i]?=(l[i]?).map λw=>.tup [.int (i:Nat),w]:=by
 unfold numbered;rw[kJ,List.getElem?_zipIdx];cases l[i]?<;>simp
section
variable{X:Cx}{cl:Cl}{elts:List Expr}{n:Nat}{tpos p pos:Pos}{e1:Expr}{ms:List ME}
def znK(hm:X.mg "enumerate" = none)(ha:SA X cl [e1] ms)(hg:Gl X "enumerate":=by rfl)(hst:starEach [e1] X.env=(false,eval e1 X.env)::starEach [] X.env:=by rfl)(hpl:(backTo pos (starEach [] X.env)).any (·.1)=false:=by rfl) :
  SI X cl (.Tuple elts n tpos) (.Call (.Name "enumerate" p) [e1] [] pos) (zh5 ms):=by
 rintro pins s σ H R I ⟨μ,h,ρ,src,h',R0,er,e,k⟩;obtain⟨ws,h1,e1',e⟩:=u0 e;have hv:bootBuiltins "enumerate" = some (.type "enumerate"):=by decide +kernel
 refine qe (zbu I hg hm hv ?_ (by decide) (by decide));refine qi (thn (ha pos pins s σ H (λvs H1=>∃μ1,Ext μ H μ1 H1/\HR X.K cl μ1 H1 h1/\RWs X.K μ1 H1 ws vs) I ⟨μ,h,ρ,ws,h1,R0,er,e1',λμ1 H1 vs E1 R1 rs=>⟨μ1,E1,R1,rs⟩⟩) λus s1 ⟨vs,H1,I1,r1,μ1,E1,R1,rs⟩=>?_) hst hpl;unfold zl0 at e;split at e
 .rename_i x
  split at e
  .rename_i l q1
   cases e;cases rs with | cons rx t=>cases t with | nil=>
   obtain⟨t1,a1,xs,rfl,ra1,d1,f1⟩:=zdx (cl:=cl) rx q1;obtain⟨u1,rfl,ru1⟩:=r1.one;cases ru1;obtain⟨l1,v1,c1⟩:=zaZ I1 d1;refine zjP (zhV t1 a1 l1) c1 (zdE t1 a1) λh2 b2 b1 kp=>?_
   refine wpAny_pyIter_enum b2 ?_;refine⟨_,_,_,_,H1,rfl,I1.kept (t':=s1.toks) kp,zj2 t1 _ _ a1 (xg _),⟨⟨_,b2⟩,zep b1⟩,λb hb=>?_,k μ1 H1 _ E1 R1 ?_⟩
   .have hge:s1.heap.objs.size<=b:=by
     simp only[zf,zm,zV] at hb;rcases hb with rfl | rfl<;>omega
    exact I1.fpOk hge (I1.hok.fresh hge)
   .intro μ2 H2 h3 E2 R2 i
    have d1':=f1 μ2 H2 h3 R1 E2 R2;have ra1':=ra1.ext R1 E2;refine⟨λw ew=>?_,λes=>?_⟩
    .have ew':(numbered l)[i]?=some w:=zU ew
     rw[zcT] at ew';cases ez:l[i]? with
     | none=>rw[ez] at ew'; cases ew'
     | some w0=>
      rw[ez] at ew';cases ew';obtain⟨vx,evx,rvx⟩:=ra1'.get ez;refine⟨⟨xs,vx,d1',evx⟩,λv H3 yl=>?_⟩;obtain⟨pp,x',hp,rfl,rfl,w1⟩:=yl;have z1:=w1 xs d1';rw[evx] at z1;cases z1;exact⟨.side hp,R2.side hp,.tup (SqT.of zan) (.cons (.int _) (.cons (rvx.ext R2 (.side hp)) .nil))⟩
    .have es':(numbered l)[i]?=none:=zU es
     rw[zcT] at es';refine⟨xs,d1',?_⟩;rw[<-ra1.length];cases ez:l[i]? with
     | none=>exact jB.mp ez
     | some w0=>rw[ez] at es'; cases es'
  .cases e
 .cases e
end
end ML
section
namespace ML
open PySem PySem.Spec PyProof.Rows L2
end ML
namespace ML
open PySem PySem.Spec PyProof.Rows L2
noncomputable def strsOf:List W->Option (List Str)
 | []=>some []
 | .str b::r=>match strsOf r with
  | some l=>some (b::l)
  | none=>none
 | _=>none
end ML
end
section
namespace ML
open PySem PySem.Spec PyProof.Rows L2
noncomputable def keysOf:List (W×W)->Option (List (Key×W))
 | []=>some []
 | (x,y)::r=>match keyOf x,keysOf r with
  | some k,some l=>some ((k,y)::l)
  | _,_=>none
noncomputable def revW(w:W):M W:=λh=>match w with
 | .tup l=>some (.tup l.reverse,h)
 | w=>match getL h w with
  | some l=>some (.fls l.reverse,h)
  | none=>none
noncomputable def pairsOf:List W->Option (List (W×W))
 | []=>some []
 | .tup [x,y]::r=>match pairsOf r with
  | some l=>some ((x,y)::l)
  | none=>none
 | _=>none
noncomputable def zc8(ws:List W):M W:=λh=>match ws with
 | [w]=>match zbW h w with
  | some l=>some (.fdc l,h)
  | none=>match getL h w with
   | some l=>match pairsOf l with
    | some ps=>match keysOf ps with
     | some ks=>if ks.length<=1000 then some (.fdc (za5 [] ks),h) else none
     | none=>none
    | none=>none
   | none=>none
 | _=>none
end ML
end
namespace ML
open PySem PySem.Spec PyProof.Rows L2
def zmI{T:String}(h:T="list" \/ T="tuple" \/ T="zip"):typeLookup (.type T) "keys" = pure none:=by
 rcases h with rfl | rfl | rfl<;>(rw[wu,qR]; kernel_rfl)
def znJ{T:String}(h:T="list" \/ T="tuple" \/ T="zip"):typeLookup (.type T) "__getattr__" = pure none:=by
 rcases h with rfl | rfl | rfl<;>(rw[wu,qR]; kernel_rfl)
def zdw:isSubtype (.type "AttributeError") (.type "AttributeError")=pure true:=by rw[wV]; kernel_rfl
section
variable{prog:Program}{w:World}{A:Around}{E:Value->Shared->Prop}{s:Shared}
theorem znc{e:Addr}{v0 v1 v2 v3 v4 v5 o name:Value}{Q:Unit->Shared->Prop}(he:s.heap.get? e=some { cls:=.type "AttributeError",data:=.fields #[v0,v1,v2,v3,v4,v5,rawInt 0,rawInt 0] })
  (hq:∀h' ob,Heap.ExtBut e s.heap h'->h'.get? e=some ob->ob.cls=.type "AttributeError"->Q () { s with heap:=h' }):wpAny (model prog w) A (noteAttr (.ref e) o name) Q E s:=by
 have hT:s.TypeIs (.ref e) "AttributeError":=⟨_,he,rfl⟩;unfold noteAttr;refine za ?_;unfold lacksNameAndObj;refine za (vD hT zdw ?_);simp only[yI,zQ,jt];refine za (yJ he ?_);refine zg ?_;simp only[jd];refine za (qt (za (qp hT ?_)));show wpAny _ _ (layMembers e 6 #[name,o]) _ _ s
 unfold layMembers;refine za (yJ he ?_);refine wpAny_update he (hq _ _ (jL ..).extBut (jr _ he ?_) ?_)
 .rfl
 .rfl
def zie{α:Type}{o:Value}{x msg:Str}{Q:α->Shared->Prop}(hh:A.handled=none)(hm:msg.length<=sizeLine)
  (hq:∀h' tk' e,(∀b ob,s.heap.get? b=some ob->h'.get? b=some ob)->(∃ob,h'.get? e=some ob/\ob.cls=.type "AttributeError")->E (.ref e) { s with heap:=h',toks:=tk' }):wpAny (model prog w) A (raiseAttrError o x msg:Sem α) Q E s:=by
 unfold raiseAttrError;refine za (wpAny_mkStr (za ?_) hm);unfold newExc newTuple;refine za (kO ?_);refine za (m:=firstArgMember _ _) (wj (a:=Value.none) (by first | rfl | kernel_rfl) ?_);refine kO ?_;refine za (wpAny_mkText (za ?_));refine znc (zA _ rfl) λh' ob hx ho hc=>?_
 unfold raiseNew;refine za (wpAny_handled ?_);rw[hh];first
  | refine xf ?_
  | refine za (zg (xf ?_))
 refine hq _ _ _ (λb ob' hb=>hx b ob' ?_ (zc _ (zc _ hb))) ⟨ob,ho,hc⟩;refine zP (zK (zJ hb) ?_);simp
end
section
variable{prog:Program}{w:World}{A:Around}{E:Value->Shared->Prop}{h:Heap}{g:Array GenState}{d:Drawn}{t:Nat}{os:OsState}{a:Addr}{items:Array Value}{n:Nat}{sl:Array (Option Value)}{dd:Option Addr}
noncomputable def errK(h:Heap)(g:Array GenState)(d:Drawn)(os:OsState)(E:Value->Shared->Prop):Prop:=∀h' tk' e,(∀b ob,h.get? b=some ob->h'.get? b=some ob)->(∃ob,h'.get? e=some ob/\ob.cls=.type "AttributeError")->E (.ref e) ⟨h',g,d,tk',os⟩
set_option maxHeartbeats 1000000 in
def zjJ{tk:Tok}{Q:Fin->Shared->Prop}(hh:A.handled=none)(hx:h.get? a=some { cls:=.type "list",dict:=none,data:=.seq items n,slots:=sl })(hq:errK h g d os E) :
  wpAny (model prog w) A (Builtin.«object.__getattribute__» ⟨[.ref a,.str "keys" tk],[]⟩) Q E ⟨h,g,d,t,os⟩:=by
 have hT:(⟨h,g,d,t,os⟩:Shared).TypeIs (.ref a) "list":=⟨_,hx,rfl⟩;have f4:=zmI (T:="list") (.inl rfl);repeat (any_goals (first | assumption | wp_step))
 refine zie hh ⋯ λh' tk' e k1 k2=>hq h' tk' e k1 k2
def zgl{tk:Tok}{Q:Value->Shared->Prop}(hh:A.handled=none)(hx:h.get? a=some { cls:=.type "list",dict:=none,data:=.seq items n,slots:=sl })(hq:errK h g d os E):wpAny (model prog w) A (getAttrBy (.ref a) (.str "keys" tk) false) Q E ⟨h,g,d,t,os⟩:=by
 have hT:(⟨h,g,d,t,os⟩:Shared).TypeIs (.ref a) "list":=⟨_,hx,rfl⟩;have f2:=yh.lookup;have f3:=yh.bind (.ref a);unfold getAttrBy;refine jb (za (qp hT (za (wj f2 ?_))));show wpAny _ _ (getAttrByItsOwn (.ref a) (.str "keys" tk) (.type "list") (.builtin "list.__getattribute__") false false) _ _ _
 unfold getAttrByItsOwn;refine za (zg ?_);refine za (q9 ?_);refine jb ?_;show wpAny _ _ (boundAndCalled (.builtin "list.__getattribute__") (.ref a) (.str "keys" tk)) _ _ _
 unfold boundAndCalled;refine za (wj f3 ?_);refine jj yh hT F.entry_list_ga ?_ (F.args_list_getattribute_2 _ _);refine zjJ hh hx λh' tk' e k1 k2=>?_
 obtain⟨ob,ho,hc⟩:=k2;have hTe:(⟨h',g,d,tk',os⟩:Shared).TypeIs (.ref e) "AttributeError":=⟨_,ho,hc⟩;show wpAny _ _ (getattributeRaised (.ref a) (.str "keys" tk) (.type "list") (.ref e) none false false) _ _ _
 unfold getattributeRaised;refine za (vD hTe zdw ?_);simp only[jd];refine za (wj (show hookBehind (.type "list") none=pure none from znJ (.inl rfl)) ?_);show wpAny _ _ (attributeErrorLeaves (.ref a) (.str "keys" tk) (.ref e) false false) _ _ _
 unfold attributeErrorLeaves;simp only[Bool.not_false,jd];exact xf (hq h' tk' e k1 ⟨ob,ho,hc⟩)
def zgG{Q:Option Value->Shared->Prop}(hh:A.handled=none)(hx:h.get? a=some { cls:=.type "list",dict:=none,data:=.seq items n,slots:=sl })(hq:∀h' tk',(∀b ob,h.get? b=some ob->h'.get? b=some ob)->Q none ⟨h',g,d,tk',os⟩):wpAny (model prog w) A (getAttr? (.ref a) "keys") Q E ⟨h,g,d,t,os⟩:=by
 unfold getAttr? getAttrBy?;refine za (wpAny_mkText ?_);refine za (q9 (zgl hh hx λh' tk' e k1 k2=>?_));obtain⟨ob,ho,hc⟩:=k2;refine za (vD (T:="AttributeError") (b:=true) ⟨ob,ho,hc⟩ zdw ?_);exact zg (hq h' tk' k1)
end
def zfb:entryFor table "dict.update.loop" = some Builtin.«dict.update.loop»:=entryFor_of_tree (by kernel_rfl)
def zbZ:plainId "dict.update.loop" = true:=by decide +kernel
section
variable{prog:Program}{w:World}{A:Around}{R:Result->Shared->Prop}{I D:Addr}{fp wr:List Addr}{n:Nat}{P:Nat->Value->Prop}{St:Nat->Heap->Prop}{h0:Heap}{us:List Value}{kvs:List (Key×Value)}
noncomputable def zeF(knd:KeyKind prog w Key)(h:Heap)(us:List Value)(kvs:List (Key×Value)):Prop:=us.length=kvs.length/\∀(i:Nat) (u:Value) (kv:Key×Value),us[i]?=some u->kvs[i]?=some kv->∃T k,u=.ref T/\IsTup h T #[k,kv.2]/\knd.is kv.1 k=true
def zlJ(knd:KeyKind prog w Key)(W:Walks prog w A.in1 I fp wr us.length (λi v=>us[i]?=some v) St)(hDf:D∉fp)(hD0:h0.get? D=none)(hw0:∀b∈wr,h0.get? b=none)(hp:zeF knd h0 us kvs)(hz:kvs.length<=1000) :
  ∀(k i:Nat) (tk:Tok) (s:Shared),us.length-i=k->i<=us.length->St i s.heap->s.heap.DictOf knd D (merged [] (kvs.take i))->(∀b o,h0.get? b=some o->s.heap.get? b=some o)->
   (∀h' tk',h'.DictOf knd D (merged [] kvs)->(∀b o,h0.get? b=some o->h'.get? b=some o)->R (.ok (.ret .none)) { s with heap:=h',toks:=tk' })->
   codeAny (model prog w) A (.builtin "dict.update.loop" ⟨[.ref D,.ref I,.int i tk,.none],[]⟩) R s:=by
 have hDw:D∉wr:=λh=>hDf (W.sub _ h)
 intro k;induction k with
 | zero=>
  intro i tk s hk hi hst hd h0k hR;obtain rfl:i=us.length:=by omega
  refine qb zfb ?_;rw[jG zbZ _];show wpAny _ A.in1 (pyNext (.ref I) >>= _) _ _ s; refine za (W.done s _ _ hst λh' tk' kk=>?_)
  show wpAny _ A.in1 (Builtin.Dict.addKeywords D [] >>= _) _ _ _
  refine za (zg (zg (hR h' tk' ?_ λb o e=>kk b o (λz=>by rw[hw0 b z] at e; cases e) (h0k b o e))));rw[hp.1,List.take_length] at hd;obtain⟨o,es,ep,ho,rest⟩:=hd;exact⟨o,es,ep,kk D o hDw ho,rest⟩
 | succ k ih=>
  intro i tk s hk hi hst hd h0k hR;have hlt:i<us.length:=by omega
  refine qb zfb ?_;rw[jG zbZ _];show wpAny _ A.in1 (pyNext (.ref I) >>= _) _ _ s; refine za (W.item i s _ _ hlt hst λv h' tk' hv hst' kk=>?_)
  have hkl:i<kvs.length:=by rw[<-hp.1]; exact hlt
  obtain⟨T,key,rfl,hT,hk1⟩:=hp.2 i v kvs[i] hv (zO hkl);have keep:∀b o,h0.get? b=some o->h'.get? b=some o:=λb o e=>kk b o (λz=>by rw[hw0 b z] at e; cases e) (h0k b o e)
  have hT':IsTup h' T #[key,kvs[i].2]:=by obtain⟨o,ho,r⟩:=hT; exact⟨o,keep T o ho,r⟩
  have hd':h'.DictOf knd D (merged [] (kvs.take i)):=by obtain⟨o,es,ep,ho,rest⟩:=hd; exact⟨o,es,ep,kk D o hDw ho,rest⟩
  show wpAny _ A.in1 (holding [Value.ref T] _ >>= _) _ _ _
  refine za (jb (za (wpAny_tryCatch ?_)));unfold Builtin.Dict.pairItems;refine za (qp hT'.typeIs ?_);rw[zR (by decide)];obtain⟨oT,hoT,hcT,nT,hdT⟩:=hT';refine za (jH hoT hdT (zg ?_));show wpAny _ _ (holding [key,kvs[i].2] (dictSet D key kvs[i].2)) _ _ _
  refine jb ?_;unfold dictSet;try with_reducible refine jb ?_
  refine za (knd.pyHash hk1 ?_);refine wpAny_dictSetHashed_pairs (s:={ s with heap:=h',toks:=tk'+1 }) hk1 hd' (λh2 hd2 sb=>?_) (by have:=merged_length_le ([]:List (Key×Value)) (kvs.take i); rw[qu] at this; simp at this; exact zF (zF this ∅) (show 1000<=sizeLine by decide));refine zg ⟨vd zbZ _,ih (i+1) _ _ ∅ hlt (W.frame _ _ _ hst' λb hb o e=>?_) ?_ (λb o e=>?_) λh3 tk3 hd3 k3=>?_⟩
  .rw[sb.2 b (λz:b=D=>hDf (by rw[<-z]; exact hb))]; exact e
  .rw[merged_take_succ [] kvs i kvs[i] (zO hkl)]; exact hd2
  .rw[sb.2 b (λz:b=D=>by rw[z,hD0] at e; cases e)]; exact keep b o e
  .exact hR h3 tk3 hd3 k3
end
section
variable{prog:Program}{w:World}{A:Around}{E:Value->Shared->Prop}{s:Shared}{us:List Value}{kvs:List (Key×Value)}{l:Addr}{n:Nat}{sl:Array (Option Value)}
def zeA(knd:KeyKind prog w Key)(hh:A.handled=none)(hl:s.heap.get? l=some { cls:=.type "list",dict:=none,data:=.seq us.toArray n,slots:=sl })(hp:zeF knd s.heap us kvs)(hz:kvs.length<=1000){Q:Value->Shared->Prop}
  (h:∀h' tk',h'.DictOf knd s.heap.objs.size (merged [] kvs)->(∀b o,s.heap.get? b=some o->h'.get? b=some o)->Q (.ref s.heap.objs.size) { s with heap:=h',toks:=tk' }):wpAny (model prog w) A (call (.type "dict") [.ref l]) Q E s:=by
 refine callType_codes (Q₁:=λobj s₁=>obj=.ref s.heap.objs.size/\s₁={ s with heap:=s.heap.push { cls:=.type "dict",data:=.dict #[] } }) F.kt_called_dict (F.kt_typeCall_dict_1 _) F.entry_dict_init (kt_code_dict_new _ ⟨rfl,rfl⟩) ?_;rintro obj s₁ ⟨rfl,rfl⟩;have hnew:(s.heap.push { cls:=.type "dict",data:=.dict #[] }).DictOf knd s.heap.objs.size []:=Heap.DictOf.new s.heap;refine⟨hnew.typeIs,F.args_dict_init_2 _ _,?_⟩;unfold Builtin.«dict.__init__»;refine za ?_;unfold Builtin.Dict.selfAndRest;refine za (wpAny_notOrdered_dict hnew.typeIs ?_);show wpAny _ _ (pure (s.heap.objs.size,[Value.ref l])) _ _ _
 refine zg ?_;show wpAny _ _ (Builtin.Dict.updateFrom "dict.__init__" s.heap.objs.size (.ref l) [] .none) _ _ _
 unfold Builtin.Dict.updateFrom;have hl1:(s.heap.push { cls:=.type "dict",data:=.dict #[] }).get? l=some _:=zc _ hl;refine za (qp (T:="list") ⟨_,hl1,rfl⟩ ?_);rw[zR (by decide)];have hh2:A.in1.in1.handled=none:=by simpa using hh
 refine za (zgG hh2 hl1 λh1 tk1 k1=>?_);simp only[Option.isNone_none,jd];have hl2:=k1 _ _ hl1;have hL:h1.IsList l us.toArray:=⟨_,hl2,rfl,n,rfl⟩;refine za (qt ?_);refine za (q8 hL ?_);have k0:∀b o,s.heap.get? b=some o->h1.get? b=some o:=λb o e=>k1 b o (zc _ e)
 have hDlt:s.heap.objs.size<h1.objs.size:=by obtain⟨o,es,ep,ho,_⟩:=hnew; exact zJ (k1 _ _ ho)
 have hllt:l<s.heap.objs.size:=zJ hl;have hd1:h1.DictOf knd s.heap.objs.size []:=by obtain⟨o,es,ep,ho,rest⟩:=hnew; exact⟨o,es,ep,k1 _ _ ho,rest⟩
 have hne:l≠h1.objs.size:=zP (uC hllt hDlt);have W0:=xW (prog:=prog) (w:=w) (A:=A.in1.in1) (by simpa using hh) h1.objs.size l hne us.toArray;have W1:Walks prog w A.in1.in1 h1.objs.size [h1.objs.size,l] [h1.objs.size] us.length (λi v=>us[i]?=some v) (λi h=>h.IsListIter h1.objs.size l i/\h.IsList l us.toArray):=by simpa using W0
 refine zg ⟨vd zbZ _,zlJ (h0:=s.heap) knd W1 ?_ ?_ ?_ hp hz us.length 0 _ _ rfl (j8 _) ⟨⟨_,zA _ rfl,rfl,rfl⟩,hL.at λo e=>zc _ e⟩ ?_ (λb o e=>zc _ (k0 b o e)) λh' tk' hd' k'=>?_⟩
 .simp only[zf,zm,zV,yc]
  exact⟨zP hDlt,vK hllt⟩
 .exact yQ (zu _)
 .intro b hb
  simp only[zf,zm,zV] at hb;rw[hb];exact yQ (qL hDlt)
 .obtain⟨o,es,ep,ho,rest⟩:=hd1
  exact⟨o,es,ep,zc _ ho,rest⟩
 .exact⟨rfl,h h' tk' hd' k'⟩
end
end ML
namespace ML
open PySem PySem.Spec PyProof.Rows L2
section
variable{X:Cx}{cl:Cl}
theorem zge{K:PySem.W.Frag}{μ:List Addr}{H:Hp}:∀{l:List W} {vs:List V} {ps:List (W×W)} {ks:List (Key×W)},RWs K μ H l vs->pairsOf l=some ps->keysOf ps=some ks->
  ∃ks':List (Key×V),PR K μ H ks ks'/\vs.length=ks'.length/\∀(i:Nat) (v:V) (kv:Key×V),vs[i]?=some v->ks'[i]?=some kv->∃T,v=.ref T/\SqT K H T [kV kv.1,kv.2]
 | [],_,_,_,.nil,e1,e2=>by
  cases e1; cases e2;exact⟨[],.nil,rfl,λi v kv e=>by simp at e⟩
 | w::l,_,ps,ks,.cons (v:=v) r t,e1,e2=>by
  have hw:∃x y,w=.tup [x,y]:=by
   unfold pairsOf at e1;split at e1
   .rename_i hd; cases hd
   .rename_i x y r' hd; cases hd; exact⟨x,y,rfl⟩
   .cases e1
  obtain⟨x,y,rfl⟩:=hw;unfold pairsOf at e1;split at e1
  .rename_i l' e3
   cases e1;unfold keysOf at e2;split at e2
   .rename_i k lk e4 e5
    cases e2;obtain⟨ks',p,hl,hi⟩:=zge t e3 e5;obtain⟨T,vs2,rfl,sq,rr⟩:=r.tup_of;cases rr with | cons r1 rr=>cases rr with | @cons _ v2 _ _ r2 rr=>cases rr with | nil=>
    have:=zcO r1 e4;subst this;refine⟨(k,v2)::ks',.cons r2 p,by simp[hl],λi v kv ev ek=>?_⟩;cases i with
    | zero=>simp at ev ek; subst ev; subst ek; exact⟨T,rfl,sq⟩
    | succ i=>exact hi i v kv (by simpa using ev) (by simpa using ek)
   .cases e2
  .cases e1
theorem pairs_at{pins:List (Addr×Obj)}{s:Shared}{σ:L2.St}{H:Hp}(I:Inv X pins σ H s):∀{vs:List V} {its:List Value} {ks':List (Key×V)},Vals vs its->vs.length=ks'.length->
  (∀(i:Nat) (v:V) (kv:Key×V),vs[i]?=some v->ks'[i]?=some kv->∃T,v=.ref T/\SqT X.K H T [kV kv.1,kv.2])->∃kvs,KV ks' kvs/\zeF (zat X.prog X.w) s.heap its kvs
 | _,_,[],.nil,_,_=>⟨[],.nil,rfl,λi u kv e=>by simp at e⟩
 | _,_,_::_,.nil,hl,_=>by simp at hl
 | _,_,[],.cons _ _,hl,_=>by simp at hl
 | _,_,(k,v2)::ks',.cons (a:=v) (b:=u) r t,hl,hi=>by
  obtain⟨kvs,q1,q2,q3⟩:=pairs_at I t (by simpa using hl) λi v kv e1 e2=>hi (i+1) v kv (by simpa using e1) (by simpa using e2)
  obtain⟨T,rfl,sq⟩:=hi 0 v (k,v2) (by simp) (by simp);obtain⟨it2,rv,ht,_⟩:=I.tuple sq;obtain⟨u1,u2,rfl,ru1,ru2⟩:=vals2 rv;cases r;refine⟨(k,u2)::kvs,.cons ⟨rfl,ru2⟩ q1,by simp[q2],λi u kv e1 e2=>?_⟩;cases i with
  | zero=>simp at e1 e2; subst e1; subst e2; exact⟨T,u1,rfl,ht,zfD ru1⟩
  | succ i=>exact q3 i u kv (by simpa using e1) (by simpa using e2)
def ziu(hc:X.calm=true):zar X (.type "dict") (rMs X.K cl zc8):=by
 rintro pins s σ H xs us Q I rs ⟨μ,h,ws,w,h',R,ax,e,k⟩;unfold zc8 at e;split at e
 .cases ax with | cons r t=>cases t with | nil=>
  obtain⟨u,rfl,ru⟩:=rs.one;split at e
  .rename_i l el
   cases e;obtain⟨a,l',rfl,rd,pr⟩:=zdD R r el;cases ru;exact zk1 I rd λp s' hp I'=>⟨.ref p,_,I',rfl,k.fdc R pr hp⟩
  .split at e
   .rename_i l el
    split at e
    .rename_i ps ep
     split at e
     .rename_i ks ek
      split at e
      .rename_i hlen
       cases e;obtain⟨a,vs,rfl,sa,ra⟩:=zaJ R r el;cases ru;obtain⟨ks',pr,hl,hi⟩:=zge ra ep ek;obtain⟨its,rv,⟨⟨oc,od,odt,osl⟩,n,g1,g2,g3,g4⟩,_⟩:=I.list sa;simp only at g2 g3 g4;subst g2 g3 g4;obtain⟨kvs,q1,q2⟩:=pairs_at I rv hl hi;have hkl:ks'.length=kvs.length:=q1.length;refine zeA (zat X.prog X.w) (I.ok.hd hc) g1 q2 (by rw[<-hkl,<-pr.len]; exact hlen) λh2 tk dd kp=>?_
       have rel:KV (zbR [] ks') (merged [] kvs):=q1.merge .nil;have hz:(zbR [] ks').length<=sizeLine:=by
        have h1:=zcL ks' [];rw[kZ] at h1;rw[jD];have:=pr.len;omega
       exact⟨.ref _,_,I.laid (a:=s.heap.objs.size) (o:=.dK (zbR [] ks')) (t':=tk) kp (zu _) (zgh hz (jn.mpr (jk (zP I.big))) rel dd),rfl,k.fdc R (pr.merge .nil) (I.hok.fresh (zu _))⟩
      .cases e
     .cases e
    .cases e
   .cases e
 .cases e
end
end ML
section
namespace ML
open PySem PySem.Spec PyProof.Rows L2
def zpu{P:Program}{w:World}{K:PySem.W.Frag}{mg:Str->Option Value}{base:Heap}{cl:Cl}{x qual:Str}{st:Stmt}{sc:Scope}{bd:List Stmt}{f:Addr}{fd:FuncData}{N ps:List Str}{k np ns:Nat}{b:MS}(F:Fun K x qual st f fd)(hsc:zag st=sc)(hbd:zaA st=bd)(S:FnScope N ps sc)(hnp:ps.length=np)(hns:N.length-np=ns)
  (hb:∀(cdv:Value) (A:Around) (outer:List Env) (s:Shared) (H:Hp) (E:XK),Room k (A.deeper (envOfC qual sc s.heap.objs.size f cdv))->
   SB (cxOf CX0 P w K mg base N qual sc f cdv A outer s H E).nox cl bd b):FnOk P w K mg base CX0 (k+1) f fd ps (spM K cl (gc (fnM np ns b))):=by
 subst hsc hbd;exact zp8 F S hnp hns hb
noncomputable def visB(sc:Scope)(x:Str):Bool:=match sc.names.lookup x with
 | some .local=>true
 | some .cell=>true
 | some .free=>true
 | _=>false
noncomputable def locB(sc:Scope)(x:Str):Bool:=match sc.names.lookup x with
 | some .local=>true
 | some .cell=>true
 | _=>false
noncomputable def varB(sc:Scope)(N:List Str)(i:Nat)(x:Str):Bool:=N[i]?==some x&&visB sc x && !(x==("__debug__":Str)) && !(x==("__classdict__":Str))
noncomputable def setB(sc:Scope)(N:List Str)(i:Nat)(x:Str):Bool:=N[i]?==some x&&locB sc x
noncomputable def setC(sc:Scope)(N:List Str)(i:Nat)(x:Str):Bool:=N[i]?==some x&&sc.names.lookup x==some .local
noncomputable def glB(sc:Scope)(x:Str):Bool:=sc.names.lookup x==some .globalImplicit && !(x==("__debug__":Str)) && !(x==("__name__":Str))
section
variable{X:Cx}{cl:Cl}{x:Str}{pos pos' p:Pos}{sc:Scope}{N:List Str}{i:Nat}{e:Expr}{m:ME}
def znI(h:visB sc x=true):Vis sc x:=by
 unfold visB at h;split at h
 .rename_i q; exact .inl q
 .rename_i q; exact .inr (.inl q)
 .rename_i q; exact .inr (.inr q)
 .cases h
def zc5(h:locB sc x=true):Loc sc x:=by
 unfold locB at h;split at h
 .rename_i q; exact .inl q
 .rename_i q; exact .inr q
 .cases h
def v_(h:varB sc N i x=true)(hs:X.env.scope=sc:=by rfl)(hN:X.N=N:=by rfl):SE X cl (.Name x pos) (eVar i):=by
 unfold varB at h;simp only[zr,vI,qg] at h;exact zo5 i (by rw[hN]; exact h.1.1.1) (by rw[hs]; exact znI h.1.1.2) h.1.2 h.2
def g_(h:setB sc N i x=true)(hNd:N.Nodup)(hs:X.env.scope=sc:=by rfl)(hN:X.N=N:=by rfl)(hf:X.fn x=true:=by rfl):SG X cl (.Name x pos) (gNm i):=by
 unfold setB at h;simp only[zr,vI] at h;exact zhd i (by rw[hN]; exact hNd) (by rw[hN]; exact h.1) (by rw[hs]; exact zc5 h.2) (.inl hf)
def gc_(h:setC sc N i x=true)(hNd:N.Nodup)(hs:X.env.scope=sc:=by rfl)(hN:X.N=N:=by rfl):SG X cl (.Name x pos) (gNm i):=by
 unfold setC at h;simp only[zr,vI] at h;exact zhd i (by rw[hN]; exact hNd) (by rw[hN]; exact h.1) (by rw[hs]; exact .inl h.2) (.inr (by rw[hs]; exact h.2))
def s_(h:setB sc N i x=true)(hNd:N.Nodup)(he:SE X cl e m)(hs:X.env.scope=sc:=by rfl)(hN:X.N=N:=by rfl)(hf:X.fn x=true:=by rfl)(hsw:swapsWith e (some (.Name x pos')) pos.line X.env=pure false:=by rfl):SS X cl (.Assign [.Name x pos'] e pos) (sAsg m (gNm i)):=by
 unfold setB at h;simp only[zr,vI] at h;exact zoG i (by rw[hN]; exact hNd) he (by rw[hN]; exact h.1) (by rw[hs]; exact zc5 h.2) hsw (.inl hf)
def au_{op:Operator}{f:W->W->M W}(h:setB sc N i x=true)(hNd:N.Nodup)(ho:PIp X op (rM X.K cl f))(he:SE X cl e m)(hs:X.env.scope=sc:=by rfl)(hN:X.N=N:=by rfl)(hf:X.fn x=true:=by rfl):SS X cl (.AugAssign (.Name x pos') op e pos) (sAug i f m):=by
 unfold setB at h;simp only[zr,vI] at h;exact zpD i (by rw[hN]; exact hNd) ho he (by rw[hN]; exact h.1) (by rw[hs]; exact zc5 h.2) (.inl hf)
def zal(h:glB sc x=true)(hs:X.env.scope=sc):Gl X x/\(x==("__debug__":Str))=false/\x≠"__name__":=by
 unfold glB at h;simp only[zr,vI,qg] at h;refine⟨?_,h.1.2,λz=>?_⟩
 .show X.env.scope.names.lookup x=_
  rw[hs]; exact h.1.1
 .have:=h.2; rw[z] at this; simp at this
variable{k:Nat}{f:Addr}{fd:FuncData}{ps:List Str}{es:List Expr}{g:List W->M W}{ms:List ME}{id:String}
def c_(h:glB sc x=true)(F:FnOk X.prog X.w X.K X.mg X.base CX0 k f fd ps (spM X.K cl g))(hr:Room k X.A)(hm:X.mg x=some (.ref f))(hk:PySem.W.keepIn X.K (.ref f)=true)(hb:Binds X.K fd ps [])
  (ha:SA X cl (e::es) ms) (hs:X.env.scope=sc:=by rfl) (hst:starEach (e::es) X.env=(false,eval e X.env)::starEach es X.env:=by rfl) (hpl:(backTo pos (starEach es X.env)).any (·.1)=false:=by rfl):SE X cl (.Call (.Name x p) (e::es) [] pos) (uW g ms):=
 znz F hr hm hk hb ha (zal h hs).1 (zal h hs).2.1 hst hpl
def c0_(h:glB sc x=true)(F:FnOk X.prog X.w X.K X.mg X.base CX0 k f fd ps (spM X.K cl g))(hr:Room k X.A)(hm:X.mg x=some (.ref f))(hk:PySem.W.keepIn X.K (.ref f)=true)(hb:Binds X.K fd ps [])
 (hs:X.env.scope=sc:=by rfl):SE X cl (.Call (.Name x p) [] [] pos) (uW g []):=zlT F hr hm hk hb (zal h hs).1 (zal h hs).2.1
def cB_(h:glB sc x=true)(hc:zar X (.builtin id) (rMs X.K cl g))(hm:X.mg x=none)(hv:bootBuiltins x=some (.builtin id))(ha:SA X cl (e::es) ms)(hs:X.env.scope=sc:=by rfl)(hst:starEach (e::es) X.env=(false,eval e X.env)::starEach es X.env:=by rfl)(hpl:(backTo pos (starEach es X.env)).any (·.1)=false:=by rfl) :
 SE X cl (.Call (.Name x p) (e::es) [] pos) (uW g ms):=zkI hc hm hv ha (zal h hs).1 (zal h hs).2.2 (zal h hs).2.1 hst hpl
def cT_(h:glB sc x=true)(hc:zar X (.type id) (rMs X.K cl g))(hm:X.mg x=none)(hv:bootBuiltins x=some (.type id))(ha:SA X cl (e::es) ms)(hs:X.env.scope=sc:=by rfl)(hst:starEach (e::es) X.env=(false,eval e X.env)::starEach es X.env:=by rfl)(hpl:(backTo pos (starEach es X.env)).any (·.1)=false:=by rfl) :
 SE X cl (.Call (.Name x p) (e::es) [] pos) (uW g ms):=zjA hc hm hv ha (zal h hs).1 (zal h hs).2.2 (zal h hs).2.1 hst hpl
def gb_{w:W}(h:glB sc x=true)(G:Glob X.K X.mg x w)(hs:X.env.scope=sc:=by rfl):SE X cl (.Name x pos) (eC w):=G.se (zal h hs).1 (zal h hs).2.1
def isi_(T:Ty){y:Str}{p2:Pos}{a:Expr}{ma:ME}(h:glB sc "isinstance" = true)(h2:glB sc y=true)(ha:SE X cl a ma)(hi:X.mg "isinstance" = none)(ht:X.mg y=none)(hv:bootBuiltins y=some (.type T.name))(hs:X.env.scope=sc:=by rfl)
  (hs1:starEach [a,.Name y p2] X.env=(false,eval a X.env)::starEach [.Name y p2] X.env:=by rfl) (hs2:starEach [.Name y p2] X.env=(false,eval (.Name y p2) X.env)::starEach [] X.env:=by rfl)
  (hpl:(backTo pos (starEach [.Name y p2] X.env)).any (·.1)=false:=by rfl):SE X cl (.Call (.Name "isinstance" p) [a,.Name y p2] [] pos) (eUn (isW T) ma):=
 zo1 T ha hi ht hv (zal h hs).1 (zal h2 hs).1 (zal h2 hs).2.2 (zal h2 hs).2.1 hs1 hs2 hpl
variable{a:Expr}{ma:ME}{l:List (Str×W)}
def tI_(h:glB sc x=true)(hu:X.A.units+64<cLine)(T:TabOk X.K X.w.params X.mg x l)(ha:SE X cl a ma)(hs:X.env.scope=sc:=by rfl)(hm:behindInMarks .In (.Name x p)=false:=by first | exact nomark _ | rfl):SE X cl (.Compare a [.In] [.Name x p] pos) (eUn (tabIn false l) ma):=zlP hu T ha hm (zal h hs).1 (zal h hs).2.1
def tN_(h:glB sc x=true)(hu:X.A.units+64<cLine)(T:TabOk X.K X.w.params X.mg x l)(ha:SE X cl a ma)(hs:X.env.scope=sc:=by rfl)(hm:behindInMarks .NotIn (.Name x p)=false:=by first | exact nomark _ | rfl):SE X cl (.Compare a [.NotIn] [.Name x p] pos) (eUn (tabIn true l) ma):=zjV hu T ha hm (zal h hs).1 (zal h hs).2.1
def tG_(h:glB sc x=true)(hu:X.A.units+64<cLine)(T:TabOk X.K X.w.params X.mg x l)(ha:SE X cl a ma)(hs:X.env.scope=sc:=by rfl)(hp:zcj a:=by exactλ_ _=>rfl):SE X cl (.Subscript (.Name x p) a pos) (eUn (zcm l) ma):=zjp hu T ha hp (zal h hs).1 (zal h hs).2.1
def rng_{tg:Expr}(h:glB sc "range" = true)(hm:X.mg "range" = none)(ha:SA X cl [e] ms)(hs:X.env.scope=sc:=by rfl)(hst:starEach [e] X.env=[(false,eval e X.env)]:=by rfl):SI X cl tg (.Call (.Name "range" p) [e] [] pos) (iRng ms):=zoF hm ha (zal h hs).1 hst
def enu_{elts:List Expr}{n:Nat}{tpos:Pos}(h:glB sc "enumerate" = true)(hm:X.mg "enumerate" = none)(ha:SA X cl [e] ms)(hs:X.env.scope=sc:=by rfl)(hst:starEach [e] X.env=(false,eval e X.env)::starEach [] X.env:=by rfl)(hpl:(backTo pos (starEach [] X.env)).any (·.1)=false:=by rfl) :
 SI X cl (.Tuple elts n tpos) (.Call (.Name "enumerate" p) [e] [] pos) (zh5 ms):=znK hm ha (zal h hs).1 hst hpl
def zip_{elts:List Expr}{n:Nat}{tpos:Pos}{e2:Expr}(h:glB sc "zip" = true)(hm:X.mg "zip" = none)(ha:SA X cl [e,e2] ms)(hs:X.env.scope=sc:=by rfl)(hst:starEach [e,e2] X.env=(false,eval e X.env)::starEach [e2] X.env:=by rfl)(hpl:(backTo pos (starEach [e2] X.env)).any (·.1)=false:=by rfl) :
 SI X cl (.Tuple elts n tpos) (.Call (.Name "zip" p) [e,e2] [] pos) (iZip ms):=zoJ hm ha (zal h hs).1 hst hpl
end
end ML
namespace ML
open PySem PySem.Spec PyProof.Rows L2
section
variable{X:Cx}{cl:Cl}{a:Expr}{ma:ME}{x:Str}{l:List (Str×W)}{p pos:Pos}{sc:Scope}
def zjt{op:CmpOp}(neg:Bool)(ho:∀{A:Around} {E:Value->Shared->Prop} {s:Shared} {d:Addr} {f:Str->Option Value} {k:Str} {t:Tok} {Q:Value->Shared->Prop},(d==sysModules)=false->s.heap.MapOf (strKind X.prog X.w) d f->Q (.bool (if neg then !(f k).isSome else (f k).isSome)) { s with toks:=s.toks+1 }->wpAny (model X.prog X.w) A (compareOp op (.str k t) (.ref d)) Q E s)
  (T:TabOk X.K X.w.params X.mg x l) (ha:SE X cl a ma) (hm:behindInMarks op (.Name x p)=false) (hg:Gl X x) (hd:(x==("__debug__":Str))=false):ST X cl (.Compare a [op] [.Name x p] pos) (tVal (eUn (tabIn neg l) ma)):=by
 obtain⟨d,es,n,e1,e2,e3,e4,e5⟩:=T.ex;have hop:OpR X (compareOp op) (λx y H Q=>∃k,x=.str k/\y=.ref d/\Q (.bl (if neg then !(l.lookup k).isSome else (l.lookup k).isSome)) H):=by
  rintro pins s σ H x y v u Q I rx ry ⟨k,rfl,rfl,q⟩;obtain⟨t,rfl⟩:=rx;cases ry;refine ho e4 (TabOk.at I e2 e3) ?_;have fk:(findBy Value.isStrOf es k).isSome=(l.lookup k).isSome:=by
   have:=e5.find (k:=k);unfold findBy;rw[<-v8];cases ek:l.lookup k with
   | none=>rw[ek] at this; rw[this]; rfl
   | some w=>rw[ek] at this; obtain⟨v,e,_⟩:=this; rw[e]; rfl
  rw[fk];exact⟨.bl _,H,I.tok _,rfl,q⟩
 refine PT.wk (zhE hop ha (zc4 hg e1 (show RelV (.ref d) (.ref d) from rfl) hd) hm) λσ H Q q=>?_
 obtain⟨μ,h,ρ,w,h',R,er,e,k⟩:=zb4 q;obtain⟨y,h1,f1,e⟩:=u0 e;refine⟨μ,h,ρ,y,h1,R,er,f1,λμ1 H1 vx E1 R1 rx=>?_⟩;unfold tabIn at e;split at e
 .cases e
  exact⟨_,rx.str_of,rfl,k μ1 H1 _ E1 R1 (.bl _)⟩
 .cases e
def tIt_(h:glB sc x=true)(hu:X.A.units+64<cLine)(T:TabOk X.K X.w.params X.mg x l)(ha:SE X cl a ma)(hs:X.env.scope=sc:=by rfl)(hm:behindInMarks .In (.Name x p)=false:=by first | exact nomark _ | rfl):ST X cl (.Compare a [.In] [.Name x p] pos) (tVal (eUn (tabIn false l) ma)):=
 zjt false (λ{A E s d f k t Q} h1 h2 h3=>wpAny_in_of (qH X.prog X.w k t) h1 h2 h3) T ha hm (zal h hs).1 (zal h hs).2.1
def tNt_(h:glB sc x=true)(hu:X.A.units+64<cLine)(T:TabOk X.K X.w.params X.mg x l)(ha:SE X cl a ma)(hs:X.env.scope=sc:=by rfl)(hm:behindInMarks .NotIn (.Name x p)=false:=by first | exact nomark _ | rfl):ST X cl (.Compare a [.NotIn] [.Name x p] pos) (tVal (eUn (tabIn true l) ma)):=
 zjt true (λ{A E s d f k t Q} h1 h2 h3=>wpAny_notIn_of (qH X.prog X.w k t) h1 h2 h3) T ha hm (zal h hs).1 (zal h hs).2.1
end
end ML
end
namespace ML
open PySem PySem.Spec PyProof.Rows L2
noncomputable def zf1(l:List Str):Bool:=decide l.Nodup
def zmd{l:List Str}(h:zf1 l=true:=by kernel_rfl):l.Nodup:=jW h
structure FTxt(K:PySem.W.Frag)(mg:Str->Option Value)(x:Str)(st:Stmt)(ps:List Str)(a:Addr)(d:FuncData):Prop where
 F:Fun K x x st a d
 B:Binds K d ps []
 m:mg x=some (.ref a)
def zgf{K:PySem.W.Frag}{x y:Str}{st:Stmt}{f:Addr}{fd:FuncData}(F:Fun K x x st f fd)
  (hb:∀(kV doc pm:Value) (an:Option Addr) (cdv ct:Value) (us:List Value),us.length=[y].length->bindArgs (PySem.W.fnOf x x (za0 st) (zaA st) (zag st) .none kV doc pm an cdv ct) ⟨us,[]⟩=pure ([y].zip us)):∀(s:Shared) (v:Value),BindsTo s fd ⟨[v],[]⟩ [(y,v)]:=by
 intro s v;obtain⟨oc,od,kV,doc,pm,an,cdv,ct,osl,rfl,lk,hcd⟩:=F.ex;exact .of_eq (hb kV doc pm an cdv ct [v] rfl)
noncomputable def spL(P:Program)(w:World)(f:List W->M W)(K:PySem.W.Frag):Sp:=spM K ⟨λ_=>0,P,w⟩ f
def zoK{P:Program}{w:World}{f:List W->M W}(hf:∀ns:List Int,ns.length<=63->∃h',f [.fls (ns.map W.int)] []=some (.bl true,h'))(K:PySem.W.Frag)(H:Hp)(a:Addr)(ns:List Int)(hl:ns.length<=63)(hS:SqL K H a (ns.map V.int)):spL P w f K [.ref a] H (λv _=>v=.bl true) λ_ _ _=>False:=by
 obtain⟨h',e⟩:=hf ns hl;refine⟨[],[],[.fls (ns.map W.int)],.bl true,h',⟨rfl,qz,λn a o e=>by simp at e⟩,.cons (.fls ?_ (RWs.ints ns)) .nil,e,λμ' H' v E R r=>r.bl_of⟩;rcases hS with hS | hS
 .exact .inl ⟨hS,by simp⟩
 .exact .inr hS
noncomputable def zqD(x y:W):M W:=λh=>match zbW h x,keyOf y with
 | some l,some k=>match valW l k with
  | some w=>some (w,h)
  | none=>none
 | _,_=>none
noncomputable def putM(x y v:W):M W:=λh=>match x with
 | .ref n=>match h[n]? with
  | some (.dic l)=>match keyOf y with
   | some k=>if l.length<cap then some (.non,h.set n (.dic (putW l k v))) else none
   | none=>none
  | some (.lst l)=>match y with
   | .int i=>match ixN l.length i with
    | some j=>some (.non,h.set n (.lst (l.set j v)))
    | none=>none
   | _=>none
  | _=>none
 | _=>none
section
variable{X:Cx}{cl:Cl}{o i:Expr}{mo mi:ME}{pos:Pos}
inductive rPut(K:PySem.W.Frag)(cl:Cl)(o:V)(i:V)(v:V)(H:Hp)(Q:Hp->Prop):Prop
 | mk (μ:List Addr) (h:MH) (wo:W) (wi:W) (wv:W) (w:W) (h':MH) (p0:HR K cl μ H h) (p1:RW K μ H wo o) (p2:RW K μ H wi i) (p3:RW K μ H wv v) (p4:putM wo wi wv h=some (w,h')) (p5:∀μ' H',Ext μ H μ' H'->HR K cl μ' H' h'->Q H'):rPut K cl o i v H Q
def zpV(hu:X.A.units+64<cLine):PSet X (rPut X.K cl):=by
 rintro pins s σ H o i v ov iv u Q I ro ri rv ⟨μ,h,wo,wi,wv,w,h',R,ao,ai,av,e,k⟩;unfold putM at e;split at e
 .rename_i n
  cases ao with | @ref _ p hn=>
  split at e
  .rename_i l ho
   split at e
   .rename_i kk ek
    split at e
    .rename_i hl
     cases e;obtain⟨l',hp,rk⟩:=R.ob n p _ hn ho;have pr:=RKs.pr rk;have hk:=zcO ai ek;subst hk;cases ro;have hl':l'.length<sizeLine:=by rw[<-pr.len]; exact zK hl zaU
     refine jV (zj5 ∅ I (.inl ⟨l',kk,hp,rfl,hl',rfl⟩) ri rv λs' I'=>?_) (λ_ _ z=>z) λ_ _ z=>z
     have E:Ext μ H μ (upd H p (.dK (putK l' kk v))):=Ext.put hn;exact⟨_,I',k μ _ E (R.put hn ⟨_,zan,((pr.put av).ext R E).rk⟩)⟩
    .cases e
   .cases e
  .rename_i l ho
   split at e
   .rename_i j
    split at e
    .rename_i j' ej
     cases e;obtain⟨vs,hp,rs⟩:=R.ob n p _ hn ho;have hi:=ai.int_of;subst hi;have E:Ext μ H μ (upd H p (.lst (vs.set j' v))):=Ext.put hn;refine set_list pins s σ H _ _ v ov iv u Q I ro ri rv ⟨p,vs,j,j',rfl,rfl,hp,by rw[<-rs.length]; exact ej,k μ _ E (R.put hn ⟨_,zan,(RWs.set av _ rs).ext R E⟩)⟩
    .cases e
   .cases e
  .cases e
 .cases e
end
noncomputable def slM(x:W)(lo hi:Option Int):M W:=λh=>match getL h x with
 | some l=>some (.ref h.length,h++[.lst (cutW l lo hi)])
 | none=>none
noncomputable def eSlM(a:ME)(lo hi:Option ME):ME:=λρ=>bnd (a ρ) λx=>bnd (za7 lo ρ) λl=>bnd (za7 hi ρ) λu=>slM x l u
section
variable{X:Cx}{cl:Cl}{a:Expr}{ma:ME}{pos p2:Pos}
def zpH{lo hi:Option Expr}{ml mh:Option ME}(ha:SE X cl a ma)(hl:SO X cl lo ml)(hh:SO X cl hi mh):SE X cl (.Subscript a (.Slice lo hi none p2) pos) (eSlM ma ml mh):=by
 have hr:SlR X (λx lo hi H Q=>∃μ h wx w h',HR X.K cl μ H h/\RW X.K μ H wx x/\slM wx lo hi h=some (w,h')/\KQ X.K cl μ H h' w Q):=by
  rintro pins s σ H x v vl vu lo hi sl Q I rx hs pl pu ⟨μ,h,wx,w,h',R,ax,e,k⟩;unfold slM at e;split at e
  .rename_i l el
   cases e;obtain⟨a,vs,rfl,sa,ra⟩:=zaJ R ax el;exact zhn pins s σ H _ v vl vu lo hi sl Q I rx hs pl pu ⟨a,vs,rfl,sa,λp hp=>k.lst R (ra.cutW lo hi) hp⟩
  .cases e
 refine PE.wk (zfX hr ha hl hh) λσ H Q ⟨μ,h,ρ,w,h',R,er,e,k⟩=>?_
 obtain⟨x,h1,e1,e⟩:=u0 e;obtain⟨l,h2,e2,e⟩:=u0 e;obtain⟨u,h3,e3,e⟩:=u0 e
 exact⟨μ,h,ρ,x,h1,R,er,e1,λμ1 H1 vx E1 R1 rx=>⟨μ1,h1,ρ,l,h2,R1,er.ext R E1,e2,λμ2 H2 E2 R2=>⟨μ2,h2,ρ,u,h3,R2,(er.ext R E1).ext R1 E2,e3,λμ3 H3 E3 R3=>
  ⟨μ3,h3,x,w,h',R3,(rx.ext R1 E2).ext R2 E3,e,k.ext (E1.trans (E2.trans E3))⟩⟩⟩⟩
end
noncomputable def noStar:Expr->Bool
 | .Starred ..=>false
 | _=>true
noncomputable def zd3:Expr->Bool
 | .ListComp ..=>false
 | .SetComp ..=>false
 | .DictComp ..=>false
 | _=>true
noncomputable def zfw:Expr->Bool
 | .Set ..=>false
 | _=>true
noncomputable def zmg:Expr->Bool
 | .Tuple ..=>false
 | _=>true
noncomputable def zc1:Expr->Bool
 | .Slice ..=>false
 | _=>true
noncomputable def plainT:Expr->Bool
 | .UnaryOp ..=>false
 | .BoolOp ..=>false
 | .IfExp ..=>false
 | .Compare ..=>false
 | _=>true
noncomputable def zjW:Expr->Bool
 | .Call ..=>false
 | _=>true
section
variable{e tg o:Expr}{es:List Expr}{env:Env}{pos:Pos}
def zaf(h:noStar e=true):starEach (e::es) env=(false,eval e env)::starEach es env:=by
 cases e<;>first | (cases h; done) | kernel_rfl
theorem zcI:starEach [] env=[]:=by kernel_rfl
theorem zb2(h:noStar e=true):backTo pos (starEach (e::es) env)=(false,eval e env)::backTo pos (starEach es env):=by
 rw[zaf h]; rfl
theorem zax:∀{es:List Expr},es.all noStar=true->(backTo pos (starEach es env)).any (·.1)=false
 | [],_=>by rw[zcI]; rfl
 | e::es,h=>by
  rw[jF,zr] at h;rw[zb2 h.1,vB,zax h.2];rfl
theorem zgm:∀{es:List Expr},es.all noStar=true->(backTo pos (starEach es env)).all (λx=>!x.1)=true
 | [],_=>by rw[zcI]; rfl
 | e::es,h=>by
  rw[jF,zr] at h;rw[zb2 h.1,jF,zgm h.2];rfl
def zdY(h:es.all noStar=true)(hl:decide (es.length<30)=true):((backTo pos (starEach es env)).all (λx=>!x.1)&&(backToKw pos (keywordEach [] env)).all (λx=>x.1.isSome)
   && decide (es.length+([]:List Keyword).length+(if ([]:List Keyword).isEmpty then 0 else 1)<30))=true:=by
 rw[zgm h];have:(keywordEach [] env)=[]:=by kernel_rfl
 rw[this];simpa[backToKw] using hl
theorem zbM{t:Option Expr}{l:Nat}(h:zd3 e=true):swapsWith e t l env=pure false:=by
 cases e<;>first | (cases h; done) | rfl
theorem zhJ{ts:List Expr}{n:Nat}{p:Pos}(h:zmg e=true):swappedStores [.Tuple ts n p] e env=pure none:=by
 cases e<;>first | (cases h; done) | rfl
def za4(h:noStar e=true):assignEach (e::es) env=(false,assign e env)::assignEach es env:=by
 cases e<;>first | (cases h; done) | kernel_rfl
theorem zbJ:assignEach [] env=[]:=by kernel_rfl
theorem zen:∀{es:List Expr},es.all noStar=true->(assignEach es env).length=es.length
 | [],_=>by rw[zbJ]; rfl
 | e::es,h=>by
  rw[jF,zr] at h;rw[za4 h.1,zG,zen h.2];rfl
theorem zdq:∀{es:List Expr},es.all noStar=true->(assignEach es env).findIdx? (·.1)=none
 | [],_=>by rw[zbJ]; rfl
 | e::es,h=>by
  rw[jF,zr] at h;rw[za4 h.1,List.findIdx?_cons,zdq h.2];rfl
theorem zbx(h:zfw e=true):∀x,foldedSetIterable e env x=pure x:=by
 intro x;cases e<;>first | (cases h; done) | rfl
theorem zco{a:Str}{whole:Sem Value}(h:zjW o=true):attributeBase o a env whole=whole:=by
 cases o<;>first | (cases h; done) | rfl
def zky(h:plainT e=true):∀whole,isTrue e env whole=(do let v <-whole; standAt e.pos; holding [v] (truthy v)):=by
 intro whole;cases e<;>first | (cases h; done) | kernel_rfl
theorem zl5(h:zc1 e=true):zcj e:=by
 intro o i;cases e<;>first | (cases h; done) | rfl
end
structure RC where
 sc:Scope
 N:List Str
 inC:Bool
 fns:List (Str×(List W->M W))
 con:List (Str×W)
 tab:List (Str×List (Str×W))
 bin:List Str
 own:List Str
 txt:List Str
 cmp:List ((Nat×Nat)×List Str)
noncomputable def FnAt(P:Program)(w:World)(K:PySem.W.Frag)(mg:Str->Option Value)(base:Heap)(cl:Cl)(k:Nat)(x:Str)(g:List W->M W):Prop:=
 ∃f fd ps,FnOk P w K mg base CX0 k f fd ps (spM K cl g)/\mg x=some (.ref f)/\PySem.W.keepIn K (.ref f)=true/\Binds K fd ps []
noncomputable def AllOf{α:Type}(P:Str->α->Prop):List (Str×α)->Prop
 | []=>True
 | (x,g)::r=>P x g/\AllOf P r
theorem AllOf.at{α:Type}{P:Str->α->Prop}{x:Str}{g:α}:∀{l:List (Str×α)},AllOf P l->l.lookup x=some g->P x g
 | [],_,e=>by cases e
 | (y,g')::r,h,e=>by
  rw[j9] at e;cases q:x==y with
  | true=>rw[q] at e; cases e; rw[eq_of_beq q]; exact h.1
  | false=>rw[q] at e; exact AllOf.at h.2 e
noncomputable def AllNone(mg:Str->Option Value):List Str->Prop
 | []=>True
 | x::r=>mg x=none/\AllNone mg r
theorem AllNone.at{mg:Str->Option Value}{x:Str}:∀{l:List Str},AllNone mg l->x∈l->mg x=none
 | y::r,h,e=>by
  rcases zf.mp e with rfl | e
  .exact h.1
  .exact AllNone.at h.2 e
structure BaseOk(P:Program)(w:World)(K:PySem.W.Frag)(mg:Str->Option Value)(base:Heap)(cl:Cl)(k:Nat)(Γ:RC):Prop where
 fns:AllOf (FnAt P w K mg base cl k) Γ.fns
 con:AllOf (Glob K mg) Γ.con
 tab:AllOf (TabOk K w.params mg) Γ.tab
 bin:AllNone mg Γ.bin
 pw:cl.P=P/\cl.w=w
structure Fits(Γ:RC)(cl:Cl)(k:Nat)(X:Cx):Prop where
 sc:X.env.scope=Γ.sc
 N:X.N=Γ.N
 nd:X.N.Nodup
 fn:Γ.inC=false->∀x,X.fn x=true
 kind:Γ.sc.kind=.function
 calm:X.calm=true
 pass:PassesOwn (model X.prog X.w) X.A X.env X.xe
 room:Room k X.A
 base:BaseOk X.prog X.w X.K X.mg X.base cl k Γ
noncomputable def ixOf(x:Str):List Str->Option Nat
 | []=>none
 | y::r=>if y==x then some 0 else (ixOf x r).map (· + 1)
noncomputable def zib(Γ:RC)(x:Str):Option ME:=match ixOf x Γ.N with
 | some i=>if varB Γ.sc Γ.N i x=true then some (eVar i) else none
 | none=>match Γ.con.lookup x with
  | some w=>if glB Γ.sc x=true then some (eC w) else none
  | none=>none
noncomputable def zfR:Const->Option ME
 | .none=>some (eC .non)
 | .bool b=>some (eC (.bl b))
 | .int i=>some (eC (.int i))
 | .str x=>some (eC (.str x))
 | _=>none
noncomputable def opB(mu:Bool):Operator->Option (W->W->M W)
 | .Add=>match mu with
  | true=>some addM
  | false=>some addW
 | .Sub=>some subW
 | .Mult=>some mulW
 | .Mod=>some modW
 | .FloorDiv=>some divW
 | .Pow=>some powW
 | _=>none
noncomputable def opC:CmpOp->Option (W->W->M W)
 | .Eq=>some (eqW false)
 | .NotEq=>some (eqW true)
 | .In=>some (inW false)
 | .NotIn=>some (inW true)
 | .Lt=>some ltW
 | .LtE=>some leW
 | .Gt=>some gtW
 | .GtE=>some geW
 | .Is=>some (zcg true)
 | .IsNot=>some (zcg false)
noncomputable def xTg1(Γ:RC):Expr->Option MG
 | .Name x _=>match ixOf x Γ.N with
  | some i=>match Γ.inC with
   | true=>if setC Γ.sc Γ.N i x=true then some (gNm i) else none
   | false=>if setB Γ.sc Γ.N i x=true then some (gNm i) else none
  | none=>none
 | _=>none
noncomputable def xTg(Γ:RC):Expr->Option MG
 | .Tuple es _ _=>if es.all noStar=true then (mapO (xTg1 Γ) es).map gTp else none
 | e=>xTg1 Γ e
noncomputable def tgN:Expr->Nat
 | .Tuple es _ _=>es.length
 | _=>1
section
variable{Γ:RC}{cl:Cl}{k:Nat}{X:Cx}{x:Str}{m:ME}{pos:Pos}
def zkJ(F:Fits Γ cl k X)(h:zib Γ x=some m):SE X cl (.Name x pos) m:=by
 unfold zib at h;split at h
 .split at h
  .rename_i i _ q
   cases h;exact v_ q F.sc F.N
  .cases h
 .split at h
  .rename_i w e
   split at h
   .rename_i q
    cases h;exact gb_ q (F.base.con.at e) F.sc
   .cases h
  .cases h
def zkm{c:Const}{j:Nat}(h:zfR c=some m):SE X cl (.Constant c j pos) m:=by
 unfold zfR at h;split at h
 .cases h; exact zn7
 .cases h; exact zpP
 .cases h; exact zpd
 .cases h; exact zoZ
 .cases h
def zof{mu:Bool}{op:Operator}{f:W->W->M W}(h:opB mu op=some f):OpR X (binaryOp op) (rM X.K cl f):=by
 unfold opB at h;split at h
 .split at h
  .cases h; exact zny
  .cases h; exact zns
 .cases h; exact zmX
 .cases h; exact zmA
 .cases h; exact zmF
 .cases h; exact znt
 .cases h; exact zmJ
 .cases h
def zcf{op:CmpOp}{f:W->W->M W}(hu:X.A.units+64<cLine)(h:opC op=some f):OpR X (compareOp op) (rM X.K cl f):=by
 cases op<;>cases h
 .exact zoL hu
 .exact zpK hu
 .exact zpr
 .exact zpy
 .exact zpm
 .exact zoN
 .exact zoe
 .exact zi8
 .exact zob hu
 .exact zkc hu
def zhk{e:Expr}{g:MG}(F:Fits Γ cl k X)(h:xTg1 Γ e=some g):SG X cl e g:=by
 unfold xTg1 at h;split at h
 .rename_i x p
  split at h
  .rename_i i _
   split at h
   .split at h
    .rename_i q
     cases h;exact gc_ q (F.N▸F.nd) F.sc F.N
    .cases h
   .rename_i c
    split at h
    .rename_i q
     cases h;exact g_ q (F.N▸F.nd) F.sc F.N (F.fn c _)
    .cases h
  .cases h
 .cases h
def zcP{α β:Type}{f:α->Option β}{x:α}{r:List α}{ys:List β}(h:mapO f (x::r)=some ys):∃y zs,f x=some y/\mapO f r=some zs/\ys=y::zs:=by
 unfold mapO at h;split at h
 .rename_i y zs e1 e2
  cases h;exact⟨y,zs,e1,e2,rfl⟩
 .cases h
theorem zhh(F:Fits Γ cl k X):∀{es:List Expr} {gs:List MG},es.all noStar=true->mapO (xTg1 Γ) es=some gs->SGs X cl es gs
 | [],gs,_,h=>by cases h; exact zmR
 | e::es,gs,hn,h=>by
  obtain⟨g,gs',h1,h2,rfl⟩:=zcP h;rw[jF,zr] at hn;exact zk0 (zhk F h1) (zhh F hn.2 h2) (by rw[za4 hn.1]; rfl)
theorem zfW{α β:Type}{f:α->Option β}:∀{l:List α} {ys:List β},mapO f l=some ys->ys.length=l.length
 | [],ys,h=>by cases h; rfl
 | x::r,ys,h=>by
  obtain⟨y,zs,_,h2,rfl⟩:=zcP h;rw[zG,zG,zfW h2]
def zgz{e:Expr}{g:MG}(F:Fits Γ cl k X)(h:xTg Γ e=some g):SG X cl e g:=by
 unfold xTg at h;split at h
 .rename_i es n p
  split at h
  .rename_i hn
   rw[zj] at h;obtain⟨gs,h1,rfl⟩:=h;exact zoR F.calm (zhh F hn h1) (by rw[zen hn,zfW h1]) (zdq hn)
  .cases h
 .exact zhk F h
end
end ML
namespace ML
open PySem
def zlD(xs:Array Nat)(j:Nat):∀(fuel lo hi:Nat),hi-lo<=fuel->lo<=hi->hi<=xs.size->(∀i (h:i<xs.size),i<lo->xs[i]<j)->(∀i (h:i<xs.size),hi<=i->j<=xs[i])->xs.toList.Pairwise (· < ·)->
  SetTable.below.go xs j fuel lo hi<=xs.size/\(∀i (h:i<xs.size),i<SetTable.below.go xs j fuel lo hi->xs[i]<j)/\∀i (h:i<xs.size),SetTable.below.go xs j fuel lo hi<=i->j<=xs[i]:=by
 intro fuel;induction fuel with
 | zero=>
  intro lo hi h1 h2 h3 h4 h5 _;have:lo=hi:=by omega
  subst this;exact⟨h3,h4,h5⟩
 | succ f ih=>
  intro lo hi h1 h2 h3 h4 h5 hp;unfold SetTable.below.go;by_cases c:lo<hi
  .rw[zR c]
   have hm:(lo+hi)/2<xs.size:=by omega
   have e:xs.getD ((lo+hi)/2) j=xs[(lo+hi)/2]:=by simp[Array.getD,hm]
   have mono:∀a b (ha:a<xs.size) (hb:b<xs.size),a<=b->xs[a]<=xs[b]:=by
    intro a b ha hb q;rcases jN q with q | q
    .have:=qU.mp hp a b (by simpa using ha) (by simpa using hb) q
     simpa using qL this
    .subst q; exact zu _
   dsimp only;rw[e];by_cases d:xs[(lo+hi)/2]<j
   .rw[zR d]
    refine ih _ _ ∅ ∅ h3 (λi h q=>?_) h5 hp;exact Nat.lt_of_le_of_lt (mono i _ h hm ∅) d
   .rw[zZ d]
    refine ih _ _ ∅ ∅ ∅ h4 (λi h q=>?_) hp;exact zF (jR d) (mono _ i hm h q)
  .rw[zZ c]
   have:lo=hi:=by omega
   subst this;exact⟨h3,h4,h5⟩
def zbd{xs:Array Nat}{j:Nat}(hp:xs.toList.Pairwise (· < ·)):SetTable.below xs j<=xs.size/\(∀i (h:i<xs.size),i<SetTable.below xs j->xs[i]<j)/\∀i (h:i<xs.size),SetTable.below xs j<=i->j<=xs[i]:=
 zlD xs j xs.size 0 xs.size ∅ ∅ (zu _) (λi h q=>absurd q ∅) (λi h q=>absurd h ∅) hp
def below_at{xs:Array Nat}{i:Nat}(hp:xs.toList.Pairwise (· < ·))(h:i<xs.size):SetTable.below xs xs[i]=i:=by
 obtain⟨a,b,c⟩:=zbd (j:=xs[i]) hp;rcases yM (SetTable.below xs xs[i]) i with q | q | q
 .have h1:SetTable.below xs xs[i]<xs.size:=by omega
  have h2:=c _ h1 (zu _);have h3:=qU.mp hp _ i (by simpa using h1) (by simpa using h) q;simp only[uK] at h3;omega
 .exact q
 .exact absurd (b i h q) (jX _)
structure TOk(t:SetTable):Prop where
 nod:t.dummies = #[]
 up:t.place.toList.Pairwise (· < ·)
 le:∀j∈t.place.toList,j<=t.mask
 pow:∃k,3<=k/\t.mask+1=2 ^ k
 room:t.place.size<=t.mask
def zez(j:Nat):SetTable.has #[] j=false:=by unfold SetTable.has; simp
def zeT{t:SetTable}(T:TOk t){i:Nat}(h:i<t.place.size):t.slot t.place[i]=.live i:=by
 unfold SetTable.slot;dsimp only;rw[below_at T.up h];simp[h]
theorem zej{t:SetTable}(T:TOk t){j:Nat}(h:j∉t.place.toList):t.slot j=.empty:=by
 unfold SetTable.slot;dsimp only;rw[T.nod,zez];have:¬(t.place[SetTable.below t.place j]?==some j)=true:=by
  intro q;have q:=eq_of_beq q;obtain⟨h1,h2⟩:=xT.mp q;exact h (by rw[<-h2]; simp)
 rw[zZ this];rfl
def slot_of{t:SetTable}(T:TOk t)(j:Nat):(∃i,∃h:i<t.place.size,t.place[i]=j/\t.slot j=.live i)\/(j∉t.place.toList/\t.slot j=.empty):=by
 by_cases h:j∈t.place.toList
 .obtain⟨i,h1,h2⟩:=vg h
  have h1':i<t.place.size:=by simpa using h1
  have h2':t.place[i]=j:=by simpa using h2
  exact .inl ⟨i,h1',h2',by rw[<-h2']; exact zeT T h1'⟩
 .exact .inr ⟨h,zej T h⟩
theorem zdC:∀(n:Nat) (l:List Nat),(∀j,j<n->j∈l)->n<=l.length
 | 0,_,_=>j8 _
 | n+1,l,h=>by
  have h1:=zdC n (l.erase n) λj q=>by
   have:j≠n:=by omega
   exact(uH this).mpr (h j ∅)
  rw[ue (h n ∅)] at h1;have:0<l.length:=ux (h n ∅);omega
def ziw{t:SetTable}(T:TOk t):∃j,j<=t.mask/\j∉t.place.toList:=by
 by_cases q:∃j,j<=t.mask/\j∉t.place.toList
 .exact q
 .have h:=zdC (t.mask+1) t.place.toList λj hj=>by
   by_cases m:j∈t.place.toList
   .exact m
   .exact absurd ⟨j,by omega,m⟩ q
  have:=T.room;simp at h;omega
def gw(x:Nat):Nat->Nat
 | 0=>x
 | m+1=>5*gw x m+1
theorem zi3(x:Nat)(a:Nat):∀b,gw x (a+b)=gw (gw x a) b
 | 0=>rfl
 | b+1=>by show 5*gw x (a+b)+1=_; rw[zi3 x a b]; rfl
theorem zjM(x:Nat):∀m,4*gw x m+1=5 ^ m*(4*x+1)
 | 0=>by simp[gw]
 | m+1=>by
  have:=zjM x m;rw[vo,Nat.mul_right_comm,<-this];show 4*(5*gw x m+1)+1=_
  omega
def five(k:Nat):∃c,5 ^ (2 ^ k)=1+2 ^ (k+2)*(2*c+1):=by
 induction k with
 | zero=>exact⟨0,rfl⟩
 | succ k ih=>
  obtain⟨c,e⟩:=ih;refine⟨c+2 ^ k*(2*c+1)*(2*c+1),?_⟩;rw[vo 2 k,Nat.pow_mul,e];have h2:2 ^ (k+1+2)=8*2 ^ k:=by rw[xK,xK]; omega
  have h3:2 ^ (k+2)=4*2 ^ k:=by rw[xK]; omega
  rw[h2,h3];generalize 2 ^ k=p;grind
def zlQ(x k:Nat):∃c,gw x (2 ^ k)=x+2 ^ k*(2*c+1):=by
 obtain⟨c,e⟩:=five k;have h:=zjM x (2 ^ k);rw[e] at h;have h3:2 ^ (k+2)=4*2 ^ k:=by rw[xK]; omega
 rw[h3] at h;refine⟨c+(2*c+1)*(2*x),?_⟩;generalize 2 ^ k=p at *;have e2:(1+4*p*(2*c+1))*(4*x+1)=4*(x+p*(2*(c+(2*c+1)*(2*x))+1))+1:=by grind
 omega
def znP(k:Nat):∀x y:Nat,∃m,m<2 ^ k/\gw x m%2 ^ k=y%2 ^ k:=by
 induction k with
 | zero=>intro x y; exact⟨0,by simp,by simp[Nat.mod_one]⟩
 | succ k ih=>
  intro x y;obtain⟨m,hm,e⟩:=ih x y;have hp:2 ^ (k+1)=2*2 ^ k:=by rw[vo]; omega
  have pos:0<2 ^ k:=Nat.two_pow_pos k;obtain⟨c,e2⟩:=zlQ (gw x m) k;rw[<-zi3] at e2;rw[hp];generalize 2 ^ k=p at *;by_cases q:gw x m%(2*p)=y%(2*p)
  .exact⟨m,by omega,q⟩
  .refine⟨m+p,by omega,?_⟩
   rw[e2];have a1:gw x m=p*(gw x m/p)+gw x m%p:=(Nat.div_add_mod _ _).symm;have a2:y=p*(y/p)+y%p:=(Nat.div_add_mod _ _).symm;have r1:=vV y pos;rw[e] at a1;generalize gw x m/p=u at *;generalize y/p=v at *;generalize y%p=r at *;generalize gw x m=g at *;subst a1 a2;have par:∀n:Nat,(p*n+r)%(2*p)=p*(n%2)+r:=by
    intro n;have:p*n+r=(p*(n%2)+r)+(2*p)*(n/2):=by
     have:n=n%2+2*(n/2):=by omega
     rw[this]; grind
    rw[this,Nat.add_mul_mod_self_left];apply xm
    have:n%2<2:=vV _ ∅;have:p*(n%2)<=p*1:=Nat.mul_le_mul_left _ ∅;omega
   have e3:p*u+r+p*(2*c+1)=p*(u+(2*c+1))+r:=by grind
   rw[e3,par,par];rw[par,par] at q;have:u%2≠v%2:=λz=>q (by rw[z])
   have:(u+(2*c+1))%2=v%2:=by omega
   rw[this]
def path(t:SetTable)(h:Int):Nat->SetTable.Probe
 | 0=>t.probeStart h
 | n+1=>t.advance (path t h n)
def lp(mask:Nat)(h:Int):Nat->Nat×Nat
 | 0=>(SetTable.bits h%(mask+1),SetTable.bits h)
 | n+1=>SetTable.leap mask (lp mask h n).1 (lp mask h n).2
theorem zkf(mask:Nat)(h:Int):∀n,(lp mask h n).2=SetTable.bits h/32 ^ n
 | 0=>by simp[lp]
 | n+1=>by
  show(lp mask h n).2/32=_
  rw[zkf mask h n,Nat.div_div_eq_div_mul,vo]
def znA(h:Int):SetTable.bits h<2 ^ 64:=by unfold SetTable.bits; omega
def znk(mask:Nat)(h:Int)(n:Nat):(lp mask h (n+13)).2=0:=by
 rw[zkf];have:=znA h;apply Nat.div_eq_of_lt
 have:32 ^ 13<=32 ^ (n+13):=qD ∅ ∅;omega
def zn0(mask:Nat)(h:Int)(n:Nat):(lp mask h (12+n)).1%(mask+1)=gw (lp mask h 12).1 n%(mask+1):=by
 induction n with
 | zero=>rfl
 | succ n ih=>
  show((lp mask h (12+n)).1*5+1+(lp mask h (12+n)).2/32)%(mask+1)%(mask+1)=(5*gw (lp mask h 12).1 n+1)%(mask+1)
  have z:(lp mask h (12+n)).2/32=0:=by
   have:=znk mask h n;have e:n+13=(12+n)+1:=by omega
   rw[e] at this;exact this
  rw[z,Nat.mod_mod,ye,yX];rw[Nat.add_mod,Nat.mul_mod,ih,<-Nat.mul_mod,<-Nat.add_mod]
def zqa(mask:Nat)(h:Int)(n:Nat):(lp mask h n).1<mask+1:=by
 cases n with
 | zero=>exact vV _ ∅
 | succ n=>exact vV _ ∅
def zku{mask k:Nat}(h:Int)(e:mask+1=2 ^ k){j:Nat}(hj:j<=mask):∃n,n<=mask+12/\(lp mask h n).1=j:=by
 obtain⟨m,hm,q⟩:=znP k (lp mask h 12).1 j;refine⟨12+m,by omega,?_⟩;have a:=zn0 mask h m;rw[e,q,<-e,xm (zqa ..),xm ∅] at a;exact a
def zn8(mask i:Nat):SetTable.runEnd mask i-i<=9:=by unfold SetTable.runEnd; split<;>omega
def atHead(t:SetTable)(h:Int)(m:Nat):SetTable.Probe:=⟨(lp t.mask h m).1,SetTable.runEnd t.mask (lp t.mask h m).1-(lp t.mask h m).1,(lp t.mask h m).1,(lp t.mask h m).2,none⟩
theorem zga(t:SetTable)(h:Int)(p:SetTable.Probe):∀(r n:Nat),path t h n={ p with more:=r }->∃j,path t h (n+r)={ p with j:=j,more:=0 }
 | 0,n,e=>⟨p.j,by rw[ye,e]⟩
 | r+1,n,e=>by
  have:path t h (n+1)={ ({ p with j:=p.j+1 }:SetTable.Probe) with more:=r }:=by
   show t.advance (path t h n)=_
   rw[e];unfold SetTable.advance;rw[zR (by simp)];simp
  obtain⟨j,q⟩:=zga t h { p with j:=p.j+1 } r (n+1) this;exact⟨j,by rw[show n+(r+1)=n+1+r from by omega]; exact q⟩
theorem zeV(t:SetTable)(h:Int):∀m,∃n,n<=10*m/\path t h n=atHead t h m
 | 0=>⟨0,by omega,rfl⟩
 | m+1=>by
  obtain⟨n,hn,e⟩:=zeV t h m;obtain⟨j,q⟩:=zga t h (atHead t h m) (atHead t h m).more n e;have r:=zn8 t.mask (lp t.mask h m).1;refine⟨n+(SetTable.runEnd t.mask (lp t.mask h m).1-(lp t.mask h m).1)+1,by omega,?_⟩;show t.advance (path t h _)=_
  have q':path t h (n+(SetTable.runEnd t.mask (lp t.mask h m).1-(lp t.mask h m).1))=_:=q;rw[q'];unfold SetTable.advance;rw[zZ (by simp)];rfl
def zkQ{t:SetTable}{k:Nat}(h:Int)(e:t.mask+1=2 ^ k){j:Nat}(hj:j<=t.mask):∃n,n<10*SetTable.turns t.mask/\(path t h n).j=j:=by
 obtain⟨m,hm,q⟩:=zku h e hj;obtain⟨n,hn,q2⟩:=zeV t h m;refine⟨n,by unfold SetTable.turns; omega,?_⟩;rw[q2]; exact q
theorem zcx(t:SetTable)(h:Int):∀n,(path t h n).dummy=none
 | 0=>rfl
 | n+1=>by
  show(t.advance (path t h n)).dummy=none
  unfold SetTable.advance;split
  .exact zcx t h n
  .exact zcx t h n
theorem zc7(t:SetTable)(h:Int):∀n,(path t h n).j+(path t h n).more<=t.mask/\(path t h n).i<=t.mask
 | 0=>by
  have:SetTable.bits h%(t.mask+1)<t.mask+1:=vV _ ∅;show SetTable.bits h%(t.mask+1)+(SetTable.runEnd t.mask (SetTable.bits h%(t.mask+1))-SetTable.bits h%(t.mask+1))<=_/\SetTable.bits h%(t.mask+1)<=_
  unfold SetTable.runEnd;split<;>omega
 | n+1=>by
  obtain⟨a,b⟩:=zc7 t h n;show(t.advance (path t h n)).j+(t.advance (path t h n)).more<=_/\(t.advance (path t h n)).i<=_
  unfold SetTable.advance;split
  .rename_i c
   show(path t h n).j+1+((path t h n).more-1)<=_/\(path t h n).i<=_
   omega
  .show((SetTable.leap t.mask (path t h n).i (path t h n).perturb).1)+(SetTable.runEnd t.mask (SetTable.leap t.mask (path t h n).i (path t h n).perturb).1-(SetTable.leap t.mask (path t h n).i (path t h n).perturb).1)<=_/\(SetTable.leap t.mask (path t h n).i (path t h n).perturb).1<=_
   have:(SetTable.leap t.mask (path t h n).i (path t h n).perturb).1<t.mask+1:=vV _ ∅;generalize (SetTable.leap t.mask (path t h n).i (path t h n).perturb).1=q at *;unfold SetTable.runEnd;split<;>omega
def zkV{p:Nat->Prop}:∀n,p n->∃m,m<=n/\p m/\∀k,k<m->¬p k:=by
 intro n;induction n using Nat.strongRecOn with
 | _ n ih=>
  intro h;by_cases q:∃k,k<n/\p k
  .obtain⟨k,a,b⟩:=q
   obtain⟨m,c,d,e⟩:=ih k a b;exact⟨m,by omega,d,e⟩
  .exact⟨n,zu _,h,λk hk hp=>q ⟨k,hk,hp⟩⟩
def zg5{t:SetTable}(T:TOk t)(h:Int):∃N,N<10*SetTable.turns t.mask/\(path t h N).j∉t.place.toList/\∀k,k<N->(path t h k).j∈t.place.toList:=by
 obtain⟨j,hj,hn⟩:=ziw T;obtain⟨k,_,e⟩:=T.pow;obtain⟨n,a,b⟩:=zkQ h e hj;obtain⟨m,c,d,f⟩:=zkV (p:=λn=>(path t h n).j∉t.place.toList) n (by rw[b]; exact hn)
 exact⟨m,by omega,d,λk hk=>by
  have:=f k hk;by_cases q:(path t h k).j∈t.place.toList
  .exact q
  .exact absurd q this⟩
def zkx{t:SetTable}(T:TOk t)(hashAt:Nat->Int)(h:Int){N:Nat}(hN:(path t h N).j∉t.place.toList)(hb:∀k,k<N->(path t h k).j∈t.place.toList):∀(F n:Nat),n<=N->N-n<F->
  (∃m i,n<=m/\m<N/\t.slot (path t h m).j=.live i/\hashAt i=h/\SetTable.probe.go t hashAt h F (path t h n)=some (.candidate (path t h m).j i (path t h (m+1)))/\∀m',n<=m'->m'<m->∀i',t.slot (path t h m').j=.live i'->hashAt i'≠h) \/
  (SetTable.probe.go t hashAt h F (path t h n)=some (.empty (path t h N).j none)/\∀m',n<=m'->m'<N->∀i',t.slot (path t h m').j=.live i'->hashAt i'≠h):=by
 intro F;induction F with
 | zero=>intro n _ q; omega
 | succ F ih=>
  intro n hn hF;rcases jN hn with q | q
  .obtain⟨i,hi,e1,e2⟩ | ⟨e1,_⟩:=slot_of T (path t h n).j
   .have e:SetTable.probe.go t hashAt h (F+1) (path t h n)=if hashAt i==h then some (.candidate (path t h n).j i (t.advance (path t h n))) else SetTable.probe.go t hashAt h F (t.advance (path t h n)):=by
     rw[SetTable.probe.go,e2]
    by_cases c:hashAt i=h
    .refine .inl ⟨n,i,zu _,q,e2,c,?_,λm' a b=>absurd a ∅⟩
     rw[e,zR (by simpa using c)]; rfl
    .rw[e,zZ (by simpa using c)]
     have step:∀m',n<=m'->m'<n+1->∀i',t.slot (path t h m').j=.live i'->hashAt i'≠h:=by
      intro m' a b i' z;have:m'=n:=by omega
      subst this;rw[e2] at z;cases z;exact c
     rcases ih (n+1) q ∅ with ⟨m,i',a,b,c1,c2,c3,c4⟩ | ⟨a,b⟩
     .refine .inl ⟨m,i',by omega,b,c1,c2,c3,λm' z1 z2 i'' z3=>?_⟩
      by_cases w:m'<n+1
      .exact step m' z1 w i'' z3
      .exact c4 m' ∅ z2 i'' z3
     .refine .inr ⟨a,λm' z1 z2 i'' z3=>?_⟩
      by_cases w:m'<n+1
      .exact step m' z1 w i'' z3
      .exact b m' ∅ z2 i'' z3
   .exact absurd (hb n q) e1
  .subst q
   refine .inr ⟨?_,λm' a b=>absurd a ∅⟩;rw[SetTable.probe.go,zej T hN,zcx]
theorem zbj{t t':SetTable}(e:t.mask=t'.mask)(h:Int):∀n,path t h n=path t' h n
 | 0=>by show t.probeStart h=t'.probeStart h; unfold SetTable.probeStart; rw[e]
 | n+1=>by
  show t.advance (path t h n)=t'.advance (path t' h n)
  rw[zbj e h n];unfold SetTable.advance;rw[e]
def On(t:SetTable)(occ:Nat->Prop)(j:Nat)(h:Int):Prop:=∃n,(path t h n).j=j/\∀m,m<n->occ (path t h m).j
def On.mono{t t':SetTable}{occ occ':Nat->Prop}{j:Nat}{h:Int}(o:On t occ j h)(e:t.mask=t'.mask)(k:∀j,occ j->occ' j):On t' occ' j h:=by
 obtain⟨n,a,b⟩:=o;exact⟨n,by rw[<-zbj e]; exact a,λm hm=>k _ (by rw[<-zbj e]; exact b m hm)⟩
structure SOk(t:SetTable)(es:List (Int×Value))(R:List (Nat×(Int×Value))):Prop where
 T:TOk t
 pl:R.map (·.1)=t.place.toList
 es:R.map (·.2)=es
 on:∀r∈R,On t (· ∈ t.place.toList) r.1 r.2.1
 few:t.place.size*5<t.mask*3
def zbB{α:Type}(xs:Array α){p:Nat}(hp:p<=xs.size)(x:α):(SetTable.insertAt xs p x).toList=xs.toList.take p++x::xs.toList.drop p:=by
 unfold SetTable.insertAt;simp[Array.toList_extract,List.extract_eq_take_drop];rw[wX (by simp)]
def zcE{t:SetTable}(T:TOk t)(j:Nat):(t.put j).1.place.toList=t.place.toList.take (t.put j).2++j::t.place.toList.drop (t.put j).2:=zbB _ (zbd T.up).1 _
def zpJ{t:SetTable}(T:TOk t){j:Nat}(hj:j<=t.mask)(hn:j∉t.place.toList)(hr:t.place.size+1<=t.mask):TOk (t.put j).1:=by
 have L:=zcE T j;obtain⟨b1,b2,b3⟩:=zbd (xs:=t.place) (j:=j) T.up;refine⟨?_,?_,?_,T.pow,?_⟩
 .show(if SetTable.has t.dummies j then _ else t.dummies)=_
  rw[T.nod,zez]; rfl
 .rw[L]
  have hl:∀x∈t.place.toList.take (t.put j).2,x<j:=λx hx=>by
   obtain⟨i,h1,h2⟩:=vg hx;rw[qu] at h1;rw[List.getElem_take] at h2;have:=b2 i (by simp at h1; omega) (show i<(t.put j).2 by omega);simp at h2;omega
  have hg:∀x∈t.place.toList.drop (t.put j).2,j<x:=λx hx=>by
   obtain⟨i,h1,h2⟩:=vg hx;rw[qI] at h1;rw[List.getElem_drop] at h2;have h3:(t.put j).2+i<t.place.size:=by simp at h1; omega
   have:=b3 ((t.put j).2+i) h3 (xn _ _);simp at h2;have ne:x≠j:=λz=>hn (by rw[<-z]; exact jz hx)
   omega
  refine List.pairwise_append.mpr ⟨T.up.sublist (yN _ _),j7.mpr ⟨hg,T.up.sublist (List.drop_sublist _ _)⟩,λa ha b hb=>?_⟩;rcases zf.mp hb with rfl | hb
  .exact hl a ha
  .exact uC (hl a ha) (hg b hb)
 .intro x hx
  rw[L] at hx;rcases zx.mp hx with hx | hx
  .exact T.le x (qO hx)
  .rcases zf.mp hx with rfl | hx
   .exact hj
   .exact T.le x (jz hx)
 .show(t.put j).1.place.size<=t.mask
  have:(t.put j).1.place.toList.length=t.place.toList.length+1:=by
   rw[L,zW,zG,<-Nat.add_assoc,<-zW,jZ]
  simp at this;omega
def zmD{t:SetTable}(T:TOk t)(j x:Nat):x∈(t.put j).1.place.toList↔x=j\/x∈t.place.toList:=by
 rw[zcE T];constructor
 .intro h
  rcases zx.mp h with h | h
  .exact .inr (qO h)
  .rcases zf.mp h with h | h
   .exact .inl h
   .exact .inr (jz h)
 .rintro(rfl | h)
  .exact ji _ (zy ..)
  .rw[<-jZ (t.put j).2 t.place.toList] at h
   rcases zx.mp h with h | h
   .exact yp _ h
   .exact ji _ (zq _ h)
theorem SOk.put{t:SetTable}{es:Array (Int×Value)}{R:List (Nat×(Int×Value))}(S:SOk t es.toList R){h:Int}{x:Value}{N:Nat}(hN:(path t h N).j∉t.place.toList)(hb:∀k,k<N->(path t h k).j∈t.place.toList)
  (t':SetTable) (hm:t'.mask=t.mask) (hp:t'.place=(t.put (path t h N).j).1.place) (hd:t'.dummies=(t.put (path t h N).j).1.dummies) (few:t'.place.size*5<t'.mask*3) :
  ∃R',SOk t' (SetTable.insertAt es (t.put (path t h N).j).2 (h,x)).toList R'/\R'.Perm (((path t h N).j,(h,x))::R):=by
 have T:=S.T;have L:=zcE T (path t h N).j;have hj:(path t h N).j<=t.mask:=by have:=(zc7 t h N).1; omega
 have hr:t.place.size+1<=t.mask:=by
  have:=S.few;obtain⟨k,a,b⟩:=T.pow;have:2 ^ 3<=2 ^ k:=qD ∅ a;omega
 have T':=zpJ T hj hN hr;have lenE:R.length=es.size:=by have:=ju List.length S.es; simpa using this
 have lenP:R.length=t.place.size:=by have:=ju List.length S.pl; simpa using this
 have hp2:(t.put (path t h N).j).2<=es.size:=by
  have:=(zbd (xs:=t.place) (j:=(path t h N).j) T.up).1;rw[<-lenE,lenP]; exact this
 generalize hq:(t.put (path t h N).j).2=p at *;refine⟨R.take p++((path t h N).j,(h,x))::R.drop p,⟨⟨by rw[hd]; exact T'.nod,by rw[hp]; exact T'.up,by rw[hp,hm]; exact T'.le,by rw[hm]; exact T.pow,by rw[hp,hm]; exact T'.room⟩,?_,?_,?_,few⟩,?_⟩
 .rw[hp,L]
  simp[um,uo,S.pl]
 .rw[zbB _ hp2]
  simp[um,uo,S.es]
 .have up:∀j,j∈t.place.toList->j∈t'.place.toList:=λj hj=>by rw[hp]; exact(zmD T _ _).mpr (.inr hj)
  intro r hr;rcases zx.mp hr with hr | hr
  .exact(S.on r (qO hr)).mono hm.symm up
  .rcases zf.mp hr with rfl | hr
   .exact On.mono (t:=t) (occ:=(· ∈ t.place.toList)) ⟨N,rfl,hb⟩ hm.symm up
   .exact(S.on r (jz hr)).mono hm.symm up
 .have:R.Perm (R.take p++R.drop p):=by rw[jZ]
  exact List.perm_middle.trans (List.Perm.cons _ this.symm)
theorem zbL(t:SetTable)(h:Int){n m:Nat}(e:path t h n=atHead t h m):∀k,k<=(atHead t h m).more->path t h (n+k)=⟨(lp t.mask h m).1+k,(atHead t h m).more-k,(lp t.mask h m).1,(lp t.mask h m).2,none⟩
 | 0,_=>by rw[ye,e]; rfl
 | k+1,hk=>by
  show t.advance (path t h (n+k))=_
  rw[zbL t h e k ∅];unfold SetTable.advance;rw[zR (show(atHead t h m).more-k>0 by omega)];simp only[SetTable.Probe.mk.injEq,and_true];omega
theorem ziM(t:SetTable)(h:Int){n m:Nat}(e:path t h n=atHead t h m):path t h (n+(atHead t h m).more+1)=atHead t h (m+1):=by
 show t.advance (path t h (n+(atHead t h m).more))=_
 rw[zbL t h e _ (zu _)];unfold SetTable.advance;rw[zZ (by simp)];rfl
def em(owner:Array (Option Nat))(j:Nat):Bool:=(owner.getD j (some 0)).isNone
def zmU(t:SetTable)(h:Int)(owner:Array (Option Nat)):∀(fuel m n:Nat),path t h n=atHead t h m->(∀k,k<n->em owner (path t h k).j=false)->(∃d,d<fuel/\em owner (lp t.mask h (m+d)).1=true)->
  ∃N,SetTable.layClean.free t.mask owner fuel (lp t.mask h m).1 (lp t.mask h m).2=some (path t h N).j/\em owner (path t h N).j=true/\∀k,k<N->em owner (path t h k).j=false:=by
 intro fuel;induction fuel with
 | zero=>rintro m n _ _ ⟨d,hd,_⟩; omega
 | succ fuel ih=>
  rintro m n e hb ⟨d,hd,he⟩;have hi:(lp t.mask h m).1<=SetTable.runEnd t.mask (lp t.mask h m).1:=by unfold SetTable.runEnd; split<;>omega
  have hmore:(atHead t h m).more=SetTable.runEnd t.mask (lp t.mask h m).1-(lp t.mask h m).1:=rfl;unfold SetTable.layClean.free;cases q:(List.range (SetTable.runEnd t.mask (lp t.mask h m).1+1-(lp t.mask h m).1)).find? (λk=>(owner.getD ((lp t.mask h m).1+k) (some 0)).isNone) with
  | some k=>
   obtain⟨a,b,c⟩:=List.find?_range_eq_some.mp q;have hk:k<=(atHead t h m).more:=by have:=jY.mp b; omega
   refine⟨n+k,?_,?_,λk' hk'=>?_⟩
   .simp only[]
    rw[zbL t h e k hk]
   .rw[zbL t h e k hk]; exact a
   .by_cases z:k'<n
    .exact hb k' z
    .have e2:k'=n+(k'-n):=by omega
     rw[e2,zbL t h e (k'-n) ∅];have:=c (k'-n) ∅;unfold em;simpa using this
  | none=>
   simp only[];have all:=List.find?_range_eq_none.mp q;have hb2:∀k,k<n+(atHead t h m).more+1->em owner (path t h k).j=false:=λk' hk'=>by
    by_cases z:k'<n
    .exact hb k' z
    .have e2:k'=n+(k'-n):=by omega
     rw[e2,zbL t h e (k'-n) ∅];have:=all (k'-n) ∅;unfold em;simpa using this
   refine ih (m+1) _ (ziM t h e) hb2 ?_;cases d with
   | zero=>
    have:=all 0 ∅;rw[ye] at he;unfold em at he;rw[ye,he] at this;cases this
   | succ d=>exact⟨d,by omega,by rw[show m+1+d=m+(d+1) from by omega]; exact he⟩
def live(mask:Nat)(owner:Array (Option Nat)):List (Nat×Nat):=(List.range (mask+1)).filterMap λj=>(owner.getD j none).map (j,·)
theorem zgv{f g:Nat->Option (Nat×Nat)}:∀{l:List Nat},(∀x∈l,g x=f x)->l.filterMap g=l.filterMap f
 | [],_=>rfl
 | x::l,h=>by
  have e:=h x (zy ..);have r:=zgv (l:=l) λy hy=>h y (zq _ hy)
  simp only[vX,e,r]
theorem zkt{f g:Nat->Option (Nat×Nat)}{j:Nat}{v:Nat×Nat}(hf:f j=none)(hg:g j=some v)(ho:∀i,i≠j->g i=f i):∀l:List Nat,l.Nodup->j∈l->(l.filterMap g).Perm (v::l.filterMap f)
 | [],_,h=>by cases h
 | i::l,nd,h=>by
  obtain⟨n1,n2⟩:=jA.mp nd;by_cases e:i=j
  .subst e
   rw[jJ hg,qF hf];have:l.filterMap g=l.filterMap f:=by
    apply zgv
    intro x hx;exact ho x λz=>n1 (z▸hx)
   rw[this]
  .have hj:j∈l:=by
    rcases zf.mp h with h | h
    .exact absurd h.symm e
    .exact h
   have ih:=zkt hf hg ho l n2 hj;cases q:f i with
   | none=>rw[qF (by rw[ho i e,q]),qF q]; exact ih
   | some u=>
    rw[jJ (by rw[ho i e,q]),jJ q];exact(List.Perm.cons _ ih).trans (List.Perm.swap _ _ _)
structure LInv(t:SetTable)(owner:Array (Option Nat))(D:List Int):Prop where
 sz:owner.size=t.mask+1
 perm:((live t.mask owner).map (·.2)).Perm (List.range D.length)
 on:∀j i,owner.getD j none=some i->∃h,D[i]?=some h/\On t (λj=>em owner j=false) j h
def mem_live{mask:Nat}{owner:Array (Option Nat)}{j i:Nat}:(j,i)∈live mask owner↔j<mask+1/\owner.getD j none=some i:=by
 unfold live;rw[yD];constructor
 .rintro⟨j',a,b⟩
  obtain⟨i',c,d⟩:=zj.mp b;cases d;exact⟨jY.mp a,c⟩
 .rintro⟨a,b⟩
  exact⟨j,jY.mpr a,by rw[b]; rfl⟩
def em_iff{mask:Nat}{owner:Array (Option Nat)}(hs:owner.size=mask+1){j:Nat}(hj:j<=mask):em owner j=true↔owner.getD j none=none:=by
 have:j<owner.size:=by omega
 unfold em Array.getD;simp[this]
def zjT{t:SetTable}{owner:Array (Option Nat)}{D:List Int}(I:LInv t owner D)(hl:D.length<=t.mask):∃j,j<=t.mask/\em owner j=true:=by
 by_cases q:∃j,j<=t.mask/\em owner j=true
 .exact q
 .have h:=zdC (t.mask+1) ((live t.mask owner).map (·.1)) λj hj=>by
   have:owner.getD j none≠none:=λz=>q ⟨j,by omega,(em_iff I.sz ∅).mpr z⟩
   obtain⟨i,e⟩:=xR.mp this;exact zz.mpr ⟨(j,i),mem_live.mpr ⟨hj,e⟩,rfl⟩
  have:=I.perm.length_eq;simp at h this;omega
def zk7{t:SetTable}{k:Nat}(hp:t.mask+1=2 ^ k){owner:Array (Option Nat)}{D:List Int}(I:LInv t owner D)(hl:D.length<=t.mask)(h:Int) :
  ∃j,SetTable.layClean.free t.mask owner (SetTable.turns t.mask) (SetTable.bits h%(t.mask+1)) (SetTable.bits h)=some j/\LInv t (owner.setIfInBounds j (some D.length)) (D++[h]):=by
 obtain⟨j0,hj0,he0⟩:=zjT I hl;obtain⟨m0,hm0,e0⟩:=zku h hp hj0;obtain⟨N,a,b,c⟩:=zmU t h owner (SetTable.turns t.mask) 0 0 rfl (λk hk=>absurd hk ∅) ⟨m0,by unfold SetTable.turns; omega,by rw[Nat.zero_add,e0]; exact he0⟩;refine⟨(path t h N).j,a,?_⟩;have hj:(path t h N).j<=t.mask:=by have:=(zc7 t h N).1; omega
 have hn:=(em_iff I.sz hj).mp b;have upd:∀i,(owner.setIfInBounds (path t h N).j (some D.length)).getD i none=if i=(path t h N).j then some D.length else owner.getD i none:=by
  intro i;by_cases e:i=(path t h N).j
  .subst e
   have:(path t h N).j<owner.size:=by rw[I.sz]; omega
   simp[Array.getD,this]
  .rw[zZ e]
   unfold Array.getD;simp only[vq];split
   .exact Array.getElem_setIfInBounds_ne _ (λz=>e z.symm)
   .rfl
 have keep:∀i,em owner i=false->em (owner.setIfInBounds (path t h N).j (some D.length)) i=false:=by
  intro i e;by_cases q:i<=t.mask
  .cases z:em (owner.setIfInBounds (path t h N).j (some D.length)) i with
   | false=>rfl
   | true=>
    have z2:=(em_iff (mask:=t.mask) (by rw[vq]; exact I.sz) q).mp z;rw[upd] at z2;split at z2
    .cases z2
    .rw[(em_iff I.sz q).mpr z2] at e; cases e
  .unfold em Array.getD
   rw[dif_neg (by rw[vq,I.sz]; omega)];rfl
 refine⟨by rw[vq]; exact I.sz,?_,?_⟩
 .have P:=zkt (f:=λj=>(owner.getD j none).map (j,·)) (g:=λj=>((owner.setIfInBounds (path t h N).j (some D.length)).getD j none).map (j,·)) (j:=(path t h N).j) (v:=((path t h N).j,D.length)) (by rw[hn]; rfl) (by rw[upd,zR rfl]; rfl) (λi hi=>by rw[upd,zZ hi]) (List.range (t.mask+1)) List.nodup_range (jY.mpr ∅)
  have P2:=P.map (·.2);rw[zH] at P2;rw[zW,vM,List.range_succ];exact P2.trans ((List.Perm.cons _ I.perm).trans (List.perm_append_comm (l₁:=[D.length])))
 .intro j i e
  rw[upd] at e;by_cases z:j=(path t h N).j
  .rw[zR z] at e
   cases e;subst z;refine⟨h,by simp,N,rfl,λm hm=>keep _ (c m hm)⟩
  .rw[zZ z] at e
   obtain⟨h',e1,e2⟩:=I.on j i e;have:i<D.length:=by
    obtain⟨q,_⟩:=zE.mp e1;exact q
   exact⟨h',by rw[zX this]; exact e1,e2.mono rfl keep⟩
theorem zhq{t:SetTable}{k:Nat}(hp:t.mask+1=2 ^ k):∀(l:List Int) (owner:Array (Option Nat)) (D:List Int),LInv t owner D->D.length+l.length<=t.mask+1->
  ∃owner',(l.foldl (init:=some (owner,D.length)) λacc h=>do
   let (owner,k) <-acc
   let j <-SetTable.layClean.free t.mask owner (SetTable.turns t.mask) (SetTable.bits h%(t.mask+1)) (SetTable.bits h)
   pure (owner.setIfInBounds j (some k),k+1))=some (owner',(D++l).length)/\LInv t owner' (D++l)
 | [],owner,D,I,_=>⟨owner,by simp,by rw[yg]; exact I⟩
 | h::l,owner,D,I,hl=>by
  simp only[zG] at hl;obtain⟨j,e,I'⟩:=zk7 hp I ∅ h;obtain⟨o',e2,I2⟩:=zhq hp l _ _ I' (by rw[zW,vM]; omega);refine⟨o',?_,by rw[wC] at I2; exact I2⟩;rw[List.foldl_cons];have e3:D++h::l=D++[h]++l:=by simp
  rw[e3,<-e2];congr 1
  simp only[Option.bind_eq_bind,qX,e,Option.pure_def,zW,vM]
def zpY(t:SetTable):LInv t (Array.replicate (t.mask+1) none) []:=by
 have z:∀j,(Array.replicate (t.mask+1) (none:Option Nat)).getD j none=none:=by
  intro j;unfold Array.getD;split
  .simp
  .rfl
 refine⟨by simp,?_,λj i e=>by rw[z] at e; cases e⟩;have:live t.mask (Array.replicate (t.mask+1) none)=[]:=by
  unfold live;rw[List.filterMap_eq_nil_iff];intro j _;rw[z]; rfl
 rw[this];exact List.Perm.nil
theorem zgX{mask k:Nat}(hp:mask+1=2 ^ k)(H:Array Int)(hl:H.size<=mask)(t:SetTable)(ht:t.mask=mask):∃owner,SetTable.layClean mask H=some owner/\LInv t owner H.toList:=by
 subst ht;obtain⟨o,e,I⟩:=zhq hp H.toList _ [] (zpY t) (by simp; omega);refine⟨o,?_,by simpa using I⟩;unfold SetTable.layClean;rw[<-Array.foldl_toList];rw[show(([]:List Int).length)=0 from rfl] at e;rw[e];rfl
def zmY(mask:Nat)(owner:Array (Option Nat)):((live mask owner).map (·.1)).Pairwise (· < ·):=by
 unfold live;have:∀l:List Nat,l.Pairwise (· < ·)->((l.filterMap λj=>(owner.getD j none).map (j,·)).map (·.1)).Pairwise (· < ·)/\∀x∈(l.filterMap λj=>(owner.getD j none).map (j,·)).map (·.1),x∈l:=by
  intro l;induction l with
  | nil=>intro _; exact⟨List.Pairwise.nil,λx h=>by cases h⟩
  | cons j l ih=>
   intro h;obtain⟨h1,h2⟩:=j7.mp h;obtain⟨i1,i2⟩:=ih h2;cases q:owner.getD j none with
   | none=>
    rw[qF (by rw[q]; rfl)];exact⟨i1,λx hx=>zq _ (i2 x hx)⟩
   | some v=>
    rw[jJ (b:=(j,v)) (by rw[q]; rfl),zH]
    exact⟨j7.mpr ⟨λx hx=>h1 x (i2 x hx),i1⟩,λx hx=>by
     rcases zf.mp hx with rfl | hx
     .exact zy ..
     .exact zq _ (i2 x hx)⟩
 exact(this _ (List.pairwise_lt_range)).1
def filterMap_get{α:Type}(l:List α):(List.range l.length).filterMap (l[·]?)=l:=by
 induction l with
 | nil=>rfl
 | cons a l ih=>
  rw[zG,List.range_succ_eq_map,jJ (b:=a) (by rfl),yE];congr 1
def zm7 {mask k : Nat} (hp : mask + 1 = 2 ^ k) (hk : 3 <= k) (es : Array (Int × Value)) (few : es.size * 5 < mask * 3) (finger moves : Nat) (led plain : Bool) :
    ∃ t' order, SetTable.laid mask finger moves led plain (es.map (·.1)) = some (t', order) /\ t'.mask = mask /\ t'.led = led /\ t'.plain = plain /\ t'.finger = finger /\ t'.moves = moves /\ (order.filterMap (es[·]?)).toList.Perm es.toList /\
      ∃ R', SOk t' (order.filterMap (es[·]?)).toList R' := by
  let t0 : SetTable := { mask, place := #[], dummies := #[], finger, led, moves, plain }
  obtain ⟨owner, e, I⟩ := zgX hp (es.map (·.1)) (by simp; omega) t0 rfl;let lv := live mask owner
  let t' : SetTable := { mask, place := (lv.map (·.1)).toArray, dummies := #[], finger, led, moves, plain }
  have hI : ((live mask owner).map (·.2)).Perm (List.range es.size) := by have := I.perm; simpa using this
  have pe : ((lv.map (·.2)).toArray.filterMap (es[·]?)).toList.Perm es.toList := by
    rw [uz];have := List.Perm.filterMap (es[·]?) hI;refine this.trans ?_;have e2 := filterMap_get es.toList;simp only [zY, yo] at e2;rw [e2]
  refine ⟨t', (lv.map (·.2)).toArray, ?_, rfl, rfl, rfl, rfl, rfl, pe, ?_⟩
  · unfold SetTable.laid
    rw [e];rfl
  · have lenL : lv.length = es.size := by have := hI.length_eq; simpa using this
    have inr : ∀ p ∈ lv, p.2 < es.size := λp hp => jY.mp (hI.mem_iff.mp (zz.mpr ⟨p, hp, rfl⟩))
    let R' := lv.map λp => (p.1, es.toList.getD p.2 (0, Value.none))
    have getE : ∀ p ∈ lv, es[p.2]? = some (es.toList.getD p.2 (0, Value.none)) := λp hp => by
      have := inr p hp;simp [List.getD, this]
    have em' : ∀ j, j <= mask -> (em owner j = false ↔ j ∈ lv.map (·.1)) := λj hj => by
      constructor
      · intro q
        have : owner.getD j none ≠ none := λz => by rw [(em_iff I.sz hj).mpr z] at q; cases q
        obtain ⟨i, e⟩ := xR.mp this;exact zz.mpr ⟨(j, i), mem_live.mpr ⟨by omega, e⟩, rfl⟩
      · intro q
        obtain ⟨⟨j', i⟩, a, b⟩ := zz.mp q;cases b;cases z : em owner j' with
        | false => rfl
        | true =>
          have := (em_iff (mask := mask) I.sz hj).mp z;rw [(mem_live.mp a).2] at this;cases this
    refine ⟨R', ⟨⟨rfl, ?_, ?_, ⟨k, hk, hp⟩, ?_⟩, ?_, ?_, ?_, ?_⟩⟩
    · exact zmY mask owner
    · intro j hj
      obtain ⟨⟨j', i⟩, a, b⟩ := zz.mp hj;cases b;have := (mem_live.mp a).1;show j' <= mask
      omega
    · show (lv.map (·.1)).toArray.size <= mask
      simp [lenL]; omega
    · show (lv.map λp => (p.1, es.toList.getD p.2 (0, Value.none))).map (·.1) = (lv.map (·.1)).toArray.toList
      simp
    · show (lv.map λp => (p.1, es.toList.getD p.2 (0, Value.none))).map (·.2) = ((lv.map (·.2)).toArray.filterMap (es[·]?)).toList
      rw [uz, yE, kY];have : ∀ l : List (Nat × Nat), (∀ p ∈ l, es[p.2]? = some (es.toList.getD p.2 (0, Value.none))) -> l.map ((λ(x : Nat × (Int × Value)) => x.2) ∘ λp => (p.1, es.toList.getD p.2 (0, Value.none))) = l.filterMap ((λx => es[x]?) ∘ λx => x.2) := by
        intro l;induction l with
        | nil => intro _; rfl
        | cons p l ih =>
          intro h;have e0 : ((λx => es[x]?) ∘ λ(x : Nat × Nat) => x.2) p = some (es.toList.getD p.2 (0, Value.none)) := h p (zy ..);rw [jJ e0, zH, ih λq hq => h q (zq _ hq)];rfl
      exact this lv getE
    · intro r hr
      obtain ⟨⟨j, i⟩, a, b⟩ := zz.mp hr;cases b;obtain ⟨h, e1, e2⟩ := I.on j i (mem_live.mp a).2;have e3 : h = (es.toList.getD i (0, Value.none)).1 := by
        have := getE _ a;have e1' : (es.map (·.1))[i]? = some h := by simpa using e1
        rw [Array.getElem?_map, this] at e1';simpa using e1'.symm
      obtain ⟨n, q1, q2⟩ := e2;refine ⟨n, ?_, λm hm => ?_⟩
      · show (path t' (es.toList.getD i (0, Value.none)).1 n).j = j
        rw [<- e3, zbj (t := t') (t' := t0) rfl];exact q1
      · show (path t' (es.toList.getD i (0, Value.none)).1 m).j ∈ (lv.map (·.1)).toArray.toList
        rw [<- e3, zbj (t := t') (t' := t0) rfl];have le := (zc7 t0 h m).1
        exact (em' _ (by have : t0.mask = mask := rfl
                         omega)).mp (q2 m hm)
    · show (lv.map (·.1)).toArray.size * 5 < mask * 3
      simp [lenL]; exact few
theorem zht(n:Nat):∀(fuel k:Nat),n<2 ^ (k+fuel)->∃k',k<=k'/\SetTable.sizeAbove.go n fuel (2 ^ k)=2 ^ k'/\n<2 ^ k'/\(2 ^ k'<=2*n\/k'=k)
 | 0,k,h=>⟨k,zu _,rfl,h,.inr rfl⟩
 | fuel+1,k,h=>by
  unfold SetTable.sizeAbove.go;by_cases c:2 ^ k<=n
  .rw[zR c,<-vo]
   obtain⟨k',a,b,d,e⟩:=zht n fuel (k+1) (by rw[show k+1+fuel=k+(fuel+1) from by omega]; exact h);refine⟨k',by omega,b,d,.inl ?_⟩;rcases e with e | e
   .exact e
   .subst e; rw[vo]; omega
  .rw[zZ c]
   exact⟨k,zu _,rfl,by omega,.inr rfl⟩
def zgK{n:Nat}(h:n<2 ^ 60):∃k,3<=k/\SetTable.sizeAbove n=2 ^ k/\n<2 ^ k/\(2 ^ k<=2*n\/k=3):=by
 have h2:2 ^ 60<=2 ^ (3+64):=qD ∅ ∅;obtain⟨k,a,b,c,d⟩:=zht n 64 3 (zK h h2);exact⟨k,a,b,c,d⟩
section
variable{prog:Program}{w:World}{K:Type}[DecidableEq K]{knd:KeyKind prog w K}{A:Around}{E:Value->Shared->Prop}{s:Shared}
def zjL(n:Nat){v:Value}(h:carriedByValue v=true):ofAClassStatement n v=pure false:=by
 cases v with
 | ref a=>simp[carriedByValue] at h
 | _=>first | rfl | simp[ofAClassStatement] | (unfold ofAClassStatement; rfl)
def ze2{ks:List K}{a:Addr}{Q:Bool->Shared->Prop}(hk:IsTupleKey knd s.heap ks a)(h:Q false s):wpAny (model prog w) A (ofAClassStatement 8 (.ref a)) Q E s:=by
 have hT:=hk.typeIs;obtain⟨o,items,n,ho,_,hd,hi⟩:=hk;unfold ofAClassStatement;refine za (qp hT ?_);dsimp only;rw[if_pos (by rfl)];refine za (zg ?_);rw[zZ (by simp)];refine za (jH ho hd ?_);dsimp only;refine wpAny_bind ?_;rw[<-Array.forIn_toList];refine yr _ (λrest r s'=>r.1=none/\s'=s/\∀v∈rest,carriedByValue v=true) _ ?_ ?_ _ _ ⟨rfl,rfl,hi.byValue⟩
 .rintro v rest r s' ⟨hr,rfl,hall⟩
  rw[zjL _ (hall v zy)];refine za (zg ?_);simp only[zQ,jt];exact zg ⟨rfl,rfl,λu hu'=>hall u (zq _ hu')⟩
 .rintro⟨r1,r2⟩ s' ⟨hr,rfl,_⟩
  simp only at hr;subst hr;exact zg h
def zpg{ks:List K}{x:Addr}{l:List Value}{Q:Bool->Shared->Prop}(hk:IsTupleKey knd s.heap ks x)(hl:∀v∈l,∃ks' b,v=.ref b/\IsTupleKey knd s.heap ks' b)(h:Q false s):wpAny (model prog w) A (searchCouldBeSeen (.ref x) l) Q E s:=by
 unfold searchCouldBeSeen;refine za ?_;refine yr _ (λrest r s'=>r.1=none/\s'=s/\∀v∈rest,∃ks' b,v=.ref b/\IsTupleKey knd s.heap ks' b) _ ?_ ?_ _ _ ⟨rfl,rfl,hl⟩
 .rintro v rest r s' ⟨hr,rfl,hall⟩
  obtain⟨ks',b,rfl,hb⟩:=hall v zy;have fin:∀u∈rest,∃ks' b,u=.ref b/\IsTupleKey knd s'.heap ks' b:=λu hu=>hall u (zq _ hu)
  dsimp only;by_cases e:(x==b)=true
  .rw[zR (by simp[e])]
   exact zg ⟨rfl,rfl,fin⟩
  .rw[zZ (by simp[e,carriedByValue])]
   refine za (wpAny_eqIsQuiet_tuple hk ?_);simp only[yI,zQ,jt];refine za (wpAny_eqIsQuiet_tuple hb ?_);simp only[yI,zQ,jt];refine za (ze2 hk ?_);simp only[zQ,jt];refine za (ze2 hb ?_);simp only[zQ,jt];exact zg ⟨rfl,rfl,fin⟩
 .rintro⟨r1,r2⟩ s' ⟨hr,rfl,_⟩
  simp only at hr;subst hr;exact zg h
def SetT(knd:KeyKind prog w K)(h:Heap)(a:Addr)(L:List (List K×Addr)):Prop:=
 ∃o es ep t R,h.get? a=some o/\o.ExactSet/\o.data=.set es ep t/\t.mask<=8191/\t.led = !w.params.followText "set-order" /\ SOk t es.toList R/\es.toList=L.map (λp=>(tupleKeyHash knd p.1,Value.ref p.2))/\(L.map (·.1)).Nodup/\∀p∈L,IsTupleKey knd h p.1 p.2
theorem TOk.odd{t:SetTable}(T:TOk t):t.gaveWay=false:=by
 obtain⟨k,a,b⟩:=T.pow;unfold SetTable.gaveWay;obtain⟨k,rfl⟩:∃j,k=j+1:=⟨k-1,by omega⟩;rw[vo] at b;have:t.mask%2=1:=by omega
 rw[this]; rfl
theorem SOk.fits{t:SetTable}{es:Array (Int×Value)}{R:List (Nat×(Int×Value))}(S:SOk t es.toList R):t.fits es.size=true:=by
 have a:=ju List.length S.pl;have b:=ju List.length S.es;simp only[zL,zY] at a b;unfold SetTable.fits SetTable.fill;rw[S.T.nod];have:=S.T.room;simp; omega
theorem SOk.at{t:SetTable}{es:Array (Int×Value)}{R:List (Nat×(Int×Value))}(S:SOk t es.toList R){i j:Nat}(h:t.slot j=.live i):∃e,es[i]?=some e/\(j,e)∈R/\t.place[i]?=some j:=by
 obtain⟨i',hi,e1,e2⟩ | ⟨_,e2⟩:=slot_of S.T j
 .rw[e2] at h
  cases h;have a:=ju List.length S.pl;simp only[zL,zY] at a;have hr:i<R.length:=by omega
  have p1:R[i].1=j:=by
   have:=ju (·[i]?) S.pl;simp[hr,hi] at this;rw[this]; exact e1
  have p2:es[i]?=some R[i].2:=by
   have:=ju (·[i]?) S.es;simp[hr] at this;exact this.symm
  exact⟨R[i].2,p2,by rw[<-p1]; exact qZ hr,by rw[<-e1]; simp[hi]⟩
 .rw[e2] at h; cases h
end
section
variable{prog:Program}{w:World}{K:Type}[DecidableEq K]{knd:KeyKind prog w K}{A:Around}{E:Value->Shared->Prop}{s:Shared}
def zpj{α:Type}{c:Bool}{m:Sem Bool}{X Y:Sem α}{Q:α->Shared->Prop}(hm:wpAny (model prog w) A m (λb s'=>b=false/\s'=s) E s)(hY:wpAny (model prog w) A Y Q E s) :
  wpAny (model prog w) A (if c=true then (do let b <-m; if b=true then X else Y) else Y) Q E s:=by
 cases c with
 | true=>
  rw[zR rfl];refine za (jV hm (λb s' h=>?_) λ_ _ h=>h);obtain⟨rfl,rfl⟩:=h;rw[zZ (by simp)];exact hY
 | false=>rw[zZ (by simp)]; exact hY
theorem zik{a x:Addr}{k:List K}{L:List (List K×Addr)}{o:Obj}{es:Array (Int×Value)}{ep:Nat}{t:SetTable}{R:List (Nat×(Int×Value))}{adding:Bool}{Q:SetFound->Shared->Prop}{N:Nat}
  (hu:A.units<cLine) (ho:s.heap.get? a=some o) (hd:o.data=.set es ep t) (S:SOk t es.toList R) (hL:es.toList=L.map (λp=>(tupleKeyHash knd p.1,Value.ref p.2))) (hT:∀p∈L,IsTupleKey knd s.heap p.1 p.2) (hk:IsTupleKey knd s.heap k x)
  (hN:(path t (tupleKeyHash knd k) N).j∉t.place.toList) (hb:∀m,m<N->(path t (tupleKeyHash knd k) m).j∈t.place.toList) (hlt:N<10*SetTable.turns t.mask)
  (yes:∀i,adding=true\/(∃p,L[i]?=some p/\p.1=k)->(∃p∈L,p.1=k)->Q (.there (if adding then none else some i)) s):∀(fuel n:Nat) (stand:Option SetTable.Probe),stand.getD (t.probeStart (tupleKeyHash knd k))=path t (tupleKeyHash knd k) n->n<=N->N-n<fuel->
  ((∀m i e,n<=m->m<N->t.slot (path t (tupleKeyHash knd k) m).j=.live i->L[i]?=some e->e.1≠k)->Q (.free (path t (tupleKeyHash knd k) N).j false) s)->
  wpAny (model prog w) A (setSearchFrom a (.ref x) (tupleKeyHash knd k) adding fuel stand) Q E s:=by
 intro fuel;induction fuel with
 | zero=>intro n stand _ _ q; omega
 | succ fuel ih=>
  intro n stand hs hn hf no;have getL:∀{i:Nat} {e:Int×Value},es[i]?=some e->∃p,L[i]?=some p/\e=(tupleKeyHash knd p.1,Value.ref p.2):=by
   intro i e he;have h1:es.toList[i]?=some e:=by simpa using he
   rw[hL,kJ] at h1;obtain⟨p,a1,a2⟩:=zj.mp h1;exact⟨p,a1,a2.symm⟩
  unfold setSearchFrom;refine za (jM ho hd S.fits ?_);dsimp only;rw[S.T.odd];simp only[zQ,jt];rw[hs];generalize hF:t.probe _ (tupleKeyHash knd k) (path t (tupleKeyHash knd k) n)=r;have hF2:SetTable.probe.go t (λi=>(es[i]?.map (·.1)).getD 0) (tupleKeyHash knd k) (10*SetTable.turns t.mask) (path t (tupleKeyHash knd k) n)=r:=hF;rcases zkx S.T (λi=>(es[i]?.map (·.1)).getD 0) (tupleKeyHash knd k) hN hb (10*SetTable.turns t.mask) n hn ∅ with ⟨m,i,m1,m2,sl,hh,ee,before⟩ | ⟨ee,before⟩
  .rw[ee] at hF2
   subst hF2;obtain⟨e,ei,er,ep'⟩:=S.at sl;obtain⟨p,pi,rfl⟩:=getL ei;have hp:=qd pi;have goOn:p.1≠k->wpAny (model prog w) A (setSearchFrom a (.ref x) (tupleKeyHash knd k) adding fuel (some (path t (tupleKeyHash knd k) (m+1)))) Q E s:=λne=>by
    refine ih (m+1) (some _) rfl m2 ∅ λh=>no λm' i' e' a1 a2 a3 a4=>?_
    rcases yM m' m with z | z | z
    .intro ek
     refine before m' a1 z i' a3 ?_;have h1:es.toList[i']?=some (tupleKeyHash knd e'.1,Value.ref e'.2):=by rw[hL,kJ,a4]; rfl
     have h2:es[i']?=some (tupleKeyHash knd e'.1,Value.ref e'.2):=by simpa using h1
     show(es[i']?.map (·.1)).getD 0=_
     rw[h2,ek]; rfl
    .subst z
     rw[sl] at a3;cases a3;rw[pi] at a4;cases a4;exact ne
    .exact h m' i' e' z a2 a3 a4
   dsimp only;refine zpj (zpg hk (λv hv=>?_) ⟨rfl,rfl⟩) ?_
   .obtain⟨q,q1,q2⟩:=zz.mp hv
    have q3:q∈es.toList:=by
     have:=yq.mp q1;exact yq.mpr (Array.mem_filter.mp this).1
    rw[hL] at q3;obtain⟨p',z1,z2⟩:=zz.mp q3;subst z2;exact⟨p'.1,p'.2,q2.symm,hT p' z1⟩
   .rw[ei]
    dsimp only;refine wpAny_bind (wpAny_holding (wpAny_eqBool_tuple hu (hT p hp) hk ?_));refine wpAny_bind (wpAny_setState_of ho hd S.fits ?_);dsimp only;have sm:t.sameMemory t.moves t.mask=some true:=by unfold SetTable.sameMemory; rw[if_pos (by simp)]
    by_cases z:p.1=k
    .rw[kI z]
     cases adding with
     | true=>
      simp only[Bool.and_self,jd];exact zg (yes i (.inl rfl) ⟨p,hp,z⟩)
     | false=>
      simp only[Bool.false_and,zQ,jt,sm,jd,sl,ei];refine za (wpAny_isSame_ref_self ?_);refine za (zg ?_);simp only[jd];exact zg (yes i (.inr ⟨p,pi,z⟩) ⟨p,hp,z⟩)
    .rw[jc z]
     simp only[Bool.and_false,zQ,jt,sm,jd,sl,ei];refine za (wpAny_isSame_ref_self ?_);refine za (zg ?_);simp only[jd,zQ,jt];exact goOn z
  .rw[ee] at hF2
   subst hF2;dsimp only;refine wpAny_pure (no λm' i' e' a1 a2 a3 a4 ek=>?_);refine before m' a1 a2 i' a3 ?_;have h1:es.toList[i']?=some (tupleKeyHash knd e'.1,Value.ref e'.2):=by rw[hL,kJ,a4]; rfl
   have h2:es[i']?=some (tupleKeyHash knd e'.1,Value.ref e'.2):=by simpa using h1
   show(es[i']?.map (·.1)).getD 0=_
   rw[h2,ek]; rfl
end
def zbQ{α β:Type}{f:α->β}{m l:List β}(h:m.Perm l):∀{L:List α},m=L.map f->∃L':List α,L'.Perm L/\L'.map f=l:=by
 induction h with
 | nil=>intro L e; exact⟨L,qC _,e.symm⟩
 | cons x _ ih=>
  intro L e;cases L with
  | nil=>cases e
  | cons a L=>
   cases e;obtain⟨L',p,q⟩:=ih rfl;exact⟨a::L',List.Perm.cons _ p,by rw[zH,q]⟩
 | swap x y l=>
  intro L e;match L,e with
  | b::a::L,e=>
   cases e;exact⟨a::b::L,List.Perm.swap _ _ _,rfl⟩
 | trans _ _ ih1 ih2=>
  intro L e;obtain⟨L1,p1,q1⟩:=ih1 e;obtain⟨L2,p2,q2⟩:=ih2 q1.symm;exact⟨L2,p2.trans p1,q2⟩
section
variable{prog:Program}{w:World}{K:Type}[DecidableEq K]{knd:KeyKind prog w K}{A:Around}{E:Value->Shared->Prop}{s:Shared}
def zmL(n:Nat){v:Value}(h:carriedByValue v=true):∃b,hashByValue n v=pure b:=by
 cases v with
 | ref a=>simp[carriedByValue] at h
 | _=>cases n<;>exact⟨_,rfl⟩
def zmq{ks:List K}{a:Addr}{Q:Bool->Shared->Prop}(hk:IsTupleKey knd s.heap ks a)(h:∀b,Q b s):wpAny (model prog w) A (hashByValue 8 (.ref a)) Q E s:=by
 have hT:=hk.typeIs;obtain⟨o,items,n,ho,_,hd,hi⟩:=hk;unfold hashByValue;refine za (uA hT F.slot_tuple_hash.lookup ?_);refine za (jH ho hd ?_);refine za ?_;show wpAny _ _ (forIn items _ _) _ _ s
 rw[<-Array.forIn_toList];refine yr _ (λrest r s'=>r.1=none/\s'=s/\∀v∈rest,carriedByValue v=true) _ ?_ ?_ _ _ ⟨rfl,rfl,hi.byValue⟩
 .rintro v rest r s' ⟨hr,rfl,hall⟩
  obtain⟨b,e⟩:=zmL 7 (hall v zy);rw[e];refine za (zg ?_);cases b with
  | true=>
   simp only[yI,zQ,jt];exact zg ⟨rfl,rfl,λu hu'=>hall u (zq _ hu')⟩
  | false=>
   simp only[Bool.not_false,jd];exact zg (zg (h _))
 .rintro⟨r1,r2⟩ s' ⟨hr,rfl,_⟩
  simp only at hr;subst hr;exact zg (h _)
def zf3{h h':Heap}{ks:List K}{x a:Addr}{o:Obj}{es ep t}(hk:IsTupleKey knd h ks x)(ho:h.get? a=some o)(hd:o.data=.set es ep t)(sb:Heap.SameBut a h h'):IsTupleKey knd h' ks x:=by
 obtain⟨o',items,n,ho',hc,hd',hi⟩:=hk;have hne:x≠a:=by
  rintro rfl;obtain rfl:o'=o:=zU (ho'.symm.trans ho);rw[hd] at hd'; exact nomatch hd'
 exact⟨o',items,n,(sb.2 x hne).trans ho',hc,hd',hi⟩
def zl7{α:Type}{m:Sem α}{v:α}{Q:α->Shared->Prop}(e:m=pure v)(h:Q v s):wpAny (model prog w) A m Q E s:=by rw[e]; exact zg h
def zec{h:Heap}{a:Addr}{o:Obj}{es:Array (Int×Value)}{ep:Nat}{t:SetTable}(ho:h.get? a=some o)(hex:o.ExactSet)(hd:o.data=.set es ep t){es':Array (Int×Value)}{t':SetTable}{R':List (Nat×(Int×Value))}{L':List (List K×Addr)}
  (hm:t'.mask<=8191) (hled:t'.led = !w.params.followText "set-order") (S:SOk t' es'.toList R') (hL:es'.toList=L'.map (λp=>(tupleKeyHash knd p.1,Value.ref p.2))) (nd:(L'.map (·.1)).Nodup) (hT:∀p∈L',IsTupleKey knd h p.1 p.2) :
  (h.update a (Obj.putSet es' t')).get? a=some { o with data:=.set es' (ep+1) t' }/\SetT knd (h.update a (Obj.putSet es' t')) a L':=by
 have hg:(h.update a (Obj.putSet es' t')).get? a=some { o with data:=.set es' (ep+1) t' }:=by
  have:=jr (Obj.putSet es' t') ho (by rw[xJ es' t' hd]; rfl);rw[xJ es' t' hd] at this; exact this
 exact⟨hg,_,es',ep+1,t',R',hg,hex,rfl,hm,hled,S,hL,nd,λp hp=>zf3 (hT p hp) ho hd (jL _ _ _)⟩
def zju{a:Addr}{o:Obj}{es:Array (Int×Value)}{ep:Nat}{t:SetTable}{L:List (List K×Addr)}{wanted:Nat}{Q:Unit->Shared->Prop}(ho:s.heap.get? a=some o)(hex:o.ExactSet)(hd:o.data=.set es ep t)(hf:t.fits es.size=true)(hled:t.led = !w.params.followText "set-order")
  (hL:es.toList=L.map (λp=>(tupleKeyHash knd p.1,Value.ref p.2))) (nd:(L.map (·.1)).Nodup) (hT:∀p∈L,IsTupleKey knd s.heap p.1 p.2) (hw:wanted<=4000) (hw2:es.size*2<=wanted) (hw3:0<wanted)
  (h:∀h' L',Heap.SameBut a s.heap h'->SetT knd h' a L'->L'.Perm L->(∃o es ep t,h'.get? a=some o/\o.data=.set es ep t/\wanted<=t.mask)->Q () { s with heap:=h' }):wpAny (model prog w) A (setRelay a wanted) Q E s:=by
 unfold setRelay;refine za (jM ho hd hf ?_);dsimp only;obtain⟨k,k1,k2,k3,k4⟩:=zgK (n:=wanted) ∅;have le:2 ^ k<=8192:=by
  rcases k4 with k4 | k4
  .have:2 ^ k<=8000:=by omega
   omega
  .subst k4; decide
 have pos:2 ^ 3<=2 ^ k:=qD ∅ k1;rw[zZ (by rw[k2,jD]; omega)];obtain⟨t',order,e1,e2,e3,e4,e5,e6,pe,R',S⟩:=zm7 (mask:=2 ^ k-1) (k:=k) ∅ k1 es ∅ t.finger (t.movedTo (SetTable.sizeAbove wanted-1)) t.led t.plain;have e0:t.relaid (es.map (·.1)) wanted=some (t',order):=by
  unfold SetTable.relaid;rw[k2] at e1 ⊢;exact e1
 rw[e0];have hz:(order.filterMap (es[·]?)).size=es.size:=by rw[<-zY,pe.length_eq,zY]
 refine za (zl7 (v:=(order.filterMap (es[·]?),t')) (zZ (by rw[hz]; simp)) ?_);dsimp only;obtain⟨L',p1,p2⟩:=zbQ (f:=λp:List K×Addr=>(tupleKeyHash knd p.1,Value.ref p.2)) pe.symm hL;obtain⟨hgt,ST⟩:=zec (knd:=knd) ho hex hd (t':=t') (es':=order.filterMap (es[·]?)) (L':=L') ∅ (by rw[e3]; exact hled) S p2.symm ((p1.map (·.1)).nodup_iff.mpr nd) (λp hp=>hT p (p1.mem_iff.mp hp));exact wZ ho hd (h _ _ (jL _ _ _) ST p1 ⟨_,_,_,t',hgt,rfl,by omega⟩) (by rw[hz,jD]; omega)
theorem znu{a x:Addr}{k:List K}{L:List (List K×Addr)}{Q:Bool->Shared->Prop}(hu:A.units<cLine)(hS:SetT knd s.heap a L)(hk:IsTupleKey knd s.heap k x)(hb:L.length<900)
  (h:∀added h' L',Heap.SameBut a s.heap h'->SetT knd h' a L'->L'.Perm (if k∈L.map (·.1) then L else (k,x)::L)->Q added { s with heap:=h' }) :
  wpAny (model prog w) A (setAddHashed a (.ref x) (tupleKeyHash knd k)) Q E s:=by
 obtain⟨o,es,ep,t,R,ho,hex,hd,hm,hled,S,hL,nd,hT⟩:=hS;have lenE:es.size=L.length:=by have:=ju List.length hL; simpa using this
 have lenP:t.place.size=L.length:=by
  have a1:=ju List.length S.pl;have a2:=ju List.length S.es;simp only[zL,zY] at a1 a2;omega
 obtain⟨N,n1,n2,n3⟩:=zg5 S.T (tupleKeyHash knd k);unfold setAddHashed;refine jb ?_;show wpAny _ _ (setAddHashedIn a (.ref x) (tupleKeyHash knd k) (99999+1)) _ _ _
 unfold setAddHashedIn;refine za (jM ho hd S.fits ?_);dsimp only;rw[show byScan (.ref x) es=false from rfl];simp only[zQ,jt];have eta:s={ s with heap:=s.heap }:=by cases s; rfl
 refine za ?_;show wpAny _ _ (setSearchFrom a (.ref x) (tupleKeyHash knd k) true 100000 none) _ _ _
 refine zik (knd:=knd) (L:=L) (N:=N) (k:=k) hu ho hd S hL hT hk n2 n3 n1 (λi _ there=>?_) 100000 0 none rfl (j8 _) (by unfold SetTable.turns at n1; omega) λno=>?_
 ·
  simp only[jd];refine zg ?_;rw[eta];refine h _ _ L (Heap.SameBut.refl _ _) ⟨o,es,ep,t,R,ho,hex,hd,hm,hled,S,hL,nd,hT⟩ ?_;obtain⟨p,p1,p2⟩:=there;rw[zR (zz.mpr ⟨p,p1,p2⟩)]
 ·
  have absent:k∉L.map (·.1):=by
   intro hc;obtain⟨p,p1,p2⟩:=zz.mp hc;obtain⟨i,hi,e⟩:=vg p1;have hr:i<R.length:=by have:=ju List.length S.pl; simp only[zL,zY] at this; omega
   have hip:i<t.place.size:=by omega
   have r1:R[i].1=t.place[i]:=by
    have:=ju (·[i]?) S.pl;simp[hr,hip] at this;exact this
   have r2:R[i].2=(tupleKeyHash knd p.1,Value.ref p.2):=by
    have:=ju (·[i]?) (S.es.trans hL);simp[hr,hi,e] at this;rw[this]
   obtain⟨n,a1,a2⟩:=S.on R[i] (qZ hr);rw[r2,r1] at a1;rw[r2] at a2;dsimp only at a1 a2;rw[p2] at a1 a2;have nN:n<N:=by
    rcases yZ n N with z | z
    .exact z
    .rcases jN z with z | z
     .exact absurd (a2 N z) n2
     .subst z
      rw[a1] at n2;exact absurd (by simp) n2
   refine no n i p (j8 _) nN ?_ (by rw[zO hi,e]) p2;rw[a1];exact zeT S.T hip
  dsimp only;refine za (jM ho hd S.fits ?_);dsimp only;have hp:(t.put (path t (tupleKeyHash knd k) N).j).2<=L.length:=by
   have:=(zbd (xs:=t.place) (j:=(path t (tupleKeyHash knd k) N).j) S.T.up).1;rw[lenP] at this;exact this
  have pe:(L.take (t.put (path t (tupleKeyHash knd k) N).j).2++(k,x)::L.drop (t.put (path t (tupleKeyHash knd k) N).j).2).Perm ((k,x)::L):=by
   have:(L.take (t.put (path t (tupleKeyHash knd k) N).j).2++L.drop (t.put (path t (tupleKeyHash knd k) N).j).2)=L:=jZ _ _;refine List.perm_middle.trans ?_;rw[this]
  have hL1:(SetTable.insertAt es (t.put (path t (tupleKeyHash knd k) N).j).2 (tupleKeyHash knd k,Value.ref x)).toList=(L.take (t.put (path t (tupleKeyHash knd k) N).j).2++(k,x)::L.drop (t.put (path t (tupleKeyHash knd k) N).j).2).map (λp=>(tupleKeyHash knd p.1,Value.ref p.2)):=by
   rw[zbB _ ∅,hL];simp[um,uo]
  have put:=λt' a1 a2 a3 a4=>S.put (h:=tupleKeyHash knd k) (x:=Value.ref x) n2 n3 t' a1 a2 a3 a4
  have psz:(t.put (path t (tupleKeyHash knd k) N).j).1.place.size=L.length+1:=by
   have:=ju List.length (zcE S.T (path t (tupleKeyHash knd k) N).j);rw[zW,zG,<-Nat.add_assoc,<-zW,jZ] at this;simp only[zY] at this;omega
  generalize hL2:(L.take (t.put (path t (tupleKeyHash knd k) N).j).2++(k,x)::L.drop (t.put (path t (tupleKeyHash knd k) N).j).2)=L1 at *;have nd1:(L1.map (·.1)).Nodup:=((pe.map (·.1)).nodup_iff).mpr (jA.mpr ⟨absent,nd⟩);have hT1:∀p∈L1,IsTupleKey knd s.heap p.1 p.2:=λp hp=>by
   rcases zf.mp (pe.mem_iff.mp hp) with rfl | hp
   .exact hk
   .exact hT p hp
  have len1:L1.length=L.length+1:=by have:=pe.length_eq; simpa using this
  have fin:∀h' L',Heap.SameBut a s.heap h'->SetT knd h' a L'->L'.Perm L1->Q true { s with heap:=h' }:=λh' L' sb ST q=>h _ h' L' sb ST (by rw[zZ absent]; exact q.trans pe)
  have dm:(t.put (path t (tupleKeyHash knd k) N).j).1.dummies = #[]:=by
   show(if SetTable.has t.dummies _ then _ else t.dummies)=_
   rw[S.T.nod,zez]; rfl
  have tail:∀t':SetTable,t'.mask=t.mask->t'.place=(t.put (path t (tupleKeyHash knd k) N).j).1.place->t'.dummies=(t.put (path t (tupleKeyHash knd k) N).j).1.dummies->t'.led=t.led->wpAny (model prog w) A (do
    storeSet a (SetTable.insertAt es (t.put (path t (tupleKeyHash knd k) N).j).2 (tupleKeyHash knd k,Value.ref x)) t'
    if (!false&&t'.tooFull)=true then do
      setRelay a (SetTable.grown (es.size+1))
      pure true
     else pure true) Q E s:=by
   intro t' m1 m2 m3 m4;generalize hes:SetTable.insertAt es (t.put (path t (tupleKeyHash knd k) N).j).2 (tupleKeyHash knd k,Value.ref x)=es1 at *;have sz1:es1.size=L.length+1:=by have:=ju List.length hL1; simp only[zY,zL] at this; omega
   refine za (wZ ho hd ?_ (by rw[sz1,jD]; omega));have sb1:=jL s.heap a (Obj.putSet es1 t');have hg:(s.heap.update a (Obj.putSet es1 t')).get? a=some { o with data:=.set es1 (ep+1) t' }:=by
    have:=jr (Obj.putSet es1 t') ho (by rw[xJ es1 t' hd]; rfl);rw[xJ es1 t' hd] at this; exact this
   by_cases full:t'.tooFull=true
   .rw[zR (by simp[full])]
    have gr:SetTable.grown (es.size+1)=(es.size+1)*4:=by unfold SetTable.grown; rw[zZ ∅]
    rw[gr];refine za (zju (knd:=knd) (L:=L1) hg hex rfl ?_ (m4.trans hled) hL1 nd1 (λp hp=>zf3 (hT1 p hp) ho hd sb1) ∅ ∅ ∅ λh' L' sb ST q _=>zg (fin h' L' (sb1.trans sb) ST q));unfold SetTable.fits SetTable.fill;rw[m2,m3,dm,psz,m1,sz1];have:=S.few;obtain⟨k',a1,b1⟩:=S.T.pow;have:2 ^ 3<=2 ^ k':=qD ∅ a1;simp;omega
   .rw[zZ (by simp[full])]
    have few:t'.place.size*5<t'.mask*3:=by
     unfold SetTable.tooFull SetTable.fill at full;rw[m3,dm] at full;simp at full;omega
    obtain⟨R',S',_⟩:=put t' m1 m2 m3 few;obtain⟨_,ST⟩:=zec (knd:=knd) ho hex hd (t':=t') (es':=es1) (L':=L1) ∅ (m4.trans hled) S' hL1 nd1 hT1;exact zg (fin _ _ sb1 ST (qC _))
  split
  .refine za (zmq hk λb=>?_)
   refine tail _ ?_ ?_ ?_ ?_<;>cases b<;>rfl
  .refine za (zg ?_)
   exact tail _ rfl rfl rfl rfl
end
end ML
namespace ML
open PySem PySem.W PyProof.Rows
section
variable{n:Nat}{rk:Nat->Nat}{cmp:Nat->Nat->(Bool->Shared->Prop)->Shared->Prop}{s:Shared}
def R(rk:Nat->Nat)(p:Array Nat)(i:Nat):Nat:=rk (p.getD i 0)
structure Pm(n:Nat)(p:Array Nat):Prop where
 sz:p.size=n
 pm:p.toList.Perm (List.range n)
def Pm.lt{p:Array Nat}(P:Pm n p)(h0:0<n)(i:Nat):p.getD i 0<n:=by
 by_cases h:i<p.size
 .have e:p.getD i 0=p[i]:=by simp[Array.getD,h]
  rw[e];exact jY.mp (P.pm.mem_iff.mp (by simp))
 .have e:p.getD i 0=0:=by simp[Array.getD,h]
  rw[e]; exact h0
def Answers(n:Nat)(rk:Nat->Nat)(cmp:Nat->Nat->(Bool->Shared->Prop)->Shared->Prop)(s:Shared):Prop:=∀i j (C:Bool->Shared->Prop),i<n->j<n->C (decide (rk i<rk j)) s->cmp i j C s
theorem zc9(p:Array Nat){i j:Nat}(hj:j<=p.size)(k:Nat):R rk (kas_rev p i j) k=if i<=k/\k<j then R rk p (i+j-1-k) else R rk p k:=by
 have e:=getElem?_mirror_all (xs:=p) (i:=i) hj k;unfold R kas_rev;have g:∀(q:Array Nat) (m:Nat),q.getD m 0=q[m]?.getD 0:=λq m=>xQ ..
 rw[g,e,g,g];split<;>rfl
theorem zma(p:Array Nat){k l:Nat}(hk:k<p.size)(hl:l<=k)(m:Nat):R rk (bubble p k (k-l)) m=if m=l then R rk p k else if l<m/\m<=k then R rk p (m-1) else R rk p m:=by
 have e:=getElem?_bubble (xs:=p) hk (k-l) ∅ m;rw[show k-(k-l)=l from by omega] at e;unfold R;have g:∀(q:Array Nat) (m:Nat),q.getD m 0=q[m]?.getD 0:=λq m=>xQ ..
 rw[g,e,g,g,g];split
 .rfl
 .split<;>rfl
def Pm.rev{p:Array Nat}(P:Pm n p)(i j:Nat):Pm n (kas_rev p i j):=⟨by unfold kas_rev; rw[mirror_size]; exact P.sz,(mirror_perm p i j _).toList.trans P.pm⟩
def Pm.bub{p:Array Nat}(P:Pm n p)(k d:Nat):Pm n (bubble p k d):=⟨by rw[bubble_size]; exact P.sz,(bubble_perm p k d).toList.trans P.pm⟩
def Up(rk:Nat->Nat)(p:Array Nat)(m:Nat):Prop:=∀i j,i<=j->j<m->R rk p i<=R rk p j
def Dn(rk:Nat->Nat)(p:Array Nat)(m:Nat):Prop:=∀i j,i<=j->j<m->R rk p j<=R rk p i
def Up.succ{p:Array Nat}{m:Nat}(u:Up rk p m)(h:0<m)(e:R rk p (m-1)<=R rk p m):Up rk p (m+1):=by
 intro i j a b;rcases jN (wB b) with q | q
 .exact u i j a q
 .subst q
  rcases jN a with z | z
  .exact zF (u i (j-1) ∅ ∅) e
  .subst z; exact zu _
def Dn.succ{p:Array Nat}{m:Nat}(u:Dn rk p m)(h:0<m)(e:R rk p m<=R rk p (m-1)):Dn rk p (m+1):=by
 intro i j a b;rcases jN (wB b) with q | q
 .exact u i j a q
 .subst q
  rcases jN a with z | z
  .exact zF e (u i (j-1) ∅ ∅)
  .subst z; exact zu _
theorem zgJ(hc:Answers n rk cmp s)(h0:0<n){p:Array Nat}(P:Pm n p){G:Nat->Shared->Prop}:∀(f m:Nat),0<m->Up rk p m->m+f<=n->(∀m',m<=m'->m'<=m+f->Up rk p m'->(m'=m+f\/R rk p m'<R rk p (m'-1))->G m' s)->(kas_asc p f m).kasWp cmp G s
 | 0,m,h1,u,hf,k=>k m (zu _) ∅ u (.inl rfl)
 | f+1,m,h1,u,hf,k=>by
  refine hc _ _ _ (P.lt h0 _) (P.lt h0 _) ?_;by_cases c:rk (p.getD m 0)<rk (p.getD (m-1) 0)
  .rw[kI c]; dsimp only; rw[if_pos rfl]
   exact k m (zu _) ∅ u (.inr c)
  .rw[jc c]; dsimp only; rw[if_neg (by simp)]
   refine zgJ hc h0 P f (m+1) ∅ (u.succ h1 (jR c)) ∅ λm' a b d e=>k m' ∅ ∅ d ?_
   rcases e with e | e
   .exact .inl ∅
   .exact .inr e
theorem zc2(hc:Answers n rk cmp s)(h0:0<n){G:Array Nat×Nat×Nat->Shared->Prop}:∀(f:Nat) (p:Array Nat) (m q:Nat),Pm n p->q<m->Dn rk p m->(∀i,m-(q+1)<=i->i<m->R rk p i=R rk p (m-1))->m+f<=n->
  (∀p' m' q',Pm n p'->q'<m'->m<=m'->m'<=m+f->Dn rk p' m'->(∀i,m'-(q'+1)<=i->i<m'->R rk p' i=R rk p' (m'-1))->G (p',m',q') s)->(kas_desc f p m q).kasWp cmp G s
 | 0,p,m,q,P,hq,u,eq,hf,k=>k p m q P hq (zu _) ∅ u eq
 | f+1,p,m,q,P,hq,u,eq,hf,k=>by
  refine hc _ _ _ (P.lt h0 _) (P.lt h0 _) ?_;by_cases c:rk (p.getD m 0)<rk (p.getD (m-1) 0)
  .rw[kI c]; dsimp only; rw[if_pos rfl]
   have c':R rk p m<R rk p (m-1):=c;by_cases z:q>0
   .rw[zR z]
    have rv:∀i,R rk (kas_rev p (m-(q+1)) m) i=R rk p i:=λi=>by
     rw[zc9 p (by rw[P.sz]; omega)];split
     .rename_i y
      rw[eq _ ∅ ∅,eq i y.1 y.2]
     .rfl
    have u':Dn rk (kas_rev p (m-(q+1)) m) (m+1):=by
     have:Dn rk (kas_rev p (m-(q+1)) m) m:=λi j a b=>by rw[rv,rv]; exact u i j a b
     exact this.succ ∅ (by rw[rv,rv]; omega)
    refine zc2 hc h0 f _ (m+1) 0 (P.rev _ _) ∅ u' (λi a b=>?_) ∅ λp' m' q' a1 a2 a3 a4 a5 a6=>k p' m' q' a1 a2 ∅ ∅ a5 a6
    have:i=m+1-1:=by omega
    rw[this]
   .rw[zZ z]
    refine zc2 hc h0 f _ (m+1) 0 P ∅ (u.succ ∅ ∅) (λi a b=>?_) ∅ λp' m' q' a1 a2 a3 a4 a5 a6=>k p' m' q' a1 a2 ∅ ∅ a5 a6
    have:i=m+1-1:=by omega
    rw[this]
  .rw[jc c]; dsimp only; rw[if_neg (by simp)]
   have c':R rk p (m-1)<=R rk p m:=jR c;refine hc _ _ _ (P.lt h0 _) (P.lt h0 _) ?_;by_cases d:rk (p.getD (m-1) 0)<rk (p.getD m 0)
   .rw[kI d]; dsimp only; rw[if_pos rfl]
    exact k p m q P hq (zu _) ∅ u eq
   .rw[jc d]; dsimp only; rw[if_neg (by simp)]
    have d':R rk p m<=R rk p (m-1):=jR d;refine zc2 hc h0 f p (m+1) (q+1) P ∅ (u.succ ∅ d') (λi a b=>?_) ∅ λp' m' q' a1 a2 a3 a4 a5 a6=>k p' m' q' a1 a2 ∅ ∅ a5 a6
    rw[show m+1-1=m from by omega];rcases jN (wB b) with z | z
    .rw[eq i ∅ z]; omega
    .rw[z]
def zhr(hc:Answers n rk cmp s)(h0:0<n){G:Nat×Array Nat->Shared->Prop}{p:Array Nat}(P:Pm n p){m:Nat}(hm:0<m)(hn:m<=n)(u:Dn rk p m)(k:∀m' p',Pm n p'->m<=m'->m'<=n->Up rk p' m'->G (m',p') s):(kas_tail3 m n p).kasWp cmp G s:=by
 unfold kas_tail3;rw[wJ];have u':Up rk (kas_rev p 0 m) m:=λi j a b=>by
  rw[zc9 p (by rw[P.sz]; exact hn),zc9 p (by rw[P.sz]; exact hn),zR ⟨by omega,by omega⟩,zR ⟨by omega,b⟩];exact u _ _ ∅ ∅
 exact zgJ hc h0 (P.rev _ _) (n-m) m hm u' ∅ λm' a b c _=>k m' _ (P.rev _ _) a ∅ c
def zdn(hc:Answers n rk cmp s)(h0:0<n){G:Nat×Array Nat->Shared->Prop}{p:Array Nat}(P:Pm n p){m:Nat}(hm:0<m)(hn:m+1<=n)(u:Dn rk p (m+1))(k:∀m' p',Pm n p'->0<m'->m'<=n->Up rk p' m'->G (m',p') s):(kas_descPart m n p).kasWp cmp G s:=by
 unfold kas_descPart;rw[wJ];refine zc2 hc h0 _ p (m+1) 0 P ∅ u (λi a b=>by rw[show i=m+1-1 from by omega]) ∅ λp' m' q' a1 a2 a3 a4 a5 a6=>?_
 dsimp only;by_cases z:q'>0
 .rw[zR z]
  have rv:∀i,R rk (kas_rev p' (m'-(q'+1)) m') i=R rk p' i:=λi=>by
   rw[zc9 p' (by rw[a1.sz]; omega)];split
   .rename_i y
    rw[a6 _ ∅ ∅,a6 i y.1 y.2]
   .rfl
  exact zhr hc h0 (a1.rev _ _) ∅ ∅ (λi j a b=>by rw[rv,rv]; exact a5 i j a b) λm2 p2 b1 b2 b3 b4=>k m2 p2 b1 ∅ b3 b4
 .rw[zZ z]
  exact zhr hc h0 a1 ∅ ∅ a5 λm2 p2 b1 b2 b3 b4=>k m2 p2 b1 ∅ b3 b4
def zlS(hc:Answers n rk cmp s)(h0:0<n){G:Nat×Array Nat->Shared->Prop}{p:Array Nat}(P:Pm n p)(k:∀m' p',Pm n p'->0<m'->m'<=n->Up rk p' m'->G (m',p') s):(kas_count n p).kasWp cmp G s:=by
 unfold kas_count;rw[wJ];refine zgJ hc h0 P (n-1) 1 ∅ (λi j a b=>by rw[show i=j from by omega]; exact zu _) ∅ λm a b u e=>?_
 by_cases z:m=n
 .rw[zR (by simp[z])]
  exact k m p P ∅ ∅ u
 .rw[zZ (by simp[z])]
  have lt:R rk p m<R rk p (m-1):=by
   rcases e with e | e
   .omega
   .exact e
  by_cases y:m>1
  .rw[zR y]
   refine hc _ _ _ (P.lt h0 _) (P.lt h0 _) ?_;by_cases c:rk (p.getD 0 0)<rk (p.getD (m-1) 0)
   .rw[kI c]; dsimp only; rw[if_pos rfl]
    exact k m p P ∅ ∅ u
   .rw[jc c]; dsimp only; rw[if_neg (by simp)]
    have c':R rk p (m-1)<=R rk p 0:=jR c;have all:∀i,i<m->R rk p i=R rk p 0:=λi hi=>by
     have a1:=u 0 i ∅ hi;have a2:=u i (m-1) ∅ ∅;omega
    have rv:∀i,i<m->R rk (kas_rev p 0 m) i=R rk p 0:=λi hi=>by
     rw[zc9 p (by rw[P.sz]; omega),zR ⟨by omega,hi⟩];exact all _ ∅
    have d:Dn rk (kas_rev p 0 m) m:=λi j a1 b1=>by rw[rv i ∅,rv j b1]; exact zu _
    refine zdn hc h0 (P.rev 0 m) ∅ ∅ (d.succ ∅ ?_) k;rw[rv (m-1) ∅,zc9 p (by rw[P.sz]; omega),zZ ∅];have:=all (m-1) ∅;omega
  .rw[zZ y]
   have:m=1:=by omega
   subst this;refine zdn hc h0 P ∅ ∅ (Dn.succ (λi j a1 b1=>by rw[show i=j from by omega]; exact zu _) ∅ ∅) k
theorem zdK(hc:Answers n rk cmp s)(h0:0<n){p:Array Nat}(P:Pm n p){G:Nat->Shared->Prop}{k:Nat}(u:Up rk p k):∀(f l r:Nat),l<=r->r<=k->r-l<=f->(∀i,i<l->R rk p i<=R rk p k)->(∀i,r<=i->i<k->R rk p k<R rk p i)->
  (∀l',l'<=k->(∀i,i<l'->R rk p i<=R rk p k)->(∀i,l'<=i->i<k->R rk p k<R rk p i)->G l' s)->(kas_place p k f l r).kasWp cmp G s
 | 0,l,r,a,b,c,d,e,g=>g l ∅ d (by rw[show l=r from by omega]; exact e)
 | f+1,l,r,a,b,c,d,e,g=>by
  unfold kas_place;by_cases z:l>=r
  .rw[zR z]
   exact g l ∅ d (by rw[show l=r from by omega]; exact e)
  .rw[zZ z]
   refine hc _ _ _ (P.lt h0 _) (P.lt h0 _) ?_;by_cases y:rk (p.getD k 0)<rk (p.getD ((l+r)/2) 0)
   .rw[kI y]; dsimp only; rw[if_pos rfl]
    refine zdK hc h0 P u f l _ ∅ ∅ ∅ d (λi a1 b1=>?_) g;exact zK y (u _ i a1 b1)
   .rw[jc y]; dsimp only; rw[if_neg (by simp)]
    refine zdK hc h0 P u f _ r ∅ b ∅ (λi a1=>?_) e g;exact zF (u i ((l+r)/2) ∅ ∅) (jR y)
theorem zjG(hc:Answers n rk cmp s)(h0:0<n){G:Array Nat->Shared->Prop}:∀(f:Nat) (p:Array Nat) (k:Nat),Pm n p->Up rk p k->k+f=n->(∀p',Pm n p'->Up rk p' n->G p' s)->(kas_bin f p k).kasWp cmp G s
 | 0,p,k,P,u,e,g=>g p P (by rw[<-e]; exact u)
 | f+1,p,k,P,u,e,g=>by
  unfold kas_bin;rw[wJ];refine zdK hc h0 P u k 0 k ∅ (zu _) ∅ (λi a=>by omega) (λi a b=>by omega) λl hl a b=>?_
  refine zjG hc h0 f _ (k+1) (P.bub _ _) (λi j i1 j1=>?_) ∅ g;have hk:k<p.size:=by rw[P.sz]; omega
  rw[zma p hk hl i,zma p hk hl j];by_cases x1:i=l
  .rw[zR x1]
   by_cases y1:j=l
   .rw[zR y1]; exact zu _
   .rw[zZ y1,zR ⟨by omega,by omega⟩]
    exact qL (b _ ∅ ∅)
  .rw[zZ x1]
   by_cases x2:l<i/\i<=k
   .rw[zR x2,zZ ∅,zR ⟨by omega,by omega⟩]
    exact u _ _ ∅ ∅
   .rw[zZ x2]
    by_cases y1:j=l
    .rw[zR y1]; exact a i ∅
    .rw[zZ y1]
     by_cases y2:l<j/\j<=k
     .rw[zR y2]; exact u _ _ ∅ ∅
     .rw[zZ y2]; exact u _ _ i1 ∅
def zmB(hc:Answers n rk cmp s)(h0:0<n){G:Array Nat->Shared->Prop}(g:∀p,p.size=n->p.toList.Perm (List.range n)->(∀i j,i<=j->j<n->rk (p.getD i 0)<=rk (p.getD j 0))->G p s):(kas_sort n).kasWp cmp G s:=by
 unfold kas_sort;rw[wJ];refine zlS hc h0 ⟨by simp,by simp⟩ λm p P a b u=>?_
 dsimp only;by_cases z:m<n
 .rw[zR z,show max m 1=m from by omega]
  exact zjG hc h0 _ p m P u ∅ λp' P' u'=>g p' P'.sz P'.pm u'
 .rw[zZ z]
  have:m=n:=by omega
  subst this;exact g p P.sz P.pm u
end
def zbC(x y:Str):Bool:=decide (x.cps.toList<y.cps.toList)
def zfm(x:Str):zbC x x=false:=jc (List.lt_irrefl _)
def zkG{x y z:Str}(a:zbC x y=true)(b:zbC y z=true):zbC x z=true:=kI (List.lt_trans (jW a) (jW b))
def zjg{x y:Str}(h:x≠y):zbC x y=true\/zbC y x=true:=by
 have hne:x.cps.toList≠y.cps.toList:=λe=>h (by cases x; cases y; simp at e; rw[e])
 by_cases a:x.cps.toList<y.cps.toList
 .exact .inl (kI a)
 .have b:y.cps.toList<=x.cps.toList:=List.not_lt.mp a
  refine .inr (kI ?_);by_cases c:y.cps.toList<x.cps.toList
  .exact c
  .exact absurd (List.le_antisymm (List.not_lt.mp c) b) hne
def lexS:List Str->List Str->Bool
 | [],[]=>false
 | [],_::_=>true
 | _::_,[]=>false
 | x::a,y::b=>if x=y then lexS a b else zbC x y
theorem zbo:∀a,lexS a a=false
 | []=>rfl
 | x::a=>by unfold lexS; rw[zR rfl]; exact zbo a
theorem zc0:∀{a b c:List Str},lexS a b=true->lexS b c=true->lexS a c=true
 | [],[],_,h,_=>by cases h
 | [],_::_,[],_,h=>by cases h
 | [],_::_,_::_,_,_=>rfl
 | _::_,[],_,h,_=>by cases h
 | _::_,_::_,[],_,h=>by cases h
 | x::a,y::b,z::c,h1,h2=>by
  unfold lexS at h1 h2 ⊢;by_cases e:x=y
  .subst e
   rw[zR rfl] at h1;by_cases f:x=z
   .rw[zR f] at h2 ⊢
    exact zc0 h1 h2
   .rw[zZ f] at h2 ⊢
    exact h2
  .rw[zZ e] at h1
   by_cases f:y=z
   .subst f
    rw[zZ e]; exact h1
   .rw[zZ f] at h2
    have t:=zkG h1 h2;by_cases g:x=z
    .subst g; rw[zfm] at t; cases t
    .rw[zZ g]; exact t
theorem zcr:∀{a b:List Str},a≠b->lexS a b=true\/lexS b a=true
 | [],[],h=>absurd rfl h
 | [],_::_,_=>.inl rfl
 | _::_,[],_=>.inr rfl
 | x::a,y::b,h=>by
  unfold lexS;by_cases e:x=y
  .subst e
   rw[zR rfl,zR rfl];exact zcr λz=>h (by rw[z])
  .rw[zZ e,zZ λz=>e z.symm]
   exact zjg e
def zjO{α:Type}{p q:α->Bool}(h:∀x,p x=true->q x=true){y:α}(hq:q y=true)(hp:p y=false):∀l:List α,y∈l->(l.filter p).length<(l.filter q).length:=by
 have le:∀l:List α,(l.filter p).length<=(l.filter q).length:=by
  intro l;induction l with
  | nil=>exact zu _
  | cons x l ih=>
   rw[jT,jT];cases e:p x with
   | true=>rw[h x e]; simp; exact ih
   | false=>cases q x<;>simp<;>omega
 intro l;induction l with
 | nil=>intro m; cases m
 | cons x l ih=>
  intro m;rw[jT,jT];rcases zf.mp m with rfl | m
  .rw[hq,hp]; simp; have:=le l; omega
  .have:=ih m
   cases e:p x with
   | true=>rw[h x e]; simp; exact this
   | false=>cases q x<;>simp<;>omega
def zbE(ks:List (List Str))(k:List Str):Nat:=(ks.filter λx=>lexS x k).length
def zhg{ks:List (List Str)}{a b:List Str}(ha:a∈ks)(h:lexS a b=true):zbE ks a<zbE ks b:=zjO (p:=λx=>lexS x a) (q:=λx=>lexS x b) (y:=a) (λx hx=>zc0 hx h) h (zbo a) ks ha
def zfL{ks:List (List Str)}{a b:List Str}(ha:a∈ks)(hb:b∈ks):decide (zbE ks a<zbE ks b)=lexS a b:=by
 cases e:lexS a b with
 | true=>exact kI (zhg ha e)
 | false=>
  refine jc λh=>?_
  by_cases z:a=b
  .subst z; omega
  .rcases zcr z with q | q
   .rw[e] at q; cases q
   .have:=zhg hb q; omega
def insK(k:List Str):List (List Str)->List (List Str)
 | []=>[k]
 | x::l=>if k=x then x::l else if lexS k x then k::x::l else x::insK k l
def u9(l:List (List Str)):List (List Str):=l.foldr insK []
def SUp(l:List (List Str)):Prop:=l.Pairwise λa b=>lexS a b=true
theorem insK_mem{k x:List Str}:∀{l:List (List Str)},x∈insK k l↔x=k\/x∈l
 | []=>by simp[insK]
 | y::l=>by
  unfold insK;by_cases e:k=y
  .subst e; simp
  .rw[zZ e]
   split
   .simp
   .rw[zf,insK_mem (l:=l),zf]
    constructor
    .rintro(h | h | h)
     .exact .inr (.inl h)
     .exact .inl h
     .exact .inr (.inr h)
    .rintro(h | h | h)
     .exact .inr (.inl h)
     .exact .inl h
     .exact .inr (.inr h)
theorem zhx{k:List Str}:∀{l:List (List Str)},SUp l->SUp (insK k l)
 | [],_=>wG _ _
 | y::l,u=>by
  obtain⟨u1,u2⟩:=j7.mp u;unfold insK;by_cases e:k=y
  .rw[zR e]; exact u
  .rw[zZ e]
   split
   .rename_i h
    refine j7.mpr ⟨λz hz=>?_,u⟩;rcases zf.mp hz with rfl | hz
    .exact h
    .exact zc0 h (u1 z hz)
   .rename_i h
    refine j7.mpr ⟨λz hz=>?_,zhx u2⟩;rcases insK_mem.mp hz with rfl | hz
    .rcases zcr e with q | q
     .exact absurd q h
     .exact q
    .exact u1 z hz
theorem zaQ:∀l,SUp (u9 l)
 | []=>List.Pairwise.nil
 | _::l=>zhx (zaQ l)
theorem ssort_mem{x:List Str}:∀{l},x∈u9 l↔x∈l
 | []=>Iff.rfl
 | y::l=>by
  show x∈insK y (u9 l)↔_
  rw[insK_mem,ssort_mem (l:=l),zf]
theorem zbe:∀{a b:List (List Str)},SUp a->SUp b->(∀x,x∈a↔x∈b)->a=b
 | [],[],_,_,_=>rfl
 | [],y::b,_,_,h=>by have:=(h y).mpr (zy ..); cases this
 | x::a,[],_,_,h=>by have:=(h x).mp (zy ..); cases this
 | x::a,y::b,ua,ub,h=>by
  obtain⟨a1,a2⟩:=j7.mp ua;obtain⟨b1,b2⟩:=j7.mp ub;have e:x=y:=by
   rcases zf.mp ((h x).mp (zy ..)) with e | m1
   .exact e
   .rcases zf.mp ((h y).mpr (zy ..)) with e | m2
    .exact e.symm
    .have:=zc0 (b1 x m1) (a1 y m2)
     rw[zbo] at this;cases this
  subst e;congr 1
  refine zbe a2 b2 λz=>⟨λm=>?_,λm=>?_⟩
  .rcases zf.mp ((h z).mp (zq _ m)) with e | m'
   .subst e; have:=a1 z m; rw[zbo] at this; cases this
   .exact m'
  .rcases zf.mp ((h z).mpr (zq _ m)) with e | m'
   .subst e; have:=b1 z m; rw[zbo] at this; cases this
   .exact m'
section
variable{prog:Program}{w:World}{A:Around}{E:Value->Shared->Prop}{s:Shared}
abbrev SK(prog:Program)(w:World):PySem.KeyKind prog w Str:=PySem.strKind prog w
def zbI(fin:Bool):List Str->List Str->Bool
 | x::a,y::b=>if x=y then zbI fin a b else zbC x y
 | _,_=>fin
theorem zf4:∀a b:List Str,zbI (decide (a.length<b.length)) a b=lexS a b
 | [],[]=>rfl
 | [],_::_=>by simp[zbI,lexS]
 | _::_,[]=>by simp[zbI,lexS]
 | x::a,y::b=>by
  unfold zbI lexS;have:decide ((x::a).length<(y::b).length)=decide (a.length<b.length):=by simp
  rw[this,zf4 a b]
theorem zeI{fin:Bool}{Q:Bool->Shared->Prop}:∀{ka kb:List Str} {xs ys:List Value} {i:Nat},ItemsAre (SK prog w) ka xs->ItemsAre (SK prog w) kb ys->Q (zbI fin ka kb) s->KatLex prog w A true fin Q (xs.zip ys) i s
 | [],kb,xs,ys,i,ha,hb,q=>by cases ha; exact kat_nil (by unfold zbI at q; exact q)
 | x::ka,[],xs,ys,i,ha,hb,q=>by cases hb; rw[List.zip_nil_right]; exact kat_nil (by unfold zbI at q; exact q)
 | x::ka,y::kb,xs,ys,i,ha,hb,q=>by
  cases ha with
  | @cons _ u _ xs h1 ha=>
   cases hb with
   | @cons _ v _ ys h2 hb=>
    rw[yC];refine kat_cons ((SK prog w).eqBool (a:=x) (b:=y) h1 h2 ?_);unfold zbI at q;by_cases e:x=y
    .rw[zR e] at q
     rw[kI e];exact kat_yes (zeI ha hb q)
    .rw[zZ e] at q
     rw[jc e];refine kat_no ?_;obtain⟨t,rfl⟩:=ww h1;obtain⟨t',rfl⟩:=ww h2;by_cases z:i=0
     .subst z
      exact oneLt_str q
     .have:(true&&i==0)=false:=by simp[z]
      rw[this];exact kat_one _ _ (PyProof.Rows.lt_str q)
def znS{ka kb:List Str}{x y:Addr}{Q:Bool->Shared->Prop}(ha:IsTupleKey (SK prog w) s.heap ka x)(hb:IsTupleKey (SK prog w) s.heap kb y)(q:Q (lexS ka kb) s):wpAny (model prog w) A (keyLt' (tuples' true) (.ref x) (.ref y)) Q E s:=by
 obtain⟨ox,xs,nx,e1,_,e2,i1⟩:=ha;obtain⟨oy,ys,ny,f1,_,f2,i2⟩:=hb;refine kat_lt e1 e2 f1 f2 (zeI i1 i2 ?_);have l1:=i1.length;have l2:=i2.length;have:decide (xs.size<ys.size)=decide (ka.length<kb.length):=by rw[l1,l2]; simp
 rw[this,zf4];exact q
def range_getD{α:Type}(l:List α)(d:α):(List.range l.length).map (λi=>l.getD i d)=l:=by
 apply wR
 .simp
 .intro i h1 h2
  simp[List.getD,h2]
theorem kat_tups{h:Heap}:∀{L:List (List Str×Addr)},(∀p∈L,IsTupleKey (SK prog w) h p.1 p.2/\p.1≠[])->∃fs,KatTups h (L.map λp=>Value.ref p.2) fs/\fs.length=L.length/\∀v∈fs,∃x t,v=Value.str x t
 | [],_=>⟨[],KatTups.nil,rfl,λv hv=>by cases hv⟩
 | p::L,hL=>by
  obtain⟨fs,a,b,c⟩:=kat_tups (L:=L) λq hq=>hL q (zq _ hq)
  obtain⟨⟨o,xs,n,e1,e2,e3,i1⟩,ne⟩:=hL p (zy ..);cases hk:p.1 with
  | nil=>exact absurd hk ne
  | cons k ks=>
   rw[hk] at i1;cases hx:xs.toList with
   | nil=>rw[hx] at i1; cases i1
   | cons v vs=>
    rw[hx] at i1;cases i1 with
    | cons h1 _=>
     obtain⟨t,rfl⟩:=ww h1;refine⟨Value.str k t::fs,KatTups.cons e1 e2 e3 ?_ a,by simp[b],λu hu=>?_⟩
     .have:xs.toList[0]?=some (Value.str k t):=by rw[hx]; rfl
      simpa using this
     .rcases zf.mp hu with rfl | hu
      .exact⟨_,_,rfl⟩
      .exact c u hu
inductive IsK(prog:Program)(w:World)(h:Heap):Bool->List Str->Value->Prop
 | text (x:Str) (t:Tok):IsK prog w h true [x] (.str x t)
 | tup {a:Addr} {k:List Str} (hk:IsTupleKey (SK prog w) h k a) (ne:k≠[]):IsK prog w h false k (.ref a)
def IsK.keep{b:Bool}{h h':Heap}{k:List Str}{v:Value}(i:IsK prog w h b k v)(q:∀a o,v=.ref a->h.get? a=some o->h'.get? a=some o):IsK prog w h' b k v:=by
 cases i with
 | text x t=>exact .text x t
 | tup hk ne=>
  obtain⟨o,its,m,e1,e2,e3,e4⟩:=hk;exact .tup ⟨o,its,m,q _ _ rfl e1,e2,e3,e4⟩ ne
def kdOf(b:Bool):SortKind:=match b with | true=>oneType' | false=>tuples' true
def zor{b:Bool}{ka kb:List Str}{u v:Value}{Q:Bool->Shared->Prop}(ha:IsK prog w s.heap b ka u)(hb:IsK prog w s.heap b kb v)(q:Q (lexS ka kb) s):wpAny (model prog w) A (keyLt' (kdOf b) u v) Q E s:=by
 cases ha with
 | text x t=>
  cases hb with
  | text y t'=>
   show wpAny _ _ (keyLt' oneType' _ _) _ _ _
   rw[keyLt'_oneType];refine oneLt_str ?_;have e:lexS [x] [y]=zbC x y:=by
    unfold lexS;split
    .rename_i z; subst z; rw[zfm]; rfl
    .rfl
   rw[e] at q;exact q
 | tup h1 _=>
  cases hb with
  | tup h2 _=>exact znS h1 h2 q
theorem zkD{b:Bool}{L:List (List Str×Value)}{Q:SortKind->Shared->Prop}(hL:∀p∈L,IsK prog w s.heap b p.1 p.2)(h2:2<=L.length)(q:Q (kdOf b) s):wpAny (model prog w) A (keyKind' (L.map (·.2)).toArray) Q E s:=by
 cases b with
 | true=>
  refine kas_kind (T:=.type "str") (by simpa using h2) (λv hv=>?_) (by decide) (by decide) q;obtain⟨⟨k,u⟩,p1,rfl⟩:=zz.mp hv;cases hL _ p1 with
  | text x t=>exact Looks.of_pure rfl
 | false=>
  have:∃L0:List (List Str×Addr),L.map (·.2)=L0.map (λp=>Value.ref p.2)/\L0.length=L.length/\∀p∈L0,IsTupleKey (SK prog w) s.heap p.1 p.2/\p.1≠[]:=by
   clear h2 q;induction L with
   | nil=>exact⟨[],rfl,rfl,λp hp=>by cases hp⟩
   | cons p L ih=>
    obtain⟨L0,a1,a2,a3⟩:=ih λq hq=>hL q (zq _ hq)
    obtain⟨k,v⟩:=p;cases hL _ (zy ..) with
    | @tup a _ hk ne=>exact⟨(k,a)::L0,by simp[a1],by simp[a2],λp hp=>by
      rcases zf.mp hp with rfl | hp
      .exact⟨hk,ne⟩
      .exact a3 p hp⟩
  obtain⟨L0,a1,a2,a3⟩:=this;obtain⟨fs,kt,kl,kv⟩:=kat_tups a3;rw[a1];refine kat_kind (T:=.type "str") kt ∅ (λv hv=>?_) (by decide) q;obtain⟨x,t,rfl⟩:=kv v hv;exact Looks.of_pure rfl
def sort_keys{b:Bool}{a:Addr}{L:List (List Str×Value)}{n:Nat}{P:PySem.Fin->Shared->Prop}(hobj:s.heap.get? a=some (seqObj "list" (L.map (·.2)).toArray n))(hL:∀p∈L,IsK prog w s.heap b p.1 p.2)(h64:L.length<64)
  (k:∀(L':List (List Str×Value)) (h':Heap) (n':Nat),L'.Perm L->(L'.map (·.1)).Pairwise (λx y=>lexS y x=false)->h'.get? a=some (seqObj "list" (L'.map (·.2)).toArray n')->(∀b o,b≠a->s.heap.get? b=some o->h'.get? b=some o)->P (.done (.ret .none)) { s with heap:=h' }) :
  wpAny (model prog w) A (Builtin.«list.sort» ⟨[.ref a],[]⟩) P E s:=by
 have lenV:(L.map (·.2)).length=L.length:=by simp
 have alt:a<s.heap.objs.size:=zJ hobj;rw[list_sort_plain];refine za (listItems_at hobj rfl (za (listUpdate_at hobj rfl ?_)));obtain⟨ep,obj1⟩:∃ep,(s.heap.update a (Obj.mapSeq λ_=>#[])).get? a=some (seqObj "list" #[] ep):=⟨_,get?_update_seq hobj (λ_=>#[])⟩;refine za (seqEpoch_at obj1 rfl (za (uL (za (wpAny_newList (jb ?_))))));let h3:Heap:=((s.heap.update a (Obj.mapSeq λ_=>#[])).push (seqObj "tuple" (L.map (·.2)).toArray 0)).push (seqObj "list" #[] 0)
 show wpAny (model prog w) A _ P E { s with heap:=h3 }
 have other:∀b o,b≠a->s.heap.get? b=some o->h3.get? b=some o:=λb o ne e=>by
  refine zc _ (zc _ ?_);rw[xx _ _ _ _ ne]; exact e
 have obj3:h3.get? a=some (seqObj "list" #[] ep):=zc _ (zc _ obj1)
 have tups:∀p∈L,IsK prog w h3 b p.1 p.2:=λp hp=>(hL p hp).keep λx o e1 e2=>other _ _ (λz=>by
  obtain⟨k,u⟩:=p;cases e1;cases hL _ hp with
  | tup hk _=>
   obtain⟨o,its,m,e1,e2,_⟩:=hk;rw[z,hobj] at e1;cases e1
   exact absurd (Value.type.inj (show Value.type "list" = Value.type "tuple" from e2)) (by decide)) e2
 have last:∀L':List (List Str×Value),L'.Perm L->(L'.map (·.1)).Pairwise (λx y=>lexS y x=false)->∀h',h'=h3.update a (Obj.mapSeq λ_=>(L'.map (·.2)).toArray)->P (.done (.ret .none)) { s with heap:=h' }:=λL' pe up h' e=>by
  obtain⟨n',on⟩:∃n',(h3.update a (Obj.mapSeq λ_=>(L'.map (·.2)).toArray)).get? a=some (seqObj "list" (L'.map (·.2)).toArray n'):=⟨_,get?_update_seq obj3 _⟩;subst e;exact k L' _ n' pe up on λb o ne q=>by rw[xx _ _ _ _ ne]; exact other b o ne q
 dsimp only;by_cases few:(L.map (·.2)).toArray.size<2
 .rw[zR few,zR few]
  refine za (zg ?_);rw[StateT.run_pure];refine za (zg ?_);dsimp only;have srt:(L.map (·.1)).Pairwise (λx y=>lexS y x=false):=by
   match L,few with
   | [],_=>exact List.Pairwise.nil
   | [x],_=>exact wG _ _
   | _::_::_,few=>simp at few; omega
  refine za (seqEpoch_at obj3 rfl ?_);refine za (listUpdate_at obj3 rfl ?_ (hsz2:=?_))
  .simp only[bne_self_eq_false,zQ,jt]
   refine zg (last L (qC _) srt _ ?_);show h3.update a (Obj.mapSeq λ_=>Array.map (·.2) (Array.zip _ _))=_
   congr 2
   funext _
   apply Array.toList_inj.mp
   simp[List.map_snd_zip]
  .refine zF (m:=L.length) ?_ (by rw[jD]; omega)
   show(Array.map (λx=>x.2) ((L.map (·.2)).toArray.zip (L.map (·.2)).toArray)).size<=L.length
   simp
 .rw[zZ few,zZ few]
  have two:2<=L.length:=by simp at few; omega
  refine za (zkD (s:={ s with heap:=h3 }) tups two ?_)
  .have gv:∀i,i<L.length->(L.map (·.2)).getD i Value.none=(L.getD i ([],.none)).2:=λi hi=>by simp[List.getD,hi]
   have mem:∀i,i<L.length->L.getD i ([],.none)∈L:=λi hi=>by simp[List.getD,hi]
   have kin:∀i,i<L.length->(L.getD i ([],.none)).1∈L.map (·.1):=λi hi=>zz.mpr ⟨_,mem i hi,rfl⟩
   refine za (jV (kat_run (s:={ s with heap:=h3 }) (ks:=L.map (·.2)) (vs:=L.map (·.2)) (κ:=kdOf b) (G:=λp s'=>s'={ s with heap:=h3 }/\p.toList.Perm (List.range L.length)/\∀i j,i<=j->j<L.length->zbE (L.map (·.1)) (L.getD (p.getD i 0) ([],.none)).1<=zbE (L.map (·.1)) (L.getD (p.getD j 0) ([],.none)).1)
    (Q:=λst' s'=>s'={ s with heap:=h3 }/\∃p:Array Nat,p.size=L.length/\arrOf st'=p.map (kas_item ((L.map (·.2)).toArray.zip (L.map (·.2)).toArray))/\failedOf st'=none/\p.toList.Perm (List.range L.length)/\∀i j,i<=j->j<L.length->zbE (L.map (·.1)) (L.getD (p.getD i 0) ([],.none)).1<=zbE (L.map (·.1)) (L.getD (p.getD j 0) ([],.none)).1)
    rfl ∅ ∅ (λp st' s' a1 a2 a3 a4=>⟨a4.1,p,a1.trans lenV,a2,a3,a4.2.1,a4.2.2⟩) ?_) ?_ λ_ _ e=>e)
   .rw[lenV]
    refine zmB (n:=L.length) (rk:=λi=>zbE (L.map (·.1)) (L.getD i ([],.none)).1) (λi j C hi hj hC=>?_) ∅ λp a1 a2 a3=>⟨rfl,a2,a3⟩
    unfold kas_ask;rw[gv i hi,gv j hj];refine zor (tups _ (mem i hi)) (tups _ (mem j hj)) ?_;rw[<-zfL (kin i hi) (kin j hj)];exact hC
   .rintro⟨⟨⟩,st'⟩ s' ⟨rfl,p,psz,har,hf,pp,up⟩
    dsimp only;have out:=kat_snds (ks:=L.map (·.2)) (vs:=L.map (·.2)) rfl har;have plt:∀i∈p.toList,i<L.length:=λi hi=>jY.mp (pp.mem_iff.mp hi)
    have out2:(arrOf st').map (·.2)=((p.toList.map λi=>L.getD i ([],.none)).map (·.2)).toArray:=by
     rw[out,kY];congr 1
     exact qm λi hi=>gv i (plt i hi)
    have pe:(p.toList.map λi=>L.getD i ([],.none)).Perm L:=by
     have:=pp.map λi=>L.getD i ([],.none)
     rw[range_getD] at this;exact this
    have srt:((p.toList.map λi=>L.getD i ([],.none)).map (·.1)).Pairwise (λx y=>lexS y x=false):=by
     rw[qU];intro i j hi hj hij;simp only[zL,zY] at hi hj;have e1:∀m,(hm:m<p.size)->((p.toList.map λi=>L.getD i ([],.none)).map (·.1))[m]'(by simpa using hm)=(L.getD (p.getD m 0) ([],.none)).1:=λm hm=>by simp[Array.getD,hm]
     rw[e1 i hi,e1 j hj];have le:=up i j ∅ ∅;have mi:p.getD i 0<L.length:=by simp only[Array.getD,hi,dite_true]; exact plt _ (by simp)
     have mj:p.getD j 0<L.length:=by simp only[Array.getD,hj,dite_true]; exact plt _ (by simp)
     rw[<-zfL (kin _ mj) (kin _ mi)];exact jc ∅
    rw[out2];refine za (seqEpoch_at obj3 rfl ?_);refine za (listUpdate_at obj3 rfl ?_ (hsz2:=?_))
    .rw[hf]
     simp only[bne_self_eq_false,zQ,jt];exact zg (last _ pe srt _ rfl)
    .rw[jD]
     simp;omega
end
theorem zcz{α:Type}:∀(l:List α) (i:Nat) (x:α),l[i]?=some x->l.Perm (x::l.eraseIdx i)
 | [],i,x,h=>by simp at h
 | y::l,0,x,h=>by simp at h; subst h; exact qC _
 | y::l,i+1,x,h=>by
  have:=zcz l i x (by simpa using h);rw[ur];exact(List.Perm.cons _ this).trans (List.Perm.swap _ _ _)
theorem zhu{α:Type}(next:Nat->Nat):∀(fuel k:Nat) (left:List α) (out:Array α),left.length<=fuel->(pickOrder.go next fuel k left out).toList.Perm (out.toList++left)
 | 0,k,left,out,h=>by
  have:left=[]:=uq.mp ∅;subst this;simp[pickOrder.go]
 | fuel+1,k,left,out,h=>by
  unfold pickOrder.go;cases left with
  | nil=>simp
  | cons y l=>
   have hlt:next k%(y::l).length<(y::l).length:=vV _ (by simp);obtain⟨x,hx⟩:∃x,(y::l)[next k%(y::l).length]?=some x:=⟨_,zO hlt⟩;rw[hx];dsimp only
   have ih:=zhu next fuel (k+1) ((y::l).eraseIdx (next k%(y::l).length)) (out.push x) (by
    rw[List.length_eraseIdx_of_lt hlt]; omega)
   refine ih.trans ?_;rw[Array.toList_push,wC];exact List.Perm.append_left _ (zcz _ _ _ hx).symm
def zeJ{α:Type}(next:Nat->Nat)(xs:Array α):(pickOrder next xs).toList.Perm xs.toList:=by
 unfold pickOrder;have:=zhu next xs.size 0 xs.toList #[] (by simp);simpa using this
section
variable{prog:Program}{w:World}{A:Around}{E:Value->Shared->Prop}{s:Shared}
def zpA{n:Nat}{Q:Nat->Shared->Prop}(hn:n≠0)(h:∀i d,i<n->Q i { s with drawn:=d }):wpAny (model prog w) A (choose .order n) Q E s:=by
 intro Γ p _;unfold choose;rw[Sem.wp_choose];refine⟨hn,?_⟩;rw[Sem.wp_pure];exact h _ _ (vV _ (uU hn))
theorem zhj{α:Type}:∀(n:Nat) (xs:List α) (s:Shared) {Q:List α->Shared->Prop},n=xs.length->(∀ys d,ys.Perm xs->Q ys { s with drawn:=d })->wpAny (model prog w) A (drawOrder n xs) Q E s
 | 0,xs,s,Q,e,h=>by
  have:xs=[]:=uq.mp e.symm;subst this;unfold drawOrder;have:=h [] s.drawn (qC _);exact zg this
 | n+1,[],s,Q,e,h=>by cases e
 | n+1,x::xs,s,Q,e,h=>by
  unfold drawOrder;refine za (zpA (by simp) λi d hi=>?_);obtain⟨y,hy⟩:∃y,(x::xs)[i]?=some y:=⟨_,zO hi⟩;rw[hy];dsimp only;refine wpAny_bind (zhj n ((x::xs).eraseIdx i) _ (by rw[List.length_eraseIdx_of_lt hi]; simp at e ⊢; omega) λys d' pe=>zg ?_);exact h (y::ys) d' ((List.Perm.cons _ pe).trans (zcz _ _ _ hy).symm)
def slotN:Slot "set_iterator" "__next__" "set_iterator.__next__":=.of (owner:="set_iterator") (n:="__next__") (by rw[wu,qR]; kernel_rfl) ⋯ ⋯ ⋯ (.inl ⋯) (by rw[wV]; kernel_rfl)
def entryN:entryFor table "set_iterator.__next__" = some Builtin.«set_iterator.__next__»:=entryFor_of_tree (by kernel_rfl)
def zlZ(a:Value):argsOk "set_iterator.__next__" ⟨[a],[]⟩:=by unfold argsOk; kernel_rfl
def entryI:entryFor table "set.__iter__" = some Builtin.«frozenset.__iter__»:=entryFor_alias (id':="frozenset.__iter__") (by kernel_rfl) rfl ⋯ (by kernel_rfl)
def IsSI(h:Heap)(I:Addr)(first:Value)(i:Nat)(a:Addr)(n ep:Nat):Prop:=h.get? I=some { cls:=.type "set_iterator",dict:=none,data:=.fields #[first,.int i 0,.ref a,.int n 0,.int ep 0],slots:=#[] }
def IsSI.typeIs{I:Addr}{first:Value}{i n ep:Nat}{a:Addr}(h:IsSI s.heap I first i a n ep):s.TypeIs (.ref I) "set_iterator":=⟨_,h,rfl⟩
def slotAt(t:SetTable)(i:Nat):Nat:=if i=0 then 0 else t.place.getD (i-1) 0+1
def zh3{t:SetTable}(U:t.place.toList.Pairwise (· < ·)){i:Nat}(hi:i<=t.place.size):SetTable.below t.place (slotAt t i)=i:=by
 by_cases z:i=0
 .subst z
  show SetTable.below t.place 0=0
  obtain⟨a,b,c⟩:=zbd (xs:=t.place) (j:=0) U;by_cases y:SetTable.below t.place 0=0
  .exact y
  .have:=b 0 ∅ ∅
   omega
 .have hlt:i-1<t.place.size:=by omega
  have e:slotAt t i=t.place[i-1]+1:=by unfold slotAt; rw[zZ z]; simp[Array.getD,hlt]
  rw[e];obtain⟨a,b,c⟩:=zbd (xs:=t.place) (j:=t.place[i-1]+1) U;have mono:=qU.mp U;rcases yM (SetTable.below t.place (t.place[i-1]+1)) i with q | q | q
  .have:=c (i-1) hlt ∅
   omega
  .exact q
  .have h1:i<t.place.size:=by omega
   have:=b i h1 q;have m:=mono (i-1) i (by simpa using hlt) (by simpa using h1) ∅;simp only[uK] at m;omega
structure SWk(t:SetTable)(es:Array (Int×Value)):Prop where
 fits:t.fits es.size=true
 up:(!t.plain&&decide (es.size>1))=false->t.place.toList.Pairwise (· < ·)
def SOk.swk{t:SetTable}{es:Array (Int×Value)}{R:List (Nat×(Int×Value))}(S:SOk t es.toList R):SWk t es:=⟨S.fits,λ_=>S.T.up⟩
def Md(w:World)(h:Heap)(a:Addr)(es:Array (Int×Value))(t:SetTable)(ep:Nat)(vs:List Value)(first:Value)(i:Nat):Prop:=
 (w.params.followText "set-order" = true/\first=.int 0 0/\vs=(pickOrder (w.params.setOrder a ep) es).toList.map (·.2)) \/
 (w.params.followText "set-order" = false/\(!t.plain&&decide (es.size>1))=true/\∃(T:Addr) (places:List Nat) (oT:Obj) (m:Nat),first=.ref T/\h.get? T=some oT/\oT.data=.seq (places.map λj=>Value.int (j:Nat) 0).toArray m/\vs=places.map (λj=>(es.toList.getD j (0,.none)).2)/\∀j∈places,j<es.size) \/
 (w.params.followText "set-order" = false/\(!t.plain&&decide (es.size>1))=false/\t.led=true/\first=.int (slotAt t i:Nat) 0/\vs=es.toList.map (·.2))
def zbX{Q:Bool->Shared->Prop}(h:Q (w.params.followText "set-order") s):wpAny (model prog w) A setsByText Q E s:=by
 unfold setsByText;exact za (ug (zg h))
def zfo{I:Addr}{oi:Obj}{fs:Array Value}{Q:Array Value->Shared->Prop}(e1:s.heap.get? I=some oi)(e3:oi.data=.fields fs)(h:Q fs s):wpAny (model prog w) A (fieldsOf (.ref I)) Q E s:=by
 unfold fieldsOf;refine za (yJ e1 ?_);rw[e3];exact zg h
def zbV{α:Type}{c:Bool}{X Y:Sem α}{Q:α->Shared->Prop}(hc:c=false)(h:wpAny (model prog w) A Y Q E s):wpAny (model prog w) A (if c=true then X else Y) Q E s:=by
 rw[hc,zZ (by simp)]; exact h
def ze9{a:Addr}{o:Obj}{es:Array (Int×Value)}{ep i slot:Nat}{t:SetTable}{Q:Option (Value×Nat)->Shared->Prop}(ho:s.heap.get? a=some o)(hd:o.data=.set es ep t)(S:SWk t es)(m1:w.params.followText "set-order" = true)
  (q:Q (((pickOrder (w.params.setOrder a ep) es)[i]?).map λe=>(e.2,slot)) s):wpAny (model prog w) A (setNext a slot i ep) Q E s:=by
 unfold setNext;refine za (jM ho hd S.fits ?_);dsimp only;refine wpAny_bind (zbX ?_);rw[m1,if_pos rfl,if_neg (by simp)];refine za ?_;unfold setWalk;refine za (jM ho hd S.fits ?_);dsimp only;refine wpAny_bind (zbX ?_);rw[m1,if_pos rfl];exact za (ug (zg (zg q)))
def ze3{a:Addr}{o:Obj}{es:Array (Int×Value)}{ep i:Nat}{t:SetTable}{Q:Option (Value×Nat)->Shared->Prop}(ho:s.heap.get? a=some o)(hd:o.data=.set es ep t)(S:SWk t es)(m1:w.params.followText "set-order" = false)
  (m2:(!t.plain&&decide (es.size>1))=false) (m4:t.led=true) (hi:i<=es.size) (q:Q (es[i]?.map λe=>(e.2,slotAt t (i+1))) s):wpAny (model prog w) A (setNext a (slotAt t i) i ep) Q E s:=by
 have lenP:t.place.size=es.size:=by
  have:=S.fits;unfold SetTable.fits at this;simp at this;exact this.1
 unfold setNext;refine za (jM ho hd S.fits ?_);dsimp only;refine wpAny_bind (zbX ?_);rw[m1,if_neg (by simp)];refine zbV m2 ?_;refine za (zl7 (v:=()) (zZ (by rw[m4]; simp)) ?_);rw[zh3 (S.up m2) ∅];refine zg ?_;by_cases z:i<es.size
 .have e1:es[i]?=some es[i]:=by simp[z]
  have e2:t.place[i]?=some t.place[i]:=by simp[show i<t.place.size by omega]
  rw[e1,e2];rw[e1] at q;have e3:slotAt t (i+1)=t.place[i]+1:=by unfold slotAt; rw[zZ ∅]; simp[Array.getD,show i<t.place.size by omega]
  rw[e3] at q;exact q
 .have e1:es[i]?=none:=by simp[jR z]
  rw[e1];rw[e1] at q;exact q
def zd7{I a:Addr}{n ep i nx:Nat}{old x:Value}{P:PySem.Fin->Shared->Prop}(hi:IsSI s.heap I old i a n ep)(hP:∀h',IsSI h' I (.int nx 0) (i+1) a n ep->Heap.SameBut I s.heap h'->P (.done (.ret x)) { s with heap:=h' }) :
  wpAny (model prog w) A (do
   setField (Value.ref I) 0 (rawInt nx)
   setField (Value.ref I) 1 (rawInt ((i:Int)+1))
   ret x) P E s:=by
 refine za (jo hi (by simp) λh1 g1 b1=>za (jo g1 (by simp) λh2 g2 b2=>zg (hP h2 ?_ (b1.trans b2))));exact g2
def zki{I a:Addr}{n ep i:Nat}{old x:Value}{P:PySem.Fin->Shared->Prop}(hi:IsSI s.heap I old i a n ep)(hP:∀h',IsSI h' I old (i+1) a n ep->Heap.SameBut I s.heap h'->P (.done (.ret x)) { s with heap:=h' }) :
  wpAny (model prog w) A (do
   setField (Value.ref I) 1 (rawInt ((i:Int)+1))
   ret x) P E s:=by
 refine za (jo hi (by simp) λh2 g2 b2=>zg (hP h2 ?_ b2));exact g2
def Md.step{a I:Addr}{es:Array (Int×Value)}{t:SetTable}{ep i:Nat}{vs:List Value}{T:Addr}{h h':Heap}(md:Md w h a es t ep vs (.ref T) i)(ne:T≠I)(sb:Heap.SameBut I h h'):Md w h' a es t ep vs (.ref T) (i+1):=by
 rcases md with ⟨m1,m2,m3⟩ | ⟨m1,m2,T',places,oT,m,e,t1,t2,m3,m4⟩ | ⟨m1,m2,m4,m5,m3⟩
 .cases m2
 .cases e
  exact .inr (.inl ⟨m1,m2,_,places,oT,m,rfl,(sb.2 _ ne).trans t1,t2,m3,m4⟩)
 .cases m5
def zmT{I a:Addr}{o:Obj}{es:Array (Int×Value)}{ep:Nat}{t:SetTable}{vs:List Value}{first x:Value}{i:Nat}{Q:Option Value->Shared->Prop}(ho:s.heap.get? a=some o)(hd:o.data=.set es ep t)(S:SWk t es)
  (hi:IsSI s.heap I first i a es.size ep) (md:Md w s.heap a es t ep vs first i) (hx:vs[i]?=some x) (hne:∀T,first=.ref T->T≠I)
  (k:∀first' h',IsSI h' I first' (i+1) a es.size ep->Md w h' a es t ep vs first' (i+1)->(∀T,first'=.ref T->first=.ref T)->Heap.SameBut I s.heap h'->Q (some x) { s with heap:=h' }):wpAny (model prog w) A (pyNext (.ref I)) Q E s:=by
 unfold pyNext;refine za (q9 (jq (name:=Str.ofString "__next__") hi.typeIs slotN (jj slotN hi.typeIs entryN ?_ (zlZ _))));unfold Builtin.«set_iterator.__next__»;refine za (show wpAny _ _ (slotArgs "__next__" 0 { pos:=[Value.ref I] }) _ _ _ from zg ?_);dsimp only;refine wpAny_bind (zfo hi rfl ?_);dsimp only;refine wpAny_bind (wpAny_setEntries_of ho hd S.fits ?_);rw[if_neg (by simp)];have lt:i<vs.length:=by
  obtain⟨q,_⟩:=zE.mp hx;exact q
 have md':=md;rcases md with ⟨m1,rfl,m3⟩ | ⟨m1,m2,T,places,oT,m,rfl,t1,t2,m3,m4⟩ | ⟨m1,m2,m4,rfl,m3⟩
 .dsimp only
  simp only[jl];refine za (ze9 (i:=i) (slot:=0) ho hd S m1 ?_);obtain⟨e,z1,rfl⟩:∃e,(pickOrder (w.params.setOrder a ep) es)[i]?=some e/\e.2=x:=by
   rw[m3,kJ] at hx;obtain⟨e,z1,z2⟩:=zj.mp hx;exact⟨e,by simpa using z1,z2⟩
  rw[z1];dsimp only[Option.map];exact zd7 hi λh' g b=>⟨_,rfl,zg (k _ h' g (.inl ⟨m1,rfl,m3⟩) (λT e=>by cases e) b)⟩
 .dsimp only
  refine za (jH t1 t2 ?_);dsimp only;simp only[Int.toNat_natCast];obtain⟨j,z1,z2⟩:∃j,places[i]?=some j/\(es.toList.getD j (0,.none)).2=x:=by
   rw[m3,kJ] at hx;obtain⟨e,z1,z2⟩:=zj.mp hx;exact⟨e,z1,z2⟩
  have jlt:=m4 j (qd z1);have e1:(places.map λj=>Value.int (j:Nat) 0).toArray[i]?=some (Value.int (j:Nat) 0):=by simp[z1]
  rw[e1];dsimp only;simp only[Int.toNat_natCast];refine za ?_;unfold setNextDrawn;refine za (jM ho hd S.fits ?_);dsimp only;rw[if_neg (by simp)];have e2:es[j]?=some (es.toList.getD j (0,.none)):=by simp[List.getD,jlt]
  rw[e2];dsimp only;refine wpAny_pure ?_;rw[z2];exact zki hi λh' g b=>⟨_,rfl,zg (k _ h' g (md'.step (hne _ rfl) b) (λ_ e=>e) b)⟩
 .dsimp only
  simp only[jl];rw[m3,zL,zY] at lt;refine za (ze3 (i:=i) ho hd S m1 m2 m4 ∅ ?_);obtain⟨e,z1,rfl⟩:∃e,es[i]?=some e/\e.2=x:=by
   rw[m3,kJ] at hx;obtain⟨e,z1,z2⟩:=zj.mp hx;exact⟨e,by simpa using z1,z2⟩
  rw[z1];dsimp only[Option.map];exact zd7 hi λh' g b=>⟨_,rfl,zg (k _ h' g (.inr (.inr ⟨m1,m2,m4,rfl,m3⟩)) (λT e=>by cases e) b)⟩
end
section
variable{prog:Program}{w:World}{A A':Around}{E:Value->Shared->Prop}{s:Shared}
def zdd{P:PySem.Fin->Shared->Prop}{Q:Option Value->Shared->Prop}(hh:A'.handled=none)(h:∀h',(∀b o,s.heap.get? b=some o->h'.get? b=some o)->Q none { s with heap:=h' }) :
  wpAny (model prog w) A' (do
   let e <-newExc (.type "StopIteration") []
   raiseNew e) P (λe s'=>wpAny (model prog w) A (do
    let b <-isInstance e (.type "StopIteration")
    if b=true then pure none else throw e) Q E s') s:=by
 refine za ?_;simp only[newExc,newTuple];refine za (kO ?_ (by size_fits));refine za (m:=firstArgMember _ _) (wj (a:=Value.none) (by first | rfl | (simp only[firstArgMember]; rfl)) (kO ?_ (by size_fits)));simp only[raiseNew];refine za (wpAny_handled ?_);rw[hh];refine za (zg (xf ?_));refine za (vD (T:="StopIteration") (b:=true) ⟨_,zA _ rfl,rfl⟩ uO ?_);exact zg (h _ λb o e=>zc _ (zc _ e))
def zmn{I a:Addr}{o:Obj}{es:Array (Int×Value)}{ep:Nat}{t:SetTable}{vs:List Value}{first:Value}{i:Nat}{Q:Option Value->Shared->Prop}(hh:A.handled=none)(ho:s.heap.get? a=some o)(hd:o.data=.set es ep t)(S:SWk t es)
  (hi:IsSI s.heap I first i a es.size ep) (md:Md w s.heap a es t ep vs first i) (hx:i=vs.length) (hv:vs.length=es.size)
  (k:∀h',(∀b o,b≠I->s.heap.get? b=some o->h'.get? b=some o)->Q none { s with heap:=h' }):wpAny (model prog w) A (pyNext (.ref I)) Q E s:=by
 unfold pyNext;refine za (q9 (jq (name:=Str.ofString "__next__") hi.typeIs slotN (jj slotN hi.typeIs entryN ?_ (zlZ _))));unfold Builtin.«set_iterator.__next__»;refine za (show wpAny _ _ (slotArgs "__next__" 0 { pos:=[Value.ref I] }) _ _ _ from zg ?_);dsimp only;refine wpAny_bind (zfo hi rfl ?_);dsimp only;refine wpAny_bind (wpAny_setEntries_of ho hd S.fits ?_);rw[if_neg (by simp)];have hh1:A.in1.handled=none:=by simpa using hh
 rcases md with ⟨m1,rfl,m3⟩ | ⟨m1,m2,T,places,oT,m,rfl,t1,t2,m3,m4⟩ | ⟨m1,m2,m4,rfl,m3⟩
 .dsimp only
  simp only[jl];refine za (ze9 (i:=i) (slot:=0) ho hd S m1 ?_);have z1:(pickOrder (w.params.setOrder a ep) es)[i]?=none:=by
   have:=(zeJ (w.params.setOrder a ep) es).length_eq;rw[zY,zY] at this;simp; omega
  rw[z1];dsimp only[Option.map];refine za (jo hi (by simp) λh1 g1 b1=>?_);exact zdd hh1 λh' e=>k h' λb o ne q=>e b o ((b1.2 b ne).trans q)
 .dsimp only
  refine za (jH t1 t2 ?_);dsimp only;simp only[Int.toNat_natCast];have e1:(places.map λj=>Value.int (j:Nat) 0).toArray[i]?=none:=by
   have:=ju List.length m3;rw[zL] at this;simp; omega
  rw[e1];dsimp only;refine za (jo hi (by simp) λh1 g1 b1=>?_);refine za (jo g1 (by simp) λh2 g2 b2=>?_);exact zdd hh1 λh' e=>k h' λb o ne q=>e b o (((b1.trans b2).2 b ne).trans q)
 .dsimp only
  simp only[jl];refine za (ze3 (i:=i) ho hd S m1 m2 m4 ∅ ?_);have z1:es[i]?=none:=by simp; omega
  rw[z1];dsimp only[Option.map];refine za (jo hi (by simp) λh1 g1 b1=>?_);exact zdd hh1 λh' e=>k h' λb o ne q=>e b o ((b1.2 b ne).trans q)
def zdR{α:Type}{c:Bool}{X Y:Sem α}{Q:α->Shared->Prop}(hc:c=true)(h:wpAny (model prog w) A X Q E s):wpAny (model prog w) A (if c=true then X else Y) Q E s:=by
 rw[hc,zR rfl]; exact h
def zjC:Slot "set_iterator" "__iter__" "set_iterator.__iter__":=.of (owner:="set_iterator") (n:="__iter__") (by rw[wu,qR]; kernel_rfl) ⋯ ⋯ ⋯ (.inl ⋯) (by rw[wV]; kernel_rfl)
def zm5:entryFor table "set_iterator.__iter__" = some Builtin.«dict_keyiterator.__iter__»:=entryFor_alias (id':="dict_keyiterator.__iter__") (by kernel_rfl) rfl ⋯ (by kernel_rfl)
def zo4(a:Value):argsOk "set_iterator.__iter__" ⟨[a],[]⟩:=by unfold argsOk; kernel_rfl
def zjj(hh:A.handled=none){I a:Addr}{es:Array (Int×Value)}{ep:Nat}{t:SetTable}{vs:List Value}(S:SWk t es)(hv:vs.length=es.size)(hne:a≠I)(fp:List Addr)(hI:I∈fp)(ha:a∈fp) :
  Walks prog w A I fp [I] vs.length (λi v=>vs[i]?=some v) (λi h=>∃o first,h.get? a=some o/\o.data=.set es ep t/\IsSI h I first i a es.size ep/\Md w h a es t ep vs first i/\∀T,first=.ref T->T≠I/\T∈fp) where
 sub:=λb hb=>by simp at hb; rw[hb]; exact hI
 frame:=λi h h' st hk=>by
  obtain⟨o,first,h1,h2,h3,h4,h5⟩:=st;refine⟨o,first,hk a ha _ h1,h2,hk I hI _ h3,?_,h5⟩;rcases h4 with m | ⟨m1,m2,T,places,oT,m,e,t1,t2,m3,m4⟩ | m
  .exact .inl m
  .exact .inr (.inl ⟨m1,m2,T,places,oT,m,e,hk T (h5 T e).2 _ t1,t2,m3,m4⟩)
  .exact .inr (.inr m)
 item:=λi s Q E hi st hQ=>by
  obtain⟨o,first,h1,h2,h3,h4,h5⟩:=st;have hx:vs[i]?=some vs[i]:=by simp[hi]
  refine zmT h1 h2 S h3 h4 hx (λT e=>(h5 T e).1) λfirst' h' g1 g2 g3 sb=>?_
  refine hQ vs[i] h' s.toks hx ⟨o,first',(sb.2 a hne).trans h1,h2,g1,g2,λT e=>h5 T (g3 T e)⟩ λb o' hb e=>(sb.2 b (by simpa using hb)).trans e
 done:=λs Q E st hQ=>by
  obtain⟨o,first,h1,h2,h3,h4,h5⟩:=st;exact zmn hh h1 h2 S h3 h4 rfl hv λh' e=>hQ h' s.toks λb o hb q=>e b o (by simpa using hb) q
 self:=λi s Q E st hQ=>by
  obtain⟨o,first,h1,h2,h3,h4,h5⟩:=st;refine xU h3.typeIs zjC (jj zjC h3.typeIs zm5 ?_ (zo4 _));show wpAny _ _ (ret (.ref I)) _ _ s
  exact zg ⟨_,rfl,"set_iterator",_,h3.typeIs,slotN.lookup,hQ⟩
def zlu{a:Addr}{o:Obj}{es:Array (Int×Value)}{ep:Nat}{t:SetTable}{Q:Value->Shared->Prop}(ho:s.heap.get? a=some o)(hc:o.cls=.type "set")(hd:o.data=.set es ep t)(S:SWk t es)(hled:t.led = !w.params.followText "set-order")(hz:es.size<=4000)
  (k:∀I first h' d vs,s.heap.objs.size<=I->IsSI h' I first 0 a es.size ep->Md w h' a es t ep vs first 0->vs.Perm (es.toList.map (·.2))->(∀T,first=.ref T->T≠I/\s.heap.objs.size<=T/\T<h'.objs.size)->(∀b o,s.heap.get? b=some o->h'.get? b=some o)->Q (.ref I) { s with heap:=h',drawn:=d }) :
  wpAny (model prog w) A (pyIter (.ref a)) Q E s:=by
 have hT:s.TypeIs (.ref a) "set":=⟨o,ho,hc⟩;refine xU hT F.slot_set_iter (jj F.slot_set_iter hT entryI ?_ (F.args_set_iter_1 _));unfold Builtin.«frozenset.__iter__»;refine za (show wpAny _ _ (Builtin.Frozenset.slot0 "__iter__" { pos:=[Value.ref a] }) _ _ _ from za (zg (zg ?_)));unfold Builtin.Frozenset.sizeOf;refine za (za (wpAny_setEntries_of ho hd S.fits (zg ?_)));unfold setDrawn;refine za (za (jM ho hd S.fits ?_));dsimp only;refine za (zbX ?_);refine zg ?_
 have num:∀vs,Md w s.heap a es t ep vs (.int 0 0) 0->vs.Perm (es.toList.map (·.2))->wpAny (model prog w) A.in1 (do
   let first <-pure (rawInt 0)
   let e <-setEpoch a
   let it <-newFields "set_iterator" [first,rawInt 0,Value.ref a,rawInt es.size,rawInt e]
   ret it) (λfin s'=>∃v,fin=Fin.done (Flow.ret v)/\∃T' r,s'.TypeIs v T'/\typeLookup (Value.type T') (Str.ofString "__next__")=pure (some r)/\Q v s') E s:=by
  intro vs md pe;refine za (zg ?_);refine za (wpAny_setEpoch_of ho hd S.fits ?_);refine za (kO ?_);refine zg ⟨_,rfl,"set_iterator",_,⟨_,zA _ rfl,rfl⟩,slotN.lookup,?_⟩;refine k s.heap.objs.size (.int 0 0) _ s.drawn vs (zu _) (zA _ rfl) ?_ pe (λT e=>by cases e) λb o e=>zc _ e
  rcases md with m | ⟨m1,m2,T,places,oT,m,e,_⟩ | m
  .exact .inl m
  .cases e
  .exact .inr (.inr m)
 by_cases bt:w.params.followText "set-order" = true
 .refine zbV (by rw[bt]; rfl) ?_
  exact num _ (.inl ⟨bt,rfl,rfl⟩) ((zeJ _ es).map _)
 .have bt:w.params.followText "set-order" = false:=by simpa using bt
  by_cases dr:(!t.plain&&decide (es.size>1))=true
  .refine zdR (show(!w.params.followText "set-order" && (!t.plain&&decide (es.size>1)))=true by rw[bt,dr]; rfl) ?_
   refine za (zhj es.size (List.range es.size) s (by simp) λys d pe=>?_);refine za (uL ?_ (by rw[zL,pe.length_eq,yP,jD]; omega));have ho2:(s.heap.push { cls:=.type "tuple",data:=.seq (ys.map λ(i:Nat)=>rawInt (i:Int)).toArray }).get? a=some o:=zc _ ho;refine za (wpAny_setEpoch_of (s:={ s with heap:=s.heap.push { cls:=.type "tuple",data:=.seq (ys.map λ(i:Nat)=>rawInt (i:Int)).toArray },drawn:=d }) ho2 hd S.fits ?_);refine za (kO ?_);refine zg ⟨_,rfl,"set_iterator",_,⟨_,zA _ rfl,rfl⟩,slotN.lookup,?_⟩;have sz:(s.heap.push { cls:=.type "tuple",data:=.seq (ys.map λ(i:Nat)=>rawInt (i:Int)).toArray }).objs.size=s.heap.objs.size+1:=jK ..;refine k (s.heap.push { cls:=.type "tuple",data:=.seq (ys.map λ(i:Nat)=>rawInt (i:Int)).toArray }).objs.size (.ref s.heap.objs.size) _ d (ys.map λj=>(es.toList.getD j (0,.none)).2) (by rw[sz]; omega) (zA _ rfl) ?_ ?_ (λT e=>?_) λb o e=>zc _ (zc _ e)
   .refine .inr (.inl ⟨bt,dr,s.heap.objs.size,ys,_,_,rfl,zc _ (zA _ rfl),rfl,rfl,λj hj=>?_⟩)
    exact jY.mp (pe.mem_iff.mp hj)
   .have:=pe.map λj=>(es.toList.getD j (0,Value.none)).2
    refine this.trans ?_;have e2:=ju (List.map (λ(x:Int×Value)=>x.2)) (range_getD es.toList (0,Value.none));rw[kY,zY] at e2;exact List.Perm.of_eq e2
   .cases e
    refine⟨by rw[sz]; exact zP (jQ _),zu _,?_⟩;rw[jK,sz]; exact jy (jQ _)
  .have dr:(!t.plain&&decide (es.size>1))=false:=by simpa using dr
   refine zbV (show(!w.params.followText "set-order" && (!t.plain&&decide (es.size>1)))=false by rw[dr]; simp) ?_;exact num _ (.inr (.inr ⟨bt,dr,by rw[hled,bt]; rfl,rfl,rfl⟩)) (qC _)
end
theorem ziy(t:SetTable)(es:Array (Int×Value))(h:Int)(x:Value):(layNew t es h x).2.1.led=t.led:=by
 unfold layNew;split
 .dsimp only
  unfold SetTable.orStandIn;split<;>rfl
 .rfl
def zjc(t:SetTable)(es:Array (Int×Value))(n:Nat):(relayAll t es n).2.1.led=t.led/\(t.plain=false->(relayAll t es n).2.1.plain=false):=by
 unfold relayAll;split
 .rename_i t' order e
  unfold SetTable.relaid SetTable.laid at e;obtain⟨ow,_,e⟩:=zp.mp e;cases e;dsimp only;split
  .exact⟨rfl,id⟩
  .exact⟨rfl,λ_=>rfl⟩
 .exact⟨rfl,λ_=>rfl⟩
section
variable{prog:Program}{w:World}{A:Around}{E:Value->Shared->Prop}{s:Shared}
noncomputable def hshX(prog:Program)(w:World)(p:List Str×Value):Int×Value:=((SK prog w).hash (p.1.headD ""),p.2)
def SetX(prog:Program)(w:World)(h:Heap)(a:Addr)(L:List (List Str×Value)):Prop:=
 ∃o es ep t,h.get? a=some o/\o.ExactSet/\o.data=.set es ep t/\t.fits es.size=true/\t.led = !w.params.followText "set-order" /\ (t.plain=false\/es.size=0)/\es.toList=L.map (hshX prog w)/\(L.map (·.1)).Nodup/\∀p∈L,IsK prog w h true p.1 p.2
def znh{h:Heap}{L:List (List Str×Value)}{es:List (Int×Value)}(e:es=L.map (hshX prog w))(hL:∀p∈L,IsK prog w h true p.1 p.2):ElemsOf (SK prog w) es:=by
 intro v hv;rw[e] at hv;obtain⟨⟨k,u⟩,p1,rfl⟩:=zz.mp hv;cases hL _ p1 with
 | text x t=>exact⟨⟨x,qH _ _ _ _,rfl⟩,rfl⟩
def zlU{a:Addr}{x:Str}{t:Tok}{L:List (List Str×Value)}{Q:Bool->Shared->Prop}(hS:SetX prog w s.heap a L)(hb:L.length<900)
  (h:∀added h' L',Heap.SameBut a s.heap h'->SetX prog w h' a L'->L'.Perm (if [x]∈L.map (·.1) then L else ([x],.str x t)::L)->Q added { s with heap:=h' }) :
  wpAny (model prog w) A (setAddHashed a (.str x t) ((SK prog w).hash x)) Q E s:=by
 obtain⟨o,es,ep,tb,ho,hex,hd,hf,hled,hpl,hL,nd,hT⟩:=id hS;have lenE:es.size=L.length:=by have:=ju List.length hL; simpa using this
 have hel:=znh hL hT;have hsc:(Value.str x t).scannable=true:=rfl;have hkey:(SK prog w).is x (.str x t)=true:=qH _ _ _ _;have eta:s={ s with heap:=s.heap }:=by cases s; rfl
 have hitem:∀e∈L,((SK prog w).is x (hshX prog w e).2=true↔e.1=[x]):=λe he=>by
  obtain⟨k,u⟩:=e;cases hT _ he with
  | text y t'=>
   constructor
   .intro q
    have:x=y:=(SK prog w).inj (.str y t') x y q (qH _ _ _ _);rw[this]
   .intro q
    cases q;exact qH _ _ _ _
 unfold setAddHashed setAddHashedIn;refine jb (za (jM ho hd hf ?_));dsimp only;rw[byScan_of hsc (by unfold scanBound; omega) hel];simp only[↓reduceIte];unfold setAddByScan;refine za ?_;refine za (qt ?_);refine za (wpAny_setScan_of hkey ho hd hf hel ?_);cases hr:List.findIdx? (λe=>(SK prog w).is x e.2) es.toList with
 | some j=>
  dsimp only;obtain⟨hj,hpj,_⟩:=List.findIdx?_eq_some_iff_getElem.mp hr;refine wpAny_pure (wpAny_pure ?_);rw[eta];refine h _ s.heap L (Heap.SameBut.refl a s.heap) hS ?_;obtain⟨e,e1,e2⟩:∃e∈L,hshX prog w e=es.toList[j]:=by
   have hm:=qZ hj;generalize es.toList[j]=y at hm;rw[hL] at hm;exact zz.mp hm
  rw[zR (zz.mpr ⟨e,e1,(hitem e e1).mp (by rw[e2]; exact hpj)⟩)]
 | none=>
  dsimp only;have absent:[x]∉L.map (·.1):=by
   intro hc;obtain⟨e,e1,e2⟩:=zz.mp hc;have:=List.findIdx?_eq_none_iff.mp hr (hshX prog w e) (by rw[hL]; exact zz.mpr ⟨e,e1,rfl⟩);rw[(hitem e e1).mpr e2] at this;cases this
  have hperm:=layNew_perm tb es ((SK prog w).hash x) (.str x t);have hfits:=layNew_fits tb es ((SK prog w).hash x) (.str x t);have hl1:=ziy tb es ((SK prog w).hash x) (.str x t);generalize hLy:layNew tb es ((SK prog w).hash x) (.str x t)=Ly at hperm hfits hl1 ⊢;obtain⟨es1,t1,wasDummy,gave⟩:=Ly;dsimp only at hperm hfits hl1 ⊢;have hgw:∀(b:Bool) {s₁:Shared} {Q':Unit->Shared->Prop},Q' () s₁->wpAny (model prog w) A (match b with | true=>rule "set.scan.the-table-gave-way" | false=>pure ()) Q' E s₁:=
   λb s₁ Q' hq=>by cases b<;>first | exact zg hq | exact qt hq
  refine za (hgw _ ?_);have hp2:(es.push ((SK prog w).hash x,Value.str x t)).toList.Perm ((([x],Value.str x t)::L).map (hshX prog w)):=by
   rw[Array.toList_push,hL,zH];exact(List.perm_append_singleton _ _)
  have store:∀{hh:Heap} {oo:Obj} {ee:Array (Int×Value)} {pp:Nat} {tt:SetTable} {es':Array (Int×Value)} {t':SetTable},hh.get? a=some oo->oo.ExactSet->oo.data=.set ee pp tt->es'.toList.Perm ((([x],Value.str x t)::L).map (hshX prog w))->t'.fits es'.size=true->t'.led=tb.led->t'.plain=false->
    (hh.update a (Obj.putSet es' t')).get? a=some { oo with data:=.set es' (pp+1) t' }/\∃L',L'.Perm (([x],Value.str x t)::L)/\SetX prog w (hh.update a (Obj.putSet es' t')) a L':=by
   intro hh oo ee pp tt es' t' g1 g2 g3 pe f1 f2 f3;have hg:(hh.update a (Obj.putSet es' t')).get? a=some { oo with data:=.set es' (pp+1) t' }:=by
    have:=jr (Obj.putSet es' t') g1 (by rw[xJ es' t' g3]; rfl);rw[xJ es' t' g3] at this; exact this
   obtain⟨L',p1,p2⟩:=zbQ pe.symm rfl;refine⟨hg,L',p1,_,es',pp+1,t',hg,g2,rfl,f1,f2.trans hled,.inl f3,p2.symm,((p1.map (·.1)).nodup_iff).mpr (jA.mpr ⟨absent,nd⟩),λp hp=>?_⟩;rcases zf.mp (p1.mem_iff.mp hp) with rfl | hp
   .exact .text x t
   .obtain⟨k,u⟩:=p
    cases hT _ hp with
    | text y t'=>exact .text y t'
  have sz1:es1.size=L.length+1:=by have:=(hperm.trans hp2).length_eq; simpa using this
  have fin:∀h' L',Heap.SameBut a s.heap h'->SetX prog w h' a L'->L'.Perm (([x],Value.str x t)::L)->Q true { s with heap:=h' }:=λh' L' sb ST q=>h _ h' L' sb ST (by rw[zZ absent]; exact q)
  have tail:∀t2:SetTable,t2.fits es1.size=true->t2.led=tb.led->t2.plain=false->∀{g:Bool->Sem Unit},(∀(b:Bool) {s₁:Shared} {Q':Unit->Shared->Prop},Q' () s₁->wpAny (model prog w) A (g b) Q' E s₁)->∀{R:Option Bool->Shared->Prop},(∀h',Q true { s with heap:=h' }->R (some true) { s with heap:=h' })->wpAny (model prog w) A (do
    storeSet a es1 t2
    if (!wasDummy&&t2.tooFull)=true then do
      g (relayAll t2 es1 (SetTable.grown es1.size)).2.2
      storeSet a (relayAll t2 es1 (SetTable.grown es1.size)).1 (relayAll t2 es1 (SetTable.grown es1.size)).2.1
      pure (some true)
     else pure (some true)) R E s:=by
   intro t2 f1 f2 f3 g hg R hR;refine za (wZ ho hd ?_ (by rw[sz1,jD]; omega));obtain⟨hg1,L1,p1,S1⟩:=store ho hex hd (hperm.trans hp2) f1 f2 f3;have sb1:=jL s.heap a (Obj.putSet es1 t2);split
   .have hp:=relayAll_perm t2 es1 (SetTable.grown es1.size)
    have hfr:=relayAll_fits t2 es1 (SetTable.grown es1.size);obtain⟨l1,l2⟩:=zjc t2 es1 (SetTable.grown es1.size);generalize relayAll t2 es1 (SetTable.grown es1.size)=Rl at hp hfr l1 l2 ⊢;obtain⟨es2,t3,gave2⟩:=Rl;dsimp only at hp hfr l1 l2 ⊢;have sz2:es2.size=L.length+1:=by have:=hp.length_eq; simp only[Array.length_toList] at this; omega
    refine za (hg _ ?_);refine za (wZ hg1 rfl ?_ (by rw[sz2,jD]; omega));obtain⟨_,L2,p2,S2⟩:=store hg1 hex rfl (hp.trans (hperm.trans hp2)) hfr (l1.trans f2) (l2 f3);exact zg (hR _ (fin _ L2 (sb1.trans (jL _ a _)) S2 p2))
   .exact zg (hR _ (fin _ L1 sb1 S1 p1))
  split
  .refine za ?_
   rw[hashByValue_scannable 8 hsc];refine zg ?_;refine tail _ ?_ ?_ ?_ ?_ ?_
   .exact SetTable.fits_plain_off hfits
   .exact hl1
   .rfl
   .intro b s₁ Q' hq; cases b<;>first | exact zg hq | exact qt hq
   .intro h' q; exact zg q
  .rename_i np
   refine za (zg ?_);simp only[↓reduceIte];refine tail _ hfits hl1 (by simpa using np) ?_ ?_
   .intro b s₁ Q' hq; cases b<;>first | exact zg hq | exact qt hq
   .intro h' q; exact zg q
def SetU(prog:Program)(w:World)(h:Heap)(a:Addr):Bool->List (List Str×Value)->Prop
 | true,L=>SetX prog w h a L
 | false,L=>∃L0,SetT (SK prog w) h a L0/\L=L0.map (λp=>(p.1,Value.ref p.2))/\∀p∈L0,p.1≠[]
def SetU.raw{b:Bool}{h:Heap}{a:Addr}{L:List (List Str×Value)}(S:SetU prog w h a b L):∃o es ep t,h.get? a=some o/\o.ExactSet/\o.data=.set es ep t/\SWk t es/\t.led = !w.params.followText "set-order" /\ es.toList.map (·.2)=L.map (·.2)/\(L.map (·.1)).Nodup/\∀p∈L,IsK prog w h b p.1 p.2:=by
 cases b with
 | true=>
  obtain⟨o,es,ep,t,g1,g2,g3,g4,g5,g6,g7,g8,g9⟩:=S;refine⟨o,es,ep,t,g1,g2,g3,⟨g4,λq=>?_⟩,g5,by rw[g7,kY]; rfl,g8,g9⟩;have sz:t.place.toList.length<=1:=by
   unfold SetTable.fits at g4;simp at g4 q;rw[zY];rcases g6 with g6 | g6
   .have:=q g6; omega
   .omega
  match h:t.place.toList,sz with
  | [],_=>exact .nil
  | [x],_=>exact wG _ _
 | false=>
  obtain⟨L0,⟨o,es,ep,t,R,g1,g2,g3,g4,g5,g6,g7,g8,g9⟩,rfl,ne⟩:=S;refine⟨o,es,ep,t,g1,g2,g3,g6.swk,g5,by rw[g7,kY,kY]; rfl,by rw[kY]; exact g8,λp hp=>?_⟩;obtain⟨q,q1,rfl⟩:=zz.mp hp;exact .tup (g9 q q1) (ne q q1)
def SetU.kept{b:Bool}{h h':Heap}{a:Addr}{L:List (List Str×Value)}(S:SetU prog w h a b L)(k1:∀o,h.get? a=some o->h'.get? a=some o)(k2:∀p∈L,∀x o,p.2=.ref x->h.get? x=some o->h'.get? x=some o):SetU prog w h' a b L:=by
 cases b with
 | true=>
  obtain⟨o,es,ep,t,g1,g2,g3,g4,g5,g6,g7,g8,g9⟩:=S;exact⟨o,es,ep,t,k1 _ g1,g2,g3,g4,g5,g6,g7,g8,λp hp=>(g9 p hp).keep λx o=>k2 p hp x o⟩
 | false=>
  obtain⟨L0,⟨o,es,ep,t,R,h1,h2,h3,h4,h5,h6,h7,h8,h9⟩,rfl,ne⟩:=S;refine⟨L0,⟨o,es,ep,t,R,k1 _ h1,h2,h3,h4,h5,h6,h7,h8,λp hp=>?_⟩,rfl,ne⟩;obtain⟨ob,its,m,e1,e2,e3,e4⟩:=h9 p hp;exact⟨ob,its,m,k2 _ (zz.mpr ⟨p,hp,rfl⟩) _ _ rfl e1,e2,e3,e4⟩
theorem SetU.fresh{b:Bool}{h:Heap}{a:Addr}(e:h.get? a=some { cls:=.type "set",dict:=none,data:=.set #[] 0 (.fresh 0 0 (!w.params.followText "set-order")) }):SetU prog w h a b []:=by
 cases b with
 | true=>exact⟨_,#[],0,_,e,⟨rfl,rfl,rfl⟩,rfl,rfl,rfl,.inr rfl,rfl,qz,λp hp=>(by cases hp)⟩
 | false=>
  have T:TOk (SetTable.fresh 0 0 (!w.params.followText "set-order")):=⟨rfl,List.Pairwise.nil,λj hj=>(by cases hj),⟨3,zu _,rfl⟩,j8 _⟩;have S:SOk (SetTable.fresh 0 0 (!w.params.followText "set-order")) [] []:=⟨T,rfl,rfl,λr hr=>(by cases hr),show 0*5<7*3 by decide⟩;exact⟨[],⟨_,#[],0,_,[],e,⟨rfl,rfl,rfl⟩,rfl,show 7<=8191 by decide,rfl,S,rfl,qz,λp hp=>(by cases hp)⟩,rfl,λp hp=>(by cases hp)⟩
def zni{b:Bool}{a:Addr}{v:Value}{k:List Str}{L:List (List Str×Value)}{Q:Bool->Shared->Prop}(hu:A.units<cLine)(hS:SetU prog w s.heap a b L)(hk:IsK prog w s.heap b k v)(hb:L.length<900)
  (h:∀added h' tk L',Heap.SameBut a s.heap h'->s.toks<=tk->SetU prog w h' a b L'->L'.Perm (if k∈L.map (·.1) then L else (k,v)::L)->Q added { s with heap:=h',toks:=tk }) :
  wpAny (model prog w) A (setAdd a v) Q E s:=by
 unfold setAdd;cases hk with
 | text x t=>
  refine jb (za ((SK prog w).pyHash (k:=x) (qH _ _ _ _) ?_));exact zlU (s:={ s with toks:=s.toks+1 }) hS hb λadded h' L' sb ST pe=>h added h' _ L' sb (xn _ _) ST pe
 | @tup x k hk ne=>
  obtain⟨L0,S0,rfl,n0⟩:=hS;refine jb (za (wpAny_pyHash_tuple hu hk ?_));refine znu (knd:=SK prog w) (s:={ s with toks:=s.toks+(k.length+1) }) (L:=L0) hu S0 hk (by simpa using hb) λadded h' L' sb ST pe=>?_
  have e:((L0.map λp=>(p.1,Value.ref p.2)).map (·.1))=L0.map (·.1):=by rw[kY]; rfl
  refine h added h' _ (L'.map λp=>(p.1,Value.ref p.2)) sb (xn _ _) ⟨L',ST,rfl,λp hp=>?_⟩ ?_
  .have:=pe.mem_iff.mp hp
   split at this
   .exact n0 p this
   .rcases zf.mp this with rfl | this
    .exact ne
    .exact n0 p this
  .rw[e]
   refine(pe.map λp=>(p.1,Value.ref p.2)).trans ?_;split<;>exact qC _
end
section
variable{prog:Program}{w:World}{A:Around}{E:Value->Shared->Prop}{s:Shared}
def znx:typeLookup (.type "set") "__len__" = pure (some (.builtin "set.__len__")):=by rw[wu,qR]; kernel_rfl
def zlg{a:Addr}{Q:Bool->Shared->Prop}(hT:s.TypeIs (.ref a) "set")(h:Q false s):wpAny (model prog w) A (Builtin.List.listLengthHint (.ref a)) Q E s:=by
 unfold Builtin.List.listLengthHint;refine za (uA hT znx ?_);dsimp only;generalize hid:("set.__len__":String)=idl;rw[show splitId idl=some ("set","__len__") from by subst hid; decide +kernel];subst hid;dsimp only;refine wpAny_bind (wpAny_isInstance (b:=true) hT (by rw[isSubtype_type]; kernel_rfl) ?_);rw[zZ (by decide)];refine zdR ⋯ ?_;refine za (qp hT ?_);exact zg h
def zg0{b:Bool}{S:Addr}{L:List (List Str×Value)}{Q:List Value->Shared->Prop}(hh:A.handled=none)(hS:SetU prog w s.heap S b L)(hb:L.length<900)
  (k:∀(L':List (List Str×Value)) (s':Shared),L'.Perm L->(∀b o,s.heap.get? b=some o->s'.heap.get? b=some o)->s'.gens=s.gens->s'.os=s.os->s.heap.objs.size<=s'.heap.objs.size->Q (L'.map (·.2)) s'):wpAny (model prog w) A (collect (.ref S)) Q E s:=by
 obtain⟨o,es,ep,t,ho,hex,hd,S0,hled,hL,nd,hT⟩:=hS.raw;have lenE:es.size=L.length:=by have:=ju List.length hL; simpa using this
 have ltS:S<s.heap.objs.size:=zJ ho;unfold collect;refine za (yU (qb F.entry_proto_collect ?_));rw[jG F.plain_proto_collect _];show wpAny _ A.in1 (newList [] >>= λnl=>again (.builtin "list.__iadd__" ⟨[nl,.ref S],[]⟩)) _ _ s
 refine za (kO ?_);refine zg ⟨vd yj _,qb F.entry_list_iadd ?_⟩;rw[jG yj _];generalize hN:s.heap.objs.size=N;show wpAny _ A.in1 (Builtin.List.listExtendWith (.ref N) (.ref S) (.ref N)) _ _ _
 let h1:Heap:=s.heap.push { cls:=.type "list",data:=.seq ([]:List Value).toArray }
 have keep1:∀b o,s.heap.get? b=some o->h1.get? b=some o:=λb o e=>zc _ e
 have sz1:h1.objs.size=N+1:=by rw[<-hN]; exact jK ..
 have ho1:h1.get? S=some o:=keep1 _ _ ho;have obN:h1.get? N=some { cls:=.type "list",data:=.seq ([]:List Value).toArray }:=by rw[<-hN]; exact zA _ rfl
 have neS:N≠S:=by rw[<-hN]; exact(zP ltS).symm
 show wpAny _ A.in1 _ _ _ { s with heap:=h1 }
 have hTy:Shared.TypeIs { s with heap:=h1 } (.ref S) "set":=⟨o,ho1,hex.1⟩;unfold Builtin.List.listExtendWith;refine za (qp hTy ?_);refine zbV (by simp[Builtin.List.listSameRef,neS]) ?_;refine za (zlu (s:={ s with heap:=h1 }) ho1 hex.1 hd S0 hled ∅ λI first h2 d vs gI gSI gMd gPe gT gK=>?_);refine za (jb (zlg ⟨o,gK _ _ ho1,hex.1⟩ ?_));refine zdR ⋯ ?_;refine za (qt ?_);refine za ?_;show wpAny _ A.in1 (updateSeq N (·.push .none) >>= λ_=>updateSeq N (·.pop)) _ _ _
 have obN2:h2.get? N=some { cls:=.type "list",data:=.seq ([]:List Value).toArray }:=gK _ _ obN;refine za (vJ obN2 rfl ?_);have up1:=jr (Obj.mapSeq (·.push Value.none)) obN2 rfl;refine vJ up1 rfl ?_;have up2:=jr (Obj.mapSeq (·.pop)) up1 rfl;have off:∀b o,b≠N->h2.get? b=some o->((h2.update N (Obj.mapSeq (·.push Value.none))).update N (Obj.mapSeq (·.pop))).get? b=some o:=
  λb o ne e=>(j5 _ _ (jk ne)).trans ((j5 _ _ (jk ne)).trans e)
 let fp:List Addr:=I::S::(match first with | .ref T=>[T] | _=>[])
 have lenV:vs.length=es.size:=by have:=gPe.length_eq; simpa using this
 have gI':N+1<=I:=by rw[<-sz1]; exact gI
 have neI:S≠I:=λe=>by
  have:S<N:=by rw[<-hN]; exact ltS
  exact absurd gI' (by rw[<-e]; exact Nat.not_le.mpr (jy this))
 have nF:N∉fp:=by
  intro m;rcases zf.mp m with e | m
  .exact absurd gI' (by rw[<-e]; exact uG _)
  .rcases zf.mp m with e | m
   .exact neS e
   .cases first with
    | ref T=>
     have e:N=T:=by simpa using m
     have:=(gT T rfl).2.1;have this:N+1<=T:=by rw[<-sz1]; exact this
     exact absurd this (by rw[<-e]; exact uG _)
    | _=>simp at m
 have inF:∀T,first=.ref T->T∈fp:=λT e=>by
  subst e;exact zq _ (zq _ (by simp))
 have hh1:A.in1.handled=none:=by simpa using hh
 have W:=(zjj (prog:=prog) (w:=w) (A:=A.in1) hh1 (I:=I) (a:=S) (ep:=ep) (vs:=vs) S0 lenV neI fp (zy ..) (zq _ (zy ..))).toS;have mdK:Md w ((h2.update N (Obj.mapSeq (·.push Value.none))).update N (Obj.mapSeq (·.pop))) S es t ep vs first 0:=by
  rcases gMd with m | ⟨m1,m2,T,places,oT,m,e,t1,t2,m3,m4⟩ | m
  .exact .inl m
  .refine .inr (.inl ⟨m1,m2,T,places,oT,m,e,off _ _ (λz=>?_) t1,t2,m3,m4⟩)
   exact nF (z▸inF T e)
  .exact .inr (.inr m)
 have nI:I≠N:=λe=>nF (by rw[<-e]; exact zy ..)
 refine zg ⟨vd F.plain_extend_loop _,codeAny_extend_loopS W (by rw[jD]; omega) N nF (.ref N) vs.length 0 _ _ _ rfl (j8 _) ?_ up2 (ItemsOf.nil _) λs' acc c hmv hS' hacc=>?_⟩
 .exact⟨o,first,off _ _ (jk neS) (gK _ _ ho1),hd,off _ _ nI gSI,mdK,λT e=>⟨(gT T e).1,inF T e⟩⟩
 .show wpAny _ A (load N >>= _) _ _ s'
  refine za (yJ hS' ?_);have hacc2:acc.toList=vs:=by
   apply wR
   .rw[zY]; exact hacc.1
   .intro i a1 a2
    have this:vs[i]?=some acc.toList[i]:=hacc.2 i acc.toList[i] (by simp);rw[zO a2] at this;exact(zU this).symm
  have gPe2:(L.map (·.2)).Perm vs:=by rw[<-hL]; exact gPe.symm
  obtain⟨L',q1,q2⟩:=zbQ gPe2 rfl;refine zg ?_;show Q acc.toList s'
  rw[hacc2,<-q2];refine k L' s' q1 (λb ob e=>?_) hmv.gens hmv.os (by rw[hN]; exact qL (zJ hS'));refine hmv.heap b ob ?_ (off b ob ?_ (gK _ _ (keep1 _ _ e)))
  .intro m
   have lt:=zJ e;rw[hN] at lt;rcases zf.mp m with z | m
   .exact zP lt z
   .have z:b=I:=by simpa using m
    exact absurd gI' (by rw[<-z]; exact Nat.not_le.mpr (jy lt))
  .have lt:=zJ e
   rw[hN] at lt;exact zP lt
def zpN{l:List (List Str)}(nd:l.Nodup)(h:l.Pairwise λx y=>lexS y x=false):SUp l:=by
 unfold SUp;refine(List.Pairwise.and h nd).imp λ{x y} q=>?_
 rcases zcr q.2 with z | z
 .exact z
 .rw[q.1] at z; cases z
def zi2{b:Bool}{v:Value}{L:List (List Str×Value)}{Q:Value->Shared->Prop}(hb:L.length<64)(nd:(L.map (·.1)).Nodup)(tk:∀p∈L,IsK prog w s.heap b p.1 p.2)
  (hc:∀(E':Value->Shared->Prop) (Q':List Value->Shared->Prop),(∀(L':List (List Str×Value)) (s':Shared),L'.Perm L->(∀b o,s.heap.get? b=some o->s'.heap.get? b=some o)->s'.gens=s.gens->s'.os=s.os->s.heap.objs.size<=s'.heap.objs.size->Q' (L'.map (·.2)) s')->wpAny (model prog w) A.in1 (collect v) Q' E' s)
  (k:∀(D:Addr) (L':List (List Str×Value)) (n:Nat) (s':Shared),L'.Perm L->L'.map (·.1)=u9 (L.map (·.1))->s'.heap.get? D=some (seqObj "list" (L'.map (·.2)).toArray n)->s.heap.objs.size<=D->(∀b o,s.heap.get? b=some o->s'.heap.get? b=some o)->s'.gens=s.gens->s'.os=s.os->Q (.ref D) s') :
  wpAny (model prog w) A (call (.builtin "sorted") [v]) Q E s:=by
 refine Calls.call_function_entry kind_sorted plain_sorted entry_sorted (args_sorted1 _) ?_;unfold Builtin.«sorted»;refine za (m:=checkCount "sorted" 1 1 _) (zg ?_);refine za (hc _ _ λL1 s1 p1 k1 g1 o1 le1=>?_);refine za (wpAny_newList ?_ (by rw[zL,p1.length_eq,jD]; omega));have obD:(s1.heap.push (seqObj "list" (L1.map (·.2)).toArray 0)).get? s1.heap.objs.size=some (seqObj "list" (L1.map (·.2)).toArray 0):=zA _ rfl;have kp:∀b o,s.heap.get? b=some o->(s1.heap.push (seqObj "list" (L1.map (·.2)).toArray 0)).get? b=some o:=λb o e=>zc _ (k1 _ _ e)
 show wpAny _ _ _ _ _ { s1 with heap:=s1.heap.push (seqObj "list" (L1.map (·.2)).toArray 0) }
 refine za (jb (jj slot_list_sort ⟨_,obD,rfl⟩ entry_list_sort (sort_keys (L:=L1) obD (λp hp=>(tk p (p1.mem_iff.mp hp)).keep λx o _ e=>kp x o e) (by rw[p1.length_eq]; exact hb) λL2 h2 n2 p2 up ob2 off=>⟨_,rfl,?_⟩) (args_list_sort _)));refine zg ⟨_,rfl,k _ L2 n2 _ (p2.trans p1) ?_ ob2 le1 (λb o e=>off b o (λz=>?_) (kp _ _ e)) g1 o1⟩
 .have nd2:(L2.map (·.1)).Nodup:=(((p2.trans p1).map (·.1)).nodup_iff).mpr nd
  refine zbe (zpN nd2 up) (zaQ _) λx=>?_
  rw[ssort_mem];exact((p2.trans p1).map (·.1)).mem_iff
 .have lt:=zJ e
  rw[z] at lt;exact absurd lt (ud.mpr le1)
end
section
variable{prog:Program}{w:World}{A:Around}{E:Value->Shared->Prop}{s:Shared}
variable{R:Result->Shared->Prop}{I:Addr}{fp wr:List Addr}{G:Array GenState->Array GenState->Prop}{n:Nat}{P:Nat->Value->Prop}{St:Nat->Shared->Prop}
def ze4(W:WalksS prog w A.in1 I fp wr G n P St)(S:Addr)(hSf:S∉fp){b:Bool}(key:Nat->List Str)(ad:Nat->Value)(hval:∀i v,P i v->v=ad i)(hu:A.in1.units<cLine)(hb:n<890)(hw:∀j,j<n->∀x,ad j=.ref x->x∉wr/\x≠S) :
  ∀(k i:Nat) (s:Shared) (L:List (List Str×Value)),n-i=k->i<=n->St i s->SetU prog w s.heap S b L->L.length<=i->(∀x,x∈L.map (·.1)↔∃j,j<i/\key j=x)->(∀p∈L,∃j,j<i/\p=(key j,ad j))->(∀j,j<n->IsK prog w s.heap b (key j) (ad j))->
   (∀s' L',Moved (S::wr) G s s'->SetU prog w s'.heap S b L'->L'.length<=n->(∀x,x∈L'.map (·.1)↔∃j,j<n/\key j=x)->(∀p∈L',∃j,j<n/\p=(key j,ad j))->R (.ok (.ret .none)) s')->
   codeAny (model prog w) A (.builtin "set.update.loop" ⟨[.ref S,.ref I],[]⟩) R s:=by
 have hSw:S∉wr:=λh=>hSf (W.sub _ h)
 have up:∀b∈wr,b∈S::wr:=λb hb=>zq _ hb
 have stay:∀{i:Nat} {L:List (List Str×Value)} {s s':Shared},i<=n->SetU prog w s.heap S b L->(∀p∈L,∃j,j<i/\p=(key j,ad j))->Moved wr G s s'->SetU prog w s'.heap S b L:=λhi hS hp hm=>hS.kept (λo e=>hm.heap S o hSw e) λp mp x o q e=>by
  obtain⟨j,j1,rfl⟩:=hp p mp;exact hm.heap _ o (hw j ∅ x q).1 e
 have stayK:∀{s s':Shared},(∀j,j<n->IsK prog w s.heap b (key j) (ad j))->Moved wr G s s'->∀j,j<n->IsK prog w s'.heap b (key j) (ad j):=λhk hm j hj=>(hk j hj).keep λx o q e=>hm.heap _ _ (hw j hj x q).1 e
 intro k;induction k with
 | zero=>
  intro i s L hk hi hst hS hlen hmem hpa hkey hR;obtain rfl:i=n:=by omega
  refine qb yt ?_;rw[jG qT _];show wpAny _ A.in1 (pyNext (.ref I) >>= _) _ _ s; refine za (W.done s _ _ hst λs' hm=>?_)
  show wpAny _ A.in1 (ret Value.none) _ _ s'; exact zg (hR s' L (hm.mono up) (stay hi hS hpa hm) hlen hmem hpa)
 | succ k ih=>
  intro i s L hk hi hst hS hlen hmem hpa hkey hR;have hlt:i<n:=by omega
  refine qb yt ?_;rw[jG qT _];show wpAny _ A.in1 (pyNext (.ref I) >>= _) _ _ s; refine za (W.item i s _ _ hlt hst λv s' hP hst' hm=>?_)
  obtain rfl:=hval i v hP;have hS':=stay hi hS hpa hm;have hK':=stayK hkey hm;show wpAny _ A.in1 (holding [ad i] (setAdd S (ad i)) >>= _) _ _ s'; refine za (jb ?_)
  refine zni hu hS' (hK' i hlt) ∅ λadded h' tk L' sb le ST pe=>?_
  have hlen':L'.length<=i+1:=by
   rw[pe.length_eq];split
   .omega
   .simp only[zG]; omega
  have hmem':∀x,x∈L'.map (·.1)↔∃j,j<i+1/\key j=x:=λx=>by
   rw[(pe.map (·.1)).mem_iff];have st:(∃j,j<i+1/\key j=x)↔(∃j,j<i/\key j=x)\/key i=x:=by
    constructor
    .rintro⟨j,j1,j2⟩
     rcases jN (wB j1) with z | z
     .exact .inl ⟨j,z,j2⟩
     .subst z; exact .inr j2
    .rintro(⟨j,j1,j2⟩ | z)
     .exact⟨j,by omega,j2⟩
     .exact⟨i,by omega,z⟩
   rw[st,<-hmem x];split
   .rename_i c
    constructor
    .exact .inl
    .rintro(z | z)
     .exact z
     .rw[<-z]; exact c
   .rw[zH,zf]
    constructor
    .rintro(z | z)
     .exact .inr z.symm
     .exact .inl z
    .rintro(z | z)
     .exact .inr z
     .exact .inl z.symm
  have hpa':∀p∈L',∃j,j<i+1/\p=(key j,ad j):=λp mp=>by
   have:=pe.mem_iff.mp mp;split at this
   .obtain⟨j,j1,j2⟩:=hpa p this
    exact⟨j,by omega,j2⟩
   .rcases zf.mp this with z | z
    .exact⟨i,by omega,z⟩
    .obtain⟨j,j1,j2⟩:=hpa p z
     exact⟨j,by omega,j2⟩
  refine zg ⟨vd qT _,ih (i+1) _ L' ∅ hlt (W.frame _ s' _ _ hst' le λb hb o e=>?_) ST hlen' hmem' hpa' (λj hj=>?_) λs'' L2 hm'' ST2 z1 z2 z3=>?_⟩
  .rw[sb.2 b (λh:b=S=>hSf (by rw[<-h]; exact hb))]; exact e
  .exact(hK' j hj).keep λx o q e=>(sb.2 _ (hw j hj x q).2).trans e
  .refine hR s'' L2 (Moved.trans W.gtrans ((hm.mono up).then_heap le λb o hb e=>?_) hm'') ST2 z1 z2 z3
   rw[sb.2 b (λh:b=S=>hb (by rw[h]; exact zy))]; exact e
end
section
variable{prog:Program}{w:World}{A:Around}{E:Value->Shared->Prop}{s:Shared}
def zk5(a:Value){Q₁:Value->Shared->Prop}(h:Q₁ (.ref s.heap.objs.size) { s with heap:=s.heap.push { cls:=.type "set",dict:=none,data:=.set #[] 0 (.fresh 0 0 (!w.params.followText "set-order")) } }) :
  codeAny (model prog w) A (.call (.builtin "set.__new__") ⟨[.type "set",a],[]⟩) (wants Q₁ E) s:=by
 refine codeAny_of_tree ?_;show wpAny _ A.in1 (checkBuiltinCall "set.__new__" ⟨[.type "set",a],[]⟩ >>= λ_=>again (.builtin "set.__new__" ⟨[.type "set",a],[]⟩)) _ _ s
 refine za (wj (F.newCall_set_1 a) ?_);refine zg ⟨vd F.plain_set_new _,qb F.entry_set_new ?_⟩;rw[jG F.plain_set_new _]; unfold Builtin.«set.__new__» Builtin.Frozenset.newClass;have sub:=sub_set_self;obtain⟨hp,g,d,tk,os⟩:=s;dsimp only; wp_walk;refine ug (zg ?_); dsimp only;exact kO (zg h)
def zg1:isSubtype (.type "tuple") (.type "set")=pure false:=by rw[wV]; kernel_rfl
def zgu:isSubtype (.type "tuple") (.type "frozenset")=pure false:=by rw[wV]; kernel_rfl
set_option maxHeartbeats 3200000 in
def zkl{b:Bool}{l:Addr}{us:List Value}{Lk:List (List Str×Value)}{T:String}{Q:Value->Shared->Prop}(hT:T="list" \/ T="tuple")(hl:∃o n,s.heap.get? l=some o/\o.cls=.type T/\o.data=.seq us.toArray n)(hus:us=Lk.map (·.2))(hk:∀p∈Lk,IsK prog w s.heap b p.1 p.2)(hh:A.handled=none)(hb:Lk.length<890)(hu:A.units+10<cLine)
  (k:∀(L:List (List Str×Value)) (h':Heap) (tk:Nat),SetU prog w h' s.heap.objs.size b L->L.length<=Lk.length->(∀x,x∈L.map (·.1)↔x∈Lk.map (·.1))->(∀p∈L,p∈Lk)->(∀b o,s.heap.get? b=some o->h'.get? b=some o)->Q (.ref s.heap.objs.size) { s with heap:=h',toks:=tk }):wpAny (model prog w) A (call (.type "set") [.ref l]) Q E s:=by
 obtain⟨c,tl,hmro⟩:=vG.mro;have f1:=vG.made; have f2:=vG.sub;refine wpAny_call (codeAny_of_tree ?_);show wpAny _ _ (callAny (.type "set") _) _ _ _
 refine zg ⟨Code.quiet_builtin _ ⋯,qb F.entry_type_call ?_⟩;rw[Around.under_plain (weight_type_call_type "set" [.ref l] []) rfl];have f3:=vG.notType; have f4:=vG.canCreate; have f5:=F.typeCall_set_1 (.ref l);repeat (any_goals (first | assumption | wp_step))
 refine yx (zk5 (.ref l) (E:=E) (Q₁:=λobj s₁=>obj=.ref s.heap.objs.size/\s₁={ s with heap:=s.heap.push { cls:=.type "set",dict:=none,data:=.set #[] 0 (.fresh 0 0 (!w.params.followText "set-order")) } }) ⟨rfl,rfl⟩) λr s₁ hr=>?_
 cases r with
 | error e=>exact hr
 | ok fl=>
  cases fl with
  | ret obj=>
   obtain⟨rfl,rfl⟩:=hr;generalize hh1:s.heap.push { cls:=.type "set",dict:=none,data:=.set #[] 0 (.fresh 0 0 (!w.params.followText "set-order")) }=h1;have old:∀b o,s.heap.get? b=some o->h1.get? b=some o:=λb o e=>by rw[<-hh1]; exact zc _ e
   have sz:h1.objs.size=s.heap.objs.size+1:=by rw[<-hh1,jK]
   have hS:h1.get? s.heap.objs.size=some { cls:=.type "set",dict:=none,data:=.set #[] 0 (.fresh 0 0 (!w.params.followText "set-order")) }:=by rw[<-hh1]; exact zA _ rfl
   have hTy:Shared.TypeIs { s with heap:=h1 } (.ref s.heap.objs.size) "set":=⟨_,hS,rfl⟩;have g1:=vG.init.lookup; have g2:=vG.init.bind (.ref s.heap.objs.size);repeat (any_goals (first | assumption | wp_step))
   refine yx (codeAny_call_builtin (R:=wants (λr s₂=>r=.none/\∃L h' tk,s₂={ s with heap:=h',toks:=tk }/\SetU prog w h' s.heap.objs.size b L/\L.length<=Lk.length/\(∀x,x∈L.map (·.1)↔x∈Lk.map (·.1))/\(∀p∈L,p∈Lk)/\(∀b o,s.heap.get? b=some o->h'.get? b=some o)) E) vG.init.plain F.entry_set_init (check_set_init_1 hTy ?_)) λr₂ s₂ hr₂=>?_
   .obtain⟨⟨oc,od,odt,osl⟩,nl,hol,hcl,hdl⟩:=hl
    simp only at hcl hdl;subst hcl hdl;have hol':=old _ _ hol;have hlS:l<s.heap.objs.size:=zJ hol;have hh3:A.in1.in1.in1.handled=none:=by simp[hh]
    have hneI:l≠h1.objs.size:=zP (by rw[sz]; exact jy hlS);have hSf:s.heap.objs.size∉[h1.objs.size,l]:=by
     simp only[zf,zm,zV,yc];exact⟨zP (by rw[sz]; exact jQ _),vK hlS⟩
    have lenU:us.toArray.size=Lk.length:=by rw[hus]; simp
    have adlt:∀j,j<us.toArray.size->Lk.getD j ([],.none)∈Lk:=λj hj=>by
     rw[lenU] at hj;simp[List.getD,hj]
    have adl:∀j,j<us.toArray.size->∀x,(Lk.getD j ([],.none)).2=.ref x->x<s.heap.objs.size:=λj hj x e=>by
     have i:=hk _ (adlt j hj);generalize Lk.getD j ([],.none)=p at i e;obtain⟨k,v⟩:=p;cases e;cases i with
     | tup q _=>obtain⟨o,its,mm,e1,_⟩:=q; exact zJ e1
    have hw:∀j,j<us.toArray.size->∀x,(Lk.getD j ([],.none)).2=.ref x->x∉[h1.objs.size]/\x≠s.heap.objs.size:=λj hj x e=>by
     have:=adl j hj x e;refine⟨?_,zP this⟩;simp only[zf,zm,zV];exact zP (by rw[sz]; exact jy this)
    have hkey:∀(o:Obj) j,j<us.toArray.size->IsK prog w (h1.push o) b (Lk.getD j ([],.none)).1 (Lk.getD j ([],.none)).2:=λo j hj=>(hk _ (adlt j hj)).keep λx ob _ e=>zc _ (old _ _ e)
    have hval:∀(i:Nat) (v:Value),us.toArray[i]?=some v->v=(Lk.getD i ([],.none)).2:=λi v e=>by
     rw[hus,List.getElem?_toArray,kJ] at e;obtain⟨p,p1,p2⟩:=zj.mp e;simp[List.getD,p1,<-p2]
    have hu3:A.in1.in1.in1.units<cLine:=by simp; omega
    have S0:∀o,SetU prog w (h1.push o) s.heap.objs.size b []:=λo=>SetU.fresh (zc _ hS)
    have keys:∀x,(∃j,j<us.toArray.size/\(Lk.getD j ([],.none)).1=x)↔x∈Lk.map (·.1):=λx=>by
     constructor
     .rintro⟨j,j1,j2⟩
      exact zz.mpr ⟨_,adlt j j1,j2⟩
     .intro m
      obtain⟨p,p1,p2⟩:=zz.mp m;obtain⟨j,j1,j2⟩:=vg p1;exact⟨j,by rw[lenU]; exact j1,by simp[List.getD,j1,j2,p2]⟩
    have fin:∀{o:Obj} (s':Shared) (L':List (List Str×Value)),Moved [s.heap.objs.size,h1.objs.size] (λa b=>b=a) { s with heap:=h1.push o } s'->SetU prog w s'.heap s.heap.objs.size b L'->L'.length<=us.toArray.size->(∀x,x∈L'.map (·.1)↔∃j,j<us.toArray.size/\(Lk.getD j ([],.none)).1=x)->(∀p∈L',∃j,j<us.toArray.size/\p=((Lk.getD j ([],.none)).1,(Lk.getD j ([],.none)).2))->
      ∃L h' tk,s'={ s with heap:=h',toks:=tk }/\SetU prog w h' s.heap.objs.size b L/\L.length<=Lk.length/\(∀x,x∈L.map (·.1)↔x∈Lk.map (·.1))/\(∀p∈L,p∈Lk)/\(∀b o,s.heap.get? b=some o->h'.get? b=some o):=by
     intro o s' L' hm ST ln me pa;obtain⟨h',g',d',tk',os'⟩:=s';obtain rfl:g'=s.gens:=hm.gens;obtain rfl:d'=s.drawn:=hm.drawn;obtain rfl:os'=s.os:=hm.os;refine⟨L',h',tk',rfl,ST,by rw[<-lenU]; exact ln,λx=>(me x).trans (keys x),λp mp=>?_,λb o e=>?_⟩
     .obtain⟨j,j1,j2⟩:=pa p mp
      rw[j2];exact adlt j j1
     .have hb:=zJ e
      exact hm.heap b o (by simp only[zf,zm,zV,yc]; exact⟨zP hb,zP (by rw[sz]; exact jy hb)⟩) (zc _ (old _ _ e))
    rcases hT with rfl | rfl
    .have a1:=F.sub_list_set; have a2:=F.sub_list_frozenset
     have a3:(Value.type "list" == Value.type "dict")=false:=by decide
     have hl1:h1.IsList l us.toArray:=⟨_,hol',rfl,nl,rfl⟩;unfold Builtin.«set.__init__» noKeywords Builtin.Frozenset.updateFrom;generalize hPI:pyIter=PI;wp_walk
     subst hPI;refine q8 hl1 (za (yU ?_));refine ze4 ((xW hh3 _ l hneI us.toArray).toS) s.heap.objs.size hSf (λj=>(Lk.getD j ([],.none)).1) (λj=>(Lk.getD j ([],.none)).2) hval hu3 (by rw[lenU]; exact hb) hw (us.toArray.size-0) 0 _ [] ∅ (j8 _) ⟨⟨_,zA _ rfl,rfl,rfl⟩,hl1.push _⟩ (S0 _) (zu _) (λx=>⟨λm=>(by cases m),λ⟨j,j1,_⟩=>absurd j1 (xM _)⟩) (λp mp=>(by cases mp)) (hkey _) λs' L' hm ST ln me pa=>?_
     show wpAny _ _ _ _ _ _
     refine zg ?_;show wpAny _ _ (ret Value.none) _ _ _
     exact zg ⟨rfl,fin s' L' hm ST ln me pa⟩
    .have a1:=zg1; have a2:=zgu
     have a3:(Value.type "tuple" == Value.type "dict")=false:=by decide
     have hl1:h1.IsTuple l us.toArray:=⟨_,hol',rfl,nl,rfl⟩;unfold Builtin.«set.__init__» noKeywords Builtin.Frozenset.updateFrom;generalize hPI:pyIter=PI;wp_walk
     subst hPI;refine wL hl1 (za (yU ?_));refine ze4 ((Walks.tuple hh3 _ l hneI us.toArray).toS) s.heap.objs.size hSf (λj=>(Lk.getD j ([],.none)).1) (λj=>(Lk.getD j ([],.none)).2) hval hu3 (by rw[lenU]; exact hb) hw (us.toArray.size-0) 0 _ [] ∅ (j8 _) ⟨⟨_,zA _ rfl,rfl,rfl⟩,hl1.at λo e=>zc _ e⟩ (S0 _) (zu _) (λx=>⟨λm=>(by cases m),λ⟨j,j1,_⟩=>absurd j1 (xM _)⟩) (λp mp=>(by cases mp)) (hkey _) λs' L' hm ST ln me pa=>?_
     show wpAny _ _ _ _ _ _
     refine zg ?_;show wpAny _ _ (ret Value.none) _ _ _
     exact zg ⟨rfl,fin s' L' hm ST ln me pa⟩
   .cases r₂ with
    | error e=>exact hr₂
    | ok fl₂=>
     cases fl₂ with
     | ret r=>
      obtain⟨rfl,L,h',tk,rfl,hS',z1,z2,z3,z4⟩:=hr₂;repeat (any_goals (first | assumption | wp_step))
      exact k L h' tk hS' z1 z2 z3 z4
     | _=>exact hr₂.elim
  | _=>exact hr.elim
end
def DEs(h:Heap)(d:Addr)(es:Array DictEntry)(ep:Nat):Prop:=∃o,h.get? d=some o/\o.ExactDict/\o.data=.dict es ep
section
variable{prog:Program}{w:World}{A:Around}{E:Value->Shared->Prop}{s:Shared}{d it:Addr}{es:Array DictEntry}{ep i:Nat}
def DEs.ty(D:DEs s.heap d es ep):s.TypeIs (.ref d) "dict":=by
 obtain⟨o,g1,g2,g3⟩:=D;exact⟨o,g1,g2.1⟩
def DEs.at{h h':Heap}(D:DEs h d es ep)(k:∀o,h.get? d=some o->h'.get? d=some o):DEs h' d es ep:=by
 obtain⟨o,g1,g2⟩:=D;exact⟨o,k _ g1,g2⟩
def znC{Q:Value->Shared->Prop}(ns:(d==sysModules)=false)(D:DEs s.heap d es ep)(k:Q (.ref s.heap.objs.size) { s with heap:=s.heap.push { cls:=.type "dict_keyiterator",data:=.fields #[.ref d,.int 0 0,.int es.size 0,.int ep 0] } }) :
  wpAny (model prog w) A (pyIter (.ref d)) Q E s:=by
 obtain⟨o,g1,g2,g3⟩:=id D;refine xU D.ty F.slot_dict_iter (jj F.slot_dict_iter D.ty F.entry_dict_iter ?_ (F.args_dict_iter_1 _));unfold Builtin.«dict.__iter__» Builtin.Dict.dictSlotNone;refine za (za (wpAny_notOrdered_dict D.ty (show wpAny _ _ (pure (Value.ref d)) _ _ s from zg ?_)));show wpAny _ _ (Builtin.Dict.showsAll d >>= λ_=>_) _ _ s
 unfold Builtin.Dict.showsAll;refine za ?_;refine zbV ns (zg ?_);refine za (wpAny_dictEntries g1 g3 (za (wpAny_dictEpoch g1 g3 ?_)));exact za (kO (zg ⟨_,rfl,"dict_keyiterator",_,⟨_,zA _ rfl,rfl⟩,wg.lookup,by simpa[rawInt] using k⟩))
def zhA{Q:Option Value->Shared->Prop}(hi:s.heap.IsKeyIter it d i es.size ep)(D:DEs s.heap d es ep)
  (k1:∀(hlt:i<es.size) h',h'.IsKeyIter it d (i+1) es.size ep->Heap.SameBut it s.heap h'->Q (some es[i].key) { s with heap:=h' })
  (hh:A.handled=none) (k2:es.size<=i->∀h',(∀b o,b≠it->s.heap.get? b=some o->h'.get? b=some o)->Q none { s with heap:=h' }):wpAny (model prog w) A (pyNext (.ref it)) Q E s:=by
 obtain⟨o,ho,hc,hd⟩:=id hi;obtain⟨od,g1,g2,g3⟩:=id D;unfold pyNext;refine za (q9 (jq (name:=Str.ofString "__next__") hi.typeIs wg (jj wg hi.typeIs F.entry_dict_keyiterator_next ?_ (F.args_dict_keyiterator_next_1 _))));refine za (zg (za (za ?_)));first | refine za (vZ hi.typeIs (zg (za (wpAny_fieldsOf ho hd ?_)))) | refine za (wY hi.typeIs (zg (za (wpAny_fieldsOf ho hd ?_))))
 simp only[show Builtin.Dict_items.ownsTuple "dict_keyiterator" = false from by decide,zQ,jt];refine zbV (c:=(Value.ref d==Value.none)) rfl (za (zg (za (wpAny_dictEntries g1 g3 ?_))));rw[zZ (by simp)];refine za (zg (za (wpAny_dictEpoch g1 g3 ?_)));rw[zZ (by simp)];refine zg ?_;by_cases hlt:i<es.size
 .simp only[show ¬((i:Int)<0) by omega,jt,jl,Array.getElem?_eq_getElem hlt]
  refine za ?_;first | refine za (vZ hi.typeIs (zg (za (yu hi.typeIs ?_)))) | refine za (wY hi.typeIs (zg (za (yu hi.typeIs ?_))))
  show wpAny _ _ (setField (.ref it) 1 (rawInt ((i:Int)+1)) >>= λ_=>_) _ _ s
  refine za (yS ho hd (by simp) ?_);have hi':(s.heap.update it (Obj.mapFields (·.setIfInBounds 1 (rawInt ((i:Int)+1))))).IsKeyIter it d (i+1) es.size ep:=
   ⟨_,jr _ ho (Obj.isFreed_of_fields (wM hd _)),(Obj.cls_mapFields ..).trans hc,by rw[wM hd]; simp[rawInt]⟩
  refine za (jb (za (yu (s:={ s with heap:=s.heap.update it (Obj.mapFields (·.setIfInBounds 1 (rawInt ((i:Int)+1)))) }) hi'.typeIs (show wpAny _ _ (pure es[i].key) _ _ _ from ?_))));exact zg (zg ⟨_,rfl,zg (k1 hlt _ hi' (jL ..))⟩)
 .simp only[show ¬((i:Int)<0) by omega,jt,jl,Array.getElem?_eq_none (jR hlt)]
  refine za ?_;first | refine za (vZ hi.typeIs (zg ?_)) | refine za (wY hi.typeIs (zg ?_))
  refine(show wpAny _ _ (setField (.ref it) 0 .none >>= λ_=>_) _ _ s from za (yS ho hd (by simp) ?_));refine zdd (by simpa using hh) λh' e=>k2 (jR hlt) h' λb o ne q=>e b o ((j5 _ _ (jk ne)).trans q)
def zlF(hh:A.handled=none)(I d:Addr)(hne:d≠I)(es:Array DictEntry)(ep:Nat):Walks prog w A I [I,d] [I] es.size (λi v=>∃h:i<es.size,v=es[i].key) (λi h=>h.IsKeyIter I d i es.size ep/\DEs h d es ep) where
 sub:=λb hb=>by simp at hb; simp[hb]
 frame:=λ_ _ _ st hk=>⟨st.1.at λo e=>hk I (by simp) o e,st.2.at λo e=>hk d (by simp) o e⟩
 item:=λi s Q E hi st hQ=>zhA st.1 st.2 (λhlt h' g sb=>hQ _ h' s.toks ⟨hlt,rfl⟩ ⟨g,st.2.at λo e=>(sb.2 d hne).trans e⟩ λb o hb e=>(sb.2 b (by simpa using hb)).trans e) hh λhge=>absurd hi (ud.mpr hge)
 done:=λs Q E st hQ=>zhA st.1 st.2 (λhlt=>absurd hlt (jX _)) hh λ_ h' e=>hQ h' s.toks λb o hb q=>e b o (by simpa using hb) q
 self:=λ_ _ _ _ st hQ=>wpAny_pyIter_keyiter st.1 hQ
def zf5{Q:List Value->Shared->Prop}(hh:A.handled=none)(ns:(d==sysModules)=false)(D:DEs s.heap d es ep)(hb:es.size<900)
  (k:∀(s':Shared),(∀b o,s.heap.get? b=some o->s'.heap.get? b=some o)->s'.gens=s.gens->s'.os=s.os->s.heap.objs.size<=s'.heap.objs.size->Q (es.toList.map (·.key)) s'):wpAny (model prog w) A (collect (.ref d)) Q E s:=by
 have ltD:d<s.heap.objs.size:=by obtain⟨o,g1,_⟩:=D; exact zJ g1
 unfold collect;refine za (yU (qb F.entry_proto_collect ?_));rw[jG F.plain_proto_collect _];show wpAny _ A.in1 (newList [] >>= λnl=>again (.builtin "list.__iadd__" ⟨[nl,.ref d],[]⟩)) _ _ s
 refine za (kO (zg ⟨vd yj _,qb F.entry_list_iadd ?_⟩));rw[jG yj _];generalize hN:s.heap.objs.size=N;show wpAny _ A.in1 (Builtin.List.listExtendWith (.ref N) (.ref d) (.ref N)) _ _ _
 let h1:Heap:=s.heap.push { cls:=.type "list",data:=.seq ([]:List Value).toArray }
 have keep1:∀b o,s.heap.get? b=some o->h1.get? b=some o:=λb o e=>zc _ e
 have sz1:h1.objs.size=N+1:=by rw[<-hN]; exact jK ..
 have obN:h1.get? N=some { cls:=.type "list",data:=.seq ([]:List Value).toArray }:=by rw[<-hN]; exact zA _ rfl
 have neD:N≠d:=by rw[<-hN]; exact(zP ltD).symm
 have D1:DEs h1 d es ep:=D.at λo e=>keep1 _ _ e
 show wpAny _ A.in1 _ _ _ { s with heap:=h1 }
 unfold Builtin.List.listExtendWith;refine za (qp (DEs.ty (s:={ s with heap:=h1 }) D1) ?_);refine zbV (by simp[Builtin.List.listSameRef,neD]) ?_;refine za (znC (s:={ s with heap:=h1 }) ns D1 ?_);let h2:Heap:=h1.push { cls:=.type "dict_keyiterator",data:=.fields #[.ref d,.int 0 0,.int es.size 0,.int ep 0] }
 have keep2:∀b o,h1.get? b=some o->h2.get? b=some o:=λb o e=>zc _ e
 have itI:h2.IsKeyIter h1.objs.size d 0 es.size ep:=⟨_,zA _ rfl,rfl,rfl⟩;have D2:DEs h2 d es ep:=D1.at λo e=>keep2 _ _ e
 refine za (jb (kdl_hint_dict (DEs.ty (s:={ s with heap:=h2 }) D2) ?_));refine zdR ⋯ (za (qt (za ?_)));have obN2:h2.get? N=some { cls:=.type "list",data:=.seq ([]:List Value).toArray }:=keep2 _ _ obN;refine(show wpAny _ A.in1 (updateSeq N (·.push .none) >>= λ_=>updateSeq N (·.pop)) _ _ { s with heap:=h2 } from za (vJ obN2 rfl ?_));have up1:=jr (Obj.mapSeq (·.push Value.none)) obN2 rfl;refine vJ up1 rfl ?_;have up2:=jr (Obj.mapSeq (·.pop)) up1 rfl;have off:∀b o,b≠N->h2.get? b=some o->((h2.update N (Obj.mapSeq (·.push Value.none))).update N (Obj.mapSeq (·.pop))).get? b=some o:=λb o ne e=>(j5 _ _ (jk ne)).trans ((j5 _ _ (jk ne)).trans e)
 have hh1:A.in1.handled=none:=by simpa using hh
 have dI:d≠h1.objs.size:=by rw[sz1,<-hN]; exact zP (jy ltD)
 have nI:h1.objs.size≠N:=by rw[sz1]; exact xg _
 have nF:N∉[h1.objs.size,d]:=by
  simp only[zf,zm,zV,yc];exact⟨nI.symm,neD⟩
 have W:=(zlF (prog:=prog) (w:=w) (A:=A.in1) hh1 h1.objs.size d dI es ep).toS;refine zg ⟨vd F.plain_extend_loop _,codeAny_extend_loopS W (by rw[jD]; omega) N nF (.ref N) es.size 0 _ _ _ rfl (j8 _) ⟨itI.at λo e=>off _ _ nI e,D2.at λo e=>off _ _ (jk neD) e⟩ up2 (ItemsOf.nil _) λs' acc c hmv hS' hacc=>?_⟩;refine(show wpAny _ A (load N >>= λ_=>_) _ _ s' from za (yJ hS' (zg ?_)));have hacc2:acc.toList=es.toList.map (·.key):=by
  apply wR
  .rw[zY,zL,zY]; exact hacc.1
  .intro j a1 a2
   obtain⟨_,z⟩:=hacc.2 j acc.toList[j] (by simp);rw[z];simp
 show Q acc.toList s'
 rw[hacc2];refine k s' (λb ob e=>hmv.heap b ob (λm=>?_) (off b ob ?_ (keep2 _ _ (keep1 _ _ e)))) hmv.gens hmv.os (by rw[hN]; exact qL (zJ hS'))
 .have lt:=zJ e
  rw[hN] at lt;rcases zf.mp m with z | m
  .exact zP lt z
  .have z:b=h1.objs.size:=by simpa using m
   rw[z,sz1] at lt;exact absurd lt (ud.mpr (qK _))
 .have lt:=zJ e
  rw[hN] at lt;exact zP lt
end
end ML
namespace ML
open PySem PySem.Spec PyProof.Rows L2
noncomputable def tkOf:W->Option (List Str)
 | .tup l=>strsOf l
 | _=>none
noncomputable def zdj:List W->Option (List (List Str))
 | []=>some []
 | w::r=>(tkOf w).bind λk=>(zdj r).map (k::·)
noncomputable def tupS(k:List Str):W:=.tup (k.map .str)
noncomputable def encK:Bool->List Str->W
 | true,k=>.str (k.headD "")
 | false,k=>tupS k
noncomputable def zb7(l:List W):Option (Bool×List (List Str)):=match zdj l with
 | some ks=>some (false,ks)
 | none=>(strsOf l).map λxs=>(true,xs.map ([·]))
noncomputable def zaO(w:W):M W:=λh=>(zaD h w).bind λl=>(zb7 l).bind λbk=>if bk.2.length<890/\(u9 bk.2).length<64/\(∀k∈bk.2,k≠[]) then some (.fls ((u9 bk.2).map (encK bk.1)),h) else none
theorem zci:∀{l:List W} {k:List Str},strsOf l=some k->l=k.map .str
 | [],k,e=>by cases e; rfl
 | .str b::r,k,e=>by
  unfold strsOf at e;split at e
  .rename_i l' e'
   cases e;rw[zci e']; rfl
  .cases e
 | .non::r,k,e=>by cases e
 | .bl _::r,k,e=>by cases e
 | .int _::r,k,e=>by cases e
 | .tup _::r,k,e=>by cases e
 | .fls _::r,k,e=>by cases e
 | .ref _::r,k,e=>by cases e
 | .fdc _::r,k,e=>by cases e
 | .fn _::r,k,e=>by cases e
def zb3{l:List (List Str)}(u:SUp l):l.Nodup:=u.imp λ{a b} h e=>by subst e; rw[zbo] at h; cases h
def zfq{l m:List (List Str)}(nd:l.Nodup)(h:∀x,x∈l↔x∈m):l.length=(u9 m).length:=by
 have:l.Perm (u9 m):=(List.perm_ext_iff_of_nodup nd (zb3 (zaQ m))).mpr λx=>(h x).trans ssort_mem.symm
 exact this.length_eq
def zea{l m:List (List Str)}(h:∀x,x∈l↔x∈m):u9 l=u9 m:=zbe (zaQ l) (zaQ m) λx=>ssort_mem.trans ((h x).trans ssort_mem.symm)
section
variable{X:Cx}{pins:List (Addr×Obj)}{σ:L2.St}{H:Hp}{s:Shared}{μ:List Addr}
theorem zd0:∀{k:List Str} {vs:List V} {us:List Value},RWs X.K μ H (k.map .str) vs->Vals vs us->ItemsAre (SK X.prog X.w) k us
 | [],_,_,.nil,.nil=>.nil
 | x::k,_,_,.cons r rs,.cons v vs=>by
  cases r;obtain⟨t,rfl⟩:=v;exact .cons (qH _ _ _ _) (zd0 rs vs)
def zdk(I:Inv X pins σ H s){k:List Str}{a:Addr}(r:RW X.K μ H (tupS k) (.ref a)):IsTupleKey (SK X.prog X.w) s.heap k a:=by
 unfold tupS at r;cases r with
 | tup sq rs=>
  obtain⟨its,rv,⟨o,g1,g2,n,g4⟩,_⟩:=I.tuple sq;exact⟨o,its.toArray,n,g1,g2,g4,by simpa using zd0 rs rv⟩
theorem zfc(I:Inv X pins σ H s):∀{l:List W} {vs:List V} {us:List Value} {ks:List (List Str)},zdj l=some ks->RWs X.K μ H l vs->Vals vs us->
  ∃Lk:List (List Str×Addr),us=Lk.map (λp=>Value.ref p.2)/\Lk.map (·.1)=ks/\∀p∈Lk,RW X.K μ H (tupS p.1) (.ref p.2)
 | [],_,_,_,e,.nil,.nil=>by cases e; exact⟨[],rfl,rfl,λp hp=>by cases hp⟩
 | w::l,_,_,_,e,.cons r rs,.cons v vs=>by
  obtain⟨k,e1,e2⟩:=zp.mp e;obtain⟨ks,e3,e4⟩:=zj.mp e2;subst e4;obtain⟨Lk,z1,z2,z3⟩:=zfc I e3 rs vs;cases w with
  | tup l'=>
   have e5:=zci (show strsOf l'=some k from e1);subst e5;have r':=r;cases r with
   | @tup a _ _ sq _=>
    have v':=v;cases v
    exact⟨(k,a)::Lk,by rw[z1]; rfl,by rw[zH,z2],λp hp=>by
     rcases zf.mp hp with rfl | hp
     .exact r'
     .exact z3 p hp⟩
  | _=>cases e1
def RK(X:Cx)(μ:List Addr)(H:Hp)(b:Bool)(p:List Str×Value):Prop:=(b=true->∃x,p.1=[x])/\∃v,RW X.K μ H (encK b p.1) v/\RelV v p.2
def RK.is(I:Inv X pins σ H s){b:Bool}{p:List Str×Value}(r:RK X μ H b p)(ne:p.1≠[]):IsK X.prog X.w s.heap b p.1 p.2:=by
 obtain⟨k,u⟩:=p;obtain⟨r0,v,r1,r2⟩:=r;cases b with
 | true=>
  obtain⟨x,q⟩:=r0 rfl;cases q;cases r1;obtain⟨t,q⟩:=r2;cases (show u=.str x t from q);exact .text x t
 | false=>
  obtain⟨a,vs,rfl,_⟩:=(show RW X.K μ H (.tup (k.map .str)) v from r1).tup_of;cases r2;exact .tup (zdk I r1) ne
theorem ze7:∀{xs:List Str} {vs:List V} {us:List Value},RWs X.K μ H (xs.map .str) vs->Vals vs us->∃Lk:List (List Str×Value),us=Lk.map (·.2)/\Lk.map (·.1)=xs.map ([·])/\∀p∈Lk,RK X μ H true p
 | [],_,_,.nil,.nil=>⟨[],rfl,rfl,λp hp=>by cases hp⟩
 | x::xs,_,_,.cons r rs,.cons (b:=u) v vs=>by
  obtain⟨Lk,z1,z2,z3⟩:=ze7 rs vs;refine⟨([x],u)::Lk,by rw[z1]; rfl,by rw[zH,z2]; rfl,λp hp=>?_⟩;rcases zf.mp hp with rfl | hp
  .exact⟨λ_=>⟨x,rfl⟩,_,r,v⟩
  .exact z3 p hp
def zeY(I:Inv X pins σ H s){l:List W}{vs:List V}{us:List Value}{bk:Bool×List (List Str)}(e:zb7 l=some bk)(rs:RWs X.K μ H l vs)(rv:Vals vs us) :
  ∃Lk:List (List Str×Value),us=Lk.map (·.2)/\Lk.map (·.1)=bk.2/\∀p∈Lk,RK X μ H bk.1 p:=by
 unfold zb7 at e;split at e
 .rename_i ks ek
  cases e;obtain⟨L0,z1,z2,z3⟩:=zfc I ek rs rv;refine⟨L0.map λp=>(p.1,.ref p.2),by rw[z1,kY]; rfl,by rw[<-z2,kY]; rfl,λp hp=>?_⟩;obtain⟨q,q1,rfl⟩:=zz.mp hp;exact⟨λz=>(by cases z),_,z3 q q1,rfl⟩
 .obtain⟨xs,ex,rfl⟩:=zj.mp e
  rw[zci ex] at rs;exact ze7 rs rv
def zok{b:Bool}{L:List (List Str×Value)}(h:∀p∈L,RK X μ H b p):∃vs,RWs X.K μ H ((L.map (·.1)).map (encK b)) vs/\Vals vs (L.map (·.2)):=by
 induction L with
 | nil=>exact⟨[],.nil,.nil⟩
 | cons p L ih=>
  obtain⟨vs,a,c⟩:=ih λq hq=>h q (zq _ hq)
  obtain⟨_,v,r1,r2⟩:=h p (zy ..);exact⟨v::vs,.cons r1 a,.cons r2 c⟩
def Inv.draw{d:Drawn}(I:Inv X pins σ H s):Inv X pins σ H { s with drawn:=d }:=⟨I.ok,I.os,I.bare,I.base,I.loc,I.cell,I.free,I.freeC,I.pin,I.hok,I.len⟩
def zcD{cl:Cl}{b:Bool}{L:List (List Str×Value)}{ks:List (List Str)}{v:Value}{s2:Shared}{h1:MH}{Q:VK}(I1:Inv X pins σ H s)(R1:HR X.K cl μ H h1)(k:KQ X.K cl μ H h1 (.fls ((u9 ks).map (encK b))) Q)(me:∀y,y∈L.map (·.1)↔y∈ks)(lt:L.length<64)(nd:(L.map (·.1)).Nodup)(ne:∀k∈ks,k≠[])(rk:∀p∈L,RK X μ H b p)
  (kp:∀b o,s.heap.get? b=some o->s2.heap.get? b=some o) (le2:s.heap.objs.size<=s2.heap.objs.size) (gg2:s2.gens=s.gens) (oo2:s2.os=s.os) (dd2:s2.drawn=s.drawn)
  (hc:∀(E':Value->Shared->Prop) (Q':List Value->Shared->Prop),(∀(L':List (List Str×Value)) (s':Shared),L'.Perm L->(∀b o,s2.heap.get? b=some o->s'.heap.get? b=some o)->s'.gens=s2.gens->s'.os=s2.os->s2.heap.objs.size<=s'.heap.objs.size->Q' (L'.map (·.2)) s')->wpAny (model X.prog X.w) X.A.in1 (collect v) Q' E' s2) :
  wpAny (model X.prog X.w) X.A (call (.builtin "sorted") [v]) (EP X pins σ Q) X.xe s2:=by
 refine zi2 lt nd (λp hp=>((rk p hp).is I1 (ne _ ((me _).mp (zz.mpr ⟨p,hp,rfl⟩)))).keep λx o _ e=>kp x o e) hc λD L' n s' pe srt ob le keep gg oo=>?_
 obtain⟨hp',g',d',t',os'⟩:=s';obtain rfl:g'=s.gens:=gg.trans gg2;obtain rfl:os'=s.os:=oo.trans oo2;obtain⟨vs,q1,q2⟩:=zok (X:=X) (μ:=μ) (H:=H) (L:=L') λp hp=>rk p (pe.mem_iff.mp hp)
 have le1:=zF le2 le;have lv:vs.length=L'.length:=by rw[q2.length,zL]
 have I2:Inv X pins σ (upd H D (.lst vs)) { s with heap:=hp',toks:=t',drawn:=d' }:=Inv.draw (s:={ s with heap:=hp',toks:=t' }) (I1.laid (t':=t') (λb o e=>keep b o (kp b o e)) le1 ⟨by rw[lv,pe.length_eq,jD]; omega,_,n,q2,ob⟩);refine⟨.ref D,_,I2,rfl,?_⟩;have srt':L'.map (·.1)=u9 ks:=srt.trans (zea me);rw[srt'] at q1;exact KQ.fls k R1 q1 (I1.hok.fresh le1)
end
section
variable{X:Cx}{cl:Cl}{a:Expr}{ma:ME}{p p2 p3 pos:Pos}
def zis(hc:X.calm=true)(hu:X.A.units+64<cLine)(hl:X.mg "sorted" = none)(hs:X.mg "set" = none)(ha:SE X cl a ma)(hg:Gl X "sorted":=by rfl)(hg2:Gl X "set":=by rfl)
  (he1:starEach [a] X.env=(false,eval a X.env)::starEach [] X.env:=by rfl) (hpl1:(backTo p3 (starEach [] X.env)).any (·.1)=false:=by rfl)
  (he2:starEach [.Call (.Name "set" p2) [a] [] p3] X.env=(false,eval (.Call (.Name "set" p2) [a] [] p3) X.env)::starEach [] X.env:=by rfl) (hpl2:(backTo pos (starEach [] X.env)).any (·.1)=false:=by rfl) :
  SE X cl (.Call (.Name "sorted" p) [.Call (.Name "set" p2) [a] [] p3] [] pos) (eUn zaO ma):=by
 rintro pins s σ H Q I ⟨μ,h,ρ,w,h',R,er,e,k⟩;obtain⟨x,h1,e1,e⟩:=u0 e;have hv:bootBuiltins "set" = some (.type "set"):=by decide +kernel
 refine qe (zbu I hg hl uc ?_ (by decide) (by decide));refine yW ?_ he2 hpl2;rw[he2];show wpAny _ _ (spliced ((false,eval (.Call (.Name "set" p2) [a] [] p3) X.env)::backTo pos (starEach [] X.env))) _ _ s
 have h0:∀{q:Pos},backTo q (starEach [] X.env)=[]:=λ{q}=>rfl
 rw[h0];refine vN ?_;refine qe (zbu I hg2 hs hv ?_ (by decide) (by decide));refine qi ?_ he1 hpl1;rw[he1];show wpAny _ _ (spliced ((false,eval a X.env)::backTo p3 (starEach [] X.env))) _ _ s
 rw[h0];refine vN (thn (ha pins s σ H (λv H1=>∃μ1,Ext μ H μ1 H1/\HR X.K cl μ1 H1 h1/\RW X.K μ1 H1 x v) I ⟨μ,h,ρ,x,h1,R,er,e1,λμ1 H1 v E1 R1 r=>⟨μ1,E1,R1,r⟩⟩) λu s1 ⟨v,H1,I1,r1,μ1,E1,R1,rv⟩=>vU ?_);obtain⟨l,el,e⟩:=zp.mp (show(zaD h1 x).bind _=some (w,h') from e);obtain⟨⟨b,ks⟩,ek,e⟩:=zp.mp e;by_cases ok:ks.length<890/\(u9 ks).length<64/\(∀k∈ks,k≠[])
 .rw[zR ok] at e
  cases e;obtain⟨d,vs,rfl,sq,ra⟩:=zbc R1 rv el;cases r1;have fin:∀{us:List Value} {T:String},(T="list" \/ T="tuple")->Vals vs us->(∃o n,s1.heap.get? d=some o/\o.cls=.type T/\o.data=.seq us.toArray n)->wpAny (model X.prog X.w) X.A (call (.type "set") [.ref d]) (λv s₂=>wpAny (model X.prog X.w) X.A (call (.builtin "sorted") [v]) (EP X pins σ Q) X.xe s₂) X.xe s1:=by
   intro us T hT rvs ho;obtain⟨Lk,z1,z2,z3⟩:=zeY I1 ek ra rvs;have z2:Lk.map (·.1)=ks:=z2;have lenL:Lk.length=ks.length:=by rw[<-z2,zL]
   refine zkl hT ho z1 (λp hp=>(z3 p hp).is I1 (ok.2.2 _ (by rw[<-z2]; exact zz.mpr ⟨p,hp,rfl⟩))) (I1.ok.hd hc) ∅ ∅ λL h2 tk ST ln me pa kp=>?_
   have me':∀y,y∈L.map (·.1)↔y∈ks:=λy=>by rw[<-z2]; exact me y
   obtain⟨_,_,_,_,g0,_,_,_,_,_,nd,_⟩:=ST.raw;have lt:L.length<64:=by have:=zfq nd me'; rw[zL] at this; omega
   exact zcD I1 R1 (k.ext E1) me' lt nd ok.2.2 (λp hp=>z3 p (pa p hp)) (s2:={ s1 with heap:=h2,toks:=tk }) kp (qL (zJ g0)) rfl rfl rfl λE' Q' q=>zg0 (s:={ s1 with heap:=h2,toks:=tk }) (I1.ok.hd hc) ST ∅ q
  rcases sq with sq | sq
  .obtain⟨its,rv,⟨o,n,g1,g2,g3,g4⟩,_⟩:=I1.list sq
   exact jV (fin (.inl rfl) rv ⟨o,n,g1,g2,g4⟩) (λv s₂ q=>vU q) λ_ _ e=>e
  .obtain⟨its,rv,⟨o,g1,g2,n,g4⟩,_⟩:=I1.tuple sq
   exact jV (fin (.inr rfl) rv ⟨o,n,g1,g2,g4⟩) (λv s₂ q=>vU q) λ_ _ e=>e
 .rw[zZ ok] at e; cases e
end
noncomputable def zp7(w:W):M W:=λh=>(getL h w).bind λl=>(zb7 l).bind λbk=>if bk.2.length<64/\bk.2.Nodup/\(∀k∈bk.2,k≠[]) then some (.fls ((u9 bk.2).map (encK bk.1)),h) else none
noncomputable def zdM:List W->M W
 | [w]=>zp7 w
 | _=>λ_=>none
section
variable{X:Cx}{cl:Cl}
def ziq:zar X (.builtin "sorted") (rMs X.K cl zdM):=by
 rintro pins s σ H xs us Q I rs ⟨μ,h,ws,w,h',R,ax,e,k⟩;match ws,ax,e with
 | [x],.cons r .nil,e=>
  obtain⟨l,el,e⟩:=zp.mp (show(getL h x).bind _=some (w,h') from e);obtain⟨⟨b,ks⟩,ek,e⟩:=zp.mp e;by_cases ok:ks.length<64/\ks.Nodup/\(∀k∈ks,k≠[])
  .rw[zR ok] at e
   cases e;obtain⟨d,vs,rfl,sq,ra⟩:=zaJ R r el;cases rs with
   | cons r1 r2=>
    cases r2;cases r1
    .obtain⟨its,rv,⟨o,n,g1,g2,g3,g4⟩,_⟩:=I.list sq
     obtain⟨Lk,z1,z2,z3⟩:=zeY I ek ra rv;have z2:Lk.map (·.1)=ks:=z2;have lenL:Lk.length=ks.length:=by rw[<-z2,zL]
     have hl:s.heap.IsList d (Lk.map (·.2)).toArray:=by rw[<-z1]; exact⟨o,g1,g2,n,g4⟩
     refine zcD I R k (λy=>by rw[z2]) ∅ (by rw[z2]; exact ok.2.1) ok.2.2 z3 (λ_ _ q=>q) (zu _) rfl rfl rfl λE' Q' q=>?_
     refine collect_list hl ?_ (by rw[zL,jD]; omega);have sz1:((s.heap.push (seqObj "list" #[] 0)).update s.heap.objs.size (Obj.mapSeq (· ++ (Lk.map (·.2)).toArray))).objs.size=s.heap.objs.size+1:=by rw[Heap.size_update,size_push']
     refine q Lk _ (qC _) (λb o e=>?_) rfl rfl (by rw[sz1]; exact qK _);rw[xx _ _ _ _ (zP (zJ e))];exact zc _ e
  .rw[zZ ok] at e; cases e
end
structure SamePW(X:Cx)(cl:Cl):Prop where
 P:cl.P=X.prog
 w:cl.w=X.w
noncomputable def zdL:ME:=λ_ h=>some (.ref h.length,h++[.tdc []])
noncomputable def addK(ks:List (List Str))(k:List Str):List (List Str):=if k∈ks then ks else ks++[k]
noncomputable def putT(x y v:W):M W:=λh=>match x with
 | .ref n=>match h[n]? with
  | some (.tdc ks)=>match tkOf y with
   | some k=>if ks.length<800 then some (.non,h.set n (.tdc (addK ks k))) else none
   | none=>none
  | _=>putM x y v h
 | _=>none
noncomputable def zfB(mo mi:ME):MG:=λv ρ=>bnd (mo ρ) λx=>bnd (mi ρ) λy=>bnd (putT x y v) λ_ h=>some (ρ,h)
noncomputable def zcF(ws:List W):M W:=λh=>match ws with
 | [.ref n]=>match h[n]? with
  | some (.tdc ks)=>if ks.length<64/\(∀k∈ks,k≠[]) then some (.fls ((u9 ks).map tupS),h) else none
  | _=>zdM ws h
 | _=>zdM ws h
def zoU(P:Program)(w:World)(h:Heap):TDat P w h.objs.size [] (h.push { cls:=.type "dict",data:=.dict #[] }):=⟨_,#[],0,zA _ rfl,⟨rfl,rfl,rfl⟩,rfl,rfl⟩
def zgs{P:Program}{w:World}{a:Addr}{xs:List (List Str×Addr×Value)}:∀h1 h2:Heap,TDat P w a xs h1->(∀o,h1.get? a=some o->h2.get? a=some o)->TDat P w a xs h2:=λh1 h2 ⟨o,es,ep,g,r⟩ k=>⟨o,es,ep,k _ g,r⟩
def zdo{xs:List (List Str×Addr×Value)}{k:List Str}{b:Addr}{v:Value}:(storedH xs k b v).map (·.1)=addK (xs.map (·.1)) k:=by
 unfold storedH addK;have e:(atKey xs k).isSome=true↔k∈xs.map (·.1):=by
  unfold atKey;rw[Option.isSome_map,List.find?_isSome];simp only[vH,zz]
 by_cases q:k∈xs.map (·.1)
 .rw[zR (e.mpr q),zR q,kY]
  refine qm λx _=>?_
  unfold Function.comp putAt;split<;>rfl
 .rw[zZ (λz=>q (e.mp z)),zZ q]
  simp
def zdN{ks:List (List Str)}{k:List Str}(n:ks.Nodup):(addK ks k).Nodup:=by
 unfold addK;split
 .exact n
 .rename_i q
  rw[yO];refine⟨n,by simp,?_⟩;intro a ha b hb e;rw[kh] at hb;subst hb; subst e;exact q ha
section
variable{X:Cx}{cl:Cl}{o i:Expr}{mo mi:ME}{pos:Pos}{pins:List (Addr×Obj)}{σ:L2.St}{H:Hp}{s:Shared}{μ:List Addr}
def zid{xs:List (List Str×Addr×Value)}{k:List Str}{b:Addr}{v:Value}(r:RWs X.K μ H ((xs.map (·.1)).map tupS) (xs.map λx=>.ref x.2.1))(rk:RW X.K μ H (tupS k) (.ref b)) :
  RWs X.K μ H ((addK (xs.map (·.1)) k).map tupS) ((storedH xs k b v).map λx=>.ref x.2.1):=by
 rw[<-zdo (b:=b) (v:=v)];unfold storedH;split
 .have e1:(xs.map (putAt k v)).map (·.1)=xs.map (·.1):=by
   rw[kY];refine qm λx _=>?_
   unfold Function.comp putAt;split<;>rfl
  have e2:((xs.map (putAt k v)).map λx=>V.ref x.2.1)=xs.map λx=>V.ref x.2.1:=by
   rw[kY];refine qm λx _=>?_
   unfold Function.comp putAt;split<;>rfl
  rw[e1,e2];exact r
 .simp only[vW,zH,jw]
  exact r.append (.cons rk .nil)
def zhF:∀{ys:List (List Str×Addr×Value)},RWs X.K μ H ((ys.map (·.1)).map tupS) (ys.map λx=>.ref x.2.1)->∀x∈ys,RW X.K μ H (tupS x.1) (.ref x.2.1):=by
 intro ys;induction ys with
 | nil=>intro _ x hx; cases hx
 | cons y ys ih=>
  intro q x hx;cases q with
  | cons q1 q2=>
   rcases zf.mp hx with rfl | hx
   .exact q1
   .exact ih q2 x hx
def zhp(S:SamePW X cl)(I:Inv X pins σ H s){p:Addr}{xs:List (List Str×Addr×Value)}(hp:H p=some (.ext (TDat cl.P cl.w p xs)))(nd:(xs.map (·.1)).Nodup)(r:RWs X.K μ H ((xs.map (·.1)).map tupS) (xs.map λx=>.ref x.2.1)):s.heap.DictOfH (tupleKind (SK X.prog X.w)) p xs:=by
 rw[S.P,S.w] at hp;obtain⟨⟨o,es,ep,g1,g2,g3,g4⟩,_⟩:=(show ObjOk X.prog X.w H s.heap p (.ext (TDat X.prog X.w p xs)) from I.hok p _ hp);refine⟨o,es,ep,g1,g2,g3,g4,λx hx=>?_,nd⟩;exact zdk I (zhF r x hx)
def zp6(S:SamePW X cl)(hu:X.A.units+64<cLine):PSet X (λo i v H Q=>∃μ h wo wi wv w h',HR X.K cl μ H h/\RW X.K μ H wo o/\RW X.K μ H wi i/\RW X.K μ H wv v/\putT wo wi wv h=some (w,h')/\∀μ' H',Ext μ H μ' H'->HR X.K cl μ' H' h'->Q H'):=by
 rintro pins s σ H o i v ov iv u Q I ro ri rv ⟨μ,h,wo,wi,wv,w,h',R,ao,ai,av,e,k⟩;have old:putM wo wi wv h=some (w,h')->wpAny (model X.prog X.w) X.A (setItem ov iv u) (λ_ s'=>∃H',Inv X pins σ H' s'/\Q H') X.xe s:=λe=>zpV hu pins s σ H o i v ov iv u Q I ro ri rv ⟨μ,h,wo,wi,wv,w,h',R,ao,ai,av,e,k⟩
 unfold putT at e;split at e
 .rename_i n
  split at e
  .rename_i ks ho
   split at e
   .rename_i kk ek
    split at e
    .rename_i hl
     cases e;cases ao with | @ref _ p hn=>
     obtain⟨xs,hp,rfl,nd,ns,r⟩:=R.ob n p _ hn ho;have hwi:wi=tupS kk:=by
      cases wi with
      | tup l=>unfold tupS; rw[zci (show strsOf l=some kk from ek)]
      | _=>cases ek
     subst hwi;obtain⟨b,vs,rfl,sq,rs⟩:=(show RW X.K μ H (.tup (kk.map .str)) i from ai).tup_of;cases ro;cases ri;have hk:=zdk I ai;have hl':xs.length<=sizeLine:=by rw[zL] at hl; rw[jD]; omega
     refine wpAny_setItem_heap (knd:=tupleKind (SK X.prog X.w)) (hsz:=hl') (xH ∅) hk (zhp S I hp nd r) λh2 dd hs=>?_
     obtain⟨o2,es,ep,g1,g2,g3,g4,_,_⟩:=dd;have E:Ext μ H μ (upd H p (.ext (TDat cl.P cl.w p (storedH xs kk b u)))):=Ext.put hn;have td:TDat cl.P cl.w p (storedH xs kk b u) h2:=by rw[S.P,S.w]; exact⟨o2,es,ep,g1,g2,g3,g4⟩
     refine⟨_,zeH (ob:=.ext (TDat cl.P cl.w p (storedH xs kk b u))) I (by rw[hp]; exact True.intro) hs ⟨o2,g1⟩ (show ObjOk X.prog X.w _ h2 p (.ext (TDat cl.P cl.w p (storedH xs kk b u))) from ⟨td,⟨o2,g1⟩,zgs⟩),k μ _ E (R.put hn ⟨_,zan,zdo,zdN nd,ns,?_⟩)⟩;exact(zid r ai).ext R E
    .cases e
   .cases e
  .exact old e
 .cases e
def zm4(S:SamePW X cl)(hu:X.A.units+64<cLine)(ho:SE X cl o mo)(hi:SE X cl i mi)
  (ha:∀v,assign (.Subscript o i pos) X.env v=(do
   let ov <-holding [v] (eval o X.env)
   let iv <-holding [v,ov] (eval i X.env)
   standAt pos
   holding [v,ov,iv] (setItem ov iv v)
   release [v,ov,iv] [])):SG X cl (.Subscript o i pos) (zfB mo mi):=
 PG.wk (zn4 ho hi (zp6 S hu) ha) λv σ H Q ⟨μ,h,ρ,w,ρ',h',R,er,rv,e,k⟩=>by
  obtain⟨x,h1,e1,e⟩:=u0 e;obtain⟨y,h2,e2,e⟩:=u0 e;obtain⟨z,h3,e3,e⟩:=u0 e;cases e;refine⟨μ,h,ρ,x,h1,R,er,e1,λμ1 H1 vx E1 R1 rx=>⟨μ1,h1,ρ,y,h2,R1,er.ext R E1,e2,λμ2 H2 vy E2 R2 ry=>?_⟩⟩;refine⟨μ2,h2,x,y,w,z,_,R2,rx.ext R1 E2,ry,(rv.ext R E1).ext R1 E2,e3,λμ3 H3 E3 R3=>?_⟩;exact k μ3 H3 σ (E1.trans (E2.trans E3)) R3 (((er.ext R E1).ext R1 E2).ext R2 E3)
def zm2(S:SamePW X cl):SE X cl (.Dict [] [] pos) zdL:=by
 rintro pins s σ H Q I ⟨μ,h,ρ,w,h',R,er,e,k⟩;cases e;have hf:H s.heap.objs.size=none:=I.hok.fresh (zu _);have td:TDat cl.P cl.w s.heap.objs.size [] (s.heap.push { cls:=.type "dict",data:=.dict #[] }):=zoU _ _ _;refine wpAny_Dict_empty ⟨.ref s.heap.objs.size,_,I.laid (a:=s.heap.objs.size) (o:=.ext (TDat cl.P cl.w s.heap.objs.size [])) (t':=s.toks) (λ_ _ q=>zc _ q) (zu _) (show ObjOk X.prog X.w _ _ _ (.ext (TDat cl.P cl.w s.heap.objs.size [])) from ⟨td,⟨_,zA _ rfl⟩,zgs⟩),rfl,?_⟩;refine k _ _ _ (Ext.new hf) (R.new hf ⟨[],zan,rfl,.nil,jn.mpr (jk (zP I.big)),.nil⟩) (.ref ?_);rw[<-R.len]; simp
def zg6(S:SamePW X cl)(hc:X.calm=true):zar X (.builtin "sorted") (rMs X.K cl zcF):=by
 rintro pins s σ H xs us Q I rs ⟨μ,h,ws,w,h',R,ax,e,k⟩;have old:zdM ws h=some (w,h')->wpAny (model X.prog X.w) X.A (call (.builtin "sorted") us) (EP X pins σ Q) X.xe s:=λe=>ziq pins s σ H xs us Q I rs ⟨μ,h,ws,w,h',R,ax,e,k⟩
 unfold zcF at e;split at e
 .rename_i n
  split at e
  .rename_i ks ho
   split at e
   .rename_i ok
    cases e;cases ax with | cons a1 a2=>
    cases a2;cases a1 with | @ref _ p hn=>
    cases rs with | cons r1 r2=>
    cases r2;cases r1;obtain⟨ys,hp,rfl,nd,ns,r⟩:=R.ob n p _ hn ho;obtain⟨o,es,ep,g1,g2,g3,g4,tk,_⟩:=zhp S I hp nd r;rw[zL] at ok;have len:es.size=ys.length:=by have:=ju List.length g4; simpa using this
    have e1:(ys.map λx=>(x.1,Value.ref x.2.1)).map (·.1)=ys.map (·.1):=by rw[kY]; rfl
    refine zcD (b:=false) (L:=ys.map λx=>(x.1,Value.ref x.2.1)) I R k (λy=>by rw[e1]) (by rw[zL]; exact ok.1) (by rw[e1]; exact nd) ok.2 (λq hq=>?_) (λ_ _ q=>q) (zu _) rfl rfl rfl λE' Q' q=>zf5 (I.ok.hd hc) ns ⟨o,g1,g2,g3⟩ ∅ λs' k1 k2 k3 k4=>?_
    .obtain⟨x,hx,rfl⟩:=zz.mp hq
     exact⟨λz=>(by cases z),_,zhF r x hx,rfl⟩
    .have:=q _ s' (qC _) k1 k2 k3 k4
     rw[kY] at this;rw[g4,kY];exact this
   .cases e
  .exact old e
 .exact old e
end
noncomputable def zem(x:W)(ws:List W):M W:=λh=>match x,ws with
 | .tup l,[.str y]=>match strsOf l with
  | some ks=>match ks.findIdx? (· == y) with
   | some i=>some (.int (i:Nat),h)
   | none=>none
  | none=>none
 | _,_=>none
noncomputable def zi5(f:W->List W->M W)(o:ME)(ms:List ME):ME:=λρ=>bnd (o ρ) λx h=>match x with
 | .tup _=>bnd (zbr ms ρ) (λws=>f x ws) h
 | _=>none
section
variable{prog:Program}{w:World}{A:Around}{E:Value->Shared->Prop}{s:Shared}
def zj8{K:Type}[DecidableEq K]{knd:PySem.KeyKind prog w K}{ks:List K}{vs:List Value}(h:ItemsAre knd ks vs):ks.length=vs.length:=by
 induction h with
 | nil=>rfl
 | cons _ _ ih=>simp[ih]
def zly{K:Type}[DecidableEq K]{knd:PySem.KeyKind prog w K}{ks:List K}{vs:List Value}(h:ItemsAre knd ks vs):∀(i:Nat) (h1:i<ks.length) (h2:i<vs.length),knd.is ks[i] vs[i]=true:=by
 induction h with
 | nil=>intro i h1; simp at h1
 | cons a _ ih=>
  intro i h1 h2;cases i with
  | zero=>exact a
  | succ i=>exact ih i (by simpa using h1) (by simpa using h2)
def zjK{a:Addr}{its:List Value}{ks:List Str}{y:Str}{t:Tok}{j:Nat}{P:PySem.Fin->Shared->Prop}(ht:IsTup s.heap a its.toArray)(hi:ItemsAre (PySem.strKind prog w) ks its)(hj:ks.findIdx? (· == y)=some j)
  (k:∀t',P (.done (.ret (.int (j:Nat) t'))) { s with toks:=s.toks+1 }):wpAny (model prog w) A (Builtin.«tuple.index» ⟨[.ref a,.str y t],[]⟩) P E s:=by
 unfold Builtin.«tuple.index»;refine za (show wpAny _ _ (selfAndSome "tuple.index" "index" 1 3 ⟨[.ref a,.str y t],[]⟩) _ _ _ from zg ?_);dsimp only;refine wpAny_bind (tupleItemsOf_ ht ?_);refine wpAny_bind (wpAny_pure ?_);refine wpAny_bind (wpAny_pure ?_);rw[Std.Legacy.Range.forIn_eq_forIn_range'];obtain⟨hjl,hjy,hjm⟩:=List.findIdx?_eq_some_iff_getElem.mp hj;have len:ks.length=its.length:=zj8 hi;refine za (yr _ (λrest b s'=>b=(none,())/\s'=s/\∃i,i<=j/\rest=List.range' i (its.length-i)) (λb s'=>∃t',b.1=some (.done (.ret (.int (j:Nat) t')))/\s'={ s with toks:=s.toks+1 }) ?turn ?fin _ _ ?start |> λh=>jV h (λb s' ⟨t',e1,e2⟩=>?_) λ_ _ z=>z)
 case turn=>
  rintro x rest b s' ⟨rfl,rfl,i,hi',er⟩;have hil:i<its.length:=by omega
  rw[show its.length-i=(its.length-i-1)+1 by omega,List.range'_succ] at er;obtain⟨rfl,rfl⟩:=ut er;have e0:its.toArray[x]?=some its[x]:=by simp[hil]
  rw[e0];dsimp only;have hx:(PySem.strKind prog w).is (ks[x]'∅) its[x]=true:=zly hi x ∅ hil;refine za ((PySem.strKind prog w).eqBool hx (qH _ _ y t) ?_);by_cases q:ks[x]'∅=y
  .rw[kI q,zR rfl]
   have xj:x=j:=by
    by_cases z:x=j
    .exact z
    .exfalso
     exact hjm x ∅ (by simp[q])
   subst xj;unfold retInt;refine za (za (wpAny_mkInt ?_));exact zg (zg ⟨_,rfl,rfl⟩)
  .rw[jc q,zZ zN]
   refine zg ⟨rfl,rfl,x+1,?_,?_⟩
   .by_cases z:x=j
    .subst z
     exact absurd (eq_of_beq hjy) q
    .omega
   .congr 1
 case fin=>
  rintro b s' ⟨rfl,rfl,i,hi',er⟩;exfalso;have:(List.range' i (its.length-i)).length=0:=by rw[<-er]; rfl
  rw[List.length_range'] at this;omega
 case start=>
  refine⟨rfl,rfl,0,j8 _,?_⟩;simp[Std.Legacy.Range.size]
 .rw[e1,e2]
  exact zg (k t')
end
section
variable{X:Cx}{cl:Cl}{o e:Expr}{es:List Expr}{mo:ME}{ms:List ME}{apos cpos:Pos}
def ziR:MtM X "tuple.index" (rMm X.K cl zem):=by
 rintro pins s σ H x xs v us Q I rx rs ⟨μ,h,wx,ws,w,h',R,ax,as,e,k⟩;unfold zem at e;split at e
 .rename_i l y
  split at e
  .rename_i ks ek
   split at e
   .rename_i j hj
    cases e;have el:=zci ek;subst el;obtain⟨a,vs,rfl,sa,ra⟩:=ax.tup_of;cases rx;cases as with | cons r t=>cases t with | nil=>
    cases r.str_of;cases rs with | cons r1 r2=>
    cases r2;obtain⟨tk,rfl⟩:=r1;obtain⟨ob,items,n,g1,g2,g3,g4⟩:=zdk I (show RW X.K μ H (tupS ks) (.ref a) from ax);refine jj F.slot_tuple_index ⟨ob,g1,g2⟩ F.entry_tuple_index (zjK (its:=items.toList) (by simpa using ⟨ob,g1,g2,n,g3⟩) g4 hj λt'=>⟨_,rfl,.int (j:Nat),H,I.tok _,⟨t',rfl⟩,k.pure R (.int _)⟩) (F.args_tuple_index_2 _ _)
   .cases e
  .cases e
 .cases e
def zkT(ho:SE X cl o mo)(ha:SA X cl (e::es) ms)(hbase:attributeBase o "index" X.env (eval o X.env)=eval o X.env:=by rfl)
  (hfew:((backTo cpos (starEach (e::es) X.env)).all (λx=>!x.1)&&(backToKw cpos (keywordEach [] X.env)).all (λx=>x.1.isSome)&&decide ((e::es).length+([]:List Keyword).length+(if ([]:List Keyword).isEmpty then 0 else 1)<30))=true:=by rfl)
  (hline:(apos.endLine==cpos.line)=true:=by rfl) (hs:starEach (e::es) X.env=(false,eval e X.env)::starEach es X.env:=by rfl) (hplain:(backTo cpos (starEach es X.env)).any (·.1)=false:=by rfl):SE X cl (.Call (.Attribute o "index" apos) (e::es) [] cpos) (zi5 zem mo ms):=by
 rintro pins s σ H Q I ⟨μ,h,ρ,w,h',R,er,q,k⟩;obtain⟨x,h1,e1,q⟩:=u0 q;split at q
 .rename_i l
  obtain⟨ws,h2,e2,q⟩:=u0 q;refine wpAny_Call_method_late hbase hfew hline rfl (thn (ho pins s σ H (λv H1=>∃μ1,Ext μ H μ1 H1/\HR X.K cl μ1 H1 h1/\RW X.K μ1 H1 (.tup l) v) I ⟨μ,h,ρ,_,h1,R,er,e1,λμ1 H1 v E1 R1 r=>⟨μ1,E1,R1,r⟩⟩) λv s1 ⟨vx,H1,I1,r1,μ1,E1,R1,rv⟩=>?_);obtain⟨a,vs,rfl,sa,ra⟩:=rv.tup_of;have r1':=r1;cases r1;obtain⟨its,rr,ht,hz⟩:=I1.tuple sa;have nd:=I1.tupleD sa;refine⟨"tuple","tuple.index",F.plainAttrs_tuple,F.slot_tuple_index,F.type_tuple_index,ht.typeIs,λb z=>by cases z; exact nd,?_⟩;have hA:=ha cpos pins s1 σ H1 (λxs H2=>∃μ2,Ext μ1 H1 μ2 H2/\HR X.K cl μ2 H2 h2/\RWs X.K μ2 H2 ws xs) I1 ⟨μ1,h1,ρ,ws,h2,R1,er.ext R E1,e2,λμ2 H2 xs E2 R2 rs=>⟨μ2,E2,R2,rs⟩⟩;rw[hs] at hA ⊢;refine vP (by show(false||(backTo cpos (starEach es X.env)).any (·.1))=false; rw[hplain]<;>rfl) (yR (thn hA λus s2 ⟨xs,H2,I2,r2,μ2,E2,R2,rs⟩=>?_));exact ziR (cl:=cl) pins s2 σ H2 (.ref a) xs _ us Q I2 r1' r2 ⟨μ2,h2,.tup l,ws,w,h',R2,rv.ext R1 E2,rs,q,k.ext (E1.trans E2)⟩
 .cases q
end
noncomputable def zc6(E:Expr->Option ME)(es:List Expr):Option (List ME):=if es.all noStar=true then mapO E es else none
noncomputable def zbD(Γ:RC)(x:Str):Bool:=Γ.bin.any (· == x)
noncomputable def tyOf(x:Str):Option Ty:=if x=="int" then some .int else if x=="str" then some .str else if x=="bool" then some .bool else if x=="tuple" then some .tuple else if x=="list" then some .list else if x=="dict" then some .dict else none
noncomputable def zdF(mu:Bool)(x:Str):Option (List W->M W):=
 if x=="len" then some lenW else if x=="all" then some allW else if x=="any" then some anyW else if x=="sum" then some sumW
 else if x=="int" then some intW else if x=="str" then some strW else if x=="tuple" then some zbv else if x=="dict" then some zc8
 else if x=="sorted" then some zcF
 else if x=="list" then (match mu with
  | true=>some zh2
  | false=>some zh0)
 else none
noncomputable def zgw:List Expr->Option Expr
 | [.Call (.Name y _) [a] [] _]=>if y=="set" then some a else none
 | _=>none
noncomputable def zgn(Γ:RC):List Expr->Option (Expr×Ty)
 | [a,.Name y _]=>if (glB Γ.sc y&&zbD Γ y&&noStar a)=true then (tyOf y).map λT=>(a,T) else none
 | _=>none
noncomputable def zfP(Γ:RC)(E:Expr->Option ME)(mu:Bool)(x:Str)(as:List Expr):Option ME:=
 if x=="isinstance" then (zgn Γ as).bind λp=>(E p.1).map (eUn (isW p.2))
 else match as with
  | []=>none
  | _::_=>(zdF mu x).bind λg=>(zc6 E as).map (uW g)
noncomputable def zfQ(Γ:RC)(E:Expr->Option ME)(mu:Bool)(x:Str)(as:List Expr):Option ME:=
 if glB Γ.sc x=true then (match Γ.fns.lookup x with
  | some g=>(zc6 E as).map (uW g)
  | none=>if zbD Γ x=true then (match zgw as with
    | some a=>if (x=="sorted" && glB Γ.sc "set" && zbD Γ "set" && noStar a)=true then (E a).map (eUn zaO) else none
    | none=>zfP Γ E mu x as) else none) else none
noncomputable def zhU(E:Expr->Option ME)(o:Expr)(m:Str)(apos:Pos)(as:List Expr)(pos:Pos):Option ME:=
 if (zjW o&&(apos.endLine==pos.line)&&as.all noStar&&decide (as.length<30))=true then (E o).bind λmo=>match as with
  | []=>if m=="pop" then some (zau popM mo []) else none
  | a::r=>if m=="append" then (mapO E (a::r)).map (zau zaT mo)
   else if m=="extend" then (mapO E (a::r)).map (zau zbf mo)
   else if m=="index" then (mapO E (a::r)).map (zi5 zem mo)
   else if m=="get" then (match r with
    | [b]=>(E a).bind λma=>(E b).map (zd4 mo ma)
    | _=>none)
   else none
 else none
section
variable{Γ:RC}{cl:Cl}{k:Nat}{X:Cx}{x:Str}{m:ME}{pos p:Pos}{E:Expr->Option ME}{as:List Expr}{mu:Bool}
theorem zbt:∀{es:List Expr} {ms:List ME},(∀e m,E e=some m->SE X cl e m)->es.all noStar=true->mapO E es=some ms->SA X cl es ms
 | [],ms,_,_,h=>by cases h; exact zel
 | e::es,ms,hE,hn,h=>by
  obtain⟨m,ms',h1,h2,rfl⟩:=zcP h;rw[jF,zr] at hn;exact zck (hE _ _ h1) (zbt hE hn.2 h2) (zaf hn.1)
def zbU{es:List Expr}{ms:List ME}(hE:∀e m,E e=some m->SE X cl e m)(h:zc6 E es=some ms):es.all noStar=true/\SA X cl es ms:=by
 unfold zc6 at h;split at h
 .rename_i hn
  exact⟨hn,zbt hE hn h⟩
 .cases h
def zby(F:Fits Γ cl k X)(h:zbD Γ x=true):X.mg x=none:=by
 unfold zbD at h;obtain⟨y,hy,e⟩:=wU.mp h;rw[<-eq_of_beq e];exact F.base.bin.at hy
def zne{T:Ty}(h:tyOf x=some T):bootBuiltins x=some (.type T.name):=by
 unfold tyOf at h;split at h
 .rename_i q; rw[eq_of_beq q]; cases h; exact zho
 split at h
 .rename_i q; rw[eq_of_beq q]; cases h; exact zhI
 split at h
 .rename_i q; rw[eq_of_beq q]; cases h; exact zkZ
 split at h
 .rename_i q; rw[eq_of_beq q]; cases h; exact zfh
 split at h
 .rename_i q; rw[eq_of_beq q]; cases h; exact zdH
 split at h
 .rename_i q; rw[eq_of_beq q]; cases h; exact zgO
 .cases h
def zgW{e:Expr}{es:List Expr}{ms:List ME}{g:List W->M W}(F:Fits Γ cl k X)(hg:glB Γ.sc x=true)(hb:zbD Γ x=true)(h:zdF mu x=some g)(hn:(e::es).all noStar=true)(ha:SA X cl (e::es) ms):SE X cl (.Call (.Name x p) (e::es) [] pos) (uW g ms):=by
 have hm:=zby F hb;rw[jF,zr] at hn;have h1:=zaf (es:=es) (env:=X.env) hn.1;have h2:=zax (pos:=pos) (env:=X.env) hn.2;unfold zdF at h;split at h
 .rename_i q; have q:=eq_of_beq q; subst q; cases h; exact cB_ hg zjZ hm PySem.boot_len ha F.sc h1 h2
 split at h
 .rename_i q; have q:=eq_of_beq q; subst q; cases h; exact cB_ hg (zjD F.calm) hm ML.boot_all ha F.sc h1 h2
 split at h
 .rename_i q; have q:=eq_of_beq q; subst q; cases h; exact cB_ hg (zi1 F.calm) hm ML.boot_any ha F.sc h1 h2
 split at h
 .rename_i q; have q:=eq_of_beq q; subst q; cases h; exact cB_ hg (zjv F.calm) hm ML.boot_sum ha F.sc h1 h2
 split at h
 .rename_i q; have q:=eq_of_beq q; subst q; cases h; exact cT_ hg zjI hm zho ha F.sc h1 h2
 split at h
 .rename_i q; have q:=eq_of_beq q; subst q; cases h; exact cT_ hg zkn hm zhI ha F.sc h1 h2
 split at h
 .rename_i q; have q:=eq_of_beq q; subst q; cases h; exact cT_ hg zg7 hm zfh ha F.sc h1 h2
 split at h
 .rename_i q; have q:=eq_of_beq q; subst q; cases h; exact cT_ hg (ziu F.calm) hm zgO ha F.sc h1 h2
 split at h
 .rename_i q; have q:=eq_of_beq q; subst q; cases h; exact cB_ hg (zg6 ⟨F.base.pw.1,F.base.pw.2⟩ F.calm) hm uc ha F.sc h1 h2
 split at h
 .rename_i q
  have q:=eq_of_beq q; subst q;split at h
  .cases h; exact cT_ hg zh4 hm zdH ha F.sc h1 h2
  .cases h; exact cT_ hg ziA hm zdH ha F.sc h1 h2
 .cases h
def ziU{a:Expr}{T:Ty}(h:zgn Γ as=some (a,T)):∃y p2,as=[a,.Name y p2]/\glB Γ.sc y=true/\zbD Γ y=true/\noStar a=true/\tyOf y=some T:=by
 unfold zgn at h;split at h
 .rename_i a' y p2
  split at h
  .rename_i q
   rw[zj] at h;obtain⟨T',e,z⟩:=h;cases z;simp only[zr] at q;exact⟨y,p2,rfl,q.1.1,q.1.2,q.2,e⟩
  .cases h
 .cases h
def ziO(F:Fits Γ cl k X)(hE:∀e m,E e=some m->SE X cl e m)(hg:glB Γ.sc x=true)(hb:zbD Γ x=true)(h:zfP Γ E mu x as=some m):SE X cl (.Call (.Name x p) as [] pos) m:=by
 unfold zfP at h;split at h
 .rename_i q
  have q:=eq_of_beq q; subst q;rw[zp] at h;obtain⟨⟨a,T⟩,e,h⟩:=h;rw[zj] at h;obtain⟨ma,e2,rfl⟩:=h;obtain⟨y,p2,rfl,g2,b2,ns,ty⟩:=ziU e;exact isi_ T hg g2 (hE _ _ e2) (zby F hb) (zby F b2) (zne ty) F.sc (zaf ns) (zaf rfl) (zax rfl)
 .split at h
  .cases h
  .rw[zp] at h
   obtain⟨g,e,h⟩:=h;rw[zj] at h;obtain⟨ms,e2,rfl⟩:=h;obtain⟨hn,ha⟩:=zbU hE e2;exact zgW F hg hb e hn ha
def zja{a:Expr}(h:zgw as=some a):∃p2 p3,as=[.Call (.Name "set" p2) [a] [] p3]:=by
 unfold zgw at h;split at h
 .rename_i y p2 a' p3
  split at h
  .rename_i q
   cases h;rw[eq_of_beq q];exact⟨p2,p3,rfl⟩
  .cases h
 .cases h
def zjH(F:Fits Γ cl k X)(hE:∀e m,E e=some m->SE X cl e m)(h:zfQ Γ E mu x as=some m):SE X cl (.Call (.Name x p) as [] pos) m:=by
 unfold zfQ at h;split at h
 .rename_i hg
  split at h
  .rename_i g e
   rw[zj] at h;obtain⟨ms,e2,rfl⟩:=h;obtain⟨hn,ha⟩:=zbU hE e2;obtain⟨f,fd,ps,fo,hm,hk,hb⟩:=F.base.fns.at e;cases as with
   | nil=>
    have:ms=[]:=by
     cases e2; rfl
    subst this;exact c0_ hg fo F.room hm hk hb F.sc
   | cons a r=>
    rw[jF,zr] at hn;exact c_ hg fo F.room hm hk hb ha F.sc (zaf hn.1) (zax hn.2)
  .split at h
   .rename_i hb
    split at h
    .rename_i a e
     split at h
     .rename_i q
      simp only[zr] at q;rw[zj] at h;obtain⟨ma,e2,rfl⟩:=h;obtain⟨p2,p3,rfl⟩:=zja e;have hx:=eq_of_beq q.1.1.1;subst hx;exact zis F.calm F.room.units (zby F hb) (zby F q.1.2) (hE _ _ e2) (zal hg F.sc).1 (zal q.1.1.2 F.sc).1 (zaf q.2) (zax rfl) (zaf rfl) (zax rfl)
     .cases h
    .exact ziO F hE hg hb h
   .cases h
 .cases h
def zkU{o:Expr}{nm:Str}{apos:Pos}(F:Fits Γ cl k X)(hE:∀e m,E e=some m->SE X cl e m)(h:zhU E o nm apos as pos=some m):SE X cl (.Call (.Attribute o nm apos) as [] pos) m:=by
 unfold zhU at h;split at h
 .rename_i q
  simp only[zr] at q;obtain⟨⟨⟨q1,q2⟩,q3⟩,q4⟩:=q;rw[zp] at h;obtain⟨mo,eo,h⟩:=h;split at h
  .split at h
   .rename_i z
    rw[eq_of_beq z];cases h;exact zpF (hE _ _ eo) (zco q1) q2
   .cases h
  .rename_i a r
   have hn:=q3;rw[jF,zr] at hn;split at h
   .rename_i z
    rw[eq_of_beq z];rw[zj] at h;obtain⟨ms,e2,rfl⟩:=h;exact zkk (hE _ _ eo) (zbt hE q3 e2) (zco q1) (zdY q3 q4) q2 (zaf hn.1) (zax hn.2)
   split at h
   .rename_i z
    rw[eq_of_beq z];rw[zj] at h;obtain⟨ms,e2,rfl⟩:=h;exact zi4 (hE _ _ eo) (zbt hE q3 e2) (zco q1) (zdY q3 q4) q2 (zaf hn.1) (zax hn.2)
   split at h
   .rename_i z
    rw[eq_of_beq z];rw[zj] at h;obtain⟨ms,e2,rfl⟩:=h;exact zkT (hE _ _ eo) (zbt hE q3 e2) (zco q1) (zdY q3 q4) q2 (zaf hn.1) (zax hn.2)
   split at h
   .rename_i z
    rw[eq_of_beq z];split at h
    .rename_i b
     rw[zp] at h;obtain⟨ma,e1,h⟩:=h;rw[zj] at h;obtain⟨mb,e2,rfl⟩:=h;have hb:noStar b=true:=by simpa using hn.2
     exact zlz F.room.units (hE _ _ eo) (hE _ _ e1) (hE _ _ e2) ⟨zco q1,zdY q3 q4,q2,by rw[zb2 hn.1,zb2 hb,zcI]; rfl⟩
    .cases h
   .cases h
 .cases h
end
noncomputable def zjz(Γ:RC):Expr->Bool
 | .Constant (.str _) _ _=>true
 | .Name x _=>Γ.txt.any (· == x)
 | _=>false
noncomputable def zl6(Γ:RC):Expr->Bool
 | .Subscript e (.Slice _ _ _ _) _=>zjz Γ e
 | e=>zjz Γ e
noncomputable def isTup:Expr->Bool
 | .Tuple ..=>true
 | _=>false
noncomputable def zfS(Γ:RC)(E:Expr->Option ME)(tg:Expr)(x:Str)(as:List Expr):Option MI:=
 if (glB Γ.sc x&&zbD Γ x&&as.all noStar)=true then (match as with
  | [e]=>if x=="range" then (E e).map λm=>iRng [m]
   else if (x=="enumerate" && isTup tg)=true then (E e).map λm=>zh5 [m]
   else none
  | [e,e2]=>if (x=="zip" && isTup tg)=true then (E e).bind λm=>(E e2).map λm2=>iZip [m,m2] else none
  | _=>none) else none
noncomputable def ziV(Γ:RC)(E:Expr->Option ME)(tg:Expr):Expr->Option MI
 | .Call (.Name x _) as [] _=>zfS Γ E tg x as
 | _=>none
noncomputable def zfA(Γ:RC)(E:Expr->Option ME)(tg it:Expr):Option MI:=match ziV Γ E tg it with
 | some m=>some m
 | none=>(E it).map λm=>match zl6 Γ it with
  | true=>iStr m
  | false=>iSeq m
section
variable{Γ:RC}{cl:Cl}{k:Nat}{X:Cx}{x:Str}{pos p:Pos}{E:Expr->Option ME}{as:List Expr}{tg it:Expr}{mi:MI}
def zgI(h:isTup tg=true):∃es n tp,tg=.Tuple es n tp:=by
 unfold isTup at h;split at h
 .exact⟨_,_,_,rfl⟩
 .cases h
def zkv(F:Fits Γ cl k X)(hE:∀e m,E e=some m->SE X cl e m)(h:zfS Γ E tg x as=some mi):SI X cl tg (.Call (.Name x p) as [] pos) mi:=by
 unfold zfS at h;split at h
 .rename_i q
  simp only[zr] at q;obtain⟨⟨q1,q2⟩,q3⟩:=q;split at h
  .rename_i e
   have hn:noStar e=true:=by simpa using q3
   split at h
   .rename_i z
    have z:=eq_of_beq z; subst z;rw[zj] at h;obtain⟨m,e1,rfl⟩:=h;exact rng_ q1 (zby F q2) (zck (hE _ _ e1) zel (zaf hn)) F.sc (by rw[zaf hn,zcI])
   split at h
   .rename_i z
    rw[zr] at z;obtain⟨es,n,tp,rfl⟩:=zgI z.2;have z:=eq_of_beq z.1; subst z;rw[zj] at h;obtain⟨m,e1,rfl⟩:=h;exact enu_ q1 (zby F q2) (zck (hE _ _ e1) zel (zaf hn)) F.sc (zaf hn) (zax rfl)
   .cases h
  .rename_i e e2
   rw[jF,zr] at q3;have hn2:noStar e2=true:=by simpa using q3.2
   split at h
   .rename_i z
    rw[zr] at z;obtain⟨es,n,tp,rfl⟩:=zgI z.2;have z:=eq_of_beq z.1; subst z;rw[zp] at h;obtain⟨m,e1,h⟩:=h;rw[zj] at h;obtain⟨m2,e3,rfl⟩:=h;exact zip_ q1 (zby F q2) (zck (hE _ _ e1) (zck (hE _ _ e3) zel (zaf hn2)) (zaf q3.1)) F.sc (zaf q3.1) (zax q3.2)
   .cases h
  .cases h
 .cases h
def zgy(F:Fits Γ cl k X)(hE:∀e m,E e=some m->SE X cl e m)(h:zfA Γ E tg it=some mi):SI X cl tg it mi:=by
 unfold zfA at h;split at h
 .rename_i m e
  cases h;unfold ziV at e;split at e
  .exact zkv F hE e
  .cases e
 .rw[zj] at h
  obtain⟨m,e1,h⟩:=h;cases q:zl6 Γ it with
  | true=>rw[q] at h; subst h; exact zog (hE _ _ e1)
  | false=>rw[q] at h; subst h; exact zpx (hE _ _ e1)
end
noncomputable def zgD(T:Expr->Option MT):List Expr->Option MT
 | []=>some zba
 | [c]=>T c
 | _=>none
structure CompR where
 mi:MI
 nl:Nat
 ks:List Nat
 g:MG
 t:MT
 m:ME
noncomputable def RC.inner(Γ:RC)(scope:Scope)(N':List Str):RC:={ Γ with sc:=relS Γ.sc scope,N:=N',inC:=true }
noncomputable def zjf(Γ:RC)(E:RC->Bool->Expr->Option ME)(T:RC->Expr->Option MT)(elt tg it:Expr)(ifs:List Expr)(scope:Scope)(N':List Str):Option CompR:=
 if (zfw it&&zf1 N')=true then (mapO (λx=>ixOf x Γ.N) (N'.drop (tgN tg))).bind λks=>
  if zbg Γ.sc Γ.N scope N' (tgN tg) ks=true then (zfA Γ (E Γ false) tg it).bind λmi=>(xTg (Γ.inner scope N') tg).bind λg=>(zgD (T (Γ.inner scope N')) ifs).bind λt=>(E (Γ.inner scope N') false elt).map λm=>⟨mi,tgN tg,ks,g,t,m⟩
  else none
 else none
noncomputable def zfz(Γ:RC)(E:RC->Bool->Expr->Option ME)(T:RC->Expr->Option MT)(elt:Expr)(gens:List Comprehension)(scope:Scope)(pos:Pos):Option CompR:=match gens with
 | [⟨tg,it,ifs,ia⟩]=>match Γ.cmp.lookup (pos.line,pos.col) with
  | some N'=>if ia=0 then zjf Γ E T elt tg it ifs scope N' else none
  | none=>none
 | _=>none
section
variable{Γ:RC}{cl:Cl}{k:Nat}{X:Cx}{E:RC->Bool->Expr->Option ME}{T:RC->Expr->Option MT}{elt:Expr}{gens:List Comprehension}{scope:Scope}{pos:Pos}{r:CompR}
theorem Fits.inner(F:Fits Γ cl k X){N':List Str}(hN:N'.Nodup)(hk:scope.kind=.function)(cs:List (Str×Addr))(C:Addr)(s₀:Shared)(H₀:Hp)(ex:List Addr):Fits (Γ.inner scope N') cl k (cxC X scope cs C N' s₀ H₀ ex) where
 sc:=by
  show relabel scope X.env=relS Γ.sc scope
  rw[<-F.sc];rfl
 N:=rfl
 nd:=hN
 fn:=λh=>by cases h
 kind:=hk
 calm:=F.calm
 pass:=yz
 room:=F.room
 base:=⟨F.base.fns,F.base.con,F.base.tab,F.base.bin,F.base.pw⟩
def zkb{t:Expr->Option MT}{ifs:List Expr}{m:MT}(hT:∀e m,t e=some m->ST X cl e m)(h:zgD t ifs=some m):STs X cl ifs m:=by
 unfold zgD at h;split at h
 .cases h; exact znm
 .exact znL (hT _ _ h)
 .cases h
structure CompG(X:Cx)(cl:Cl)(elt:Expr)(gens:List Comprehension)(scope:Scope)(r:CompR):Prop where
 ex:∃tg it ifs N',gens=[⟨tg,it,ifs,0⟩]/\zbg X.env.scope X.N scope N' r.nl r.ks=true/\zfw it=true/\SI X cl tg it r.mi/\(∀cs C s₀ H₀ ex,SG (cxC X scope cs C N' s₀ H₀ ex) cl tg r.g)/\(∀cs C s₀ H₀ ex,STs (cxC X scope cs C N' s₀ H₀ ex) cl ifs r.t)/\∀cs C s₀ H₀ ex,SE (cxC X scope cs C N' s₀ H₀ ex) cl elt r.m
def zgA(F:Fits Γ cl k X)(hE:∀Γ X,Fits Γ cl k X->∀mu e m,E Γ mu e=some m->SE X cl e m)(hT:∀Γ X,Fits Γ cl k X->∀e m,T Γ e=some m->ST X cl e m)(h:zfz Γ E T elt gens scope pos=some r):CompG X cl elt gens scope r:=by
 unfold zfz at h;split at h
 .rename_i tg it ifs ia
  split at h
  .rename_i N' _
   split at h
   .rename_i z
    subst z;unfold zjf at h;split at h
    .rename_i q
     rw[zr] at q;rw[zp] at h;obtain⟨ks,e1,h⟩:=h;split at h
     .rename_i ok
      rw[zp] at h;obtain⟨mi,e2,h⟩:=h;rw[zp] at h;obtain⟨g,e3,h⟩:=h;rw[zp] at h;obtain⟨t,e4,h⟩:=h;rw[zj] at h;obtain⟨m,e5,rfl⟩:=h;have Fi:=λcs C s₀ H₀ ex=>F.inner (scope:=scope) (zmd q.2) (zbA ok).kind cs C s₀ H₀ ex
      exact⟨tg,it,ifs,N',rfl,by rw[F.sc,F.N]; exact ok,q.1,zgy F (hE _ _ F false) e2,λcs C s₀ H₀ ex=>zgz (Fi cs C s₀ H₀ ex) e3,λcs C s₀ H₀ ex=>zkb (hT _ _ (Fi cs C s₀ H₀ ex)) e4,λcs C s₀ H₀ ex=>hE _ _ (Fi cs C s₀ H₀ ex) _ _ _ e5⟩
     .cases h
    .cases h
   .cases h
  .cases h
 .cases h
end
noncomputable def tabOf(Γ:RC):CmpOp->Expr->Option (Bool×List (Str×W))
 | .In,.Name x _=>if glB Γ.sc x=true then (Γ.tab.lookup x).map λl=>(false,l) else none
 | .NotIn,.Name x _=>if glB Γ.sc x=true then (Γ.tab.lookup x).map λl=>(true,l) else none
 | _,_=>none
noncomputable def zhM(Γ:RC)(E:Expr->Option ME)(a:Expr)(op:CmpOp)(b:Expr):Option ME:=match tabOf Γ op b with
 | some p=>(E a).map (eUn (tabIn p.1 p.2))
 | none=>if behindInMarks op b=true then none else (opC op).bind λf=>(E a).bind λma=>(E b).map λmb=>eOp f ma mb
noncomputable def zhW(E:Expr->Option ME)(a:Expr)(op op':CmpOp)(b c:Expr):Option ME:=
 if lastMarks [op,op'] [b,c]=true then none else (opC op).bind λf=>(opC op').bind λg=>(E a).bind λma=>(E b).bind λmb=>(E c).map λmc=>zcV f g ma mb mc
noncomputable def xCmp(Γ:RC)(E:Expr->Option ME)(a:Expr)(ops:List CmpOp)(bs:List Expr):Option ME:=match ops,bs with
 | [op],[b]=>zhM Γ E a op b
 | [op,op'],[b,c]=>zhW E a op op' b c
 | _,_=>none
noncomputable def xOpt(E:Expr->Option ME):Option Expr->Option (Option ME)
 | none=>some none
 | some e=>(E e).map some
noncomputable def zfJ(E:Expr->Option ME)(ma:ME)(lo hi st:Option Expr):Option ME:=match st with
 | none=>(xOpt E lo).bind λml=>(xOpt E hi).map λmh=>eSl ma ml mh
 | _=>none
noncomputable def zeq(Γ:RC)(E:Expr->Option ME)(a b:Expr):Option ME:=match a with
 | .Name x _=>if (glB Γ.sc x&&zc1 b)=true then (match Γ.tab.lookup x with
  | some l=>(E b).map (eUn (zcm l))
  | none=>none) else none
 | _=>none
noncomputable def xSub(Γ:RC)(E:Expr->Option ME)(a b:Expr):Option ME:=match zeq Γ E a b with
 | some m=>some m
 | none=>(E a).bind λma=>match b with
  | .Slice lo hi st _=>zfJ E ma lo hi st
  | b=>(E b).map (eOp ixW ma)
noncomputable def zhN(Γ:RC)(E:Expr->Option ME)(a b:Expr):Bool->Option ME
 | false=>xSub Γ E a b
 | true=>match b with
  | .Slice lo hi none _=>(E a).bind λma=>(xOpt E lo).bind λml=>(xOpt E hi).map λmh=>eSlM ma ml mh
  | b=>xSub Γ E a b
noncomputable def zdX(op:BoolOp)(E:Expr->Option ME):List Expr->Option ME
 | []=>none
 | [a]=>E a
 | a::r=>(E a).bind λma=>(zdX op E r).map λmb=>match op with
  | .And=>eAnd ma mb
  | .Or=>eOr ma mb
noncomputable def zd9(op:BoolOp)(T:Expr->Option MT):List Expr->Option MT
 | []=>none
 | [a]=>T a
 | a::r=>(T a).bind λma=>(zd9 op T r).map λmb=>match op with
  | .And=>zdc ma mb
  | .Or=>tOrM ma mb
noncomputable def ziv(E:Expr->Option ME)(mu:Bool)(ks:List (Option Expr))(vs:List Expr):Option ME:=match ks,vs with
 | [],[]=>match mu with
  | true=>some zlV
  | false=>some (eC (.fdc []))
 | _,_=>none
noncomputable def zeo(mu:Bool)(r:CompR):ME:=match mu with
 | true=>zcX r.mi r.nl r.ks r.g r.t r.m
 | false=>zaq r.mi r.nl r.ks r.g r.t r.m
noncomputable def zim(E:RC->Bool->Expr->Option ME)(T:RC->Expr->Option MT)(Γ:RC)(mu:Bool):Expr->Option ME
 | .Name x _=>zib Γ x
 | .Constant c _ _=>zfR c
 | .UnaryOp .Not a _=>(E Γ false a).map eNot
 | .UnaryOp .USub a _=>(E Γ false a).map (eUn negW)
 | .BinOp a op b _=>(opB mu op).bind λf=>(E Γ false a).bind λma=>(E Γ false b).map (eOp f ma)
 | .Compare a ops bs _=>xCmp Γ (E Γ false) a ops bs
 | .BoolOp op vs _=>zdX op (E Γ false) vs
 | .IfExp t a b _=>(T Γ t).bind λmt=>(E Γ false a).bind λma=>(E Γ false b).map (eIf mt ma)
 | .Tuple es _ _=>(zc6 (E Γ false) es).map (uW tupW)
 | .List es _=>(zc6 (E Γ false) es).map (match mu with
  | true=>uW lstW
  | false=>uW flsW)
 | .Dict ks vs _=>ziv (E Γ false) mu ks vs
 | .Subscript a b _=>zhN Γ (E Γ false) a b mu
 | .Call (.Name x _) as [] _=>zfQ Γ (E Γ false) mu x as
 | .Call (.Attribute o nm apos) as [] pos=>zhU (E Γ false) o nm apos as pos
 | .ListComp elt gens scope pos=>(zfz Γ E T elt gens scope pos).map (zeo mu)
 | _=>none
noncomputable def stepT(E:RC->Bool->Expr->Option ME)(T:RC->Expr->Option MT)(Γ:RC):Expr->Option MT
 | .BoolOp op vs _=>zd9 op (T Γ) vs
 | .UnaryOp .Not a _=>(T Γ a).map zig
 | .Compare a ops bs _=>(xCmp Γ (E Γ false) a ops bs).map tVal
 | e=>if plainT e=true then (E Γ false e).map tVal else none
noncomputable def cET:Nat->(RC->Bool->Expr->Option ME)×(RC->Expr->Option MT)
 | 0=>(λ_ _ _=>none,λ_ _=>none)
 | n+1=>(zim (cET n).1 (cET n).2,stepT (cET n).1 (cET n).2)
section
variable{Γ:RC}{cl:Cl}{k:Nat}{X:Cx}{m:ME}{pos p:Pos}{E:Expr->Option ME}{T:Expr->Option MT}{a b:Expr}{mu:Bool}
def zlj{op:CmpOp}(F:Fits Γ cl k X)(hE:∀e m,E e=some m->SE X cl e m)(h:zhM Γ E a op b=some m):SE X cl (.Compare a [op] [b] pos) m/\ST X cl (.Compare a [op] [b] pos) (tVal m):=by
 unfold zhM at h;split at h
 .rename_i q e
  rw[zj] at h;obtain⟨ma,e1,rfl⟩:=h;unfold tabOf at e;split at e
  .split at e
   .rename_i hg
    rw[zj] at e;obtain⟨l,e2,rfl⟩:=e;exact⟨tI_ hg F.room.units (F.base.tab.at e2) (hE _ _ e1) F.sc,tIt_ hg F.room.units (F.base.tab.at e2) (hE _ _ e1) F.sc⟩
   .cases e
  .split at e
   .rename_i hg
    rw[zj] at e;obtain⟨l,e2,rfl⟩:=e;exact⟨tN_ hg F.room.units (F.base.tab.at e2) (hE _ _ e1) F.sc,tNt_ hg F.room.units (F.base.tab.at e2) (hE _ _ e1) F.sc⟩
   .cases e
  .cases e
 .split at h
  .cases h
  .rename_i hm
   rw[Bool.not_eq_true] at hm;rw[zp] at h;obtain⟨f,e0,h⟩:=h;rw[zp] at h;obtain⟨ma,e1,h⟩:=h;rw[zj] at h;obtain⟨mb,e2,rfl⟩:=h;exact⟨zoT (zcf F.room.units e0) (hE _ _ e1) (hE _ _ e2) hm,zoy (zcf F.room.units e0) (hE _ _ e1) (hE _ _ e2) hm⟩
def zkR{op op':CmpOp}{c:Expr}(F:Fits Γ cl k X)(hE:∀e m,E e=some m->SE X cl e m)(h:zhW E a op op' b c=some m):SE X cl (.Compare a [op,op'] [b,c] pos) m/\ST X cl (.Compare a [op,op'] [b,c] pos) (tVal m):=by
 unfold zhW at h;split at h
 .cases h
 .rename_i hm
  rw[Bool.not_eq_true] at hm;rw[zp] at h;obtain⟨f,e0,h⟩:=h;rw[zp] at h;obtain⟨g,e01,h⟩:=h;rw[zp] at h;obtain⟨ma,e1,h⟩:=h;rw[zp] at h;obtain⟨mb,e2,h⟩:=h;rw[zj] at h;obtain⟨mc,e3,rfl⟩:=h;exact⟨zlr (zcf F.room.units e0) (zcf F.room.units e01) (hE _ _ e1) (hE _ _ e2) (hE _ _ e3) hm,zlp (zcf F.room.units e0) (zcf F.room.units e01) (hE _ _ e1) (hE _ _ e2) (hE _ _ e3) hm⟩
def zg9{ops:List CmpOp}{bs:List Expr}(F:Fits Γ cl k X)(hE:∀e m,E e=some m->SE X cl e m)(h:xCmp Γ E a ops bs=some m):SE X cl (.Compare a ops bs pos) m/\ST X cl (.Compare a ops bs pos) (tVal m):=by
 unfold xCmp at h;split at h
 .exact zlj F hE h
 .exact zkR F hE h
 .cases h
def zc3{o:Option Expr}{mo:Option ME}(hE:∀e m,E e=some m->SE X cl e m)(h:xOpt E o=some mo):SO X cl o mo:=by
 unfold xOpt at h;split at h
 .cases h; exact zm9
 .rw[zj] at h
  obtain⟨m,e1,rfl⟩:=h;exact zm1 (hE _ _ e1)
def zjw{ma:ME}{lo hi st:Option Expr}(hE:∀e m,E e=some m->SE X cl e m)(ha:SE X cl a ma)(h:zfJ E ma lo hi st=some m):SE X cl (.Subscript a (.Slice lo hi st p) pos) m:=by
 unfold zfJ at h;split at h
 .rw[zp] at h
  obtain⟨ml,e1,h⟩:=h;rw[zj] at h;obtain⟨mh,e2,rfl⟩:=h;exact zqB ha (zc3 hE e1) (zc3 hE e2)
 .cases h
def zhO(F:Fits Γ cl k X)(hE:∀e m,E e=some m->SE X cl e m)(h:zeq Γ E a b=some m):SE X cl (.Subscript a b pos) m:=by
 unfold zeq at h;split at h
 .split at h
  .rename_i q
   rw[zr] at q;split at h
   .rename_i l e
    rw[zj] at h;obtain⟨mb,e1,rfl⟩:=h;exact tG_ q.1 F.room.units (F.base.tab.at e) (hE _ _ e1) F.sc (zl5 q.2)
   .cases h
  .cases h
 .cases h
def zhH(F:Fits Γ cl k X)(hE:∀e m,E e=some m->SE X cl e m)(h:xSub Γ E a b=some m):SE X cl (.Subscript a b pos) m:=by
 unfold xSub at h;split at h
 .rename_i m' e
  cases h;exact zhO F hE e
 .rw[zp] at h
  obtain⟨ma,e1,h⟩:=h;split at h
  .exact zjw hE (hE _ _ e1) h
  .rename_i hb
   rw[zj] at h;obtain⟨mb,e2,rfl⟩:=h;refine zqy (hE _ _ e1) (hE _ _ e2) (zl5 ?_);cases b<;>first | rfl | exact absurd rfl (hb _ _ _ _)
def zlL{mu:Bool}(F:Fits Γ cl k X)(hE:∀e m,E e=some m->SE X cl e m)(h:zhN Γ E a b mu=some m):SE X cl (.Subscript a b pos) m:=by
 unfold zhN at h;split at h
 .exact zhH F hE h
 .split at h
  .rw[zp] at h
   obtain⟨ma,e0,h⟩:=h;rw[zp] at h;obtain⟨ml,e1,h⟩:=h;rw[zj] at h;obtain⟨mh,e2,rfl⟩:=h;exact zpH (hE _ _ e0) (zc3 hE e1) (zc3 hE e2)
  .exact zhH F hE h
theorem zfk{op:BoolOp}(hE:∀e m,E e=some m->SE X cl e m):∀{vs:List Expr} {m:ME},zdX op E vs=some m->SE X cl (.BoolOp op vs pos) m
 | [],m,h=>by cases h
 | [a],m,h=>zpI (hE _ _ h)
 | a::b::r,m,h=>by
  unfold zdX at h;rw[zp] at h;obtain⟨ma,e1,h⟩:=h;rw[zj] at h;obtain⟨mb,e2,h⟩:=h;have ih:=zfk hE e2;cases op with
  | And=>subst h; exact zoX (hE _ _ e1) ih
  | Or=>subst h; exact zpW (hE _ _ e1) ih
theorem zfd{op:BoolOp}(hT:∀e m,T e=some m->ST X cl e m):∀{vs:List Expr} {m:MT},zd9 op T vs=some m->SW X cl (.BoolOp op vs pos) m
 | [],m,h=>by cases h
 | [a],m,h=>by
  cases op with
  | And=>exact zmW (hT _ _ h)
  | Or=>exact zpv (hT _ _ h)
 | a::b::r,m,h=>by
  unfold zd9 at h;rw[zp] at h;obtain⟨ma,e1,h⟩:=h;rw[zj] at h;obtain⟨mb,e2,h⟩:=h;have ih:=zfd hT e2;cases op with
  | And=>subst h; exact zo3 (hT _ _ e1) ih
  | Or=>subst h; exact zpR (hT _ _ e1) ih
def zlM{ks:List (Option Expr)}{vs:List Expr}(hE:∀e m,E e=some m->SE X cl e m)(h:ziv E mu ks vs=some m):SE X cl (.Dict ks vs pos) m:=by
 unfold ziv at h;split at h
 .split at h
  .cases h; exact zkO
  .cases h; exact zmM
 .cases h
end
section
variable{Γ:RC}{cl:Cl}{k:Nat}{X:Cx}{m:ME}{pos p:Pos}{E:RC->Bool->Expr->Option ME}{T:RC->Expr->Option MT}{mu:Bool}
def zfn{elt:Expr}{gens:List Comprehension}{scope:Scope}{r:CompR}(F:Fits Γ cl k X)(g:CompG X cl elt gens scope r):SE X cl (.ListComp elt gens scope pos) (zeo mu r):=by
 obtain⟨tg,it,ifs,N',rfl,ok,hs,hi,hg,ht,he⟩:=g.ex;cases mu with
 | true=>exact zla _ _ N' r.nl r.ks F.calm ok hi hg ht he rfl rfl (zbx hs)
 | false=>exact zmu _ _ N' r.nl r.ks F.calm ok hi hg ht he rfl rfl (zbx hs)
def zk3(hE:∀Γ X,Fits Γ cl k X->∀mu e m,E Γ mu e=some m->SE X cl e m)(hT:∀Γ X,Fits Γ cl k X->∀e m,T Γ e=some m->ST X cl e m)(F:Fits Γ cl k X){e:Expr}(h:zim E T Γ mu e=some m):SE X cl e m:=by
 have hE':=hE _ _ F;have hF:=hE' false;have hT':=hT _ _ F;unfold zim at h;split at h
 .exact zkJ F h
 .exact zkm h
 .rw[zj] at h
  obtain⟨ma,e1,rfl⟩:=h;exact znO (hF _ _ e1)
 .rw[zj] at h
  obtain⟨ma,e1,rfl⟩:=h;exact zqk znv (hF _ _ e1)
 .rw[zp] at h
  obtain⟨f,e0,h⟩:=h;rw[zp] at h;obtain⟨ma,e1,h⟩:=h;rw[zj] at h;obtain⟨mb,e2,rfl⟩:=h;exact zpZ (zof e0) (hF _ _ e1) (hF _ _ e2)
 .exact(zg9 F hF h).1
 .exact zfk hF h
 .rw[zp] at h
  obtain⟨mt,e0,h⟩:=h;rw[zp] at h;obtain⟨ma,e1,h⟩:=h;rw[zj] at h;obtain⟨mb,e2,rfl⟩:=h;exact zqg (hT' _ _ e0) (hF _ _ e1) (hF _ _ e2)
 .rw[zj] at h
  obtain⟨ms,e1,rfl⟩:=h;exact znW (zbU hF e1).2
 .rw[zj] at h
  obtain⟨ms,e1,h⟩:=h;cases mu with
  | true=>subst h; exact zo8 (zbU hF e1).2
  | false=>subst h; exact zpz (zbU hF e1).2
 .exact zlM hF h
 .exact zlL F hF h
 .exact zjH F hF h
 .exact zkU F hF h
 .rw[zj] at h
  obtain⟨r,e1,rfl⟩:=h;exact zfn F (zgA F hE hT e1)
 .cases h
def zkz(hE:∀Γ X,Fits Γ cl k X->∀mu e m,E Γ mu e=some m->SE X cl e m)(hT:∀Γ X,Fits Γ cl k X->∀e m,T Γ e=some m->ST X cl e m)(F:Fits Γ cl k X){e:Expr}{t:MT}(h:stepT E T Γ e=some t):ST X cl e t:=by
 have hF:=hE _ _ F false;have hT':=hT _ _ F;unfold stepT at h;split at h
 .exact zml (zfd hT' h)
 .rw[zj] at h
  obtain⟨ma,e1,rfl⟩:=h;exact zps (hT' _ _ e1)
 .rw[zj] at h
  obtain⟨ma,e1,rfl⟩:=h;exact(zg9 F hF e1).2
 .split at h
  .rename_i q
   rw[zj] at h;obtain⟨ma,e1,rfl⟩:=h;exact zpC (hF _ _ e1) (zky q)
  .cases h
theorem zch:∀n,(∀Γ X,Fits Γ cl k X->∀mu e m,(cET n).1 Γ mu e=some m->SE X cl e m)/\(∀Γ X,Fits Γ cl k X->∀e m,(cET n).2 Γ e=some m->ST X cl e m)
 | 0=>⟨λ_ _ _ _ _ _ h=>(by cases h),λ_ _ _ _ _ h=>(by cases h)⟩
 | n+1=>⟨λΓ X F mu e m h=>zk3 (zch n).1 (zch n).2 F h,λΓ X F e m h=>zkz (zch n).1 (zch n).2 F h⟩
end
def zn9{o i:Expr}{pos:Pos}{env:Env}(h:zc1 i=true):∀v,assign (.Subscript o i pos) env v=(do
   let ov <-holding [v] (eval o env)
   let iv <-holding [v,ov] (eval i env)
   standAt pos
   holding [v,ov,iv] (setItem ov iv v)
   release [v,ov,iv] []):=by
 intro v;cases i<;>first | (cases h; done) | kernel_rfl
theorem zgZ{o i e:Expr}{p:Pos}{env:Env}:swappedStores [.Subscript o i p] e env=pure none:=rfl
noncomputable def zfF(Γ:RC)(x:Str):Bool:=Γ.own.any (· == x)
noncomputable def zfE(Γ:RC)(x:Str)(px:Pos)(scope:Scope)(cpos:Pos):Bool:=Γ.sc.names.lookup x==some .local&&px.line==cpos.line && !(scope.names.any λ(n,k)=>n==x&&(k==.local||k==.cell))
noncomputable def zhT(Γ:RC)(E:RC->Bool->Expr->Option ME)(T:RC->Expr->Option MT)(x:Str):Expr->Option ME
 | .ListComp elt gens scope cpos=>(zfz Γ E T elt gens scope cpos).map (zeo (zfF Γ x))
 | .Dict [] [] dp=>if Γ.txt.any (· == x)=true then some zdL else E Γ (zfF Γ x) (.Dict [] [] dp)
 | v=>if zd3 v=true then E Γ (zfF Γ x) v else none
noncomputable def xAsg(Γ:RC)(E:RC->Bool->Expr->Option ME)(T:RC->Expr->Option MT)(tg v:Expr):Option MS:=match tg with
 | .Name x _=>match ixOf x Γ.N with
  | some i=>if (setB Γ.sc Γ.N i x && !Γ.inC)=true then (zhT Γ E T x v).map λm=>sAsg m (gNm i) else none
  | none=>none
 | .Subscript o i p=>if (zd3 v&&zc1 i)=true then (E Γ false v).bind λm=>(E Γ false o).bind λmo=>(E Γ false i).map λmi=>sAsg m (zfB mo mi) else none
 | .Tuple es n p=>if zmg v=true then (E Γ false v).bind λm=>(xTg Γ (.Tuple es n p)).map λg=>sAsg m g else none
 | _=>none
noncomputable def xAug(Γ:RC)(E:RC->Bool->Expr->Option ME)(tg:Expr)(op:Operator)(v:Expr):Option MS:=match tg,op with
 | .Name x _,.Add=>match ixOf x Γ.N with
  | some i=>if (setB Γ.sc Γ.N i x && !Γ.inC)=true then (E Γ false v).map (sAug i augI) else none
  | none=>none
 | _,_=>none
noncomputable def zic(E:RC->Bool->Expr->Option ME)(T:RC->Expr->Option MT)(B:RC->List Stmt->Option MS)(Γ:RC):Stmt->Option MS
 | .Return (some e) _=>(E Γ false e).map sRet
 | .Pass _=>some zaa
 | .Expr e _=>if zd3 e=true then (E Γ false e).map zbp else none
 | .If c a b _=>(T Γ c).bind λt=>(B Γ a).bind λma=>(B Γ b).map (sIf t ma)
 | .While c body [] _=>(T Γ c).bind λt=>(B Γ body).map (zbz t)
 | .For tg it body [] _=>if zfw it=true then (zfA Γ (E Γ false) tg it).bind λmi=>(xTg Γ tg).bind λg=>(B Γ body).map (sFor mi g) else none
 | .Assign [tg] v _=>xAsg Γ E T tg v
 | .AugAssign tg op v _=>xAug Γ E tg op v
 | _=>none
noncomputable def blk(S:Stmt->Option MS):List Stmt->Option MS
 | []=>some zaa
 | [s]=>S s
 | s::r=>(S s).bind λa=>(blk S r).map (sSeq a)
noncomputable def cS:Nat->RC->Stmt->Option MS
 | 0=>λ_ _=>none
 | n+1=>zic (cET 40).1 (cET 40).2 (λΓ=>blk (cS n Γ))
noncomputable def cB(Γ:RC)(bd:List Stmt):Option MS:=blk (cS 12 Γ) bd
section
variable{Γ:RC}{cl:Cl}{k:Nat}{X:Cx}{pos p:Pos}{E:RC->Bool->Expr->Option ME}{T:RC->Expr->Option MT}{B:RC->List Stmt->Option MS}{ms:MS}
theorem zir{elt:Expr}{gens:List Comprehension}{scope:Scope}{cpos px:Pos}{x:Str}{l:Nat}{env:Env}:swapsWith (.ListComp elt gens scope cpos) (some (.Name x px)) l env=pure (env.blockKind==.function&&env.kindOf x==some .local&&px.line==cpos.line && !(scope.names.any λ(n,k)=>n==x&&(k==.local||k==.cell))):=rfl
def zlO(hE:∀Γ X,Fits Γ cl k X->∀mu e m,E Γ mu e=some m->SE X cl e m)(hT:∀Γ X,Fits Γ cl k X->∀e m,T Γ e=some m->ST X cl e m)(F:Fits Γ cl k X)(hc:Γ.inC=false){x:Str}{i:Nat}{v:Expr}{m:ME}{px:Pos}(hb:setB Γ.sc Γ.N i x=true)(h:zhT Γ E T x v=some m):SS X cl (.Assign [.Name x px] v pos) (sAsg m (gNm i)):=by
 have hNd:=F.N▸F.nd;unfold zhT at h;split at h
 .rename_i elt gens scope cpos
  rw[zj] at h;obtain⟨r,e1,rfl⟩:=h;have g:=zgA F hE hT e1;have hk:X.env.blockKind=.function:=by
   unfold Env.blockKind;rw[F.sc,F.kind];rfl
  have hsw:=zir (elt:=elt) (gens:=gens) (scope:=scope) (cpos:=cpos) (px:=px) (x:=x) (l:=pos.line) (env:=X.env);have he:(X.env.blockKind==.function&&X.env.kindOf x==some .local&&px.line==cpos.line && !(scope.names.any λ(n,k)=>n==x&&(k==.local||k==.cell)))=zfE Γ x px scope cpos:=by
   rw[hk];unfold zfE;rw[<-F.sc];rfl
  rw[he] at hsw;cases q:zfE Γ x px scope cpos with
  | false=>
   rw[q] at hsw;exact s_ hb hNd (zfn F g) F.sc F.N (F.fn hc _) hsw
  | true=>
   rw[q] at hsw;obtain⟨tg,it,ifs,N',rfl,ok,hs,hi,hg,ht,hee⟩:=g.ex;have hx:X.env.kindOf x=some .local:=by
    unfold zfE at q;simp only[zr,vI] at q;have:=q.1.1;rw[<-F.sc] at this;exact this
   have hix:X.N[i]?=some x:=by
    unfold setB at hb;simp only[zr,vI] at hb;rw[F.N];exact hb.1
   unfold zeo;cases zfF Γ x with
   | true=>exact zlI i _ _ N' r.nl r.ks F.nd F.calm ok hi hg ht hee rfl rfl (zbx hs) hix hx hsw
   | false=>exact znf i _ _ N' r.nl r.ks F.nd F.calm ok hi hg ht hee rfl rfl (zbx hs) hix hx hsw
 .split at h
  .cases h
   exact s_ hb hNd (zm2 ⟨F.base.pw.1,F.base.pw.2⟩) F.sc F.N (F.fn hc _) (zbM rfl)
  .exact s_ hb hNd (hE _ _ F _ _ _ h) F.sc F.N (F.fn hc _) (zbM rfl)
 .split at h
  .rename_i q
   exact s_ hb hNd (hE _ _ F _ _ _ h) F.sc F.N (F.fn hc _) (zbM q)
  .cases h
theorem zi6{v:Expr}{es:List Expr}{n l:Nat}{p:Pos}{env:Env}:swapsWith v (some (.Tuple es n p)) l env=pure false:=by
 unfold swapsWith;cases v<;>rfl
def zmO(hE:∀Γ X,Fits Γ cl k X->∀mu e m,E Γ mu e=some m->SE X cl e m)(hT:∀Γ X,Fits Γ cl k X->∀e m,T Γ e=some m->ST X cl e m)(F:Fits Γ cl k X){tg v:Expr}(h:xAsg Γ E T tg v=some ms):SS X cl (.Assign [tg] v pos) ms:=by
 unfold xAsg at h;split at h
 .split at h
  .split at h
   .rename_i q
    rw[zr,qg] at q;rw[zj] at h;obtain⟨m,e1,rfl⟩:=h;exact zlO hE hT F q.2 q.1 e1
   .cases h
  .cases h
 .split at h
  .rename_i q
   rw[zr] at q;rw[zp] at h;obtain⟨m,e1,h⟩:=h;rw[zp] at h;obtain⟨mo,e2,h⟩:=h;rw[zj] at h;obtain⟨mi,e3,rfl⟩:=h;exact zj4 (hE _ _ F _ _ _ e1) (zm4 ⟨F.base.pw.1,F.base.pw.2⟩ F.room.units (hE _ _ F _ _ _ e2) (hE _ _ F _ _ _ e3) (zn9 q.2)) ((show swapsWithSole [_] v pos.line X.env=swapsWith v (some _) pos.line X.env from rfl).trans (zbM q.1)) zgZ (by rw[za4 rfl,zbJ]; rfl)
  .cases h
 .split at h
  .rename_i q
   rw[zp] at h;obtain⟨m,e1,h⟩:=h;rw[zj] at h;obtain⟨g,e2,rfl⟩:=h;exact zj4 (hE _ _ F _ _ _ e1) (zgz F e2) ((show swapsWithSole [_] v pos.line X.env=swapsWith v (some _) pos.line X.env from rfl).trans zi6) (zhJ q) (by rw[za4 rfl,zbJ]; rfl)
  .cases h
 .cases h
def zmo(hE:∀Γ X,Fits Γ cl k X->∀mu e m,E Γ mu e=some m->SE X cl e m)(F:Fits Γ cl k X){tg v:Expr}{op:Operator}(h:xAug Γ E tg op v=some ms):SS X cl (.AugAssign tg op v pos) ms:=by
 unfold xAug at h;split at h
 .split at h
  .split at h
   .rename_i q
    rw[zr,qg] at q;rw[zj] at h;obtain⟨m,e1,rfl⟩:=h;exact au_ q.1 (F.N▸F.nd) znw (hE _ _ F _ _ _ e1) F.sc F.N (F.fn q.2 _)
   .cases h
  .cases h
 .cases h
def zk8(hE:∀Γ X,Fits Γ cl k X->∀mu e m,E Γ mu e=some m->SE X cl e m)(hT:∀Γ X,Fits Γ cl k X->∀e m,T Γ e=some m->ST X cl e m)(hB:∀Γ X,Fits Γ cl k X->∀b m,B Γ b=some m->SB X cl b m)(F:Fits Γ cl k X){st:Stmt}(h:zic E T B Γ st=some ms):SS X cl st ms:=by
 have hF:=hE _ _ F false;have hT':=hT _ _ F;have hB':=hB _ _ F;unfold zic at h;split at h
 .rw[zj] at h
  obtain⟨m,e1,rfl⟩:=h;exact zpw (hF _ _ e1)
 .cases h; exact zmv
 .split at h
  .rename_i q
   rw[zj] at h;obtain⟨m,e1,rfl⟩:=h;exact zmp (hF _ _ e1) (zbM q)
  .cases h
 .rw[zp] at h
  obtain⟨t,e0,h⟩:=h;rw[zp] at h;obtain⟨ma,e1,h⟩:=h;rw[zj] at h;obtain⟨mb,e2,rfl⟩:=h;exact zqe (hT' _ _ e0) (hB' _ _ e1) (hB' _ _ e2)
 .rw[zp] at h
  obtain⟨t,e0,h⟩:=h;rw[zj] at h;obtain⟨mb,e2,rfl⟩:=h;exact zlo (hT' _ _ e0) (hB' _ _ e2) F.pass
 .split at h
  .rename_i q
   rw[zp] at h;obtain⟨mi,e0,h⟩:=h;rw[zp] at h;obtain⟨g,e1,h⟩:=h;rw[zj] at h;obtain⟨mb,e2,rfl⟩:=h;exact zo9 F.calm (zgy F hF e0) (zgz F e1) (hB' _ _ e2) (zbx q) F.pass
  .cases h
 .exact zmO hE hT F h
 .exact zmo hE F h
 .cases h
theorem zgS{S:Stmt->Option MS}(hS:∀s m,S s=some m->SS X cl s m):∀{b:List Stmt} {m:MS},blk S b=some m->SB X cl b m
 | [],m,h=>by cases h; exact zol
 | [s],m,h=>zoa (hS _ _ h)
 | s::s'::r,m,h=>by
  unfold blk at h;rw[zp] at h;obtain⟨ma,e1,h⟩:=h;rw[zj] at h;obtain⟨mb,e2,rfl⟩:=h;exact zmE (hS _ _ e1) (zgS hS e2)
theorem zl4:∀(n:Nat) (Γ:RC) (X:Cx),Fits Γ cl k X->∀s m,cS n Γ s=some m->SS X cl s m
 | 0,_,_,_,_,_,h=>by cases h
 | n+1,Γ,X,F,s,m,h=>zk8 (zch 40).1 (zch 40).2 (λΓ X F b m h=>zgS (zl4 n Γ X F) h) F h
def zqA(F:Fits Γ cl k X){bd:List Stmt}(h:cB Γ bd=some ms):SB X cl bd ms:=zgS (zl4 12 Γ X F) h
end
def zou{P:Program}{w:World}{K:PySem.W.Frag}{mg:Str->Option Value}{base:Heap}{cl:Cl}{x qual:Str}{st:Stmt}{f:Addr}{fd:FuncData}{ps:List Str}{k np ns:Nat}{b:MS}(Γ:RC){bd:List Stmt}(F:Fun K x qual st f fd)(hsc:zag st=Γ.sc)(hbd:zaA st=bd)(S:FnScope Γ.N ps Γ.sc)(hnp:ps.length=np)(hns:Γ.N.length-np=ns)
  (hc:Γ.inC=false) (B:BaseOk P w K mg base cl k Γ) (hb:cB Γ bd=some b):FnOk P w K mg base CX0 (k+1) f fd ps (spM K cl (gc (fnM np ns b))):=
 zpu F hsc hbd S hnp hns λcdv A outer s H E hr=>zqA (k:=k) ⟨rfl,rfl,S.nd,λ_ _=>rfl,S.kind,rfl,yz,hr,⟨B.fns,B.con,B.tab,B.bin,B.pw⟩⟩ hb
structure Def where
 x:Str
 st:Stmt
 ps:List Str
 N:List Str
 own:List Str
 txt:List Str
 cmp:List ((Nat×Nat)×List Str)
noncomputable def zbN(N ps:List Str)(sc:Scope):Bool:=sc.kind==.function && !sc.isCoroutine && !sc.isGenerator&&zf1 N&&N.take ps.length==ps&&ps.all (locB sc)&&sc.names.all λy=>y.2 != .free
def zh8{N ps:List Str}{sc:Scope}(h:zbN N ps sc=true):FnScope N ps sc:=by
 unfold zbN at h;simp only[zr,qg,vI] at h;obtain⟨⟨⟨⟨⟨⟨h1,h2⟩,h3⟩,h4⟩,h5⟩,h6⟩,h7⟩:=h;exact⟨h1,h2,h3,zmd h4,h5,λx hx=>zc5 (kE.mp h6 x hx),λy hy=>by simpa using kE.mp h7 y hy⟩
noncomputable def HB(x:Str)(st:Stmt)(ps:List Str)(us:List Value):Prop:=∀(kV doc pm:Value) (an:Option Addr) (cdv ct:Value),bindArgs (PySem.W.fnOf x x (za0 st) (zaA st) (zag st) .none kV doc pm an cdv ct) ⟨us,[]⟩=pure (ps.zip us)
noncomputable def HBs(x:Str)(st:Stmt)(ps:List Str):Prop:=∀us:List Value,us.length=ps.length->HB x st ps us
section
variable{x:Str}{st:Stmt}{ps:List Str}
def hb1(h:∀a,HB x st ps [a])(hl:ps.length=1:=by rfl):HBs x st ps:=λus e=>match us,e.trans hl with
 | [_],_=>h _
def hb2(h:∀a b,HB x st ps [a,b])(hl:ps.length=2:=by rfl):HBs x st ps:=λus e=>match us,e.trans hl with
 | [_,_],_=>h _ _
def hb3(h:∀a b c,HB x st ps [a,b,c])(hl:ps.length=3:=by rfl):HBs x st ps:=λus e=>match us,e.trans hl with
 | [_,_,_],_=>h _ _ _
def hb4(h:∀a b c d,HB x st ps [a,b,c,d])(hl:ps.length=4:=by rfl):HBs x st ps:=λus e=>match us,e.trans hl with
 | [_,_,_,_],_=>h _ _ _ _
def hb5(h:∀a b c d e,HB x st ps [a,b,c,d,e])(hl:ps.length=5:=by rfl):HBs x st ps:=λus e=>match us,e.trans hl with
 | [_,_,_,_,_],_=>h _ _ _ _ _
end
noncomputable def zbY(K:PySem.W.Frag)(mg:Str->Option Value)(d:Def):Prop:=∃a fd,FTxt K mg d.x d.st d.ps a fd
noncomputable def AllD(P:Def->Prop):List Def->Prop
 | []=>True
 | d::r=>P d/\AllD P r
noncomputable def RC.at(Γ:RC)(d:Def):RC:=⟨zag d.st,d.N,false,Γ.fns,Γ.con,Γ.tab,Γ.bin,d.own,d.txt,d.cmp⟩
section
variable{P:Program}{w:World}{K:PySem.W.Frag}{mg:Str->Option Value}{base:Heap}{cl:Cl}{n np ns:Nat}{Γ:RC}{d:Def}{b:MS}
def zhv{a:Addr}{fd:FuncData}(T:FTxt K mg d.x d.st d.ps a fd)(B:BaseOk P w K mg base cl n Γ)(hsc:zbN d.N d.ps (zag d.st)=true)(hnp:d.ps.length=np)(hns:d.N.length-np=ns)(hb:cB (Γ.at d) (zaA d.st)=some b):FnOk P w K mg base CX0 (n+1) a fd d.ps (spM K cl (gc (fnM np ns b))):=
 zou (Γ.at d) T.F rfl rfl (zh8 hsc) hnp hns rfl ⟨B.fns,B.con,B.tab,B.bin,B.pw⟩ hb
def zav(T:zbY K mg d)(B:BaseOk P w K mg base cl n Γ)(hsc:zbN d.N d.ps (zag d.st)=true:=by kernel_rfl)(hnp:d.ps.length=np:=by rfl)(hns:d.N.length-np=ns:=by rfl)(hb:cB (Γ.at d) (zaA d.st)=some b:=by kernel_rfl):FnAt P w K mg base cl (n+1) d.x (gc (fnM np ns b)):=by
 obtain⟨a,fd,T⟩:=T;exact⟨a,fd,d.ps,zhv T B hsc hnp hns hb,T.m,T.F.kp,T.B⟩
def zah(T:zbY K mg d):FnAt P w K mg base cl 0 d.x λ_ _=>none:=by
 obtain⟨a,fd,T⟩:=T;have no:∀vs H Q E,¬spM K cl (λ_ _=>none) vs H Q E:=λvs H Q E ⟨μ,h,ws,w,h2,R,rs,e,k⟩=>by cases e
 exact⟨a,fd,d.ps,⟨λvs H Q E h=>absurd h (no vs H Q E),λA outer s H args us vs Q E _ _ _ _ h=>absurd h (no vs H Q E)⟩,T.m,T.F.kp,T.B⟩
end
end ML
namespace ML
open PySem PySem.Spec PyProof.Rows PySem.W L2
noncomputable def Kw(h:Heap):PySem.W.Frag:=(List.range h.objs.size).filterMap λa=>(h.get? a).map λo=>(a,o)
theorem Kw.lookupAux(h:Heap)(a:Addr):∀l:List Nat,(l.filterMap λa=>(h.get? a).map λo=>(a,o)).lookup a=if a∈l then h.get? a else none
 | []=>by simp
 | b::l=>by
  cases q:h.get? b with
  | none=>
   rw[qF (by rw[q]; rfl),Kw.lookupAux h a l];by_cases e:a=b
   .subst e; simp[q]
   .simp[e]
  | some o=>
   rw[jJ (b:=(b,o)) (by rw[q]; rfl),j9];by_cases e:a=b
   .subst e; simp[q]
   .have:(a==b)=false:=by simp[e]
    rw[this]; simp only[]; rw[Kw.lookupAux h a l]; simp[e]
theorem Kw.lookup{h:Heap}{a:Addr}:(Kw h).lookup a=h.get? a:=by
 unfold Kw;rw[Kw.lookupAux];split
 .rfl
 .rename_i n
  cases q:h.get? a with
  | none=>rfl
  | some o=>exact absurd (jY.mpr (zJ q)) n
def Kw.in(h:Heap):(Kw h).In h:=λa o e=>Kw.lookup▸e
def zkF{l:PySem.W.OpenLaw}{n k:Nat}{q:Program}{loose:List Str}{XP:(Str->Option Value)->Heap->Prop}{YP:World->Heap->Prop}{d:DefRec}{CX:CXT}{sp:World->PySem.W.Frag->Sp}{x:Str}
  (hn:l.most=some n) (hn2:n<=sizeLine) (hdf:d.params.defaults=[]) (hr:Room k callerA)
  (F:∀(w:World) (s₀:Shared) (mg mb:Str->Option Value) (fa:Addr) (h:Heap),Ground q loose [] XP w s₀ mg mb h->YP w h->mg d.name=some (.ref fa)->
   ∃fd:FuncData,(∀(s:Shared) (u:Value),BindsTo s fd ⟨[u],[]⟩ [(x,u)]) /\
    ∀base:Heap,(Kw h).In base->base.Ns mainGlobals mg->FnOk l.prog w (Kw h) mg base CX k fa fd [x] (sp w (Kw h)))
  (hsp:∀(w:World) (K:PySem.W.Frag) (H:Hp) (a:Addr) (ns:List Int),ns.length<=n->Only H->SqL K H a (ns.map V.int)->sp w K [.ref a] H (λv _=>v=.bl true) λ_ _ _=>False)
  (hCX:∀(H:Hp) (s:Shared) (e:Value) (s':Shared),CX [] H s (λ_ _ _=>False) e s'->False) :
  PySem.W.WalkO q loose XP YP l.row.toRowW d [] (λf vs=>PySem.call f vs):=by
 refine Att.attach_call hn hdf λw s₀ s₁ mg mb fa o pm cd doc a vs ns G Y ho hd hcd hmg hobj hints hlen hg=>?_
 obtain⟨fd,hb,hF⟩:=F w s₀ mg mb fa _ G Y hmg;exact zlm (Kw.in _) G.T.g G.T.b G.T.builtins G.T.nolimit hg hobj hints (zF hlen hn2) hr hF hb (λH hO hS=>hsp w _ H a ns hlen hO hS) λH e s'=>hCX H s₁ e s'
def txtG{q:Program}{loose:List Str}{R:WRecords}{XP:(Str->Option Value)->Heap->Prop}{w:World}{s₀:Shared}{mg mb:Str->Option Value}{h:Heap}(G:Ground q loose R XP w s₀ mg mb h){d:Def}
  (hd:(defOf q d.x).map (λp=>(p.1.name,p.1.params,p.1.body,p.1.scope,p.2))=some (d.x,za0 d.st,zaA d.st,zag d.st,[])) (hb:HBs d.x d.st d.ps) (hf:(za0 d.st).defaults=[]):zbY (Kw h) mg d:=by
 obtain⟨⟨⟨n,p,b,sc,ps⟩,kw⟩,hq,e⟩:=zj.mp hd;cases e;obtain⟨a,o,pm,cd,doc,dV,kV,m,ho,hdt,hc,D⟩:=G.fn hq;obtain rfl:dV=.none:=Dflts.none D hf;obtain rfl:kV=.none:=Dflts.noKw D;have lk:(Kw h).lookup a=some ⟨o.cls,o.dict,.func (PySem.W.fnOf d.x d.x (za0 d.st) (zaA d.st) (zag d.st) .none .none doc pm none cd .none),o.slots⟩:=by
  rw[Kw.lookup,ho];cases o;cases hdt;rfl
 have c:PySem.W.codeIn (Kw h) cd d.x=true:=by
  obtain⟨c,o',vs,t,rfl,e1,e2,e3⟩:=hc;unfold PySem.W.codeIn;simp only[Kw.lookup,e1];cases o';cases e2;simp only[];obtain⟨vs⟩:=vs;match vs,e3 with
  | [],e3=>cases e3
  | [_],e3=>cases e3
  | _::v::r,e3=>
   have e4:some v=some (Value.str d.x t):=by simpa using e3
   cases e4;simp
 have k:PySem.W.keepIn (Kw h) (.ref a)=true:=by
  unfold PySem.W.keepIn;simp only[lk]
 have F:=zop (st:=d.st) lk c k;exact⟨a,_,F,F.binds (λkV doc pm an cdv ct us hl=>hb us hl kV doc pm an cdv ct),m⟩
noncomputable def toW:Nat->Cn->W
 | 0,_=>.non
 | n+1,c=>match c with
  | .int i=>.int i
  | .str x=>.str x
  | .tup l=>.tup (l.map (toW n))
noncomputable def toT(l:List (Str×Cn)):List (Str×W):=l.map λp=>(p.1,toW 9 p.2)
def zk2{h:Heap}{v:Value}{its:Array Value}(e:zfG h v=some its):∃a o n,v=.ref a/\h.get? a=some o/\(o.cls=.type "tuple" /\ o.dict=none)/\o.data=.seq its n:=by
 cases v with
 | ref a=>
  obtain⟨⟨c,di,d,sl⟩,e1,e2⟩:=zp.mp e;cases c with
  | type t=>
   have e3:(if t="tuple" then (match d with | .seq its _=>if di.isNone then some its else none | _=>none) else none)=some its:=e2;by_cases q:t="tuple"
   .rw[zR q] at e3
    cases d with
    | seq its' n=>
     have e4:(if di.isNone then some its' else none)=some its:=e3;by_cases q2:di.isNone=true
     .rw[zR q2] at e4
      cases e4;exact⟨a,_,n,rfl,e1,⟨by rw[q],v9.mp q2⟩,rfl⟩
     .rw[zZ q2] at e4; cases e4
    | _=>cases e3
   .rw[zZ q] at e3; cases e3
  | _=>cases e2
 | _=>cases e
def zpG{K:PySem.W.Frag}{p:Cn->Value->Bool}{f:Cn->W}(hp:∀w v,p w v=true->KW K (f w) v)(l:List Cn):∀vs:List Value,zcd p l vs=true->KWs K (l.map f) vs:=by
 induction l with
 | nil=>intro vs h; cases vs with | nil=>exact .nil | cons _ _=>cases h
 | cons w l ih=>
  intro vs h;cases vs with
  | nil=>cases h
  | cons v vs=>have h2:=jO.mp h; exact .cons (hp _ _ h2.1) (ih vs h2.2)
def zeP{h:Heap}{K:PySem.W.Frag}(hK:∀b o,h.get? b=some o->K.lookup b=some o)(n:Nat):∀w v,zcc h n w v=true->KW K (toW n w) v:=by
 induction n with
 | zero=>intro w v e; cases e
 | succ n ih=>
  intro w v e;cases w with
  | int i=>cases v with
   | int j t=>cases eq_of_beq (show(i==j)=true from e); exact .int
   | _=>cases e
  | str x=>cases v with
   | str j t=>cases eq_of_beq (show(x==j)=true from e); exact .str
   | _=>cases e
  | tup l=>
   have e1:((zfG h v).any λits=>decide (its.size<=sizeLine)&&zcd (zcc h n) l its.toList)=true:=e;cases z:zfG h v with
   | none=>rw[z] at e1; cases e1
   | some its=>
    rw[z] at e1;obtain⟨a,o,m,rfl,e4,e5,e6⟩:=zk2 z;have e7:=jO.mp e1;exact .tup (hK _ _ e4) e5 e6 (jW e7.1) (zpG ih _ _ e7.2)
def zjy{h:Heap}{v:Value}{es:Array DictEntry}(e:dictAt h v=some es):∃a n,v=.ref a/\h.get? a=some ⟨.type "dict",none,.dict es n,#[]⟩/\(a==sysModules)=false:=by
 cases v with
 | ref a=>
  obtain⟨⟨c,di,d,sl⟩,e1,e2⟩:=zp.mp e;cases c with
  | type t=>
   have e3:(if t="dict" then (match d with | .dict es _=>if di.isNone&&sl.isEmpty&&a != sysModules then some es else none | _=>none) else none)=some es:=e2;by_cases q:t="dict"
   .rw[zR q] at e3
    cases d with
    | dict es' n=>
     have e4:(if di.isNone&&sl.isEmpty&&a != sysModules then some es' else none)=some es:=e3;by_cases z:(di.isNone&&sl.isEmpty&&a != sysModules)=true
     .rw[zR z] at e4
      cases e4;have z1:=jO.mp z;have z2:=jO.mp z1.1;refine⟨a,n,rfl,?_,?_⟩
      .rw[e1,q,v9.mp z2.1,Array.isEmpty_iff.mp z2.2]
      .have:=z1.2; rw[bne,qg] at this; exact this
     .rw[zZ z] at e4; cases e4
    | _=>cases e3
   .rw[zZ q] at e3; cases e3
  | _=>cases e2
 | _=>cases e
def tab_of{h:Heap}{K:PySem.W.Frag}(hK:∀b o,h.get? b=some o->K.lookup b=some o){P:Params}(l:List (Str×Cn)):∀es:List DictEntry,zcd (λp (e:DictEntry)=>isS p.1 e.key&&zcc h 9 p.2 e.val) l es=true->es.map (·.hash)=l.map (λp=>PyData.keyHash P p.1)->TabRel K (toT l) es/\PySem.W.KeysLit P es:=by
 induction l with
 | nil=>intro es a b; cases es with | nil=>exact⟨.nil,trivial⟩ | cons _ _=>cases a
 | cons p l ih=>
  intro es a b;cases es with
  | nil=>cases a
  | cons e es=>
   have a1:=jO.mp a;have a2:=jO.mp a1.1;have b1:=ut b;obtain⟨r,t⟩:=ih es a1.2 b1.2;obtain⟨eh,ek,ev⟩:=e;cases ek with
   | str y t'=>
    have q:=eq_of_beq (show(p.1==y)=true from a2.1);subst q;exact⟨.cons (hs:=0) (v:=.none) rfl (zeP hK _ _ _ a2.2) r,⟨_,_,rfl,b1.1⟩,t⟩
   | _=>cases a2.1
def znb{h h₀:Heap}{mg:Str->Option Value}(G:h.Ns mainGlobals mg)(k:∀b o,h₀.get? b=some o->h.get? b=some o)(hn:h₀.isNs mainGlobals=true)(x:Str):mg x=h₀.nsMap mainGlobals x:=by
 obtain⟨o,es,ep,e1,e2,e3,e4⟩:=Heap.Ns.of_isNs hn;obtain⟨o',es',ep',f1,f2,f3,f4⟩:=G;have:=k _ _ e1;rw[f1] at this;cases this;rw[e2] at f2;cases f2;rw[<-f4 x,<-e4 x]
theorem zgE{α β:Type}{P:Str->α->Prop}(f:β->α):∀{l:List (Str×β)},(∀p∈l,P p.1 (f p.2))->AllOf P (l.map λp=>(p.1,f p.2))
 | [],_=>trivial
 | (x,g)::r,h=>⟨h (x,g) (zy ..),zgE f λp m=>h p (zq _ m)⟩
theorem none_of{mg:Str->Option Value}:∀{l:List Str},(∀x∈l,mg x=none)->AllNone mg l
 | [],_=>trivial
 | x::r,h=>⟨h x (zy ..),none_of λp m=>h p (zq _ m)⟩
def zoO{cons:List (Str×Cn)}{tabs:List (Str×List (Str×Cn))}{bins:List Str}{w:World}{h:Heap}{mg:Str->Option Value}(Y:(zin cons tabs bins).says w h)(G:h.Ns mainGlobals mg) :
  AllOf (Glob (Kw h) mg) (toT cons)/\AllOf (TabOk (Kw h) w.params mg) (tabs.map λp=>(p.1,toT p.2))/\AllNone mg bins:=by
 obtain⟨h₀,k,b,t⟩:=Y;have hK:∀b o,h₀.get? b=some o->(Kw h).lookup b=some o:=λb o e=>by rw[Kw.lookup]; exact k _ _ e
 unfold seeB at b;simp only[zr,kE] at b;obtain⟨⟨b1,b2⟩,b3⟩:=b;have M:=znb G k b1;refine⟨zgE (toW 9) λp m=>?_,zgE toT λp m=>?_,none_of λx m=>?_⟩
 .have e:=b2 p m
  cases q:h₀.nsMap mainGlobals p.1 with
  | none=>rw[q] at e; cases e
  | some v=>rw[q] at e; exact(zeP hK _ _ _ e).glob ((M _).trans q)
 .have e:tabB h₀ p.2 (h₀.nsMap mainGlobals p.1)=(true,p.2.map λk=>PyData.keyHash w.params k.1):=by
   unfold seeT zij at t;exact(List.map_inj_left.mp t) p m
  unfold tabB at e;cases q:h₀.nsMap mainGlobals p.1 with
  | none=>rw[q] at e; cases e
  | some v=>
   rw[q] at e;cases z:dictAt h₀ v with
   | none=>rw[qX,z] at e; cases e
   | some es=>
    rw[qX,z] at e;have e2:=Prod.mk.inj e;obtain⟨a,n,rfl,g,f⟩:=zjy z;obtain⟨r,kl⟩:=tab_of hK (P:=w.params) p.2 es.toList e2.1 e2.2;exact⟨a,es,n,(M _).trans q,hK _ _ g,kl,f,r⟩
 .have:=b3 x m
  rw[M];exact v9.mp this
def walk_lawE{l:PySem.W.OpenLaw}{q:Program}{loose:List Str}{XP:(Str->Option Value)->Heap->Prop}{d:DefRec}{D:Def}{g:List W->M W}{b:MS}{Γ:RC}{ds:List Def}{y:Str}{ns room:Nat}{cons:List (Str×Cn)}{tabs:List (Str×List (Str×Cn))}(hc:toT cons=Γ.con)(ht:(tabs.map λp=>(p.1,toT p.2))=Γ.tab)(hn:l.most=some 63)(hdf:d.params.defaults=[])
  (hr:Room (room+1) callerA) (hx:D.x=d.name) (hps:D.ps=[y]) (hb:HBs D.x D.st D.ps) (hsc:zbN D.N D.ps (zag D.st)=true) (hns:D.N.length-1=ns) (hB:cB (Γ.at D) (zaA D.st)=some b) (hg:g=gc (fnM 1 ns b))
  (main:∀ns:List Int,ns.length<=63->∃h',g [.fls (ns.map W.int)] []=some (.bl true,h'))
  (lvl:∀(w:World) (K:PySem.W.Frag) (mg:Str->Option Value) (base:Heap),AllD (zbY K mg) ds->AllOf (Glob K mg) Γ.con->AllOf (TabOk K w.params mg) Γ.tab->AllNone mg Γ.bin->BaseOk l.prog w K mg base ⟨λ_=>0,l.prog,w⟩ room Γ)
  (F:∀(w:World) (s₀:Shared) (mg mb:Str->Option Value) (h:Heap),Ground q loose [] XP w s₀ mg mb h->zbY (Kw h) mg D/\AllD (zbY (Kw h) mg) ds):PySem.W.WalkO q loose XP (zin cons tabs Γ.bin).says l.row.toRowW d [] (λf vs=>PySem.call f vs):=by
 refine zkF (n:=63) (k:=room+1) (x:=y) (CX:=CX0) (sp:=λw=>spL l.prog w g) hn (by decide) hdf hr (λw s₀ mg mb fa h G Y hmg=>?_) (λw K H a ns hl _ hS=>zoK main K H a ns hl hS) λ_ _ _ _ z=>z
 obtain⟨⟨a,fd,T⟩,h1⟩:=F w s₀ mg mb h G;obtain⟨h2,h3,h4⟩:=zoO Y G.T.g;rw[hc] at h2;rw[ht] at h3;have e:=T.m.symm.trans (hx▸hmg);cases e;refine⟨fd,?_,λbase _ _=>?_⟩
 .have hb2:=λkV doc pm an cdv ct us hl=>hb us hl kV doc pm an cdv ct
  rw[hps] at hb2;exact zgf T.F hb2
 .have:=zhv T (lvl w _ mg base h1 h2 h3 h4) hsc (np:=1) (by rw[hps]; rfl) hns hB
  rw[hps] at this;subst hg;exact this
end ML
namespace ML
open PySem L2
noncomputable def dt:Nat->W->Bool
 | 0,_=>false
 | _+1,.non=>true
 | _+1,.bl _=>true
 | _+1,.int _=>true
 | _+1,.str x=>PyData.strOk x&&decide (x.length<=1000)
 | n+1,.tup l=>decide (l.length<=1000)&&l.all (dt n)
 | n+1,.fls l=>decide (l.length<=1000)&&l.all (dt n)
 | _+1,.ref _=>false
 | _+1,.fdc _=>false
 | _+1,.fn _=>false
noncomputable def toD:Nat->W->PyData
 | 0,_=>.none
 | _+1,.non=>.none
 | _+1,.bl b=>.bool b
 | _+1,.int i=>.int i
 | _+1,.str x=>.str x
 | n+1,.tup l=>.tuple (l.map (toD n))
 | n+1,.fls l=>.list (l.map (toD n))
 | _+1,_=>.none
theorem zas{m:Nat}:∀{l:List W},(∀w∈l,low m w=true)->lows m l=true
 | [],_=>by unfold lows; rfl
 | w::r,h=>by
  unfold lows;rw[h w zy,zas λw hw=>h w (zq _ hw)];rfl
theorem zaC{m:Nat}:∀{n:Nat} {w:W},dt n w=true->low m w=true
 | 0,_,h=>by cases h
 | n+1,.non,_=>by unfold low; rfl
 | n+1,.bl _,_=>by unfold low; rfl
 | n+1,.int _,_=>by unfold low; rfl
 | n+1,.str _,_=>by unfold low; rfl
 | n+1,.tup l,h=>by
  unfold dt at h;rw[zr] at h;unfold low;exact zas λw hw=>zaC (kE.mp h.2 w hw)
 | n+1,.fls l,h=>by
  unfold dt at h;rw[zr] at h;unfold low;exact zas λw hw=>zaC (kE.mp h.2 w hw)
 | n+1,.ref _,h=>by cases h
 | n+1,.fdc _,h=>by cases h
 | n+1,.fn _,h=>by cases h
theorem zaG:∀{n m:Nat} {w:W},dt n w=true->n<=m->dt m w=true
 | 0,_,_,h,_=>by cases h
 | n+1,0,_,_,h=>by omega
 | n+1,m+1,.non,_,_=>rfl
 | n+1,m+1,.bl _,_,_=>rfl
 | n+1,m+1,.int _,_,_=>rfl
 | n+1,m+1,.str _,h,_=>h
 | n+1,m+1,.tup l,h,hn=>by
  unfold dt at h ⊢;rw[zr] at h ⊢;exact⟨h.1,kE.mpr λw hw=>zaG (kE.mp h.2 w hw) ∅⟩
 | n+1,m+1,.fls l,h,hn=>by
  unfold dt at h ⊢;rw[zr] at h ⊢;exact⟨h.1,kE.mpr λw hw=>zaG (kE.mp h.2 w hw) ∅⟩
 | n+1,m+1,.ref _,h,_=>by cases h
 | n+1,m+1,.fdc _,h,_=>by cases h
 | n+1,m+1,.fn _,h,_=>by cases h
theorem zew{α β:Type}{f:α->Option β}{g:α->β}:∀{l:List α},(∀x∈l,f x=some (g x))->mapO f l=some (l.map g)
 | [],_=>rfl
 | x::r,h=>by
  unfold mapO;rw[h x zy,zew λy hy=>h y (zq _ hy)];rfl
theorem zaV{h:MH}:∀{n m:Nat} {w:W},dt n w=true->n<=m->zad m h w=some (toD n w)
 | 0,_,_,e,_=>by cases e
 | n+1,0,_,_,hn=>by omega
 | n+1,m+1,.non,_,_=>rfl
 | n+1,m+1,.bl _,_,_=>rfl
 | n+1,m+1,.int _,_,_=>rfl
 | n+1,m+1,.str x,e,_=>by
  unfold dt at e;rw[zr] at e;unfold zad;rw[zR e.1];rfl
 | n+1,m+1,.tup l,e,hn=>by
  unfold dt at e;rw[zr] at e;unfold zad;rw[zew λw hw=>zaV (kE.mp e.2 w hw) ∅];rfl
 | n+1,m+1,.fls l,e,hn=>by
  unfold dt at e;rw[zr] at e;unfold zad;rw[zew λw hw=>zaV (kE.mp e.2 w hw) ∅];rfl
 | n+1,m+1,.ref _,e,_=>by cases e
 | n+1,m+1,.fdc _,e,_=>by cases e
 | n+1,m+1,.fn _,e,_=>by cases e
def zbi{f:List W->M W}{ws:List W}{h:MH}{w:W}{n:Nat}(e:f ws h=some (w,h))(d:dt n w=true):gc f ws h=some (w,h):=zaE e (zaC d) (jf _)
def zod{f:List W->M W}{ws:List W}{h t:MH}{w:W}{n:Nat}(e:f ws h=some (w,h++t))(d:dt n w=true):gc f ws h=some (w,h):=zaE e (zaC d) (qx _ _)
noncomputable def tyB(T:Ty):W->Bool
 | .bl _=>decide (T=.bool)||decide (T=.int)
 | .int _=>decide (T=.int)
 | .str _=>decide (T=.str)
 | .tup _=>decide (T=.tuple)
 | .fls _=>decide (T=.list)
 | _=>false
theorem zph{T:Ty}{n:Nat}{w:W}{h:MH}(d:dt n w=true):isW T w h=some (.bl (tyB T w),h):=by
 cases n with
 | zero=>cases d
 | succ n=>
  unfold isW isTy tyB;cases w with
  | ref _=>cases d
  | fdc _=>cases d
  | fn _=>cases d
  | non=>rfl
  | bl b=>simp only[tyW]; cases T<;>rfl
  | int b=>simp only[tyW]; cases T<;>rfl
  | str b=>simp only[tyW]; cases T<;>rfl
  | tup b=>simp only[tyW]; cases T<;>rfl
  | fls b=>simp only[tyW]; cases T<;>rfl
theorem zaz(h:MH)(x y:Str):eqB h (.str x) (.str y)=some (x==y):=rfl
theorem zaM(h:MH)(x y:Int):eqB h (.int x) (.int y)=some (x==y):=rfl
noncomputable def zeg:W->Bool
 | .tup []=>true
 | _=>false
def zm8{n m:Nat}{w:W}{l:List W}{h:MH}(d:dt n w=true)(hn:n<=60)(dl:dt m (.tup l)=true)(hm:m<=60):eqB h w (.tup l)=some (PyData.eqv (toD n w) (toD m (.tup l))):=by
 have e1:=zaV (h:=h) d (show n<=deep from hn);have e2:=zaV (h:=h) dl (show m<=deep from hm);unfold eqB;have:eqF w (.tup l)=none:=by unfold eqF; cases w<;>rfl
 rw[this,e1,e2]
def zhe{n:Nat}{w:W}{h:MH}(d:dt n w=true)(hn:n<=60):eqB h w (.tup [])=some (zeg w):=by
 rw[zm8 d hn (m:=1) (by rfl) ∅];cases n with
 | zero=>cases d
 | succ n=>
  cases w with
  | ref _=>cases d
  | fdc _=>cases d
  | fn _=>cases d
  | tup l=>cases l<;>simp[toD,PyData.eqv,PyData.eqvAll,zeg]
  | _=>simp[toD,PyData.eqv,zeg]
noncomputable def zak(l:List Str):W->Bool
 | .str x=>l.any (· == x)
 | _=>false
noncomputable def uX(l:List Str):List W:=l.map .str
def zlh{n:Nat}{w:W}{l:List Str}{h:MH}{y:W}(d:dt n w=true)(hn:n<=60)(hl:l.all PyData.strOk=true)(hy:zaD h y=some (uX l))(hns:∀z,y≠.str z):inB h w y=some (zak l w):=by
 have e1:=zaV (h:=h) d (show n<=deep from hn);have e2:mapO (zad deep h) (uX l)=some (l.map .str):=by
  unfold uX;have:∀l:List Str,l.all PyData.strOk=true->mapO (zad deep h) (l.map .str)=some (l.map PyData.str):=by
   intro l;induction l with
   | nil=>intro _; rfl
   | cons x r ih=>
    intro hl;rw[jF,zr] at hl;simp only[zH];unfold mapO;have:zad deep h (.str x)=some (.str x):=by
     show zad (59+1) h (.str x)=_
     unfold zad;rw[zR hl.1]
    rw[this,ih hl.2]
  exact this l hl
 have e3:inB h w y=match zaD h y with
  | some l=>match zad deep h w,mapO (zad deep h) l with
   | some d,some ds=>some (ds.any λe=>PyData.eqv e d)
   | _,_=>none
  | none=>none:=by
  unfold inB;split
  .rename_i j
   exact absurd rfl (hns _)
  .rfl
 rw[e3,hy];simp only[e1,e2];congr 1
 cases n with
 | zero=>cases d
 | succ n=>
  rw[uD];cases w with
  | ref _=>cases d
  | fdc _=>cases d
  | fn _=>cases d
  | str x=>
   unfold zak;congr 1
  | _=>simp[toD,PyData.eqv,zak]
def zbO{n:Nat}{w:W}{l:List Str}{h:MH}(d:dt n w=true)(hn:n<=60)(hl:l.all PyData.strOk=true):inB h w (.tup (uX l))=some (zak l w):=zlh d hn hl rfl (λz=>nofun)
theorem zd5{caps:En}{t:MT}{m:ME}{n0:Nat}{h:MH}(hn:h.length=n0)(p:W->Bool)(f:W->W):∀(l:List W) (acc:List W) (o:Option W),
  (∀w∈l,∀H',t (some w::caps) H'=some (p w,H'))->(∀w∈l,p w=true->∀H',m (some w::caps) H'=some (f w,H'))->acc.length+l.length<=cap->
  zaW 1 (gNm 0) t m n0 l (o::caps) (h++[.lst acc])=some (h++[.lst (acc++(l.filter p).map f)])
 | [],acc,o,_,_,_=>by simp[zaW]
 | w::l,acc,o,ht,hf,hl=>by
  have ih:=λacc'=>zd5 (caps:=caps) (t:=t) (m:=m) hn p f l acc' none (λw hw=>ht w (zq _ hw)) (λw hw=>hf w (zq _ hw))
  have hb:blank 1 (some w::caps)=none::caps:=by simp[blank]
  unfold zaW;have hg:gNm 0 w (o::caps) (h++[.lst acc])=some (some w::caps,h++[.lst acc]):=by simp[gNm]
  rw[hg];simp only;rw[ht w zy];simp only[zG] at hl;cases hp:p w with
  | false=>
   simp only;rw[hb,ih acc ∅];simp[jT,hp]
  | true=>
   simp only;rw[hf w zy hp];have e1:(h++[MO.lst acc])[n0]?=some (.lst acc):=by rw[<-hn]; simp
   have e2:(h++[MO.lst acc]).set n0 (.lst (acc++[f w]))=h++[.lst (acc++[f w])]:=by rw[<-hn,qw _ _ (zu _)]; simp
   simp only[e1];rw[zR ∅,hb,e2,ih (acc++[f w]) (by rw[zW]; simp; omega)];simp[jT,hp]
def zdg{mi:MI}{ks:List Nat}{t:MT}{m:ME}{ρ:En}{h:MH}{l:List W}(p:W->Bool)(f:W->W)(hm:mi ρ h=some (.items l,h))(ht:∀w∈l,∀H',t (some w::ks.map λk=>(ρ[k]?).join) H'=some (p w,H'))
  (hf:∀w∈l,p w=true->∀H',m (some w::ks.map λk=>(ρ[k]?).join) H'=some (f w,H')) (hlow:∀w∈l,p w=true->low h.length (f w)=true) (hl:l.length<=cap):zaq mi 1 ks (gNm 0) t m ρ h=some (.fls ((l.filter p).map f),h):=by
 have e:=zd5 (caps:=ks.map λk=>(ρ[k]?).join) (t:=t) (m:=m) (h:=h) rfl p f l [] none ht hf (by simpa using hl);unfold zaq zb1;rw[hm];have er:(List.replicate 1 (none:Option W)++ks.map λk=>(ρ[k]?).join)=none::ks.map λk=>(ρ[k]?).join:=rfl
 simp only;rw[er,e];simp only[jh,kj (zu _),uB,wI];rw[zR];refine⟨qx _ _,zas λw hw=>?_⟩;obtain⟨w',h1,rfl⟩:=zz.mp hw;obtain⟨h2,h3⟩:=jm.mp h1;exact hlow w' h2 h3
theorem zdr{caps:En}{t:MT}{m:ME}{n0:Nat}{h:MH}(hn:h.length=n0)(p:W->W->Bool)(f:W->W->W):∀(l:List (W×W)) (acc:List W) (o1 o2:Option W),
  (∀w∈l,∀H',t (some w.1::some w.2::caps) H'=some (p w.1 w.2,H'))->(∀w∈l,p w.1 w.2=true->∀H',m (some w.1::some w.2::caps) H'=some (f w.1 w.2,H'))->acc.length+l.length<=cap->
  zaW 2 (gTp [gNm 0,gNm 1]) t m n0 (l.map λw=>.tup [w.1,w.2]) (o1::o2::caps) (h++[.lst acc])=some (h++[.lst (acc++(l.filter λw=>p w.1 w.2).map λw=>f w.1 w.2)])
 | [],acc,_,_,_,_,_=>by simp[zaW]
 | (a,b)::l,acc,o1,o2,ht,hf,hl=>by
  have ih:=λacc'=>zdr (caps:=caps) (t:=t) (m:=m) hn p f l acc' none none (λw hw=>ht w (zq _ hw)) (λw hw=>hf w (zq _ hw))
  have hb:blank 2 (some a::some b::caps)=none::none::caps:=by simp[blank,List.replicate]
  simp only[zH];unfold zaW;have hg:gTp [gNm 0,gNm 1] (.tup [a,b]) (o1::o2::caps) (h++[.lst acc])=some (some a::some b::caps,h++[.lst acc]):=by simp[gTp,gTps,bnd,gNm]
  rw[hg];simp only;rw[ht (a,b) zy];simp only[zG] at hl;cases hp:p a b with
  | false=>
   simp only;rw[hb,ih acc ∅];simp[jT,hp]
  | true=>
   simp only;rw[hf (a,b) zy hp];have e1:(h++[MO.lst acc])[n0]?=some (.lst acc):=by rw[<-hn]; simp
   have e2:(h++[MO.lst acc]).set n0 (.lst (acc++[f a b]))=h++[.lst (acc++[f a b])]:=by rw[<-hn,qw _ _ (zu _)]; simp
   simp only[e1];rw[zR ∅,hb,e2,ih (acc++[f a b]) (by rw[zW]; simp; omega)];simp[jT,hp]
def zp9{mi:MI}{ks:List Nat}{t:MT}{m:ME}{ρ:En}{h:MH}{l:List (W×W)}(p:W->W->Bool)(f:W->W->W)(hm:mi ρ h=some (.items (l.map λw=>.tup [w.1,w.2]),h))(ht:∀w∈l,∀H',t (some w.1::some w.2::ks.map λk=>(ρ[k]?).join) H'=some (p w.1 w.2,H'))
  (hf:∀w∈l,p w.1 w.2=true->∀H',m (some w.1::some w.2::ks.map λk=>(ρ[k]?).join) H'=some (f w.1 w.2,H')) (hlow:∀w∈l,p w.1 w.2=true->low h.length (f w.1 w.2)=true) (hl:l.length<=cap):zaq mi 2 ks (gTp [gNm 0,gNm 1]) t m ρ h=some (.fls ((l.filter λw=>p w.1 w.2).map λw=>f w.1 w.2),h):=by
 have e:=zdr (caps:=ks.map λk=>(ρ[k]?).join) (t:=t) (m:=m) (h:=h) rfl p f l [] none none ht hf (by simpa using hl);unfold zaq zb1;rw[hm];have er:(List.replicate 2 (none:Option W)++ks.map λk=>(ρ[k]?).join)=none::none::ks.map λk=>(ρ[k]?).join:=rfl
 simp only;rw[er,e];simp only[jh,kj (zu _),uB,wI];rw[zR];refine⟨qx _ _,zas λw hw=>?_⟩;obtain⟨w',h1,rfl⟩:=zz.mp hw;obtain⟨h2,h3⟩:=jm.mp h1;exact hlow w' h2 h3
end ML
namespace K23
open PySem PySem.Spec PyProof.Rows L2 ML
def top(i:Nat):Stmt:=PySem.Challenge.pw_shelfwork_k23_whole_marks.main.body.getD i (.Pass ⟨0,0,0,0⟩)
def t_FORMS:List (Str×W):=[("number",(.tup [.int 2,.int 2])),("name",(.tup [.int 2,.int 2])),("read",(.tup [.int 2,.int 2])),("write",(.tup [.int 3,.int 2])),("add",(.tup [.int 3,.int 1])),("less",(.tup [.int 3,.int 1])),("then",(.tup [.int 3,.int 1])),("if",(.tup [.int 4,.int 1])),("loop",(.tup [.int 3,.int 1])),("let",(.tup [.int 4,.int 2])),("own",(.tup [.int 4,.int 2])),("say",(.tup [.int 2,.int 1])),("ask",(.tup [.int 1,.int 1])),("do",(.tup [.int 2,.int 2])),("call",(.tup [.int 4,.int 2]))]
structure Fs where
 f_parts_of:List W->M W
 f_marks_of_itself:List W->M W
 f_handed_that_are_done:List W->M W
 f_parts_that_count:List W->M W
 f_with_hidden:List W->M W
 f_parts_with_hidden:List W->M W
 f_marks_by:List W->M W
 f_marks_of_bodies:List W->M W
 f_touches:List W->M W
 f_shelves_of:List W->M W
 f_writes_of:List W->M W
 f_law_cell:List W->M W
 f_law_drawn:List W->M W
 f_law_leaf:List W->M W
 f_law_deed:List W->M W
 f_law_call:List W->M W
 f_law_rules:List W->M W
 f_law_weight:List W->M W
 f_law_light:List W->M W
 f_law:List W->M W
noncomputable def b_f_parts_of(F:Fs):MS:=(sSeq (sIf (tVal (eOp (eqW false) (eOp ixW (eVar 0) (eC (.int 0))) (eC (.str "call"))))
 (sRet (eOp addW (eOp ixW (eVar 0) (eC (.int 2))) (eOp ixW (eVar 0) (eC (.int 3)))))
 zaa)
 (sRet (eSl (eVar 0) (some (eOp ixW (eUn (zcm t_FORMS) (eOp ixW (eVar 0) (eC (.int 0)))) (eC (.int 1)))) none)))
noncomputable def b_f_marks_of_itself(F:Fs):MS:=(sSeq (sIf (tVal (eOp (inW false) (eOp ixW (eVar 1) (eC (.int 0))) (uW tupW [eC (.str "read"),eC (.str "write"),eC (.str "do")])))
 (sRet (uW flsW [uW tupW [eOp ixW (eVar 1) (eC (.int 0)),eOp ixW (eVar 1) (eC (.int 1))]]))
 zaa)
 (sSeq (sIf (tVal (eOp (inW false) (eOp ixW (eVar 1) (eC (.int 0))) (uW tupW [eC (.str "say"),eC (.str "ask")])))
 (sRet (uW flsW [uW tupW [eOp ixW (eVar 1) (eC (.int 0))]]))
 zaa)
 (sSeq (sIf (tVal (eOp (eqW false) (eOp ixW (eVar 1) (eC (.int 0))) (eC (.str "call"))))
 (sRet (zaq (iSeq (eOp ixW (eVar 0) (eOp ixW (eVar 1) (eC (.int 1))))) 1 [] (gNm 0) (tVal (eOp (eqW true) (eOp ixW (eVar 0) (eC (.int 0))) (eC (.str "do")))) (eVar 0)))
 zaa)
 (sRet (uW flsW [])))))
noncomputable def b_f_handed_that_are_done(F:Fs):MS:=(sSeq (sAsg (eOp ixW (eOp ixW (eVar 0) (eVar 2)) (eC (.int 1))) (gNm 4))
 (sRet (uW zbv [zaq (iZip [eVar 4,eVar 3]) 2 [1,2] (gTp [gNm 0,gNm 1]) (tVal (eOp (inW false) (uW tupW [eC (.str "do"),eVar 0]) (eOp ixW (eVar 2) (eVar 3)))) (eVar 1)])))
noncomputable def b_f_parts_that_count(F:Fs):MS:=(sSeq (sIf (tVal (eOp (eqW false) (eOp ixW (eVar 2) (eC (.int 0))) (eC (.str "call"))))
 (sRet (eOp addW (eOp ixW (eVar 2) (eC (.int 2))) (uW F.f_handed_that_are_done [eVar 0,eVar 1,eOp ixW (eVar 2) (eC (.int 1)),eOp ixW (eVar 2) (eC (.int 3))])))
 zaa)
 (sRet (uW F.f_parts_of [eVar 2])))
noncomputable def b_f_with_hidden(F:Fs):MS:=(sRet (eIf (tVal (eOp (inW false) (eVar 1) (eVar 0))) (eVar 0) (eOp addW (eVar 0) (uW tupW [eVar 1]))))
noncomputable def b_f_parts_with_hidden(F:Fs):MS:=(sSeq (sIf (tVal (eOp (eqW false) (eOp ixW (eVar 2) (eC (.int 0))) (eC (.str "own"))))
 (sRet (uW flsW [uW tupW [eOp ixW (eVar 2) (eC (.int 2)),eVar 3],uW tupW [eOp ixW (eVar 2) (eC (.int 3)),uW F.f_with_hidden [eVar 3,eOp ixW (eVar 2) (eC (.int 1))]]]))
 zaa)
 (sRet (zaq (iSeq (uW F.f_parts_that_count [eVar 0,eVar 1,eVar 2])) 1 [3] (gNm 0) zba (uW tupW [eVar 0,eVar 1]))))
noncomputable def zT:MT:=tVal (eOp gtW (uW lenW [eVar 4]) (eC (.int 0)))
noncomputable def mBd:MS:=(sIf (tVal (eOp (inW true) (eOp ixW (eVar 6) (eUn negW (eC (.int 1)))) (eOp ixW (eVar 5) (eC (.int 1)))))
 (sAsg (eC (.bl true)) (zfB (eVar 3) (eVar 6)))
 zaa)
noncomputable def zB(F:Fs):MS:=(sSeq (sAsg (zau popM (eVar 4) []) (gNm 5))
 (sSeq (sFor (iSeq (uW F.f_marks_of_itself [eVar 1,eOp ixW (eVar 5) (eC (.int 0))])) (gNm 6) mBd)
 (zbp (zau zbf (eVar 4) [uW F.f_parts_with_hidden [eVar 0,eVar 1,eOp ixW (eVar 5) (eC (.int 0)),eOp ixW (eVar 5) (eC (.int 1))]]))))
noncomputable def b_f_marks_by(F:Fs):MS:=sSeq (sAsg zdL (gNm 3)) (sSeq (sAsg (uW lstW [uW tupW [eVar 2,uW tupW []]]) (gNm 4)) (sSeq (zbz zT (zB F)) (sRet (uW zcF [eVar 3]))))
noncomputable def bB(F:Fs):MS:=(zbp (zau zaT (eVar 1) [uW F.f_marks_by [eVar 0,eVar 1,eOp ixW (eVar 2) (eC (.int 2))]]))
noncomputable def b_f_marks_of_bodies(F:Fs):MS:=sSeq (sAsg (uW lstW []) (gNm 1)) (sSeq (sFor (iSeq (eVar 0)) (gNm 2) (bB F)) (sRet (eVar 1)))
noncomputable def b_f_touches(F:Fs):MS:=(sRet (uW F.f_marks_by [eVar 0,uW F.f_marks_of_bodies [eVar 0],eVar 1]))
noncomputable def b_f_shelves_of(F:Fs):MS:=(sRet (zaq (iSeq (eVar 0)) 1 [1] (gNm 0) (tVal (eOp (eqW false) (eOp ixW (eVar 0) (eC (.int 0))) (eVar 1))) (eOp ixW (eVar 0) (eC (.int 1)))))
noncomputable def b_f_writes_of(F:Fs):MS:=(sRet (uW F.f_shelves_of [uW F.f_touches [eVar 0,eVar 1],eC (.str "write")]))
noncomputable def b_f_law_cell(F:Fs):MS:=(sSeq (sIf (tVal (eOp (eqW false) (eVar 0) (uW flsW [])))
 (sRet (eOp mulW (eC (.int 7)) (eVar 1)))
 zaa)
 (sRet (eOp addW (eOp ixW (eVar 0) (eOp modW (eVar 1) (uW lenW [eVar 0]))) (eOp mulW (eC (.int 6553)) (eOp divW (eVar 1) (uW lenW [eVar 0]))))))
noncomputable def b_f_law_drawn(F:Fs):MS:=(sSeq (sAsg (eOp modW (eOp addW (eOp mulW (eOp modW (uW F.f_law_cell [eVar 0,eVar 1]) (eC (.int 2147483563))) (eC (.int 69069))) (eOp mulW (eC (.int 104723)) (eOp addW (eVar 1) (eC (.int 1))))) (eC (.int 2147483563))) (gNm 3))
 (sSeq (sAsg (eOp modW (eOp addW (eOp mulW (eVar 3) (eVar 3)) (eOp divW (eVar 3) (eC (.int 3)))) (eC (.int 2147483399))) (gNm 3))
 (sRet (eOp modW (eOp divW (eOp modW (eOp addW (eOp mulW (eVar 3) (eVar 3)) (eOp divW (eVar 3) (eC (.int 7)))) (eC (.int 2147483647))) (eC (.int 11))) (eVar 2)))))
noncomputable def LF0(F:Fs):MS:=(sAsg (eVar 2) (gTp [gNm 3,gNm 4,gNm 5]))
noncomputable def LF1(F:Fs):MS:=(sAsg (uW F.f_law_drawn [eVar 0,eVar 1,eC (.int 8)]) (gNm 6))
noncomputable def LF2(F:Fs):MS:=(sIf (tVal (eOp ltW (eVar 6) (eC (.int 2))))
 (sRet (uW tupW [eC (.str "number"),eOp ixW (uW flsW [eC (.int 0),eC (.int 1),eC (.int 2),eC (.int 3),eC (.int 7),eC (.int 1008)]) (uW F.f_law_drawn [eVar 0,eOp addW (eVar 1) (eC (.int 1)),eC (.int 6)])]))
 zaa)
noncomputable def LF3(F:Fs):MS:=(sIf (zdc (tVal (eOp (eqW false) (eVar 6) (eC (.int 2)))) (tVal (eOp (eqW true) (eVar 3) (uW tupW []))))
 (sRet (uW tupW [eC (.str "name"),eOp ixW (eVar 3) (uW F.f_law_drawn [eVar 0,eOp addW (eVar 1) (eC (.int 1)),uW lenW [eVar 3]])]))
 zaa)
noncomputable def LF4(F:Fs):MS:=(sIf (zdc (tVal (eOp (eqW false) (eVar 6) (eC (.int 3)))) (tVal (eOp (eqW true) (eVar 5) (uW tupW []))))
 (sRet (uW tupW [eC (.str "do"),eOp ixW (eVar 5) (uW F.f_law_drawn [eVar 0,eOp addW (eVar 1) (eC (.int 1)),uW lenW [eVar 5]])]))
 zaa)
noncomputable def LF5(F:Fs):MS:=(sIf (tVal (eOp (eqW false) (eVar 6) (eC (.int 4))))
 (sRet (uW tupW [eC (.str "ask")]))
 zaa)
noncomputable def LF6(F:Fs):MS:=(sAsg (eOp addW (uW tupW [eC (.str "a"),eC (.str "b"),eC (.str "c"),eC (.str "d")]) (eOp mulW (eVar 4) (eC (.int 3)))) (gNm 7))
noncomputable def LF7(F:Fs):MS:=(sRet (uW tupW [eC (.str "read"),eOp ixW (eVar 7) (uW F.f_law_drawn [eVar 0,eOp addW (eVar 1) (eC (.int 1)),uW lenW [eVar 7]])]))
noncomputable def b_f_law_leaf(F:Fs):MS:=sSeq (LF0 F) (sSeq (LF1 F) (sSeq (LF2 F) (sSeq (LF3 F) (sSeq (LF4 F) (sSeq (LF5 F) (sSeq (LF6 F) (LF7 F)))))))
noncomputable def DS0(F:Fs):MS:=(sAsg (uW F.f_law_drawn [eVar 0,eVar 1,eC (.int 15)]) (gNm 5))
noncomputable def DS1(F:Fs):MS:=(sIf (tOrM (tVal (eOp (eqW false) (eVar 2) (eC (.int 0)))) (tVal (eOp ltW (eVar 5) (eC (.int 2)))))
 (sRet (uW F.f_law_leaf [eVar 0,eOp addW (eVar 1) (eC (.int 1)),eVar 3]))
 zaa)
noncomputable def DS2(F:Fs):MS:=(sIf (zdc (tVal (eOp ltW (eVar 5) (eC (.int 4)))) (tVal (eOp (eqW true) (eVar 4) (uW tupW []))))
 (sRet (uW F.f_law_call [eVar 0,eVar 1,eVar 2,eVar 3,eVar 4]))
 zaa)
noncomputable def DS3(F:Fs):MS:=(sAsg (uW F.f_law_deed [eVar 0,eOp addW (eOp mulW (eVar 1) (eC (.int 3))) (eC (.int 7)),eOp subW (eVar 2) (eC (.int 1)),eVar 3,eVar 4]) (gNm 6))
noncomputable def DS4(F:Fs):MS:=(sIf (tVal (eOp ltW (eVar 5) (eC (.int 6))))
 (sSeq (sAsg (eOp addW (uW tupW [eC (.str "a"),eC (.str "b"),eC (.str "c"),eC (.str "d")]) (eOp mulW (eOp ixW (eVar 3) (eC (.int 1))) (eC (.int 3)))) (gNm 7))
 (sRet (uW tupW [eC (.str "write"),eOp ixW (eVar 7) (uW F.f_law_drawn [eVar 0,eOp addW (eVar 1) (eC (.int 3)),uW lenW [eVar 7]]),eVar 6])))
 zaa)
noncomputable def DS5(F:Fs):MS:=(sIf (tVal (eOp (eqW false) (eVar 5) (eC (.int 6))))
 (sRet (uW tupW [eC (.str "say"),eVar 6]))
 zaa)
noncomputable def DS6(F:Fs):MS:=(sIf (tVal (eOp (eqW false) (eVar 5) (eC (.int 7))))
 (sSeq (sAsg (eOp ixW (uW flsW [eC (.str "x"),eC (.str "y"),eC (.str "x1")]) (uW F.f_law_drawn [eVar 0,eOp addW (eVar 1) (eC (.int 3)),eC (.int 3)])) (gNm 8))
 (sRet (uW tupW [eC (.str "let"),eVar 8,eVar 6,uW F.f_law_deed [eVar 0,eOp addW (eOp mulW (eVar 1) (eC (.int 3))) (eC (.int 23)),eOp subW (eVar 2) (eC (.int 1)),eOp addW (uW tupW [eOp addW (eOp ixW (eVar 3) (eC (.int 0))) (uW tupW [eVar 8])]) (eSl (eVar 3) (some (eC (.int 1))) none),eVar 4]])))
 zaa)
noncomputable def DS7(F:Fs):MS:=(sIf (tVal (eOp (eqW false) (eVar 5) (eC (.int 8))))
 (sSeq (sAsg (eOp ixW (uW flsW [eC (.str "p"),eC (.str "q")]) (uW F.f_law_drawn [eVar 0,eOp addW (eVar 1) (eC (.int 3)),eC (.int 2)])) (gNm 8))
 (sSeq (sAsg (uW tupW [eOp ixW (eVar 3) (eC (.int 0)),eOp addW (eOp ixW (eVar 3) (eC (.int 1))) (uW tupW [eVar 8]),eOp ixW (eVar 3) (eC (.int 2))]) (gNm 9))
 (sRet (uW tupW [eC (.str "own"),eVar 8,eVar 6,uW F.f_law_deed [eVar 0,eOp addW (eOp mulW (eVar 1) (eC (.int 3))) (eC (.int 23)),eOp subW (eVar 2) (eC (.int 1)),eVar 9,eVar 4]]))))
 zaa)
noncomputable def DS8(F:Fs):MS:=(sAsg (uW F.f_law_deed [eVar 0,eOp addW (eOp mulW (eVar 1) (eC (.int 3))) (eC (.int 41)),eOp subW (eVar 2) (eC (.int 1)),eVar 3,eVar 4]) (gNm 10))
noncomputable def DS9(F:Fs):MS:=(sIf (tVal (eOp (eqW false) (eVar 5) (eC (.int 9))))
 (sRet (uW tupW [eC (.str "if"),eVar 6,eVar 10,uW F.f_law_deed [eVar 0,eOp addW (eOp mulW (eVar 1) (eC (.int 3))) (eC (.int 61)),eOp subW (eVar 2) (eC (.int 1)),eVar 3,eVar 4]]))
 zaa)
noncomputable def DS10(F:Fs):MS:=(sRet (eOp addW (eOp ixW (uW flsW [uW tupW [eC (.str "then")],uW tupW [eC (.str "add")],uW tupW [eC (.str "less")],uW tupW [eC (.str "loop")],uW tupW [eC (.str "then")]]) (eOp subW (eVar 5) (eC (.int 10)))) (uW tupW [eVar 6,eVar 10])))
noncomputable def b_f_law_deed(F:Fs):MS:=sSeq (DS0 F) (sSeq (DS1 F) (sSeq (DS2 F) (sSeq (DS3 F) (sSeq (DS4 F) (sSeq (DS5 F) (sSeq (DS6 F) (sSeq (DS7 F) (sSeq (DS8 F) (sSeq (DS9 F) (DS10 F))))))))))
noncomputable def CL0(F:Fs):MS:=(sAsg (uW F.f_law_drawn [eVar 0,eOp addW (eVar 1) (eC (.int 3)),uW lenW [eVar 4]]) (gNm 5))
noncomputable def CL1(F:Fs):MS:=(sAsg (uW lenW [eOp ixW (eOp ixW (eVar 4) (eVar 5)) (eC (.int 0))]) (gNm 6))
noncomputable def CL2(F:Fs):MS:=(sAsg (uW lstW []) (gNm 7))
noncomputable def CL3(F:Fs):MS:=(sFor (iRng [eOp addW (eVar 6) (uW lenW [eOp ixW (eOp ixW (eVar 4) (eVar 5)) (eC (.int 1))])]) (gNm 8)
 (zbp (zau zaT (eVar 7) [uW F.f_law_deed [eVar 0,eOp addW (eOp addW (eOp mulW (eVar 1) (eC (.int 3))) (eC (.int 7))) (eOp mulW (eC (.int 5)) (eVar 8)),eOp subW (eVar 2) (eC (.int 1)),eVar 3,eVar 4]])))
noncomputable def CL4(F:Fs):MS:=(sRet (uW tupW [eC (.str "call"),eVar 5,uW zbv [eSl (eVar 7) none (some (eVar 6))],uW zbv [eSl (eVar 7) (some (eVar 6)) none]]))
noncomputable def b_f_law_call(F:Fs):MS:=sSeq (CL0 F) (sSeq (CL1 F) (sSeq (CL2 F) (sSeq (CL3 F) (CL4 F))))
noncomputable def RU0(F:Fs):MS:=(sAsg (uW tupW []) (gNm 2))
noncomputable def RU1(F:Fs):MS:=(sFor (iRng [uW F.f_law_drawn [eVar 0,eVar 1,eC (.int 3)]]) (gNm 3)
 (sSeq (sAsg (eOp ixW (uW flsW [uW tupW [],uW tupW [eC (.str "x")],uW tupW [eC (.str "y"),eC (.str "x")]]) (uW F.f_law_drawn [eVar 0,eOp addW (eOp addW (eVar 1) (eC (.int 1))) (eOp mulW (eC (.int 5)) (eVar 3)),eC (.int 3)])) (gNm 4))
 (sSeq (sAsg (eOp ixW (uW flsW [uW tupW [],uW tupW [eC (.str "f")],uW tupW [eC (.str "f"),eC (.str "g1")]]) (uW F.f_law_drawn [eVar 0,eOp addW (eOp addW (eVar 1) (eC (.int 2))) (eOp mulW (eC (.int 5)) (eVar 3)),eC (.int 3)])) (gNm 5))
 (sSeq (sAsg (uW F.f_law_deed [eVar 0,eOp addW (eOp addW (eVar 1) (eC (.int 20))) (eOp mulW (eC (.int 7)) (eVar 3)),eC (.int 2),uW tupW [eVar 4,uW tupW [],eVar 5],eVar 2]) (gNm 6))
 (sAsg (eOp addW (eVar 2) (uW tupW [uW tupW [eVar 4,eVar 5,eVar 6]])) (gNm 2))))))
noncomputable def RU2(F:Fs):MS:=(sRet (eVar 2))
noncomputable def b_f_law_rules(F:Fs):MS:=sSeq (RU0 F) (sSeq (RU1 F) (RU2 F))
noncomputable def w1(F:Fs):MS:=(sIf (tVal (eOp (inW false) (eVar 3) (uW tupW [eC (.str "number"),eC (.str "name"),eC (.str "ask"),eC (.str "read")])))
 (sRet (eC (.int 1)))
 zaa)
noncomputable def w2(F:Fs):MS:=(sIf (tVal (eOp (eqW false) (eVar 3) (eC (.str "do"))))
 (sRet (zd4 (eVar 2) (eOp ixW (eVar 1) (eC (.int 1))) (eC (.int 1))))
 zaa)
noncomputable def w3(F:Fs):MS:=(sIf (tVal (eOp (eqW false) (eVar 3) (eC (.str "call"))))
 (sSeq (sAsg (uW zc8 [zaq (iZip [eOp ixW (eOp ixW (eVar 0) (eOp ixW (eVar 1) (eC (.int 1)))) (eC (.int 1)),eOp ixW (eVar 1) (eC (.int 3))]) 2 [0,2] (gTp [gNm 0,gNm 1]) zba (uW tupW [eVar 0,uW F.f_law_weight [eVar 2,eVar 1,eVar 3]])]) (gNm 4))
 (sSeq (sAsg (uW sumW [zaq (iSeq (eOp ixW (eVar 1) (eC (.int 2)))) 1 [0,2] (gNm 0) zba (uW F.f_law_weight [eVar 1,eVar 0,eVar 2])]) (gNm 5))
 (sRet (eOp addW (eOp addW (eC (.int 1)) (eVar 5)) (uW F.f_law_weight [eVar 0,eOp ixW (eOp ixW (eVar 0) (eOp ixW (eVar 1) (eC (.int 1)))) (eC (.int 2)),eVar 4])))))
 zaa)
noncomputable def w4(F:Fs):MS:=(sAsg (zaq (iSeq (eSl (eVar 1) (some (eC (.int 1))) none)) 1 [0,2] (gNm 0) (tVal (eUn (isW .tuple) (eVar 0))) (uW F.f_law_weight [eVar 1,eVar 0,eVar 2])) (gNm 6))
noncomputable def w5(F:Fs):MS:=(sIf (tVal (eOp (eqW false) (eVar 3) (eC (.str "loop"))))
 (sRet (eOp addW (eOp addW (eC (.int 1)) (eOp ixW (eVar 6) (eC (.int 0)))) (eOp mulW (eC (.int 3)) (eOp ixW (eVar 6) (eC (.int 1))))))
 zaa)
noncomputable def w6(F:Fs):MS:=(sRet (eOp addW (eC (.int 1)) (uW sumW [eVar 6])))
noncomputable def b_f_law_weight(F:Fs):MS:=sSeq (sAsg (eOp ixW (eVar 1) (eC (.int 0))) (gNm 3)) (sSeq (w1 F) (sSeq (w2 F) (sSeq (w3 F) (sSeq (w4 F) (sSeq (w5 F) (w6 F))))))
noncomputable def b_f_law_light(F:Fs):MS:=(sSeq (sAsg (uW F.f_law_deed [eVar 0,eVar 1,eVar 2,uW tupW [uW tupW [],uW tupW [],uW tupW []],eVar 3]) (gNm 4))
 (sSeq (sIf (tVal (eOp gtW (uW F.f_law_weight [eVar 3,eVar 4,eC (.fdc [])]) (eC (.int 80))))
 (sRet (uW tupW [eC (.str "read"),eOp ixW (eC (.str "abcd")) (uW F.f_law_drawn [eVar 0,eVar 1,eC (.int 4)])]))
 zaa)
 (sRet (eVar 4))))
noncomputable def LW0(F:Fs):MS:=(sAsg (uW F.f_law_rules [eVar 0,eC (.int 1)]) (gNm 1))
noncomputable def LW1(F:Fs):MS:=(sAsg (zaq (iRng [eC (.int 2)]) 1 [0,1] (gNm 0) zba (uW F.f_law_light [eVar 1,eOp addW (eC (.int 90)) (eOp mulW (eC (.int 31)) (eVar 0)),eC (.int 2),eVar 2])) (gTp [gNm 2,gNm 3]))
noncomputable def LW2(F:Fs):MS:=(sAsg (uW F.f_touches [eVar 1,eVar 2]) (gNm 4))
noncomputable def LW3(F:Fs):MS:=(sAsg (uW F.f_touches [eVar 1,eVar 3]) (gNm 5))
noncomputable def LW4(F:Fs):MS:=(sAsg (eUn zaO (eOp addW (eVar 4) (eVar 5))) (gNm 6))
noncomputable def LW5(F:Fs):MS:=(sFor (iSeq (uW tupW [uW tupW [eC (.str "then"),eVar 2,eVar 3],uW tupW [eC (.str "add"),eVar 3,eVar 2],uW tupW [eC (.str "less"),eVar 2,eVar 3],uW tupW [eC (.str "loop"),eVar 2,eVar 3],uW tupW [eC (.str "let"),eC (.str "x"),eVar 2,eVar 3]])) (gNm 7)
 (sIf (tVal (eOp (eqW true) (uW F.f_touches [eVar 1,eVar 7]) (eVar 6)))
 (sRet (eC (.bl false)))
 zaa))
noncomputable def LW6(F:Fs):MS:=(sIf (tOrM (tVal (eOp (eqW true) (uW F.f_touches [eVar 1,uW tupW [eC (.str "own"),eC (.str "p"),eVar 2,eVar 3]]) (eVar 6))) (tVal (eOp (eqW true) (uW F.f_touches [eVar 1,uW tupW [eC (.str "if"),uW tupW [eC (.str "number"),eC (.int 0)],eVar 2,eVar 3]]) (eVar 6))))
 (sRet (eC (.bl false)))
 zaa)
noncomputable def LW7(F:Fs):MS:=(sIf (tVal (eOp (eqW true) (uW F.f_touches [eVar 1,uW tupW [eC (.str "loop"),uW tupW [eC (.str "number"),eC (.int 0)],eVar 2]]) (eVar 4)))
 (sRet (eC (.bl false)))
 zaa)
noncomputable def LW8(F:Fs):MS:=(sIf (tVal (eOp (eqW true) (uW F.f_touches [eVar 1,uW tupW [eC (.str "own"),eC (.str "q"),eVar 2,uW tupW [eC (.str "write"),eC (.str "q"),eVar 3]]]) (eVar 6)))
 (sRet (eC (.bl false)))
 zaa)
noncomputable def LW9(F:Fs):MS:=(sAsg (eOp ixW (eC (.str "abcd")) (uW F.f_law_drawn [eVar 0,eC (.int 300),eC (.int 4)])) (gNm 8))
noncomputable def LW10(F:Fs):MS:=(sIf (tOrM (tVal (eOp (eqW true) (uW F.f_touches [eVar 1,uW tupW [eC (.str "read"),eVar 8]]) (uW flsW [uW tupW [eC (.str "read"),eVar 8]]))) (tVal (eOp (eqW true) (uW F.f_touches [eVar 1,uW tupW [eC (.str "number"),eC (.int 3)]]) (uW flsW []))))
 (sRet (eC (.bl false)))
 zaa)
noncomputable def LW11(F:Fs):MS:=(sIf (tVal (eOp (eqW true) (uW F.f_touches [eVar 1,uW tupW [eC (.str "write"),eVar 8,eVar 2]]) (eUn zaO (eOp addW (eVar 4) (uW flsW [uW tupW [eC (.str "write"),eVar 8]])))))
 (sRet (eC (.bl false)))
 zaa)
noncomputable def LW12(F:Fs):MS:=(sIf (tVal (eOp (eqW true) (uW F.f_writes_of [eVar 1,uW tupW [eC (.str "write"),eVar 8,eVar 2]]) (eUn zaO (eOp addW (uW F.f_writes_of [eVar 1,eVar 2]) (uW flsW [eVar 8])))))
 (sRet (eC (.bl false)))
 zaa)
noncomputable def LW13(F:Fs):MS:=(sIf (tOrM (tVal (eOp (eqW true) (uW F.f_touches [eVar 1,uW tupW [eC (.str "say"),eVar 2]]) (eUn zaO (eOp addW (eVar 4) (uW flsW [uW tupW [eC (.str "say")]]))))) (tVal (eOp (eqW true) (uW F.f_touches [eVar 1,uW tupW [eC (.str "ask")]]) (uW flsW [uW tupW [eC (.str "ask")]]))))
 (sRet (eC (.bl false)))
 zaa)
noncomputable def LW14(F:Fs):MS:=(sAsg (eOp addW (eSl (eVar 1) none (some (eC (.int 1)))) (uW tupW [uW tupW [uW tupW [],uW tupW [eC (.str "f")],uW tupW [eC (.str "then"),uW tupW [eC (.str "do"),eC (.str "f")],uW tupW [eC (.str "ask")]]],uW tupW [uW tupW [],uW tupW [eC (.str "g")],uW tupW [eC (.str "number"),eC (.int 0)]]])) (gNm 9))
noncomputable def LW15(F:Fs):MS:=(sAsg (uW lenW [eSl (eVar 1) none (some (eC (.int 1)))]) (gNm 10))
noncomputable def LW16(F:Fs):MS:=(sAsg (uW flsW [uW F.f_law_light [eVar 0,eC (.int 190),eC (.int 2),eSl (eVar 1) none (some (eC (.int 1)))]]) (gNm 11))
noncomputable def LW17(F:Fs):MS:=(sIf (tVal (eOp (eqW true) (uW F.f_touches [eVar 9,uW tupW [eC (.str "call"),eVar 10,uW tupW [],uW tupW [eOp ixW (eVar 11) (eC (.int 0))]]]) (eUn zaO (eOp addW (uW F.f_touches [eVar 9,eOp ixW (eVar 11) (eC (.int 0))]) (uW flsW [uW tupW [eC (.str "ask")]])))))
 (sRet (eC (.bl false)))
 zaa)
noncomputable def LW18(F:Fs):MS:=(sRet (eOp (eqW false) (uW F.f_touches [eVar 9,uW tupW [eC (.str "call"),eOp addW (eVar 10) (eC (.int 1)),uW tupW [],uW tupW [eOp ixW (eVar 11) (eC (.int 0))]]]) (uW flsW [])))
noncomputable def b_f_law(F:Fs):MS:=sSeq (LW0 F) (sSeq (LW1 F) (sSeq (LW2 F) (sSeq (LW3 F) (sSeq (LW4 F) (sSeq (LW5 F) (sSeq (LW6 F) (sSeq (LW7 F) (sSeq (LW8 F) (sSeq (LW9 F) (sSeq (LW10 F) (sSeq (LW11 F) (sSeq (LW12 F) (sSeq (LW13 F) (sSeq (LW14 F) (sSeq (LW15 F) (sSeq (LW16 F) (sSeq (LW17 F) (LW18 F))))))))))))))))))
noncomputable def step(F:Fs):Fs where
 f_parts_of:=gc (fnM 1 0 (b_f_parts_of F))
 f_marks_of_itself:=gc (fnM 2 0 (b_f_marks_of_itself F))
 f_handed_that_are_done:=gc (fnM 4 1 (b_f_handed_that_are_done F))
 f_parts_that_count:=gc (fnM 3 0 (b_f_parts_that_count F))
 f_with_hidden:=gc (fnM 2 0 (b_f_with_hidden F))
 f_parts_with_hidden:=gc (fnM 4 0 (b_f_parts_with_hidden F))
 f_marks_by:=gc (fnM 3 4 (b_f_marks_by F))
 f_marks_of_bodies:=gc (fnM 1 2 (b_f_marks_of_bodies F))
 f_touches:=gc (fnM 2 0 (b_f_touches F))
 f_shelves_of:=gc (fnM 2 0 (b_f_shelves_of F))
 f_writes_of:=gc (fnM 2 0 (b_f_writes_of F))
 f_law_cell:=gc (fnM 2 0 (b_f_law_cell F))
 f_law_drawn:=gc (fnM 3 1 (b_f_law_drawn F))
 f_law_leaf:=gc (fnM 3 5 (b_f_law_leaf F))
 f_law_deed:=gc (fnM 5 6 (b_f_law_deed F))
 f_law_call:=gc (fnM 5 4 (b_f_law_call F))
 f_law_rules:=gc (fnM 2 5 (b_f_law_rules F))
 f_law_weight:=gc (fnM 3 4 (b_f_law_weight F))
 f_law_light:=gc (fnM 4 1 (b_f_law_light F))
 f_law:=gc (fnM 1 11 (b_f_law F))
def Fs.bot:Fs:=⟨λ_ _=>none,λ_ _=>none,λ_ _=>none,λ_ _=>none,λ_ _=>none,λ_ _=>none,λ_ _=>none,λ_ _=>none,λ_ _=>none,λ_ _=>none,λ_ _=>none,λ_ _=>none,λ_ _=>none,λ_ _=>none,λ_ _=>none,λ_ _=>none,λ_ _=>none,λ_ _=>none,λ_ _=>none,λ_ _=>none⟩
noncomputable def lv:Nat->Fs
 | 0=>.bot
 | n+1=>step (lv n)
def fns(F:Fs):List (Str×(List W->M W)):=[(("parts_of":Str),F.f_parts_of),(("marks_of_itself":Str),F.f_marks_of_itself),(("handed_that_are_done":Str),F.f_handed_that_are_done),(("parts_that_count":Str),F.f_parts_that_count),(("with_hidden":Str),F.f_with_hidden),(("parts_with_hidden":Str),F.f_parts_with_hidden),(("marks_by":Str),F.f_marks_by),(("marks_of_bodies":Str),F.f_marks_of_bodies),(("touches":Str),F.f_touches),(("shelves_of":Str),F.f_shelves_of),(("writes_of":Str),F.f_writes_of),(("_law_cell":Str),F.f_law_cell),(("_law_drawn":Str),F.f_law_drawn),(("_law_leaf":Str),F.f_law_leaf),(("_law_deed":Str),F.f_law_deed),(("_law_call":Str),F.f_law_call),(("_law_rules":Str),F.f_law_rules),(("_law_weight":Str),F.f_law_weight),(("_law_light":Str),F.f_law_light),(("law":Str),F.f_law)]
def cons:List (Str×W):=[]
def tabs:List (Str×List (Str×W)):=[("FORMS",t_FORMS)]
def bins:List Str:=["dict","isinstance","len","range","set","sorted","sum","tuple","zip"]
def rc(F:Fs):RC:=⟨⟨.function,[],false,false,[]⟩,[],false,fns F,cons,tabs,bins,[],[],[]⟩
def d_f_parts_of:Def:=⟨"parts_of",top 2,["deed"],["deed"],[],[],[]⟩
def d_f_marks_of_itself:Def:=⟨"marks_of_itself",top 4,["bodies","deed"],["bodies","deed"],[],[],[((14,15),["mark"])]⟩
def d_f_handed_that_are_done:Def:=⟨"handed_that_are_done",top 5,["rules","bodies","number","handed"],["rules","bodies","number","handed","names"],[],[],[((18,17),["name","part","bodies","number"])]⟩
def d_f_parts_that_count:Def:=⟨"parts_that_count",top 6,["rules","bodies","deed"],["rules","bodies","deed"],[],[],[]⟩
def d_f_with_hidden:Def:=⟨"with_hidden",top 7,["hidden","shelf"],["hidden","shelf"],[],[],[]⟩
def d_f_parts_with_hidden:Def:=⟨"parts_with_hidden",top 8,["rules","bodies","deed","hidden"],["rules","bodies","deed","hidden"],[],[],[((28,11),["part","hidden"])]⟩
def d_f_marks_by:Def:=⟨"marks_by",top 9,["rules","bodies","deed"],["rules","bodies","deed","found","waiting","place","mark"],["found","waiting"],["found"],[]⟩
def d_f_marks_of_bodies:Def:=⟨"marks_of_bodies",top 10,["rules"],["rules","bodies","rule"],["bodies"],[],[]⟩
def d_f_touches:Def:=⟨"touches",top 11,["rules","deed"],["rules","deed"],[],[],[]⟩
def d_f_shelves_of:Def:=⟨"shelves_of",top 12,["marks","word"],["marks","word"],[],[],[((47,11),["mark","word"])]⟩
def d_f_writes_of:Def:=⟨"writes_of",top 13,["rules","deed"],["rules","deed"],[],[],[]⟩
def d_f_law_cell:Def:=⟨"_law_cell",top 15,["_law_script","_law_k"],["_law_script","_law_k"],[],[],[]⟩
def d_f_law_drawn:Def:=⟨"_law_drawn",top 16,["_law_script","_law_k","_law_many"],["_law_script","_law_k","_law_many","_law_cell_here"],[],[],[]⟩
def d_f_law_leaf:Def:=⟨"_law_leaf",top 17,["_law_script","_law_at","_law_known"],["_law_script","_law_at","_law_known","_law_names","_law_owns","_law_handed","_law_way","_law_shelves"],[],[],[]⟩
def d_f_law_deed:Def:=⟨"_law_deed",top 18,["_law_script","_law_at","_law_deep","_law_known","_law_rules_here"],["_law_script","_law_at","_law_deep","_law_known","_law_rules_here","_law_way","_law_one","_law_shelves","_law_word","_law_inner","_law_other"],[],[],[]⟩
def d_f_law_call:Def:=⟨"_law_call",top 19,["_law_script","_law_at","_law_deep","_law_known","_law_rules_here"],["_law_script","_law_at","_law_deep","_law_known","_law_rules_here","_law_number","_law_size","_law_parts","_law_k"],["_law_parts"],[],[]⟩
def d_f_law_rules:Def:=⟨"_law_rules",top 20,["_law_script","_law_at"],["_law_script","_law_at","_law_rules_here","_law_k","_law_names","_law_handed","_law_body"],[],[],[]⟩
def d_f_law_weight:Def:=⟨"_law_weight",top 23,["_law_rules_here","_law_deed_here","_law_handed"],["_law_rules_here","_law_deed_here","_law_handed","_law_word","_law_there","_law_parts","_law_inner"],[],[],[((124,17),["_law_part","_law_rules_here","_law_handed"]),((121,26),["_law_one","_law_part","_law_rules_here","_law_handed"]),((122,25),["_law_part","_law_rules_here","_law_handed"])]⟩
def d_f_law_light:Def:=⟨"_law_light",top 24,["_law_script","_law_at","_law_deep","_law_rules_here"],["_law_script","_law_at","_law_deep","_law_rules_here","_law_deed_here"],[],[],[]⟩
def d_f_law:Def:=⟨"law",top 25,["_law_script"],["_law_script","_law_rules_here","_law_one","_law_two","_law_mine","_law_yours","_law_both","_law_deed_here","_law_shelf","_law_doing","_law_at","_law_first"],[],[],[((135,25),["_law_k","_law_script","_law_rules_here"])]⟩
def defs:List Def:=[d_f_parts_of,d_f_marks_of_itself,d_f_handed_that_are_done,d_f_parts_that_count,d_f_with_hidden,d_f_parts_with_hidden,d_f_marks_by,d_f_marks_of_bodies,d_f_touches,d_f_shelves_of,d_f_writes_of,d_f_law_cell,d_f_law_drawn,d_f_law_leaf,d_f_law_deed,d_f_law_call,d_f_law_rules,d_f_law_weight,d_f_law_light,d_f_law]
def lvl{P:Program}{w:World}{K:PySem.W.Frag}{mg:Str->Option Value}{base:Heap}(T:AllD (zbY K mg) defs)(c:AllOf (Glob K mg) cons)(t:AllOf (TabOk K w.params mg) tabs)(z:AllNone mg bins):∀n,BaseOk P w K mg base ⟨λ_=>0,P,w⟩ n (rc (lv n)):=by
 obtain⟨T0,T1,T2,T3,T4,T5,T6,T7,T8,T9,T10,T11,T12,T13,T14,T15,T16,T17,T18,T19,-⟩:=T;intro n;induction n with
 | zero=>exact⟨⟨zah T0,zah T1,zah T2,zah T3,zah T4,zah T5,zah T6,zah T7,zah T8,zah T9,zah T10,zah T11,zah T12,zah T13,zah T14,zah T15,zah T16,zah T17,zah T18,zah T19,trivial⟩,c,t,z,⟨rfl,rfl⟩⟩
 | succ n ih=>exact⟨⟨zav (b:=b_f_parts_of _) T0 ih,zav (b:=b_f_marks_of_itself _) T1 ih,zav (b:=b_f_handed_that_are_done _) T2 ih,zav (b:=b_f_parts_that_count _) T3 ih,zav (b:=b_f_with_hidden _) T4 ih,zav (b:=b_f_parts_with_hidden _) T5 ih,zav (b:=b_f_marks_by _) T6 ih,zav (b:=b_f_marks_of_bodies _) T7 ih,zav (b:=b_f_touches _) T8 ih,zav (b:=b_f_shelves_of _) T9 ih,zav (b:=b_f_writes_of _) T10 ih,zav (b:=b_f_law_cell _) T11 ih,zav (b:=b_f_law_drawn _) T12 ih,zav (b:=b_f_law_leaf _) T13 ih,zav (b:=b_f_law_deed _) T14 ih,zav (b:=b_f_law_call _) T15 ih,zav (b:=b_f_law_rules _) T16 ih,zav (b:=b_f_law_weight _) T17 ih,zav (b:=b_f_law_light _) T18 ih,zav (b:=b_f_law _) T19 ih,trivial⟩,c,t,z,⟨rfl,rfl⟩⟩
end K23
namespace K23
open PySem L2 ML
theorem zot{α:Type}{β:Type}{c:Prop}[Decidable c]{f g:α->β}{x:α}:(if c then f else g) x=if c then f x else g x:=by split<;>rfl
local macro_rules
 |`(tactic|simp![$l,*])=>`(tactic|simp[step,fnM,sSeq,sIf,sRet,zbp,zaa,sAsg,gNm,gTp,gTps,eVar,eC,eOp,eUn,uW,zbr,eAnd,eOr,eNot,eIf,zcV,tVal,zdc,tOrM,zig,asB,bnd,eqW,inW,zot,$l,*])
noncomputable def forms:List (Str×(Int×Int)):=[("number",(2,2)),("name",(2,2)),("read",(2,2)),("write",(3,2)),("add",(3,1)),("less",(3,1)),("then",(3,1)),("if",(4,1)),("loop",(3,1)),("let",(4,2)),("own",(4,2)),("say",(2,1)),("ask",(1,1)),("do",(2,2)),("call",(4,2))]
noncomputable def fm(x:Str):Option (Int×Int):=forms.lookup x
theorem zmK:t_FORMS=forms.map λp=>(p.1,.tup [.int p.2.1,.int p.2.2]):=rfl
theorem zks{α β:Type}(f:α->β)(x:Str):∀l:List (Str×α),(l.map λp=>(p.1,f p.2)).lookup x=(l.lookup x).map f
 | []=>rfl
 | (k,v)::r=>by
  simp only[zH,j9];cases x==k with
  | true=>rfl
  | false=>exact zks f x r
def t_fm(x:Str):t_FORMS.lookup x=(fm x).map λp=>W.tup [.int p.1,.int p.2]:=by
 rw[zmK];exact zks (λp:Int×Int=>W.tup [.int p.1,.int p.2]) x forms
def zam{n:Nat}{l:List W}(d:dt n (.tup l)=true):∃m,n=m+1/\l.length<=1000/\∀w∈l,dt m w=true:=by
 cases n with
 | zero=>cases d
 | succ m=>
  unfold dt at d;rw[zr] at d;exact⟨m,rfl,jW d.1,λw hw=>kE.mp d.2 w hw⟩
def ix0{x:W}{r:List W}{h:MH}:ixW (.tup (x::r)) (.int 0) h=some (x,h):=by simp[ixW,atI,ixN]
def ix1{x y:W}{r:List W}{h:MH}:ixW (.tup (x::y::r)) (.int 1) h=some (y,h):=by
 have:(1:Int)<(r.length:Int)+1+1:=by omega
 simp[ixW,atI,ixN,this]
def ix2{x y z:W}{r:List W}{h:MH}:ixW (.tup (x::y::z::r)) (.int 2) h=some (z,h):=by
 have:(2:Int)<(r.length:Int)+1+1+1:=by omega
 simp[ixW,atI,ixN,this]
def ix3{x y z u:W}{r:List W}{h:MH}:ixW (.tup (x::y::z::u::r)) (.int 3) h=some (u,h):=by
 have:(3:Int)<(r.length:Int)+1+1+1+1:=by omega
 simp[ixW,atI,ixN,this]
def ixn{l:List W}{i:Int}{h:MH}{w:W}(h0:0<=i)(h1:i<l.length)(e:l[i.toNat]?=some w):ixW (.tup l) (.int i) h=some (w,h):=by
 have hj:i.toNat<l.length:=by omega
 have:l[i.toNat]=w:=by rw[zO hj] at e; exact zU e
 simp[ixW,atI,ixN,h0,h1,this]
noncomputable def uZ:W->List W
 | .tup (.str x::r)=>if x=="call" then (match r with
   | [_,.tup a,.tup b]=>a++b
   | _=>[]) else (match fm x with
   | some p=>r.drop (p.2.toNat-1)
   | none=>[])
 | _=>[]
def zdG{l:List W}{k:Nat}:cutW l (some (k:Int)) none=l.drop k:=by
 unfold cutW;have e1:HT.sIx l.length 0 (some (k:Int))=min k l.length:=by
  have:¬((k:Int)<0):=by omega
  simp[HT.sIx,this]
 have e2:HT.sIx l.length l.length none=l.length:=rfl;rw[e1,e2];have:l.drop (min k l.length)=l.drop k:=by
  by_cases h:k<=l.length
  .rw[Nat.min_eq_left h]
  .rw[Nat.min_eq_right ∅,xu,List.drop_of_length_le ∅]
 rw[this];apply wX
 rw[qI];omega
def zoc{x:Str}{p:Int×Int}(e:fm x=some p):1<=p.2/\p.2<=4:=by
 have:∀(l:List (Str×(Int×Int))),(l.all λq=>decide (1<=q.2.2/\q.2.2<=4))=true->l.lookup x=some p->1<=p.2/\p.2<=4:=by
  intro l;induction l with
  | nil=>intro _ e; cases e
  | cons q r ih=>
   obtain⟨k,v⟩:=q;intro h e;rw[jF,zr] at h;rw[j9] at e;split at e
   .cases e; exact jW h.1
   .exact ih h.2 e
 exact this forms (by decide) e
def zap(ks:List Str):(uX ks).length=ks.length:=by simp[uX]
def zb5{n:Nat}{w:W}(d:dt (n+1) w=true):∀v∈uZ w,dt n v=true:=by
 intro v hv;unfold uZ at hv;split at hv
 .rename_i x r
  obtain⟨m,e,hl,hd⟩:=zam d;cases e;split at hv
  .split at hv
   .rename_i a b
    rename_i z0;cases n with
    | zero=>have:=hd (.tup a) (by simp); cases this
    | succ n=>
    obtain⟨m1,e1,la,da⟩:=zam (hd (.tup a) (by simp));obtain⟨m2,e2,lb,db⟩:=zam (hd (.tup b) (by simp));cases e1; cases e2;rcases zx.mp hv with h | h
    .exact zaG (da v h) (qK _)
    .exact zaG (db v h) (qK _)
   .simp at hv
  .split at hv
   .exact hd v (zq _ (jz hv))
   .simp at hv
 .simp at hv
def zcC{n:Nat}{w:W}(d:dt n w=true):(uZ w).length<=2000:=by
 unfold uZ;split
 .rename_i x r
  obtain⟨m,rfl,hl,hd⟩:=zam d;split
  .split
   .rename_i a b
    obtain⟨m1,e1,la,da⟩:=zam (hd (.tup a) (by simp));obtain⟨m2,e2,lb,db⟩:=zam (hd (.tup b) (by simp));rw[zW];omega
   .simp
  .split
   .rw[qI]
    simp at hl;omega
   .simp
 .simp
def at0{α:Type}(h:List α)(o:α):(h++[o])[h.length]?=some o:=by simp
def set0{α:Type}(h:List α)(o o':α):(h++[o]).set h.length o'=h++[o']:=by rw[qw _ _ (zu _)]; simp
noncomputable def up:Nat->Fs->Fs
 | 0,F=>F
 | n+1,F=>step (up n F)
def uY{a b:MS}{ρ ρ':En}{h h':MH}(e:a ρ h=some (.nx ρ',h')):sSeq a b ρ h=b ρ' h':=by unfold sSeq; rw[e]
def zaN{a b:MS}{ρ:En}{h h':MH}{w:W}(e:a ρ h=some (.ret w,h')):sSeq a b ρ h=some (.ret w,h'):=by unfold sSeq; rw[e]
def ixf0{a:W}{r:List W}{h:MH}:ixW (.fls (a::r)) (.int 0) h=some (a,h):=by simp[ixW,getL,atI,ixN]
def ixf1{a b:W}{r:List W}{h:MH}:ixW (.fls (a::b::r)) (.int 1) h=some (b,h):=by
 have:(1:Int)<(r.length:Int)+1+1:=by omega
 simp[ixW,getL,atI,ixN,this]
noncomputable abbrev th(x:Str)(r:List W):W:=.tup (.str x::r)
def zkj{l:List W}{k:Nat}(hk:k<=l.length):cutW l none (some (k:Int))=l.take k:=by
 unfold cutW;have e1:HT.sIx l.length l.length (some (k:Int))=k:=by
  have:¬((k:Int)<0):=by omega
  simp[HT.sIx,this]; omega
 have e2:HT.sIx l.length 0 none=0:=rfl;rw[e1,e2]; simp
def zl9{x:W}{r:List W}:cutW (x::r) (some 1) none=r:=by
 have:=zdG (l:=x::r) (k:=1);simpa using this
def ints_map(l:List W)(f:W->Int):intsOf (l.map λw=>.int (f w))=some (l.map f):=by
 induction l with
 | nil=>rfl
 | cons x r ih=>simp only[zH]; unfold intsOf; rw[ih]
def filter_true{α:Type}(l:List α):(l.filter λ_=>true)=l:=List.filter_eq_self.mpr (by simp)
def zlq{n:Nat}{l:List W}{h:MH}(d:dt n (.fls l)=true)(hn:n<=60):eqB h (.fls l) (.fls [])=some l.isEmpty:=by
 have e1:=zaV (h:=h) d (show n<=deep from hn);have e2:=zaV (h:=h) (show dt 1 (.fls [])=true from rfl) (show 1<=deep by decide);unfold eqB;simp only[eqF,e1,e2];congr 1
 cases n with
 | zero=>cases d
 | succ n=>
  cases l<;>simp[toD,PyData.eqv,PyData.eqvAll]
noncomputable def scr(ns:List Int):W:=.fls (ns.map W.int)
theorem zoA{ns:List Int}(h:ns.length<=63):dt 2 (scr ns)=true:=by
 unfold scr dt;rw[zr];refine⟨kI (by simp; omega),kE.mpr λw hw=>?_⟩;obtain⟨i,_,rfl⟩:=zz.mp hw;rfl
noncomputable def zbs(ns:List Int)(k:Int):Int:=if ns=[] then 7*k else ns.getD (k%ns.length).toNat 0+6553*(k/ns.length)
def zn5{F:Fs}{ns:List Int}{k:Int}{h:MH}(hl:ns.length<=63):(step F).f_law_cell [scr ns,.int k] h=some (.int (zbs ns k),h):=by
 refine zbi (n:=1) ?_ rfl;have eq:=zlq (h:=h) (zoA hl) ∅;have sm:(small 7||small k)=true:=by rw[show small 7=true by decide]; rfl
 cases ns with
 | nil=>
  have eq':eqB h (scr []) (.fls [])=some true:=eq;simp![b_f_law_cell,flsW,cap,eq',mulW,sm,zbs]
 | cons n r=>
  have eq':eqB h (scr (n::r)) (.fls [])=some false:=eq;have hp:(0:Int)<(r.length:Int)+1:=by omega
  have hb:(r.length:Int)+1<1073741824:=by simp at hl; omega
  have hm0:=vY k (show((r.length:Int)+1)≠0 by omega);have hm1:=vC k hp;have hlen:lenW [scr (n::r)] h=some (.int ((r.length:Int)+1),h):=by simp[lenW,scr,getL]
  have hix:ixW (scr (n::r)) (.int (k%((r.length:Int)+1))) h=some (.int ((n::r).getD (k%((r.length:Int)+1)).toNat 0),h):=by
   have hj:(k%((r.length:Int)+1)).toNat<(n::r).length:=by simp; omega
   have e1:((n::r).map W.int)[(k%((r.length:Int)+1)).toNat]?=some (.int ((n::r).getD (k%((r.length:Int)+1)).toNat 0)):=by
    rw[kJ,zO hj];simp only[Option.map_some,List.getD,zO hj,vO]
   have e2:atI ((n::r).map W.int) (k%((r.length:Int)+1))=some (.int ((n::r).getD (k%((r.length:Int)+1)).toNat 0)):=by
    unfold atI ixN;rw[zR hm0,zR (by simp; omega)];exact e1
   simp only[ixW,scr,getL,e2]
  have sm2:(small 6553||small (k/((r.length:Int)+1)))=true:=by rw[show small 6553=true by decide]; rfl
  simp![b_f_law_cell,flsW,cap,eq',hlen,modW,hp,hix,divW,hb,mulW,sm2,addW,addI,zbs]
noncomputable def h1V(ns:List Int)(k:Int):Int:=(zbs ns k%2147483563*69069+104723*(k+1))%2147483563
noncomputable def h2V(ns:List Int)(k:Int):Int:=(h1V ns k*h1V ns k+h1V ns k/3)%2147483399
noncomputable def zaS(ns:List Int)(k many:Int):Int:=(h2V ns k*h2V ns k+h2V ns k/7)%2147483647/11%many
def zdB{i:Int}(h0:0<=i)(h1:i<2147483648):small i=true:=by
 unfold small;exact kI ⟨by omega,by omega⟩
def zbl{F:Fs}{ns:List Int}{k many:Int}{h:MH}(hl:ns.length<=63)(hm:0<many):(step (step F)).f_law_drawn [scr ns,.int k,.int many] h=some (.int (zaS ns k many),h):=by
 refine zbi (n:=1) ?_ rfl;have e:=λh=>zn5 (F:=F) (k:=k) (h:=h) hl
 generalize step F=G at e;have a1:0<=h1V ns k/\h1V ns k<2147483563:=⟨vY _ ∅,vC _ ∅⟩;have a2:0<=h2V ns k/\h2V ns k<2147483399:=⟨vY _ ∅,vC _ ∅⟩;have c0:0<=zbs ns k%2147483563/\zbs ns k%2147483563<2147483563:=⟨vY _ ∅,vC _ ∅⟩;have s1:(small (zbs ns k%2147483563)||small 69069)=true:=by rw[zdB c0.1 ∅]; rfl
 have s2:(small 104723||small (k+1))=true:=by rw[show small 104723=true by decide]; rfl
 have s3:(small (h1V ns k)||small (h1V ns k))=true:=by rw[zdB a1.1 ∅]; rfl
 have s4:(small (h2V ns k)||small (h2V ns k))=true:=by rw[zdB a2.1 ∅]; rfl
 have m1:∀h,mulW (.int (zbs ns k%2147483563)) (.int 69069) h=some (.int (zbs ns k%2147483563*69069),h):=λh=>by simp only[mulW,s1,jd]
 have m2:∀h,mulW (.int 104723) (.int (k+1)) h=some (.int (104723*(k+1)),h):=λh=>by simp only[mulW,s2,jd]
 have m3:∀h,mulW (.int (h1V ns k)) (.int (h1V ns k)) h=some (.int (h1V ns k*h1V ns k),h):=λh=>by simp only[mulW,s3,jd]
 have m4:∀h,mulW (.int (h2V ns k)) (.int (h2V ns k)) h=some (.int (h2V ns k*h2V ns k),h):=λh=>by simp only[mulW,s4,jd]
 have f1:(zbs ns k%2147483563*69069+104723*(k+1))%2147483563=h1V ns k:=rfl;have f2:(h1V ns k*h1V ns k+h1V ns k/3)%2147483399=h2V ns k:=rfl;have f3:(h2V ns k*h2V ns k+h2V ns k/7)%2147483647/11%many=zaS ns k many:=rfl;have b1:(sAsg (eOp modW (eOp addW (eOp mulW (eOp modW (uW G.f_law_cell [eVar 0,eVar 1]) (eC (.int 2147483563))) (eC (.int 69069))) (eOp mulW (eC (.int 104723)) (eOp addW (eVar 1) (eC (.int 1))))) (eC (.int 2147483563))) (gNm 3)) [some (scr ns),some (.int k),some (.int many),none] h=some (.nx [some (scr ns),some (.int k),some (.int many),some (.int (h1V ns k))],h):=by
  simp![e,modW,m1,m2,addW,addI,f1]
 have b2:(sAsg (eOp modW (eOp addW (eOp mulW (eVar 3) (eVar 3)) (eOp divW (eVar 3) (eC (.int 3)))) (eC (.int 2147483399))) (gNm 3)) [some (scr ns),some (.int k),some (.int many),some (.int (h1V ns k))] h=some (.nx [some (scr ns),some (.int k),some (.int many),some (.int (h2V ns k))],h):=by
  simp![modW,m3,divW,addW,addI,f2]
 have b3:(sRet (eOp modW (eOp divW (eOp modW (eOp addW (eOp mulW (eVar 3) (eVar 3)) (eOp divW (eVar 3) (eC (.int 7)))) (eC (.int 2147483647))) (eC (.int 11))) (eVar 2))) [some (scr ns),some (.int k),some (.int many),some (.int (h2V ns k))] h=some (.ret (.int (zaS ns k many)),h):=by
  simp![modW,m4,divW,addW,addI,hm,f3]
 have row:b_f_law_drawn G [some (scr ns),some (.int k),some (.int many),none] h=some (.ret (.int (zaS ns k many)),h):=by
  unfold b_f_law_drawn;rw[uY b1,uY b2,b3]
 simp only[fnM,zG,kZ,jd,zH,jw,List.replicate,jE,jh];simp only[row]
def u6{ns:List Int}{k many:Int}(hm:0<many):0<=zaS ns k many/\zaS ns k many<many:=⟨vY _ ∅,vC _ hm⟩
noncomputable def pl:Nat->W->Bool
 | 0,_=>false
 | _+1,.int i=>decide (0<=i)&&decide (i<=1008)
 | _+1,.str x=>PyData.strOk x&&decide (x.length<=1000)
 | n+1,.tup l=>decide (l.length<=4)&&l.all (pl n)
 | _+1,_=>false
def zcY{n:Nat}{l:List W}(d:pl n (.tup l)=true):∃m,n=m+1/\l.length<=4/\∀w∈l,pl m w=true:=by
 cases n with
 | zero=>cases d
 | succ m=>
  unfold pl at d;rw[zr] at d;exact⟨m,rfl,jW d.1,λw hw=>kE.mp d.2 w hw⟩
def zaP{n:Nat}{l:List W}(hl:l.length<=4)(h:∀w∈l,pl n w=true):pl (n+1) (.tup l)=true:=by
 unfold pl;rw[zr];exact⟨kI hl,kE.mpr h⟩
def zbK{n:Nat}{l:List W}(hl:l.length<=1000)(h:∀w∈l,dt n w=true):dt (n+1) (.tup l)=true:=by
 unfold dt;rw[zr];exact⟨kI hl,kE.mpr h⟩
def zkh{n:Nat}{l:List W}(hl:l.length<=1000)(h:∀w∈l,dt n w=true):dt (n+1) (.fls l)=true:=by
 unfold dt;rw[zr];exact⟨kI hl,kE.mpr h⟩
theorem zaL:∀{n:Nat} {w:W},pl n w=true->dt n w=true
 | 0,_,h=>by cases h
 | n+1,.non,h=>by cases h
 | n+1,.bl _,h=>by cases h
 | n+1,.int _,_=>rfl
 | n+1,.str _,h=>h
 | n+1,.tup l,h=>by
  obtain⟨m,e,hl,hd⟩:=zcY h;cases e;exact zbK ∅ λw hw=>zaL (hd w hw)
 | n+1,.fls _,h=>by cases h
 | n+1,.ref _,h=>by cases h
 | n+1,.fdc _,h=>by cases h
 | n+1,.fn _,h=>by cases h
theorem zae:∀{n m:Nat} {w:W},pl n w=true->n<=m->pl m w=true
 | 0,_,_,h,_=>by cases h
 | n+1,0,_,_,h=>by omega
 | n+1,m+1,.non,h,_=>by cases h
 | n+1,m+1,.bl _,h,_=>by cases h
 | n+1,m+1,.int _,h,_=>h
 | n+1,m+1,.str _,h,_=>h
 | n+1,m+1,.tup l,h,hn=>by
  obtain⟨m',e,hl,hd⟩:=zcY h;cases e;exact zaP hl λw hw=>zae (hd w hw) ∅
 | n+1,m+1,.fls _,h,_=>by cases h
 | n+1,m+1,.ref _,h,_=>by cases h
 | n+1,m+1,.fdc _,h,_=>by cases h
 | n+1,m+1,.fn _,h,_=>by cases h
noncomputable def six:List Str:=["a","b","c","d","p","q"]
inductive Sh(rl:List W)(k:Nat)(H:List Str):W->Prop
 | number (i:Int):Sh rl k H (th "number" [.int i])
 | name (v:Str):Sh rl k H (th "name" [.str v])
 | read (v:Str) (hv:v∈six):Sh rl k H (th "read" [.str v])
 | doo (v:Str) (hv:v∈H):Sh rl k H (th "do" [.str v])
 | ask:Sh rl k H (th "ask" [])
 | write (v:Str) (hv:v∈six) (a:List W):Sh rl k H (th "write" [.str v,.tup a])
 | say (a:List W):Sh rl k H (th "say" [.tup a])
 | lett (v:Str) (a b:List W):Sh rl k H (th "let" [.str v,.tup a,.tup b])
 | own (v:Str) (hv:v="p" \/ v="q") (a b:List W):Sh rl k H (th "own" [.str v,.tup a,.tup b])
 | add (a b:List W):Sh rl k H (th "add" [.tup a,.tup b])
 | less (a b:List W):Sh rl k H (th "less" [.tup a,.tup b])
 | thenn (a b:List W):Sh rl k H (th "then" [.tup a,.tup b])
 | loop (a b:List W):Sh rl k H (th "loop" [.tup a,.tup b])
 | iff (a b c:List W):Sh rl k H (th "if" [.tup a,.tup b,.tup c])
 | call (i:Nat) (a b:List W) (hi:i<k) (ns:List W) (hs:List Str) (body:W) (e:rl[i]?=some (.tup [.tup ns,.tup (uX hs),body])) (lb:b.length=hs.length):Sh rl k H (th "call" [.int i,.tup a,.tup b])
inductive Pn:W->Prop
 | mk (x:Str) (r:List W) (p:Int×Int) (hc:(x==("call":Str))=false) (hf:fm x=some p) (hp:r.filter (tyB .tuple)=uZ (th x r)):Pn (th x r)
def Sh.split{rl:List W}{k:Nat}{H:List Str}{w:W}(h:Sh rl k H w):Pn w\/∃(i:Nat) (a b:List W) (ns:List W) (hs:List Str) (body:W),w=th "call" [.int i,.tup a,.tup b]/\i<k/\rl[i]?=some (.tup [.tup ns,.tup (uX hs),body]):=by
 have key:∀(x:Str) (p:Int×Int),(x==("call":Str))=false->fm x=some p->∀r:List W,r.filter (tyB .tuple)=r.drop (p.2.toNat-1)->Pn (th x r):=by
  intro x p hc hf r hr;refine .mk x r p hc hf ?_;simp only[uZ,hc,hf,hr];rfl
 cases h with
 | number i=>exact .inl (key _ (2,2) ⋯ ⋯ _ (by simp[tyB]))
 | name v=>exact .inl (key _ (2,2) ⋯ ⋯ _ (by simp[tyB]))
 | read v hv=>exact .inl (key _ (2,2) ⋯ ⋯ _ (by simp[tyB]))
 | doo v hv=>exact .inl (key _ (2,2) ⋯ ⋯ _ (by simp[tyB]))
 | ask=>exact .inl (key _ (1,1) ⋯ ⋯ _ (by simp))
 | write v hv a=>exact .inl (key _ (3,2) ⋯ ⋯ _ (by simp[tyB]))
 | say a=>exact .inl (key _ (2,1) ⋯ ⋯ _ (by simp[tyB]))
 | lett v a b=>exact .inl (key _ (4,2) ⋯ ⋯ _ (by simp[tyB]))
 | own v hv a b=>exact .inl (key _ (4,2) ⋯ ⋯ _ (by simp[tyB]))
 | add a b=>exact .inl (key _ (3,1) ⋯ ⋯ _ (by simp[tyB]))
 | less a b=>exact .inl (key _ (3,1) ⋯ ⋯ _ (by simp[tyB]))
 | thenn a b=>exact .inl (key _ (3,1) ⋯ ⋯ _ (by simp[tyB]))
 | loop a b=>exact .inl (key _ (3,1) ⋯ ⋯ _ (by simp[tyB]))
 | iff a b c=>exact .inl (key _ (4,1) ⋯ ⋯ _ (by simp[tyB]))
 | call i a b hi ns hs body e lb=>exact .inr ⟨i,a,b,ns,hs,body,rfl,hi,e⟩
def zaw(i:Int)(a b:List W):uZ (th "call" [.int i,.tup a,.tup b])=a++b:=by simp[uZ]
def zhR{F:Fs}{n:Nat}{w:W}{rl:List W}{k:Nat}{H:List Str}{h:MH}(d:dt n w=true)(ho:Sh rl k H w):(step F).f_parts_of [w] h=some (.tup (uZ w),h):=by
 rcases ho.split with hp | ⟨i,a,b,ns,hs,body,rfl,hi,e⟩
 .obtain⟨x,r,p,t7,hp,hq⟩:=hp
  obtain⟨m,rfl,hl,hd⟩:=zam d;obtain⟨p1,p2⟩:=zoc hp;obtain⟨k,hk⟩:=wK (show 0<=p.2 by omega);have e:uZ (.tup (.str x::r))=(W.str x::r).drop k:=by
   simp only[uZ,t7,hp];rw[hk];cases k with
   | zero=>omega
   | succ k=>simp
  rw[e];refine zaE (h':=h) ?_ ?_ (jf _)
  .have ek:ixW (.tup [.int p.1,.int p.2]) (.int 1) h=some (.int p.2,h):=ix1
   simp![b_f_parts_of,ix0,zaz,t7,eSl,za7,zcm,t_fm,hp,ek,slW];rw[hk];exact zdG
  .unfold low
   exact zas λw hw=>zaC (hd w (jz hw))
 .obtain⟨m,rfl,hl,hd⟩:=zam d
  obtain⟨m1,rfl,la,da⟩:=zam (hd (.tup a) (by simp));obtain⟨m2,e2,lb,db⟩:=zam (hd (.tup b) (by simp));have hc:a.length+b.length<=cap:=zF (show a.length+b.length<=2000 by omega) (by decide);rw[zaw];refine zaE (h':=h) ?_ ?_ (jf _)
  .simp![b_f_parts_of,ix0,ix2,ix3,zaz,addW,addI,hc]
  .unfold low
   refine zas λw hw=>?_
   rcases zx.mp hw with hw | hw
   .exact zaC (da w hw)
   .exact zaC (db w hw)
noncomputable def okd(rl:List W)(k:Nat)(H:List Str):Nat->W->Prop
 | 0,_=>False
 | n+1,w=>Sh rl k H w/\∀p∈uZ w,okd rl k H n p
noncomputable def cnt:Nat->W->Nat
 | 0,_=>0
 | n+1,w=>1+((uZ w).map (cnt n)).sum
theorem zbk{rl:List W}{k:Nat}{H:List Str}:∀{n m:Nat} {w:W},okd rl k H n w->n<=m->okd rl k H m w
 | 0,_,_,h,_=>by cases h
 | n+1,0,_,_,h=>by omega
 | n+1,m+1,w,h,hn=>⟨h.1,λp hp=>zbk (h.2 p hp) ∅⟩
def zcM{f g:W->Nat}{l:List W}(h:∀p∈l,f p=g p):(l.map f).sum=(l.map g).sum:=by rw[qm h]
theorem zfN{rl:List W}{k:Nat}{H:List Str}:∀{n m:Nat} {w:W},okd rl k H n w->n<=m->cnt m w=cnt n w
 | 0,_,_,h,_=>by cases h
 | n+1,0,_,_,h=>by omega
 | n+1,m+1,w,h,hn=>by
  unfold cnt;rw[zcM λp hp=>zfN (h.2 p hp) ∅]
def zhf{n:Nat}{w:W}:1<=cnt (n+1) w:=by unfold cnt; omega
def zoj{n B:Nat}{w:W}{l:Nat}(hl:(uZ w).length<=l)(h:∀p∈uZ w,cnt n p<=B):cnt (n+1) w<=1+l*B:=by
 unfold cnt;have:∀ps:List W,(∀p∈ps,cnt n p<=B)->(ps.map (cnt n)).sum<=ps.length*B:=by
  intro ps;induction ps with
  | nil=>intro _; simp
  | cons p r ih=>
   intro hp;have h1:=hp p zy;have h2:=ih λq hq=>hp q (zq _ hq)
   simp only[zH,vR,zG,Nat.add_mul];omega
 have h1:=this _ h;have h2:(uZ w).length*B<=l*B:=Nat.mul_le_mul_right _ hl;omega
noncomputable def HdOk(l:List (Key×W)):Prop:=∀p∈l,∃v,p.2=.int v
def znH{l:List (Key×W)}{k:Key}{v:Int}(h:HdOk l):HdOk (putW l k (.int v)):=by
 intro p hp;unfold putW at hp;split at hp
 .obtain⟨q,hq,rfl⟩:=zz.mp hp
  split
  .exact⟨v,rfl⟩
  .exact h q hq
 .rcases zx.mp hp with z | z
  .exact h p z
  .simp at z; subst z; exact⟨v,rfl⟩
theorem ze8:∀{more l:List (Key×W)},HdOk l->HdOk more->HdOk (za5 l more)
 | [],l,h,_=>h
 | (k,w)::r,l,h,hm=>by
  obtain⟨v,e⟩:=hm (k,w) zy;simp only at e;subst e;have:=ze8 (more:=r) (l:=putW l k (.int v)) (znH h) λp hp=>hm p (zq _ hp)
  exact this
def zmk{l:List (Key×W)}{k:Key}(h:HdOk l):∃v,(valW l k).getD (.int 1)=.int v:=by
 unfold valW;cases e:l.find? λkv=>decide (kv.1=k) with
 | none=>exact⟨1,rfl⟩
 | some p=>
  obtain⟨v,hv⟩:=h p (List.mem_of_find?_eq_some e);exact⟨v,by simp[hv]⟩
structure RulesGood(rl:List W):Prop where
 g:∀i,i<rl.length->∃(ns:List W) (hs:List Str) (body:W),rl[i]?=some (.tup [.tup ns,.tup (uX hs),body])/\dt 60 body=true/\okd rl i hs 3 body/\hs.length<=4
noncomputable def WOk(G:Fs)(rl:List W)(k n:Nat):Prop:=∀(Hd:List Str) (w:W) (hd:List (Key×W)),okd rl k Hd n w->dt 60 w=true->HdOk hd->∃v:Int,∀h,G.f_law_weight [.tup rl,w,.fdc hd] h=some (.int v,h)
noncomputable def wv(G:Fs)(rl:List W)(hd:List (Key×W))(w:W):Int:=match G.f_law_weight [.tup rl,w,.fdc hd] [] with
 | some (.int v,_)=>v
 | _=>0
def WOk.at{G:Fs}{rl:List W}{k n:Nat}(H:WOk G rl k n){Hd:List Str}{w:W}{hd:List (Key×W)}(o:okd rl k Hd n w)(d:dt 60 w=true)(q:HdOk hd)(h:MH):G.f_law_weight [.tup rl,w,.fdc hd] h=some (.int (wv G rl hd w),h):=by
 obtain⟨v,e⟩:=H _ w hd o d q;unfold wv;rw[e []];exact e h
noncomputable def four:List Str:=["number","name","ask","read"]
noncomputable abbrev ρw(rl:List W)(w:W)(hd:List (Key×W))(x:Str)(o4 o5 o6:Option W):En:=[some (.tup rl),some w,some (.fdc hd),some (.str x),o4,o5,o6]
theorem zd2(F:Fs):b_f_law_weight F=sSeq (sAsg (eOp ixW (eVar 1) (eC (.int 0))) (gNm 3)) (sSeq (w1 F) (sSeq (w2 F) (sSeq (w3 F) (sSeq (w4 F) (sSeq (w5 F) (w6 F)))))):=rfl
def in4{x:Str}{h:MH}{n:Nat}(d:dt n (.str x)=true)(hn:n<=60):inB h (.str x) (.tup [.str "number",.str "name",.str "ask",.str "read"])=some (zak four (.str x)):=zbO (l:=four) d hn ⋯
def zoQ{F:Fs}{rl:List W}{w:W}{hd:List (Key×W)}{x:Str}{h:MH}{n:Nat}(d:dt n (.str x)=true)(hn:n<=60)(q:zak four (.str x)=true):w1 F (ρw rl w hd x none none none) h=some (.ret (.int 1),h):=by
 have c4:(4:Nat)<=cap:=by decide
 have e:=in4 (h:=h) d hn;rw[q] at e;simp![w1,tupW,c4,e]
def zfC{F:Fs}{rl:List W}{w:W}{hd:List (Key×W)}{x:Str}{h:MH}{n:Nat}(d:dt n (.str x)=true)(hn:n<=60)(q:zak four (.str x)=false):w1 F (ρw rl w hd x none none none) h=some (.nx (ρw rl w hd x none none none),h):=by
 have c4:(4:Nat)<=cap:=by decide
 have e:=in4 (h:=h) d hn;rw[q] at e;simp![w1,tupW,c4,e]
def zia{F:Fs}{rl:List W}{w:W}{hd:List (Key×W)}{x:Str}{h:MH}(q:(x==("do":Str))=false):w2 F (ρw rl w hd x none none none) h=some (.nx (ρw rl w hd x none none none),h):=by
 simp![w2,zaz,q]
def zmh{F:Fs}{rl:List W}{w:W}{hd:List (Key×W)}{x:Str}{h:MH}(q:(x==("call":Str))=false):w3 F (ρw rl w hd x none none none) h=some (.nx (ρw rl w hd x none none none),h):=by
 simp![w3,zaz,q]
def zi0(l:List (Str×W))(f:W->Int):pairsOf (l.map λp=>.tup [.str p.1,.int (f p.2)])=some (l.map λp=>(.str p.1,.int (f p.2))):=by
 induction l with
 | nil=>rfl
 | cons x r ih=>simp only[zH]; unfold pairsOf; rw[ih]
theorem zle(l:List (Str×W))(f:W->Int):keysOf (l.map λp=>(W.str p.1,W.int (f p.2)))=some (l.map λp=>(.inr p.1,.int (f p.2))):=by
 induction l with
 | nil=>rfl
 | cons x r ih=>simp only[zH]; unfold keysOf; rw[ih]; rfl
def zgr(hs:List Str)(b:List W):(uX hs).zip b=(hs.zip b).map λp=>(W.str p.1,p.2):=by
 induction hs generalizing b with
 | nil=>rfl
 | cons x r ih=>
  cases b with
  | nil=>rfl
  | cons y b=>simp only[uX,zH,yC,zH] at ih ⊢; rw[ih]
theorem zb6:∀{a b:List Str},uX a=uX b->a=b
 | [],[],_=>rfl
 | [],y::b,h=>by simp[uX] at h
 | x::a,[],h=>by simp[uX] at h
 | x::a,y::b,h=>by
  simp only[uX,zH,xO,W.str.injEq] at h;rw[h.1,zb6 (a:=a) (b:=b) h.2]
def zka{m:ME}{g:MG}{ρ ρ':En}{h h' h2:MH}{w:W}(e1:m ρ h=some (w,h'))(e2:g w ρ h'=some (ρ',h2)):sAsg m g ρ h=some (.nx ρ',h2):=by
 unfold sAsg; rw[e1]; simp only[e2]
def zgx{f:List W->M W}{m:ME}{ρ:En}{h h':MH}{w:W}(e:m ρ h=some (w,h')):uW f [m] ρ h=f [w] h':=by
 simp[uW,zbr,bnd,e]
def zg8{G:Fs}{rl:List W}{k n:Nat}(hr:RulesGood rl)(hk:k<=rl.length)(H:WOk G rl k n)(HB:∀i,i<k->WOk G rl i 3):WOk (step G) rl k (n+1):=by
 intro Hd w hd o d q;suffices hs:∃v:Int,∀h,b_f_law_weight G [some (.tup rl),some w,some (.fdc hd),none,none,none,none] h=some (.ret (.int v),h) by
  obtain⟨v,e⟩:=hs;refine⟨v,λh=>zbi (n:=1) ?_ rfl⟩;simp only[fnM,zG,kZ,jd,zH,jw,List.replicate,jE,jh];simp only[e h]
 have dp:∀v∈uZ w,dt 60 v=true:=λv hv=>zaG (zb5 (n:=59) d v hv) ∅
 have lp:=zcC d;have start:∀x r,w=th x r->∀h,(sAsg (eOp ixW (eVar 1) (eC (.int 0))) (gNm 3)) [some (.tup rl),some w,some (.fdc hd),none,none,none,none] h=some (.nx (ρw rl w hd x none none none),h):=by
  intro x r e h;subst e;simp![ix0]
 have dx:∀x r,w=th x r->dt 59 (.str x)=true:=by
  intro x r e;subst e;obtain⟨m,e,hl,hd⟩:=zam d;cases e;exact hd _ zy
 have leaf:∀x r,w=th x r->zak four (.str x)=true->∃v:Int,∀h,b_f_law_weight G [some (.tup rl),some w,some (.fdc hd),none,none,none,none] h=some (.ret (.int v),h):=by
  intro x r e hx;refine⟨1,λh=>?_⟩;rw[zd2,uY (start x r e h),zaN (zoQ (dx x r e) ∅ hx)]
 have inner:∀x r,w=th x r->r.filter (tyB .tuple)=uZ w->∀h,w4 G (ρw rl w hd x none none none) h=some (.nx (ρw rl w hd x none none (some (.fls ((uZ w).map λv=>.int (wv G rl hd v))))),h):=by
  intro x r e hq h;have c:=zdg (mi:=iSeq (eSl (eVar 1) (some (eC (.int 1))) none)) (ks:=[0,2]) (t:=tVal (eUn (isW .tuple) (eVar 0))) (m:=uW G.f_law_weight [eVar 1,eVar 0,eVar 2]) (ρ:=ρw rl w hd x none none none) (h:=h) (l:=r) (tyB .tuple) (λv=>.int (wv G rl hd v))
   (by subst e; simp![iSeq,eSl,za7,slW,srcOf,zl9])
   (λv hv H'=>by
    subst e;obtain⟨m,e,hl,hd'⟩:=zam d
    simp![zph (hd' v (zq _ hv))])
   (λv hv hy H'=>by
    have hv':v∈uZ w:=by rw[<-hq]; exact jm.mpr ⟨hv,hy⟩
    simp![H.at (o.2 v hv') (dp v hv') q H'])
   (λv hv _=>by unfold low; rfl)
   (by
    subst e;obtain⟨m,e,hl,hd'⟩:=zam d;have:r.length<=1000:=by simp at hl; omega
    exact zF this (by decide))
  rw[hq] at c;unfold w4 sAsg;rw[c];simp![]
 have other:∀x r,w=th x r->zak four (.str x)=false->(x==("do":Str))=false->(x==("loop":Str))=false->Pn w->∃v:Int,∀h,b_f_law_weight G [some (.tup rl),some w,some (.fdc hd),none,none,none,none] h=some (.ret (.int v),h):=by
  intro x r e h1 h2 h3 hp;refine⟨1+sumL ((uZ w).map λv=>wv G rl hd v),λh=>?_⟩;cases hp with
  | mk x' r' p hc hf hq=>
   cases e;have e2:=ints_map (uZ (th x r)) λv=>wv G rl hd v
   rw[zd2,uY (start x r rfl h),uY (zfC (dx x r rfl) ∅ h1),uY (zia h2),uY (zmh hc),uY (inner x r rfl hq h),
    uY (ρ':=ρw rl (th x r) hd x none none (some (.fls ((uZ (th x r)).map λv=>.int (wv G rl hd v))))) (h':=h) (by simp![w5,zaz,h3])]
   simp![w6,sumW,zaD,getL,e2,addW,addI]
 have osh:=o.1;have osp:=o.1.split;cases osh with
 | number i=>exact leaf _ _ rfl ⋯
 | name v=>exact leaf _ _ rfl ⋯
 | read v=>exact leaf _ _ rfl ⋯
 | ask=>exact leaf _ _ rfl ⋯
 | doo v=>
  obtain⟨u,hu⟩:=zmk (k:=.inr v) q;refine⟨u,λh=>?_⟩;rw[zd2,uY (start _ _ rfl h),uY (zfC (dx _ _ rfl) ∅ ⋯)];refine zaN ?_;simp![w2,zaz,zd4,zbW,ix1,keyOf,hu]
 | write v a=>
  rcases osp with hp | ⟨_,_,_,_,_,_,e,_,_⟩
  .exact other _ _ rfl ⋯ ⋯ ⋯ hp
  .cases e
 | say a=>
  rcases osp with hp | ⟨_,_,_,_,_,_,e,_,_⟩
  .exact other _ _ rfl ⋯ ⋯ ⋯ hp
  .cases e
 | lett v a b=>
  rcases osp with hp | ⟨_,_,_,_,_,_,e,_,_⟩
  .exact other _ _ rfl ⋯ ⋯ ⋯ hp
  .cases e
 | own v a b=>
  rcases osp with hp | ⟨_,_,_,_,_,_,e,_,_⟩
  .exact other _ _ rfl ⋯ ⋯ ⋯ hp
  .cases e
 | add a b=>
  rcases osp with hp | ⟨_,_,_,_,_,_,e,_,_⟩
  .exact other _ _ rfl ⋯ ⋯ ⋯ hp
  .cases e
 | less a b=>
  rcases osp with hp | ⟨_,_,_,_,_,_,e,_,_⟩
  .exact other _ _ rfl ⋯ ⋯ ⋯ hp
  .cases e
 | thenn a b=>
  rcases osp with hp | ⟨_,_,_,_,_,_,e,_,_⟩
  .exact other _ _ rfl ⋯ ⋯ ⋯ hp
  .cases e
 | iff a b c=>
  rcases osp with hp | ⟨_,_,_,_,_,_,e,_,_⟩
  .exact other _ _ rfl ⋯ ⋯ ⋯ hp
  .cases e
 | loop a b=>
  have ep:uZ (th "loop" [.tup a,.tup b])=[.tup a,.tup b]:=by
   simp[uZ,show(("loop":Str)=="call")=false by decide +kernel,show fm "loop" = some (3,1) by decide +kernel]
  refine⟨1+wv G rl hd (.tup a)+3*wv G rl hd (.tup b),λh=>?_⟩;have hin:=inner _ _ rfl (by rw[ep]; simp[tyB]) h;rw[ep] at hin;rw[zd2,uY (start _ _ rfl h),uY (zfC (dx _ _ rfl) ∅ ⋯),uY (zia ⋯),uY (zmh ⋯),uY hin];refine zaN ?_;have sm:(small 3||small (wv G rl hd (.tup b)))=true:=by rw[show small 3=true by decide]; rfl
  simp![w5,zaz,ixf0,ixf1,addW,addI,mulW,sm]
 | call i a b hi ns hs body e=>
  obtain⟨ns',hs',body',e',db,ob,hl4⟩:=hr.g i ∅;have eb:hs=hs'/\body=body':=by
   rw[e] at e';injection e' with e';injection e' with e';simp only[xO,W.tup.injEq,and_true] at e';refine⟨?_,e'.2.2⟩;have:=e'.2.1;exact zb6 this
  obtain⟨rfl,rfl⟩:=eb;obtain⟨m,em,hl,hd'⟩:=zam d;cases em;obtain⟨m1,e1,la,da⟩:=zam (hd' (.tup a) (by simp));obtain⟨m2,e2,lb,dbb⟩:=zam (hd' (.tup b) (by simp));rw[zaw] at dp;have op:=o.2;rw[zaw] at op;have ei:∀h,ixW (.tup rl) (.int (i:Int)) h=some (.tup [.tup ns,.tup (uX hs),body],h):=λh=>ixn ∅ ∅ (by simpa using e)
  have ok2:HdOk (za5 [] ((hs.zip b).map λp=>(Sum.inr p.1,W.int (wv G rl hd p.2)))):=by
   refine ze8 (λp hp=>by simp at hp) λp hp=>?_
   obtain⟨z,_,rfl⟩:=zz.mp hp;exact⟨_,rfl⟩
  refine⟨1+sumL (a.map λv=>wv G rl hd v)+wv G rl (za5 [] ((hs.zip b).map λp=>(Sum.inr p.1,W.int (wv G rl hd p.2)))) body,λh=>?_⟩;have c2:(2:Nat)<=cap:=by decide
  have hzl:(hs.zip b).length<=4:=by rw[vA]; omega
  have cz:=zp9 (mi:=iZip [eOp ixW (eOp ixW (eVar 0) (eOp ixW (eVar 1) (eC (.int 1)))) (eC (.int 1)),eOp ixW (eVar 1) (eC (.int 3))]) (ks:=[0,2]) (t:=zba) (m:=uW tupW [eVar 0,uW G.f_law_weight [eVar 2,eVar 1,eVar 3]]) (ρ:=ρw rl (th "call" [.int i,.tup a,.tup b]) hd "call" none none none) (h:=h) (l:=(hs.zip b).map λp=>(W.str p.1,p.2)) (λ_ _=>true) (λx y=>.tup [x,.int (wv G rl hd y)])
   (by simp![iZip,ix0,ix1,ix3,ei,zipW,zcA,zgr])
   (λv hv H'=>rfl)
   (λv hv _ H'=>by
    obtain⟨p,hp,rfl⟩:=zz.mp hv;have hb:p.2∈b:=(ql (show(p.1,p.2)∈hs.zip b from hp)).2;have hb':p.2∈a++b:=zx.mpr (.inr hb)
    simp![H.at (op _ hb') (dp _ hb') q H',tupW,c2])
   (λv hv _=>by
    obtain⟨p,hp,rfl⟩:=zz.mp hv
    simp[low,lows])
   (by rw[zL]; exact zF hzl (by decide))
  rw[filter_true,kY] at cz;have cs:=zdg (mi:=iSeq (eOp ixW (eVar 1) (eC (.int 2)))) (ks:=[0,2]) (t:=zba) (m:=uW G.f_law_weight [eVar 1,eVar 0,eVar 2]) (ρ:=ρw rl (th "call" [.int i,.tup a,.tup b]) hd "call" (some (.fdc (za5 [] ((hs.zip b).map λp=>(Sum.inr p.1,W.int (wv G rl hd p.2)))))) none none) (h:=h) (l:=a) (λ_=>true) (λv=>.int (wv G rl hd v))
   (by simp![iSeq,ix2,srcOf])
   (λv hv H'=>rfl)
   (λv hv _ H'=>by
    have hb':v∈a++b:=zx.mpr (.inl hv)
    simp![H.at (op _ hb') (dp _ hb') q H'])
   (λv hv _=>by unfold low; rfl)
   (zF la (by decide))
  rw[filter_true] at cs;have e3:=ints_map a λv=>wv G rl hd v
  have pm:=zi0 (hs.zip b) λv=>wv G rl hd v
  have km:=zle (hs.zip b) λv=>wv G rl hd v
  have body_ok:=(HB i hi).at (hd:=za5 [] ((hs.zip b).map λp=>(Sum.inr p.1,W.int (wv G rl hd p.2)))) ob db ok2 h;have hz1000:(hs.zip b).length<=1000:=by omega
  rw[zd2,uY (start _ _ rfl h),uY (zfC (dx _ _ rfl) ∅ ⋯),uY (zia ⋯)];refine zaN ?_;have s1:(sAsg (uW zc8 [zaq (iZip [eOp ixW (eOp ixW (eVar 0) (eOp ixW (eVar 1) (eC (.int 1)))) (eC (.int 1)),eOp ixW (eVar 1) (eC (.int 3))]) 2 [0,2] (gTp [gNm 0,gNm 1]) zba (uW tupW [eVar 0,uW G.f_law_weight [eVar 2,eVar 1,eVar 3]])]) (gNm 4)) (ρw rl (th "call" [.int i,.tup a,.tup b]) hd "call" none none none) h=some (.nx (ρw rl (th "call" [.int i,.tup a,.tup b]) hd "call" (some (.fdc (za5 [] ((hs.zip b).map λp=>(Sum.inr p.1,W.int (wv G rl hd p.2)))))) none none),h):=by
   refine zka ((zgx cz).trans ?_) rfl;have:(List.map ((λw:W×W=>W.tup [w.fst,W.int (wv G rl hd w.snd)])∘λp:Str×W=>(W.str p.fst,p.snd)) (hs.zip b))=(hs.zip b).map λp=>.tup [.str p.1,.int (wv G rl hd p.2)]:=rfl
   rw[this];simp only[zc8,zbW,getL,pm,km];rw[zL,zR hz1000]
  have s2:(sAsg (uW sumW [zaq (iSeq (eOp ixW (eVar 1) (eC (.int 2)))) 1 [0,2] (gNm 0) zba (uW G.f_law_weight [eVar 1,eVar 0,eVar 2])]) (gNm 5)) (ρw rl (th "call" [.int i,.tup a,.tup b]) hd "call" (some (.fdc (za5 [] ((hs.zip b).map λp=>(Sum.inr p.1,W.int (wv G rl hd p.2)))))) none none) h=some (.nx (ρw rl (th "call" [.int i,.tup a,.tup b]) hd "call" (some (.fdc (za5 [] ((hs.zip b).map λp=>(Sum.inr p.1,W.int (wv G rl hd p.2)))))) (some (.int (sumL (a.map λv=>wv G rl hd v)))) none),h):=by
   refine zka ((zgx cs).trans ?_) rfl;simp only[sumW,zaD,getL,e3]
  have t:tVal (eOp (eqW false) (eVar 3) (eC (.str "call"))) (ρw rl (th "call" [.int i,.tup a,.tup b]) hd "call" none none none) h=some (true,h):=by simp![zaz]
  unfold w3 sIf;simp only[t,jd];rw[uY s1,uY s2];simp![ix0,ix1,ix2,ei,body_ok,addW,addI]
theorem zcu{rl:List W}(hr:RulesGood rl)(F:Fs):∀(m k n:Nat),3*k+n<=m->n<=3->k<=rl.length->WOk (up m F) rl k n
 | m,k,0,_,_,_=>by intro Hd w hd o; cases o
 | 0,k,n+1,h,_,_=>by omega
 | m+1,k,n+1,h,hn,hk=>zg8 hr hk (zcu hr F m k n ∅ ∅ hk) λi hi=>zcu hr F m i 3 ∅ ∅ ∅
theorem zpo(F:Fs):b_f_law_leaf F=sSeq (LF0 F) (sSeq (LF1 F) (sSeq (LF2 F) (sSeq (LF3 F) (sSeq (LF4 F) (sSeq (LF5 F) (sSeq (LF6 F) (LF7 F))))))):=rfl
noncomputable def wd(l:List Str):Prop:=∀v∈l,pl 1 (.str v)=true
noncomputable abbrev kn(N O H:List Str):W:=.tup [.tup (uX N),.tup (uX O),.tup (uX H)]
def zke{l:List W}{i:Int}(h0:0<=i)(h1:i<l.length):∃v∈l,atI l i=some v:=by
 have hj:i.toNat<l.length:=by omega
 exact⟨l[i.toNat],qZ hj,by unfold atI ixN; rw[zR h0,zR h1]; simp[hj]⟩
def zce{l:List W}{i:Int}(h0:0<=i)(h1:i<l.length):∃v∈l,∀h,ixW (.fls l) (.int i) h=some (v,h):=by
 obtain⟨v,hv,e⟩:=zke h0 h1;exact⟨v,hv,λh=>by simp[ixW,getL,e]⟩
def zgQ{l:List W}{i:Int}(h0:0<=i)(h1:i<l.length):∃v∈l,∀h,ixW (.tup l) (.int i) h=some (v,h):=by
 obtain⟨v,hv,e⟩:=zke h0 h1;exact⟨v,hv,λh=>by simp[ixW,e]⟩
def zda{l:List Str}{i:Int}(h0:0<=i)(h1:i<l.length):∃v∈l,∀h,ixW (.tup (uX l)) (.int i) h=some (.str v,h):=by
 obtain⟨v,hv,e⟩:=zgQ (l:=uX l) h0 (by rw[zap]; exact h1);unfold uX at hv;obtain⟨x,hx,rfl⟩:=zz.mp hv;exact⟨x,hx,e⟩
def zhm{l:List Str}(h:wd l)(hl:l.length<=4):pl 2 (.tup (uX l))=true:=by
 refine zaP (by rw[zap]; exact hl) λw hw=>?_
 unfold uX at hw;obtain⟨x,hx,rfl⟩:=zz.mp hw;exact h x hx
def znd{l:List Str}(h:wd l)(hl:l.length<=1000):dt 2 (.tup (uX l))=true:=by
 refine zbK (by rw[zap]; exact hl) λw hw=>?_
 unfold uX at hw;obtain⟨x,hx,rfl⟩:=zz.mp hw;exact zaL (h x hx)
theorem zhQ(l:List Str):zeg (.tup (uX l))=l.isEmpty:=by cases l<;>rfl
def zdp{l:List Str}{h:MH}(hw:wd l)(hl:l.length<=1000):eqB h (.tup (uX l)) (.tup [])=some l.isEmpty:=by
 rw[zhe (znd hw hl) ∅,zhQ]
def pl2{x v:W}(hx:pl 1 x=true)(hv:pl 1 v=true):pl 2 (.tup [x,v])=true:=zaP (by simp) λw hw=>by
 simp only[zf,zm,zV] at hw;rcases hw with rfl | rfl<;>assumption
def zdt{x:Str}{p:Int×Int}{r:List W}(hc:(x==("call":Str))=false)(hf:fm x=some p)(hr:r.drop (p.2.toNat-1)=[]):uZ (th x r)=[]:=by
 simp[uZ,hc,hf,hr]
noncomputable def wo(l:List Str):Prop:=∀v∈l,v="p" \/ v="q"
def zhS{l:List Str}(h:wo l):wd l:=λv hv=>by rcases h v hv with rfl | rfl<;>decide +kernel
noncomputable def shel(O:List Str):List Str:=([("a":Str),"b","c","d"]:List Str)++(O++(O++O))
def zhz(O:List Str):[W.str "a",.str "b",.str "c",.str "d"]++(List.replicate 3 (uX O)).flatten=uX (shel O):=by
 simp[shel,uX,List.replicate]
def zhw{O:List Str}(h:wd O):wd (shel O):=by
 intro v hv;unfold shel at hv;rcases zx.mp hv with z | z
 .simp only[zf,zm,zV] at z
  rcases z with rfl | rfl | rfl | rfl<;>decide +kernel
 .rcases zx.mp z with z | z
  .exact h v z
  .rcases zx.mp z with z | z<;>exact h v z
def zgq{O:List Str}(h:wo O):∀v∈shel O,v∈six:=by
 intro v hv;have o:v∈O->v∈six:=λq=>by rcases h v q with rfl | rfl<;>decide +kernel
 unfold shel at hv;rcases zx.mp hv with z | z
 .have:∀x∈([("a":Str),"b","c","d"]:List Str),x∈six:=by decide +kernel
  exact this v z
 .rcases zx.mp z with z | z
  .exact o z
  .rcases zx.mp z with z | z<;>exact o z
def zf0(O:List Str):(shel O).length=4+3*O.length:=by simp[shel]; omega
noncomputable def scPs(w:W)(O:List Str):List (W×List Str):=match w with
 | .tup [.str x,.str v,a,b]=>if x=="own" then [(a,O),(b,O++[v])] else (uZ w).map λp=>(p,O)
 | w=>(uZ w).map λp=>(p,O)
noncomputable def scp:Nat->List Str->W->Prop
 | 0,_,_=>True
 | n+1,O,w=>(∀x v r,w=th x (.str v::r)->x="read" \/ x="write"->v∈shel O)/\∀p∈scPs w O,scp n p.2 p.1
noncomputable def nrw(x:Str):Bool:=!(x=="read") && !(x=="write") && !(x=="own")
theorem zex{x:Str}{r:List W}{O:List Str}(hx:(x==("own":Str))=false):scPs (th x r) O=(uZ (th x r)).map λp=>(p,O):=by
 unfold scPs th;split
 .rename_i y v a b e
  cases e;rw[zZ (by rw[hx]; exact zN)]
 .rfl
def znX{x:Str}(h:nrw x=true):x≠"read" /\ x≠"write" /\ (x==("own":Str))=false:=by
 unfold nrw at h;simp only[zr,qg,jn] at h;exact⟨h.1.1,h.1.2,jn.mpr h.2⟩
def zdW{x:Str}{r:List W}{O:List Str}{n:Nat}(hx:nrw x=true)(hp:∀p∈uZ (th x r),scp n O p):scp (n+1) O (th x r):=by
 obtain⟨h1,h2,h3⟩:=znX hx;refine⟨λy v s e h=>?_,λp hp'=>?_⟩
 .injection e with e
  injection e with e _;injection e with e;subst e;rcases h with h | h
  .exact absurd h h1
  .exact absurd h h2
 .rw[zex h3] at hp'
  obtain⟨q,q1,rfl⟩:=zz.mp hp';exact hp q q1
def ziN{x v:Str}{r:List W}{O:List Str}{n:Nat}(hx:(x==("own":Str))=false)(hv:v∈shel O)(hp:∀p∈uZ (th x (.str v::r)),scp n O p):scp (n+1) O (th x (.str v::r)):=by
 refine⟨λy u s e _=>?_,λp hp'=>?_⟩
 .injection e with e
  injection e with _ e;injection e with e _;injection e with e;rw[<-e];exact hv
 .rw[zex hx] at hp'
  obtain⟨q,q1,rfl⟩:=zz.mp hp';exact hp q q1
def zmy{v:Str}{a b:W}{O:List Str}{n:Nat}(ha:scp n O a)(hb:scp n (O++[v]) b):scp (n+1) O (th "own" [.str v,a,b]):=by
 refine⟨λy u s e h=>?_,λp hp'=>?_⟩
 .injection e with e
  injection e with e _;injection e with e;subst e;rcases h with h | h<;>exact absurd h ⋯
 .have e:scPs (th "own" [.str v,a,b]) O=[(a,O),(b,O++[v])]:=rfl
  rw[e] at hp';simp only[zf,zm,zV] at hp';rcases hp' with rfl | rfl
  .exact ha
  .exact hb
def zbG{rl:List W}{k:Nat}{H O:List Str}{x:Str}{r:List W}(q:Int×Int)(sh:Sh rl k H (th x r))(hc:(x==("call":Str))=false)(hf:fm x=some q)(hr:r.drop (q.2.toNat-1)=[])(hs:nrw x=true\/∃v s,r=.str v::s/\v∈shel O/\(x==("own":Str))=false):okd rl k H 1 (th x r)/\∀n,scp n O (th x r):=by
 have e:=zdt hc hf hr;refine⟨⟨sh,λp hp=>by rw[e] at hp; cases hp⟩,λn=>?_⟩;cases n with
 | zero=>trivial
 | succ n=>
  rcases hs with hs | ⟨v,s,rfl,hv,ho⟩
  .exact zdW hs λp hp=>by rw[e] at hp; cases hp
  .exact ziN ho hv λp hp=>by rw[e] at hp; cases hp
def ziS{F:Fs}{ns:List Int}{a:Int}{N O H:List Str}{rl:List W}{k:Nat}(hl:ns.length<=63)(hN:wd N)(hO':wo O)(hH:wd H)(lN:N.length<=100)(lO:O.length<=100)(lH:H.length<=100) :
  ∃w,(∀h,(step (step (step F))).f_law_leaf [scr ns,.int a,kn N O H] h=some (w,h))/\pl 2 w=true/\okd rl k H 1 w/\∀n,scp n O w:=by
 have hO:=zhS hO';have e:=λ(k many:Int) (h:MH) (hm:0<many)=>zbl (F:=F) (k:=k) (many:=many) (h:=h) hl hm
 generalize step (step F)=G at e;suffices hs:∃w,(∀h,b_f_law_leaf G [some (scr ns),some (.int a),some (kn N O H),none,none,none,none,none] h=some (.ret w,h))/\pl 2 w=true/\okd rl k H 1 w/\∀n,scp n O w by
  obtain⟨w,e,p,o⟩:=hs;refine⟨w,λh=>zbi (n:=2) ?_ (zaL p),p,o⟩;simp only[fnM,zG,kZ,jd,zH,jw,List.replicate,jE,jh];simp only[e h]
 have c1':(1:Nat)<=cap:=by decide
 have c2':(2:Nat)<=cap:=by decide
 have c4':(4:Nat)<=cap:=by decide
 have c6':(6:Nat)<=cap:=by decide
 have s0:∀h,LF0 G [some (scr ns),some (.int a),some (kn N O H),none,none,none,none,none] h=some (.nx [some (scr ns),some (.int a),some (kn N O H),some (.tup (uX N)),some (.tup (uX O)),some (.tup (uX H)),none,none],h):=λh=>by
  simp![LF0]
 have s1:∀h,LF1 G [some (scr ns),some (.int a),some (kn N O H),some (.tup (uX N)),some (.tup (uX O)),some (.tup (uX H)),none,none] h=some (.nx [some (scr ns),some (.int a),some (kn N O H),some (.tup (uX N)),some (.tup (uX O)),some (.tup (uX H)),some (.int (zaS ns a 8)),none],h):=λh=>by
  simp![LF1,e a 8 _ ∅]
 generalize zaS ns a 8=d at s1;have row:∀h,b_f_law_leaf G [some (scr ns),some (.int a),some (kn N O H),none,none,none,none,none] h=sSeq (LF2 G) (sSeq (LF3 G) (sSeq (LF4 G) (sSeq (LF5 G) (sSeq (LF6 G) (LF7 G))))) [some (scr ns),some (.int a),some (kn N O H),some (.tup (uX N)),some (.tup (uX O)),some (.tup (uX H)),some (.int d),none] h:=λh=>by
  rw[zpo,uY (s0 h),uY (s1 h)]
 by_cases k2:d<2
 .obtain⟨v,hv,ev⟩:=zce (l:=[.int 0,.int 1,.int 2,.int 3,.int 7,.int 1008]) (u6 (ns:=ns) (k:=a+1) (many:=6) ∅).1 (by simpa using (u6 (ns:=ns) (k:=a+1) (many:=6) ∅).2)
  refine⟨th "number" [v],λh=>?_,?_,?_⟩
  .rw[row]
   refine zaN ?_;simp![LF2,cmpI,k2,flsW,c6',addW,addI,e (a+1) 6 _ ∅,ev,tupW,c2']
  .refine pl2 ⋯ ?_
   simp only[zf,zm,zV] at hv;rcases hv with rfl | rfl | rfl | rfl | rfl | rfl<;>rfl
  .have:∃i,v=.int i:=by
    simp only[zf,zm,zV] at hv;rcases hv with rfl | rfl | rfl | rfl | rfl | rfl<;>exact⟨_,rfl⟩
   obtain⟨i,rfl⟩:=this;exact zbG (2,2) (.number i) ⋯ ⋯ rfl (.inl ⋯)
 have p2:∀h,LF2 G [some (scr ns),some (.int a),some (kn N O H),some (.tup (uX N)),some (.tup (uX O)),some (.tup (uX H)),some (.int d),none] h=some (.nx [some (scr ns),some (.int a),some (kn N O H),some (.tup (uX N)),some (.tup (uX O)),some (.tup (uX H)),some (.int d),none],h):=λh=>by
  simp![LF2,cmpI,k2]
 have eN:=λh=>zdp (h:=h) hN ∅
 have eH:=λh=>zdp (h:=h) hH ∅
 by_cases k3:(d==2)=true/\N.isEmpty=false
 .have hp:(0:Int)<(N.length:Int):=by
   cases N with
   | nil=>simp at k3
   | cons _ _=>simp only[zG]; omega
  obtain⟨v,hv,ev⟩:=zda (l:=N) (u6 (ns:=ns) (k:=a+1) (many:=N.length) hp).1 (u6 (ns:=ns) (k:=a+1) (many:=N.length) hp).2;refine⟨th "name" [.str v],λh=>?_,?_,?_⟩
  .rw[row,uY (p2 h)]
   refine zaN ?_;simp![LF3,zaM,k3.1,k3.2,eN,tupW,lenW,zap,addW,addI,e (a+1) N.length _ hp,ev,c2']
  .exact pl2 ⋯ (hN v hv)
  .exact zbG (2,2) (.name v) ⋯ ⋯ rfl (.inl ⋯)
 have p3:∀h,LF3 G [some (scr ns),some (.int a),some (kn N O H),some (.tup (uX N)),some (.tup (uX O)),some (.tup (uX H)),some (.int d),none] h=some (.nx [some (scr ns),some (.int a),some (kn N O H),some (.tup (uX N)),some (.tup (uX O)),some (.tup (uX H)),some (.int d),none],h):=λh=>by
  cases q1:(d==2) with
  | false=>simp![LF3,zaM,q1]
  | true=>
   have q2:N.isEmpty=true:=by
    cases q:N.isEmpty with
    | true=>rfl
    | false=>exact absurd ⟨q1,q⟩ k3
   simp![LF3,zaM,q1,eN,tupW,q2]
 by_cases k4:(d==3)=true/\H.isEmpty=false
 .have hp:(0:Int)<(H.length:Int):=by
   cases H with
   | nil=>simp at k4
   | cons _ _=>simp only[zG]; omega
  obtain⟨v,hv,ev⟩:=zda (l:=H) (u6 (ns:=ns) (k:=a+1) (many:=H.length) hp).1 (u6 (ns:=ns) (k:=a+1) (many:=H.length) hp).2;refine⟨th "do" [.str v],λh=>?_,?_,?_⟩
  .rw[row,uY (p2 h),uY (p3 h)]
   refine zaN ?_;simp![LF4,zaM,k4.1,k4.2,eH,tupW,lenW,zap,addW,addI,e (a+1) H.length _ hp,ev,c2']
  .exact pl2 ⋯ (hH v hv)
  .exact zbG (2,2) (.doo v hv) ⋯ ⋯ rfl (.inl ⋯)
 have p4:∀h,LF4 G [some (scr ns),some (.int a),some (kn N O H),some (.tup (uX N)),some (.tup (uX O)),some (.tup (uX H)),some (.int d),none] h=some (.nx [some (scr ns),some (.int a),some (kn N O H),some (.tup (uX N)),some (.tup (uX O)),some (.tup (uX H)),some (.int d),none],h):=λh=>by
  cases q1:(d==3) with
  | false=>simp![LF4,zaM,q1]
  | true=>
   have q2:H.isEmpty=true:=by
    cases q:H.isEmpty with
    | true=>rfl
    | false=>exact absurd ⟨q1,q⟩ k4
   simp![LF4,zaM,q1,eH,tupW,q2]
 cases k5:(d==4) with
 | true=>
  refine⟨th "ask" [],λh=>?_,by decide +kernel,?_⟩
  .rw[row,uY (p2 h),uY (p3 h),uY (p4 h)]
   refine zaN ?_;simp![LF5,zaM,k5,tupW,c1']
  .exact zbG (1,1) .ask ⋯ ⋯ rfl (.inl ⋯)
 | false=>
  have hp:(0:Int)<((shel O).length:Int):=by rw[zf0]; omega
  obtain⟨v,hv,ev⟩:=zda (l:=shel O) (u6 (ns:=ns) (k:=a+1) (many:=(shel O).length) hp).1 (u6 (ns:=ns) (k:=a+1) (many:=(shel O).length) hp).2;have c7:4+(List.replicate 3 (uX O)).flatten.length<=cap:=by
   have:(List.replicate 3 (uX O)).flatten.length=3*O.length:=by simp[List.replicate,uX]; omega
   rw[this];exact zF (show 4+3*O.length<=400 by omega) (by decide)
  have hs3:(uX O).length<=1000:=by rw[zap]; omega
  refine⟨th "read" [.str v],λh=>?_,pl2 ⋯ (zhw hO v hv),zbG (2,2) (.read v (zgq hO' v hv)) ⋯ ⋯ rfl (.inr ⟨v,[],rfl,hv,by decide +kernel⟩)⟩;have p6:LF6 G [some (scr ns),some (.int a),some (kn N O H),some (.tup (uX N)),some (.tup (uX O)),some (.tup (uX H)),some (.int d),none] h=some (.nx [some (scr ns),some (.int a),some (kn N O H),some (.tup (uX N)),some (.tup (uX O)),some (.tup (uX H)),some (.int d),some (.tup (uX (shel O)))],h):=by
   rw[<-zhz];have m:∀h,mulW (.tup (uX O)) (.int 3) h=some (.tup (List.replicate 3 (uX O)).flatten,h):=λh=>by
    simp only[mulW];rw[zR ⟨by omega,by omega,hs3⟩];rfl
   have ad:∀h,addW (.tup [.str "a",.str "b",.str "c",.str "d"]) (.tup (List.replicate 3 (uX O)).flatten) h=some (.tup ([.str "a",.str "b",.str "c",.str "d"]++(List.replicate 3 (uX O)).flatten),h):=λh=>by
    simp only[addW,addI,zG,kZ];rw[zR c7]
   generalize (List.replicate 3 (uX O)).flatten=Z at m ad;simp![LF6,tupW,c4',m,ad]
  rw[row,uY (p2 h),uY (p3 h),uY (p4 h),uY (ρ':=[some (scr ns),some (.int a),some (kn N O H),some (.tup (uX N)),some (.tup (uX O)),some (.tup (uX H)),some (.int d),none]) (h':=h) (by simp![LF5,zaM,k5]),uY p6];simp![LF7,lenW,zap,addW,addI,e (a+1) (shel O).length _ hp,ev,tupW,c2']
theorem zpn(F:Fs):b_f_law_deed F=sSeq (DS0 F) (sSeq (DS1 F) (sSeq (DS2 F) (sSeq (DS3 F) (sSeq (DS4 F) (sSeq (DS5 F) (sSeq (DS6 F) (sSeq (DS7 F) (sSeq (DS8 F) (sSeq (DS9 F) (DS10 F)))))))))):=rfl
noncomputable def zbT(G:Fs)(ns:List Int)(rl:List W)(d:Nat):Prop:=∀(a:Int) (N O H:List Str),wd N->wo O->wd H->N.length+d<=20->O.length+d<=20->H.length<=20->
 ∃w,(∀h,G.f_law_deed [scr ns,.int a,.int (d:Int),kn N O H,.tup rl] h=some (w,h))/\pl (2+2*d) w=true/\okd rl rl.length H (d+1) w/\scp (d+1) O w
noncomputable def ziX(G:Fs)(ns:List Int)(rl:List W)(d:Nat):Prop:=∀(a:Int) (N O H:List Str),wd N->wo O->wd H->N.length+d<=20->O.length+d<=20->H.length<=20->
 ∃w,(∀h,G.f_law_call [scr ns,.int a,.int ((d:Int)+1),kn N O H,.tup rl] h=some (w,h))/\pl (2+2*(d+1)) w=true/\okd rl rl.length H (d+2) w/\scp (d+2) O w
theorem Sh.tup{rl:List W}{k:Nat}{H:List Str}{w:W}(h:Sh rl k H w):∃l,w=.tup l:=by cases h<;>exact⟨_,rfl⟩
theorem okd.tup{rl:List W}{k n:Nat}{H:List Str}{w:W}(h:okd rl k H n w):∃l,w=.tup l:=by
 cases n with
 | zero=>cases h
 | succ n=>exact h.1.tup
def zdU{rl:List W}{k n:Nat}{H:List Str}{x:Str}{p:Int×Int}{r:List W}(sh:Sh rl k H (th x r))(hc:(x==("call":Str))=false)(hf:fm x=some p)(hr:∀q∈r.drop (p.2.toNat-1),okd rl k H n q):okd rl k H (n+1) (th x r):=by
 refine⟨sh,λq hq=>hr q ?_⟩;have e:uZ (th x r)=r.drop (p.2.toNat-1):=by simp[uZ,hc,hf]
 rw[<-e];exact hq
def zeb{rl:List W}{k n:Nat}{H O:List Str}{x:Str}{p:Int×Int}{r:List W}(sh:Sh rl k H (th x r))(hc:(x==("call":Str))=false)(hf:fm x=some p)(hx:nrw x=true)(hr:∀q∈r.drop (p.2.toNat-1),okd rl k H n q/\scp n O q):okd rl k H (n+1) (th x r)/\scp (n+1) O (th x r):=
 ⟨zdU sh hc hf λq hq=>(hr q hq).1,zdW hx λq hq=>(hr q (by simpa[uZ,hc,hf] using hq)).2⟩
def znF{l:List Str}{v:Str}(h:wd l)(hv:pl 1 (.str v)=true):wd (l++[v]):=by
 intro u hu;rcases zx.mp hu with z | z
 .exact h u z
 .simp at z; subst z; exact hv
def znp{l:List Str}{v:Str}(h:wo l)(hv:v="p" \/ v="q"):wo (l++[v]):=λu hu=>by
 rcases zx.mp hu with z | z
 .exact h u z
 .rw[kh.mp z]; exact hv
def zcv(l:List Str)(v:Str):uX l++[.str v]=uX (l++[v]):=by simp[uX]
def zbF{t:MT}{A b:MS}{ρ:En}{h h':MH}{w:W}(e:t ρ h=some (true,h))(eA:A ρ h=some (.ret w,h')):sSeq (sIf t A zaa) b ρ h=some (.ret w,h'):=by
 refine zaN ?_;unfold sIf; rw[e]; simp only[jd]; exact eA
theorem ziZ{t:MT}{A b:MS}{ρ:En}{h:MH}(e:t ρ h=some (false,h)):sSeq (sIf t A zaa) b ρ h=b ρ h:=by
 refine uY ?_;unfold sIf; rw[e]; rfl
def zn3{t:MT}{A:MS}{ρ:En}{h h':MH}{f:Fl}(e:t ρ h=some (true,h))(eA:A ρ h=some (f,h')):sIf t A zaa ρ h=some (f,h'):=by
 unfold sIf; rw[e]; simp only[jd]; exact eA
theorem zfu{t:MT}{A:MS}{ρ:En}{h:MH}(e:t ρ h=some (false,h)):sIf t A zaa ρ h=some (.nx ρ,h):=by
 unfold sIf; rw[e]; rfl
noncomputable abbrev ρD(ns:List Int)(a:Int)(d:Int)(K:W)(rl:List W)(o5 o6 o7 o8 o9 o10:Option W):En:=[some (scr ns),some (.int a),some (.int d),some K,some (.tup rl),o5,o6,o7,o8,o9,o10]
def t_lt{i j:Nat}{ρ:En}{h:MH}{d:Int}{m:Int}(e:ρ[i]?=some (some (.int d))):tVal (eOp ltW (eVar i) (eC (.int m))) ρ h=some (decide (d<m),h):=by simp![e,cmpI]
def t_eq{i:Nat}{ρ:En}{h:MH}{d:Int}{m:Int}(e:ρ[i]?=some (some (.int d))):tVal (eOp (eqW false) (eVar i) (eC (.int m))) ρ h=some (d==m,h):=by simp![e,zaM]
def m3{a:Int}{h:MH}:mulW (.int a) (.int 3) h=some (.int (a*3),h):=by
 have:(small a||small 3)=true:=by rw[show small 3=true by decide]; simp
 simp only[mulW,this,jd]
def zkd{F:Fs}{ns:List Int}{rl:List W}{d:Nat}(hl:ns.length<=63)(hrl:dt 20 (.tup rl)=true)(hd:d+1<=5)(HD:zbT (step (step (step F))) ns rl d)(HC:rl≠[]->ziX (step (step (step F))) ns rl d):zbT (step (step (step (step F)))) ns rl (d+1):=by
 intro a N O H hN hO' hH lN lO lH;have hO:=zhS hO';have e:=λ(k many:Int) (h:MH) (hm:0<many)=>zbl (F:=step F) (k:=k) (many:=many) (h:=h) hl hm
 have eL:=λ(a:Int)=>ziS (F:=F) (ns:=ns) (a:=a) (N:=N) (O:=O) (H:=H) (rl:=rl) (k:=rl.length) hl hN hO' hH ∅ ∅ ∅
 generalize step (step (step F))=G at e HD HC eL;have ed:((d+1:Nat):Int)=(d:Int)+1:=by omega
 rw[ed];suffices hs:∃w,(∀h,b_f_law_deed G (ρD ns a ((d:Int)+1) (kn N O H) rl none none none none none none) h=some (.ret w,h))/\pl (2+2*(d+1)) w=true/\(okd rl rl.length H (d+1+1) w/\scp (d+1+1) O w) by
  obtain⟨w,e,p,o⟩:=hs;refine⟨w,λh=>zbi (n:=2+2*(d+1)) ?_ (zaL p),p,o⟩;simp only[fnM,zG,kZ,jd,zH,jw,List.replicate,jE,jh];have:=e h;simp only[ρD] at this;simp only[this]
 have c1:(1:Nat)<=cap:=by decide
 have c2:(2:Nat)<=cap:=by decide
 have c3:(3:Nat)<=cap:=by decide
 have c4:(4:Nat)<=cap:=by decide
 have c5:(5:Nat)<=cap:=by decide
 have s0:∀h,DS0 G (ρD ns a ((d:Int)+1) (kn N O H) rl none none none none none none) h=some (.nx (ρD ns a ((d:Int)+1) (kn N O H) rl (some (.int (zaS ns a 15))) none none none none none),h):=λh=>by
  simp![DS0,e a 15 _ ∅]
 have rg:=u6 (ns:=ns) (k:=a) (many:=15) ∅;generalize zaS ns a 15=y at s0 rg;have row:∀h,b_f_law_deed G (ρD ns a ((d:Int)+1) (kn N O H) rl none none none none none none) h=sSeq (DS1 G) (sSeq (DS2 G) (sSeq (DS3 G) (sSeq (DS4 G) (sSeq (DS5 G) (sSeq (DS6 G) (sSeq (DS7 G) (sSeq (DS8 G) (sSeq (DS9 G) (DS10 G))))))))) (ρD ns a ((d:Int)+1) (kn N O H) rl (some (.int y)) none none none none none) h:=λh=>by
  rw[zpn,uY (s0 h)]
 have dz:(((d:Int)+1)==0)=false:=by rw[jn]; omega
 by_cases k1:y<2
 .obtain⟨w,ew,p,o⟩:=eL (a+1)
  refine⟨w,λh=>?_,zae p ∅,zbk o.1 ∅,o.2 _⟩;rw[row];refine zaN ?_;simp![DS1,zaM,dz,cmpI,k1,addW,addI,ew]
 have p1:∀h,DS1 G (ρD ns a ((d:Int)+1) (kn N O H) rl (some (.int y)) none none none none none) h=some (.nx (ρD ns a ((d:Int)+1) (kn N O H) rl (some (.int y)) none none none none none),h):=λh=>by
  simp![DS1,zaM,dz,cmpI,k1]
 have eR:=λh=>zhe (h:=h) hrl ∅
 have iR:zeg (.tup rl)=rl.isEmpty:=by cases rl<;>rfl
 by_cases k2:y<4/\rl≠[]
 .obtain⟨w,ew,p,o⟩:=HC k2.2 a N O H hN hO' hH ∅ ∅ lH
  refine⟨w,λh=>?_,p,o⟩;have q:rl.isEmpty=false:=by
   cases rl with
   | nil=>exact absurd rfl k2.2
   | cons _ _=>rfl
  rw[row,uY (p1 h)];refine zaN ?_;simp![DS2,cmpI,k2.1,eR,iR,q,tupW,ew]
 have p2:∀h,DS2 G (ρD ns a ((d:Int)+1) (kn N O H) rl (some (.int y)) none none none none none) h=some (.nx (ρD ns a ((d:Int)+1) (kn N O H) rl (some (.int y)) none none none none none),h):=λh=>by
  by_cases q1:y<4
  .have q:rl.isEmpty=true:=by
    cases rl with
    | nil=>rfl
    | cons _ _=>exact absurd ⟨q1,by simp⟩ k2
   simp![DS2,cmpI,q1,eR,iR,q,tupW]
  .simp![DS2,cmpI,q1]
 obtain⟨w1,e1,pl1,o1⟩:=HD (a*3+7) N O H hN hO' hH ∅ ∅ lH;have p3:∀h,DS3 G (ρD ns a ((d:Int)+1) (kn N O H) rl (some (.int y)) none none none none none) h=some (.nx (ρD ns a ((d:Int)+1) (kn N O H) rl (some (.int y)) (some w1) none none none none),h):=λh=>by
  simp![DS3,m3,addW,addI,subW,e1]
 have row3:∀h,b_f_law_deed G (ρD ns a ((d:Int)+1) (kn N O H) rl none none none none none none) h=sSeq (DS4 G) (sSeq (DS5 G) (sSeq (DS6 G) (sSeq (DS7 G) (sSeq (DS8 G) (sSeq (DS9 G) (DS10 G)))))) (ρD ns a ((d:Int)+1) (kn N O H) rl (some (.int y)) (some w1) none none none none) h:=λh=>by
  rw[row,uY (p1 h),uY (p2 h),uY (p3 h)]
 obtain⟨l1,rfl⟩:=o1.1.tup;have pS:∀{n:Nat} {v:Str},pl 1 (.str v)=true->pl (n+1) (.str v)=true:=λh=>h
 by_cases k4:y<6
 .have hp:(0:Int)<((shel O).length:Int):=by rw[zf0]; omega
  obtain⟨v,hv,ev⟩:=zda (l:=shel O) (u6 (ns:=ns) (k:=a+3) (many:=(shel O).length) hp).1 (u6 (ns:=ns) (k:=a+3) (many:=(shel O).length) hp).2;have c7:4+(List.replicate 3 (uX O)).flatten.length<=cap:=by
   have:(List.replicate 3 (uX O)).flatten.length=3*O.length:=by simp[List.replicate,uX]; omega
   rw[this];exact zF (show 4+3*O.length<=400 by omega) (by decide)
  have hs3:(uX O).length<=1000:=by rw[zap]; omega
  refine⟨th "write" [.str v,.tup l1],λh=>?_,?_,?_⟩
  .rw[row3]
   refine zaN ?_;have m:∀h,mulW (.tup (uX O)) (.int 3) h=some (.tup (List.replicate 3 (uX O)).flatten,h):=λh=>by
    simp only[mulW];rw[zR ⟨by omega,by omega,hs3⟩];rfl
   have ad:∀h,addW (.tup [.str "a",.str "b",.str "c",.str "d"]) (.tup (List.replicate 3 (uX O)).flatten) h=some (.tup ([.str "a",.str "b",.str "c",.str "d"]++(List.replicate 3 (uX O)).flatten),h):=λh=>by
    simp only[addW,addI,zG,kZ];rw[zR c7]
   rw[zhz] at ad;generalize (List.replicate 3 (uX O)).flatten=Z at m ad;have a3:∀h,addW (.int a) (.int 3) h=some (.int (a+3),h):=λh=>by simp[addW,addI]
   unfold DS4;refine zn3 ((t_lt (j:=0) rfl).trans (by simp[k4])) ?_;rw[uY (ρ':=ρD ns a ((d:Int)+1) (kn N O H) rl (some (.int y)) (some (.tup l1)) (some (.tup (uX (shel O)))) none none none) (h':=h) (by simp![tupW,c4,ix1,m,ad])];simp![lenW,zap,a3,e (a+3) (shel O).length _ hp,ev,tupW,c3]
  .rw[show 2+2*(d+1)=(2*d+3)+1 by omega]
   refine zaP (by simp) λw hw=>?_
   simp only[zf,zm,zV] at hw;rcases hw with rfl | rfl | rfl
   .exact pS ⋯
   .exact pS (zhw hO v hv)
   .exact zae pl1 ∅
  .refine⟨zdU (p:=(3,2)) (.write v (zgq hO' v hv) l1) ⋯ ⋯ λq hq=>?_,ziN ⋯ hv λq hq=>?_⟩
   .simp at hq; subst hq; exact o1.1
   .have e:uZ (th "write" [.str v,.tup l1])=[.tup l1]:=by simp[uZ,show(("write":Str)==("call":Str))=false by decide +kernel,show fm "write" = some (3,2) by decide +kernel]
    rw[e] at hq;simp at hq; subst hq; exact o1.2
 have p4:∀h,DS4 G (ρD ns a ((d:Int)+1) (kn N O H) rl (some (.int y)) (some (.tup l1)) none none none none) h=some (.nx (ρD ns a ((d:Int)+1) (kn N O H) rl (some (.int y)) (some (.tup l1)) none none none none),h):=λh=>
  zfu ((t_lt (j:=0) rfl).trans (by simp[k4]))
 cases k5:(y==6) with
 | true=>
  refine⟨th "say" [.tup l1],λh=>?_,?_,?_⟩
  .rw[row3,uY (p4 h)]
   refine zbF ((t_eq rfl).trans (by rw[k5])) ?_;simp![tupW,c2]
  .rw[show 2+2*(d+1)=(2*d+3)+1 by omega]
   refine zaP (by simp) λw hw=>?_
   simp only[zf,zm,zV] at hw;rcases hw with rfl | rfl
   .exact pS ⋯
   .exact zae pl1 ∅
  .refine zeb (p:=(2,1)) (.say l1) ⋯ ⋯ ⋯ λq hq=>?_
   simp at hq; subst hq; exact o1
 | false=>
 have p5:∀h,DS5 G (ρD ns a ((d:Int)+1) (kn N O H) rl (some (.int y)) (some (.tup l1)) none none none none) h=some (.nx (ρD ns a ((d:Int)+1) (kn N O H) rl (some (.int y)) (some (.tup l1)) none none none none),h):=λh=>
  zfu ((t_eq rfl).trans (by rw[k5]))
 have a3:∀h,addW (.int a) (.int 3) h=some (.int (a+3),h):=λh=>by simp[addW,addI]
 cases k6:(y==7) with
 | true=>
  obtain⟨v',hv,ev⟩:=zce (l:=[.str "x",.str "y",.str "x1"]) (u6 (ns:=ns) (k:=a+3) (many:=3) ∅).1 (by simpa using (u6 (ns:=ns) (k:=a+3) (many:=3) ∅).2);have:∃v:Str,v'=.str v/\pl 1 (.str v)=true:=by
   simp only[zf,zm,zV] at hv;rcases hv with rfl | rfl | rfl<;>exact⟨_,rfl,by decide +kernel⟩
  obtain⟨v,rfl,pv⟩:=this;obtain⟨w2,e2,pl2',o2⟩:=HD (a*3+23) (N++[v]) O H (znF hN pv) hO' hH (by simp; omega) ∅ lH;obtain⟨l2,rfl⟩:=o2.1.tup;have a4:∀h,addW (.tup (uX N)) (.tup [.str v]) h=some (.tup (uX (N++[v])),h):=λh=>by
   rw[<-zcv];simp only[addW,addI,zG,kZ,zap];rw[zR (zF (show N.length+(0+1)<=100 by omega) (by decide))]
  have a5:∀h,slW (kn N O H) (some 1) none h=some (.tup [.tup (uX O),.tup (uX H)],h):=λh=>by simp[slW,zl9]
  have a6:∀h,addW (.tup [.tup (uX (N++[v]))]) (.tup [.tup (uX O),.tup (uX H)]) h=some (kn (N++[v]) O H,h):=λh=>by
   simp only[addW,addI,zG,kZ];rw[zR (by decide)];rfl
  have a7:∀h,addW (.int (a*3)) (.int 23) h=some (.int (a*3+23),h):=λh=>by simp[addW,addI]
  refine⟨th "let" [.str v,.tup l1,.tup l2],λh=>?_,?_,?_⟩
  .rw[row3,uY (p4 h),uY (p5 h)]
   refine zbF ((t_eq rfl).trans (by rw[k6])) ?_;rw[uY (ρ':=ρD ns a ((d:Int)+1) (kn N O H) rl (some (.int y)) (some (.tup l1)) none (some (.str v)) none none) (h':=h) (by simp![flsW,c3,a3,e (a+3) 3 _ ∅,ev])];simp![m3,a7,subW,ix0,tupW,c1,c4,a4,eSl,za7,a5,a6,e2]
  .rw[show 2+2*(d+1)=(2*d+3)+1 by omega]
   refine zaP (by simp) λw hw=>?_
   simp only[zf,zm,zV] at hw;rcases hw with rfl | rfl | rfl | rfl
   .exact pS ⋯
   .exact pS pv
   .exact zae pl1 ∅
   .exact zae pl2' ∅
  .refine zeb (p:=(4,2)) (.lett v l1 l2) ⋯ ⋯ ⋯ λq hq=>?_
   simp at hq; rcases hq with rfl | rfl
   .exact o1
   .exact o2
 | false=>
 have p6:∀h,DS6 G (ρD ns a ((d:Int)+1) (kn N O H) rl (some (.int y)) (some (.tup l1)) none none none none) h=some (.nx (ρD ns a ((d:Int)+1) (kn N O H) rl (some (.int y)) (some (.tup l1)) none none none none),h):=λh=>
  zfu ((t_eq rfl).trans (by rw[k6]))
 cases k7:(y==8) with
 | true=>
  obtain⟨v',hv,ev⟩:=zce (l:=[.str "p",.str "q"]) (u6 (ns:=ns) (k:=a+3) (many:=2) ∅).1 (by simpa using (u6 (ns:=ns) (k:=a+3) (many:=2) ∅).2);have:∃v:Str,v'=.str v/\pl 1 (.str v)=true/\(v="p" \/ v="q"):=by
   simp only[zf,zm,zV] at hv;rcases hv with rfl | rfl
   .exact⟨_,rfl,by decide +kernel,.inl rfl⟩
   .exact⟨_,rfl,by decide +kernel,.inr rfl⟩
  obtain⟨v,rfl,pv,vpq⟩:=this;obtain⟨w2,e2,pl2',o2⟩:=HD (a*3+23) N (O++[v]) H hN (znp hO' vpq) hH ∅ (by simp; omega) lH;obtain⟨l2,rfl⟩:=o2.1.tup;have a4:∀h,addW (.tup (uX O)) (.tup [.str v]) h=some (.tup (uX (O++[v])),h):=λh=>by
   rw[<-zcv];simp only[addW,addI,zG,kZ,zap];rw[zR (zF (show O.length+(0+1)<=100 by omega) (by decide))]
  have a7:∀h,addW (.int (a*3)) (.int 23) h=some (.int (a*3+23),h):=λh=>by simp[addW,addI]
  refine⟨th "own" [.str v,.tup l1,.tup l2],λh=>?_,?_,?_⟩
  .rw[row3,uY (p4 h),uY (p5 h),uY (p6 h)]
   refine zbF ((t_eq rfl).trans (by rw[k7])) ?_;rw[uY (ρ':=ρD ns a ((d:Int)+1) (kn N O H) rl (some (.int y)) (some (.tup l1)) none (some (.str v)) none none) (h':=h) (by simp![flsW,c2,a3,e (a+3) 2 _ ∅,ev])];rw[uY (ρ':=ρD ns a ((d:Int)+1) (kn N O H) rl (some (.int y)) (some (.tup l1)) none (some (.str v)) (some (kn N (O++[v]) H)) none) (h':=h) (by simp![tupW,c1,c3,ix0,ix1,ix2,a4])];simp![m3,a7,subW,tupW,c4,e2]
  .rw[show 2+2*(d+1)=(2*d+3)+1 by omega]
   refine zaP (by simp) λw hw=>?_
   simp only[zf,zm,zV] at hw;rcases hw with rfl | rfl | rfl | rfl
   .exact pS ⋯
   .exact pS pv
   .exact zae pl1 ∅
   .exact zae pl2' ∅
  .refine⟨zdU (p:=(4,2)) (.own v vpq l1 l2) ⋯ ⋯ λq hq=>?_,zmy o1.2 o2.2⟩
   simp at hq; rcases hq with rfl | rfl
   .exact o1.1
   .exact o2.1
 | false=>
 have p7:∀h,DS7 G (ρD ns a ((d:Int)+1) (kn N O H) rl (some (.int y)) (some (.tup l1)) none none none none) h=some (.nx (ρD ns a ((d:Int)+1) (kn N O H) rl (some (.int y)) (some (.tup l1)) none none none none),h):=λh=>
  zfu ((t_eq rfl).trans (by rw[k7]))
 obtain⟨w2,e2,pl2',o2⟩:=HD (a*3+41) N O H hN hO' hH ∅ ∅ lH;obtain⟨l2,rfl⟩:=o2.1.tup;have a8:∀h,addW (.int (a*3)) (.int 41) h=some (.int (a*3+41),h):=λh=>by simp[addW,addI]
 have p8:∀h,DS8 G (ρD ns a ((d:Int)+1) (kn N O H) rl (some (.int y)) (some (.tup l1)) none none none none) h=some (.nx (ρD ns a ((d:Int)+1) (kn N O H) rl (some (.int y)) (some (.tup l1)) none none none (some (.tup l2))),h):=λh=>by
  simp![DS8,m3,a8,subW,e2]
 have row8:∀h,b_f_law_deed G (ρD ns a ((d:Int)+1) (kn N O H) rl none none none none none none) h=sSeq (DS9 G) (DS10 G) (ρD ns a ((d:Int)+1) (kn N O H) rl (some (.int y)) (some (.tup l1)) none none none (some (.tup l2))) h:=λh=>by
  rw[row3,uY (p4 h),uY (p5 h),uY (p6 h),uY (p7 h),uY (p8 h)]
 cases k9:(y==9) with
 | true=>
  obtain⟨w3,e3,pl3,o3⟩:=HD (a*3+61) N O H hN hO' hH ∅ ∅ lH;obtain⟨l3,rfl⟩:=o3.1.tup;have a9:∀h,addW (.int (a*3)) (.int 61) h=some (.int (a*3+61),h):=λh=>by simp[addW,addI]
  refine⟨th "if" [.tup l1,.tup l2,.tup l3],λh=>?_,?_,?_⟩
  .rw[row8]
   refine zbF ((t_eq rfl).trans (by rw[k9])) ?_;simp![m3,a9,subW,tupW,c4,e3]
  .rw[show 2+2*(d+1)=(2*d+3)+1 by omega]
   refine zaP (by simp) λw hw=>?_
   simp only[zf,zm,zV] at hw;rcases hw with rfl | rfl | rfl | rfl
   .exact pS ⋯
   .exact zae pl1 ∅
   .exact zae pl2' ∅
   .exact zae pl3 ∅
  .refine zeb (p:=(4,1)) (.iff l1 l2 l3) ⋯ ⋯ ⋯ λq hq=>?_
   simp at hq; rcases hq with rfl | rfl | rfl
   .exact o1
   .exact o2
   .exact o3
 | false=>
 have g10:0<=y-10/\y-10<5:=by
  rw[jn] at k5 k6 k7 k9;omega
 obtain⟨v',hv,ev⟩:=zce (l:=[.tup [.str "then"],.tup [.str "add"],.tup [.str "less"],.tup [.str "loop"],.tup [.str "then"]]) (i:=y-10) g10.1 (by simpa using g10.2);have:∃x:Str,v'=.tup [.str x]/\pl 1 (.str x)=true/\(x==("call":Str))=false/\fm x=some (3,1)/\nrw x=true/\Sh rl rl.length H (th x [.tup l1,.tup l2]):=by
  simp only[zf,zm,zV] at hv;rcases hv with rfl | rfl | rfl | rfl | rfl
  .exact⟨_,rfl,by decide +kernel,by decide +kernel,by decide +kernel,by decide +kernel,.thenn l1 l2⟩
  .exact⟨_,rfl,by decide +kernel,by decide +kernel,by decide +kernel,by decide +kernel,.add l1 l2⟩
  .exact⟨_,rfl,by decide +kernel,by decide +kernel,by decide +kernel,by decide +kernel,.less l1 l2⟩
  .exact⟨_,rfl,by decide +kernel,by decide +kernel,by decide +kernel,by decide +kernel,.loop l1 l2⟩
  .exact⟨_,rfl,by decide +kernel,by decide +kernel,by decide +kernel,by decide +kernel,.thenn l1 l2⟩
 obtain⟨x,rfl,px,hc,hf,hx,sh⟩:=this;refine⟨th x [.tup l1,.tup l2],λh=>?_,?_,?_⟩
 .rw[row8]
  unfold DS9;rw[ziZ ((t_eq rfl).trans (by rw[k9]))];have a10:∀h,addW (.tup [.str x]) (.tup [.tup l1,.tup l2]) h=some (th x [.tup l1,.tup l2],h):=λh=>by
   simp only[addW,addI,zG,kZ];rw[zR (by decide)];rfl
  simp![DS10,tupW,flsW,c1,c2,c5,subW,ev,a10]
 .rw[show 2+2*(d+1)=(2*d+3)+1 by omega]
  refine zaP (by simp) λw hw=>?_
  simp only[zf,zm,zV] at hw;rcases hw with rfl | rfl | rfl
  .exact pS px
  .exact zae pl1 ∅
  .exact zae pl2' ∅
 .refine zeb (p:=(3,1)) sh hc hf hx λq hq=>?_
  simp at hq; rcases hq with rfl | rfl
  .exact o1
  .exact o2
def ziT{F:Fs}{ns:List Int}{rl:List W}(hl:ns.length<=63):zbT (step (step (step (step F)))) ns rl 0:=by
 intro a N O H hN hO' hH lN lO lH;have hO:=zhS hO';have e:=λ(k many:Int) (h:MH) (hm:0<many)=>zbl (F:=step F) (k:=k) (many:=many) (h:=h) hl hm
 obtain⟨w,ew,p,o⟩:=ziS (F:=F) (ns:=ns) (a:=a+1) (N:=N) (O:=O) (H:=H) (rl:=rl) (k:=rl.length) hl hN hO' hH ∅ ∅ ∅;generalize step (step (step F))=G at e ew;refine⟨w,λh=>zbi (n:=2) ?_ (zaL p),p,o.1,o.2 _⟩;simp![b_f_law_deed,DS0,DS1,DS2,DS3,DS4,DS5,DS6,DS7,DS8,DS9,DS10,e a 15 _ ∅,zaM,addW,addI,ew]
theorem zoP(F:Fs):b_f_law_call F=sSeq (CL0 F) (sSeq (CL1 F) (sSeq (CL2 F) (sSeq (CL3 F) (CL4 F)))):=rfl
theorem zoV(F:Fs):b_f_law_rules F=sSeq (RU0 F) (sSeq (RU1 F) (RU2 F)):=rfl
structure RG(rl:List W):Prop where
 l:rl.length<=4
 g:∀i,i<rl.length->∃(N hs:List Str) (body:W),rl[i]?=some (.tup [.tup (uX N),.tup (uX hs),body])/\N.length<=2/\hs.length<=2/\wd N/\wd hs/\pl 6 body=true/\okd rl i hs 3 body/\hs.Nodup/\scp 3 [] body
theorem RG.pl{rl:List W}(h:RG rl):pl 8 (.tup rl)=true:=by
 refine zaP h.l λw hw=>?_
 obtain⟨i,hi,rfl⟩:=List.mem_iff_getElem.mp hw;obtain⟨N,hs,body,e,l1,l2,w1,w2,p,o⟩:=h.g i hi;rw[zO hi] at e;injection e with e;rw[e];refine zaP (by simp) λv hv=>?_
 simp only[zf,zm,zV] at hv;rcases hv with rfl | rfl | rfl
 .exact zae (zhm w1 ∅) ∅
 .exact zae (zhm w2 ∅) ∅
 .exact p
def RG.good{rl:List W}(h:RG rl):RulesGood rl:=⟨λi hi=>by
 obtain⟨N,hs,body,e,l1,l2,w1,w2,p,o⟩:=h.g i hi
 exact⟨uX N,hs,body,e,zaG (zaL p) ∅,o.1,by omega⟩⟩
def Sh.more{rl:List W}{k:Nat}{H:List Str}{w r:W}(h:Sh rl k H w):Sh (rl++[r]) k H w:=by
 cases h with
 | call i a b hi ns hs body e lb=>exact .call i a b hi ns hs body (lb:=lb) (by rw[zX (zE.mp e).1]; exact e)
 | number i=>exact .number i
 | name v=>exact .name v
 | read v hv=>exact .read v hv
 | doo v hv=>exact .doo v hv
 | ask=>exact .ask
 | write v hv a=>exact .write v hv a
 | say a=>exact .say a
 | lett v a b=>exact .lett v a b
 | own v hv a b=>exact .own v hv a b
 | add a b=>exact .add a b
 | less a b=>exact .less a b
 | thenn a b=>exact .thenn a b
 | loop a b=>exact .loop a b
 | iff a b c=>exact .iff a b c
theorem zbS{rl:List W}{k:Nat}{H:List Str}{r:W}:∀{n:Nat} {w:W},okd rl k H n w->okd (rl++[r]) k H n w
 | 0,_,h=>by cases h
 | n+1,w,h=>⟨h.1.more,λp hp=>zbS (h.2 p hp)⟩
def RG.snoc{rl:List W}(h:RG rl)(hl:rl.length<=3){N hs:List Str}{body:W}(l1:N.length<=2)(l2:hs.length<=2)(w1:wd N)(w2:wd hs)(p:K23.pl 6 body=true)(o:okd rl rl.length hs 3 body)(hnd:hs.Nodup)(hsc:scp 3 [] body):RG (rl++[.tup [.tup (uX N),.tup (uX hs),body]]):=by
 refine⟨by simp; omega,λi hi=>?_⟩;by_cases c:i<rl.length
 .obtain⟨N',hs',body',e,a1,a2,a3,a4,a5,a6⟩:=h.g i c
  exact⟨N',hs',body',by rw[zX c]; exact e,a1,a2,a3,a4,a5,zbS a6.1,a6.2⟩
 .have:i=rl.length:=by simp at hi; omega
  subst this;exact⟨N,hs,body,by simp,l1,l2,w1,w2,p,zbS o,hnd,hsc⟩
def m5{a:Int}{h:MH}:mulW (.int 5) (.int a) h=some (.int (5*a),h):=by
 have:(small 5||small a)=true:=by rw[show small 5=true by decide]; rfl
 simp only[mulW,this,jd]
def m7{a:Int}{h:MH}:mulW (.int 7) (.int a) h=some (.int (7*a),h):=by
 have:(small 7||small a)=true:=by rw[show small 7=true by decide]; rfl
 simp only[mulW,this,jd]
noncomputable abbrev ρC(ns:List Int)(a d:Int)(K:W)(rl:List W)(o5 o6 o7 o8:Option W):En:=[some (scr ns),some (.int a),some (.int d),some K,some (.tup rl),o5,o6,o7,o8]
theorem zeR{G:Fs}{ns:List Int}{a:Int}{rl:List W}{d:Nat}{N O H:List Str}(HD:zbT G ns rl d)(hN:wd N)(hO:wo O)(hH:wd H)(lN:N.length+d<=20)(lO:O.length+d<=20)(lH:H.length<=20) :
  ∀is:List Int,∃ws:List W,ws.length=is.length/\(∀w∈ws,pl (2+2*d) w=true/\okd rl rl.length H (d+1) w/\scp (d+1) O w)/\∀(h0:MH) (acc:List W) (o5 o6 o8:Option W),acc.length+is.length<=1000->
   ∃o,forL (gNm 8) (zbp (zau zaT (eVar 7) [uW G.f_law_deed [eVar 0,eOp addW (eOp addW (eOp mulW (eVar 1) (eC (.int 3))) (eC (.int 7))) (eOp mulW (eC (.int 5)) (eVar 8)),eOp subW (eVar 2) (eC (.int 1)),eVar 3,eVar 4]])) (is.map W.int) (ρC ns a ((d:Int)+1) (kn N O H) rl o5 o6 (some (.ref h0.length)) o8) (h0++[.lst acc]) =
    some (.nx (ρC ns a ((d:Int)+1) (kn N O H) rl o5 o6 (some (.ref h0.length)) o),h0++[.lst (acc++ws)])
 | []=>⟨[],rfl,λw hw=>by simp at hw,λh0 acc o5 o6 o8 _=>⟨o8,by simp[forL]⟩⟩
 | i::is=>by
  obtain⟨ws,h1,h2,h3⟩:=zeR (a:=a) HD hN hO hH lN lO lH is;obtain⟨w,ew,p,o⟩:=HD (a*3+7+5*i) N O H hN hO hH lN lO lH;refine⟨w::ws,by simp[h1],λv hv=>?_,λh0 acc o5 o6 o8 hc=>?_⟩
  .rcases zf.mp hv with rfl | z
   .exact⟨p,o⟩
   .exact h2 v z
  .simp only[zG] at hc
   obtain⟨o',e⟩:=h3 h0 (acc++[w]) o5 o6 (some (.int i)) (by simp; omega);refine⟨o',?_⟩;simp only[zH];unfold forL;have g:gNm 8 (.int i) (ρC ns a ((d:Int)+1) (kn N O H) rl o5 o6 (some (.ref h0.length)) o8) (h0++[.lst acc])=some (ρC ns a ((d:Int)+1) (kn N O H) rl o5 o6 (some (.ref h0.length)) (some (.int i)),h0++[.lst acc]):=by simp[gNm]
   rw[g];have hcap:acc.length<cap:=zK (show acc.length<1000 by omega) (by decide);have b:(zbp (zau zaT (eVar 7) [uW G.f_law_deed [eVar 0,eOp addW (eOp addW (eOp mulW (eVar 1) (eC (.int 3))) (eC (.int 7))) (eOp mulW (eC (.int 5)) (eVar 8)),eOp subW (eVar 2) (eC (.int 1)),eVar 3,eVar 4]])) (ρC ns a ((d:Int)+1) (kn N O H) rl o5 o6 (some (.ref h0.length)) (some (.int i))) (h0++[.lst acc])=some (.nx (ρC ns a ((d:Int)+1) (kn N O H) rl o5 o6 (some (.ref h0.length)) (some (.int i))),h0++[.lst (acc++[w])]):=by
    simp![zau,getL,at0,zaT,set0,m3,m5,addW,addI,subW,ew,hcap]
   simp only[b];rw[e];simp
def zeX(n:Nat):upto n=((_root_.List.range n).map λ(i:Nat)=>(i:Int)).map W.int:=by simp[upto]
def zjo{F:Fs}{ns:List Int}{rl:List W}{d:Nat}(hl:ns.length<=63)(hrg:RG rl)(hne:rl≠[])(HD:zbT (step (step F)) ns rl d):ziX (step (step (step F))) ns rl d:=by
 intro a N O H hN hO hH lN lO lH;have e:=λ(k many:Int) (h:MH) (hm:0<many)=>zbl (F:=F) (k:=k) (many:=many) (h:=h) hl hm
 generalize step (step F)=G at e HD;have hp:(0:Int)<(rl.length:Int):=by
  cases rl with
  | nil=>exact absurd rfl hne
  | cons _ _=>simp only[zG]; omega
 have rg:=u6 (ns:=ns) (k:=a+3) (many:=rl.length) hp;have er:=λh=>e (a+3) rl.length h hp
 obtain⟨j,hj⟩:=wK rg.1;rw[hj] at rg er;have hjl:j<rl.length:=by omega
 obtain⟨N',hs',body',eb,b1,b2,b3,b4,b5,b6⟩:=hrg.g j hjl;have ei:∀h,ixW (.tup rl) (.int (j:Int)) h=some (.tup [.tup (uX N'),.tup (uX hs'),body'],h):=λh=>ixn ∅ ∅ (by simpa using eb)
 obtain⟨ws,h1,h2,h3⟩:=zeR (a:=a) HD hN hO hH lN lO lH ((_root_.List.range (N'.length+hs'.length)).map λ(i:Nat)=>(i:Int));simp only[zL,yP] at h1 h3;refine⟨th "call" [.int (j:Int),.tup (ws.take N'.length),.tup (ws.drop N'.length)],λh=>?_,?_,?_⟩
 .have pw:dt (2+2*(d+1)) (th "call" [.int (j:Int),.tup (ws.take N'.length),.tup (ws.drop N'.length)])=true:=by
   rw[show 2+2*(d+1)=(2*d+3)+1 by omega];refine zbK (by simp) λv hv=>?_
   simp only[zf,zm,zV] at hv;rcases hv with rfl | rfl | rfl | rfl
   .have:dt 1 (.str "call")=true:=by decide +kernel
    exact zaG this ∅
   .rfl
   .exact zbK (by simp; omega) λu hu=>zaG (zaL (h2 u (qO hu)).1) ∅
   .exact zbK (by simp; omega) λu hu=>zaG (zaL (h2 u (jz hu)).1) ∅
  refine zod (t:=[.lst ws]) ?_ pw;obtain⟨o,e3⟩:=h3 h [] (some (.int (j:Int))) (some (.int (N'.length:Int))) none (by simp; omega);rw[jh] at e3;suffices hs:b_f_law_call G (ρC ns a ((d:Int)+1) (kn N O H) rl none none none none) h=some (.ret (th "call" [.int (j:Int),.tup (ws.take N'.length),.tup (ws.drop N'.length)]),h++[.lst ws]) by
   simp only[fnM,zG,kZ,jd,zH,jw,List.replicate,jE,jh];simp only[ρC] at hs;simp only[hs]
  have c0:(0:Nat)<=cap:=by decide
  have c4:(4:Nat)<=cap:=by decide
  have s0:CL0 G (ρC ns a ((d:Int)+1) (kn N O H) rl none none none none) h=some (.nx (ρC ns a ((d:Int)+1) (kn N O H) rl (some (.int (j:Int))) none none none),h):=by
   simp![CL0,addW,addI,lenW,er]
  have s1:CL1 G (ρC ns a ((d:Int)+1) (kn N O H) rl (some (.int (j:Int))) none none none) h=some (.nx (ρC ns a ((d:Int)+1) (kn N O H) rl (some (.int (j:Int))) (some (.int (N'.length:Int))) none none),h):=by
   simp![CL1,ei,ix0,lenW,zap]
  have s2:CL2 G (ρC ns a ((d:Int)+1) (kn N O H) rl (some (.int (j:Int))) (some (.int (N'.length:Int))) none none) h=some (.nx (ρC ns a ((d:Int)+1) (kn N O H) rl (some (.int (j:Int))) (some (.int (N'.length:Int))) (some (.ref h.length)) none),h++[.lst []]):=by
   simp![CL2,lstW,c0]
  have s3:CL3 G (ρC ns a ((d:Int)+1) (kn N O H) rl (some (.int (j:Int))) (some (.int (N'.length:Int))) (some (.ref h.length)) none) (h++[.lst []])=some (.nx (ρC ns a ((d:Int)+1) (kn N O H) rl (some (.int (j:Int))) (some (.int (N'.length:Int))) (some (.ref h.length)) o),h++[.lst ws]):=by
   rw[<-e3];have ir:(iRng [eOp addW (eVar 6) (uW lenW [eOp ixW (eOp ixW (eVar 4) (eVar 5)) (eC (.int 1))])]) (ρC ns a ((d:Int)+1) (kn N O H) rl (some (.int (j:Int))) (some (.int (N'.length:Int))) (some (.ref h.length)) none) (h++[.lst []])=some (.items (upto (N'.length+hs'.length)),h++[.lst []]):=by
    have q:-(2 ^ 62:Int)<=(N'.length:Int)+(hs'.length:Int)/\(N'.length:Int)+(hs'.length:Int)<2 ^ 62:=by omega
    have q2:((N'.length:Int)+(hs'.length:Int)).toNat=N'.length+hs'.length:=by omega
    have lw:∀h,lenW [.tup (uX hs')] h=some (.int (hs'.length:Int),h):=λh=>by simp[lenW,zap]
    have ad:∀h,addW (.int (N'.length:Int)) (.int (hs'.length:Int)) h=some (.int ((N'.length:Int)+(hs'.length:Int)),h):=λh=>by simp[addW,addI]
    have rw1:∀h,rngW [.int ((N'.length:Int)+(hs'.length:Int))] h=some (.items (upto (N'.length+hs'.length)),h):=λh=>by
     unfold rngW;simp only;rw[zR q,q2]
    simp![iRng,ei,ix1,lw,ad,rw1]
   unfold CL3 sFor;rw[ir];simp only;rw[zeX]
  have s4:CL4 G (ρC ns a ((d:Int)+1) (kn N O H) rl (some (.int (j:Int))) (some (.int (N'.length:Int))) (some (.ref h.length)) o) (h++[.lst ws])=some (.ret (th "call" [.int (j:Int),.tup (ws.take N'.length),.tup (ws.drop N'.length)]),h++[.lst ws]):=by
   have t1:=zkj (l:=ws) (k:=N'.length) ∅;have t2:=zdG (l:=ws) (k:=N'.length);simp![CL4,eSl,za7,slW,getL,at0,zbv,tupW,c4,t1,t2]
  rw[zoP,uY s0,uY s1,uY s2,uY s3,s4]
 .rw[show 2+2*(d+1)=(2*d+3)+1 by omega]
  refine zaP (by simp) λv hv=>?_
  simp only[zf,zm,zV] at hv;have hl4:=hrg.l;rcases hv with rfl | rfl | rfl | rfl
  .have:pl 1 (.str "call")=true:=by decide +kernel
   exact zae this ∅
  .have:pl 1 (.int (j:Int))=true:=by
    unfold pl;rw[zr];exact⟨kI ∅,kI ∅⟩
   exact zae this ∅
  .exact zaP (by simp; omega) λu hu=>zae (h2 u (qO hu)).1 ∅
  .exact zaP (by simp; omega) λu hu=>zae (h2 u (jz hu)).1 ∅
 .refine⟨⟨.call j _ _ hjl (uX N') hs' body' eb (by rw[qI]; omega),λp hp=>?_⟩,zdW ⋯ λp hp=>?_⟩
  .rw[zaw,jZ] at hp
   exact(h2 p hp).2.1
  .rw[zaw,jZ] at hp
   exact(h2 p hp).2.2
theorem zcs{ns:List Int}{rl:List W}(hl:ns.length<=63)(hrg:RG rl)(F:Fs):∀(d:Nat),d<=4->∀m,4+2*d<=m->zbT (up m F) ns rl d
 | 0,_,m,hm=>by
  obtain⟨m',rfl⟩:∃m',m=m'+4:=⟨m-4,by omega⟩;exact ziT hl
 | d+1,hd,m,hm=>by
  obtain⟨m',rfl⟩:∃m',m=m'+4:=⟨m-4,by omega⟩;have i1:=zcs hl hrg F d ∅ (m'+3) ∅;have i2:=zcs hl hrg F d ∅ (m'+2) ∅;exact zkd hl (zaG (zaL hrg.pl) ∅) ∅ i1 λhne=>zjo hl hrg hne i2
noncomputable abbrev ρR(ns:List Int)(a:Int)(rl:List W)(o3 o4 o5 o6:Option W):En:=[some (scr ns),some (.int a),some (.tup rl),o3,o4,o5,o6]
noncomputable def RUb(F:Fs):MS:=(sSeq (sAsg (eOp ixW (uW flsW [uW tupW [],uW tupW [eC (.str "x")],uW tupW [eC (.str "y"),eC (.str "x")]]) (uW F.f_law_drawn [eVar 0,eOp addW (eOp addW (eVar 1) (eC (.int 1))) (eOp mulW (eC (.int 5)) (eVar 3)),eC (.int 3)])) (gNm 4))
 (sSeq (sAsg (eOp ixW (uW flsW [uW tupW [],uW tupW [eC (.str "f")],uW tupW [eC (.str "f"),eC (.str "g1")]]) (uW F.f_law_drawn [eVar 0,eOp addW (eOp addW (eVar 1) (eC (.int 2))) (eOp mulW (eC (.int 5)) (eVar 3)),eC (.int 3)])) (gNm 5))
 (sSeq (sAsg (uW F.f_law_deed [eVar 0,eOp addW (eOp addW (eVar 1) (eC (.int 20))) (eOp mulW (eC (.int 7)) (eVar 3)),eC (.int 2),uW tupW [eVar 4,uW tupW [],eVar 5],eVar 2]) (gNm 6))
 (sAsg (eOp addW (eVar 2) (uW tupW [uW tupW [eVar 4,eVar 5,eVar 6]])) (gNm 2)))))
theorem zdQ{G:Fs}{ns:List Int}{a:Int}(e:∀(k many:Int) (h:MH),0<many->G.f_law_drawn [scr ns,.int k,.int many] h=some (.int (zaS ns k many),h))(HD:∀rl,RG rl->zbT G ns rl 2) :
  ∀(is:List Int) (rl:List W),RG rl->rl.length+is.length<=4->∃rl',RG rl'/\rl'.length=rl.length+is.length/\∀(h:MH) (o3 o4 o5 o6:Option W),∃p3 p4 p5 p6,forL (gNm 3) (RUb G) (is.map W.int) (ρR ns a rl o3 o4 o5 o6) h=some (.nx (ρR ns a rl' p3 p4 p5 p6),h)
 | [],rl,hr,_=>⟨rl,hr,by simp,λh o3 o4 o5 o6=>⟨o3,o4,o5,o6,by simp[forL]⟩⟩
 | i::is,rl,hr,hl=>by
  simp only[zG] at hl;have c0:(0:Nat)<=cap:=by decide
  have c1:(1:Nat)<=cap:=by decide
  have c2:(2:Nat)<=cap:=by decide
  have c3:(3:Nat)<=cap:=by decide
  obtain⟨v1,hv1,ev1⟩:=zce (l:=[.tup [],.tup [.str "x"],.tup [.str "y",.str "x"]]) (u6 (ns:=ns) (k:=a+1+5*i) (many:=3) ∅).1 (by simpa using (u6 (ns:=ns) (k:=a+1+5*i) (many:=3) ∅).2);have:∃N:List Str,v1=.tup (uX N)/\N.length<=2/\wd N:=by
   simp only[zf,zm,zV] at hv1;rcases hv1 with rfl | rfl | rfl
   .exact⟨[],rfl,by simp,λv hv=>by simp at hv⟩
   .exact⟨["x"],rfl,by simp,λv hv=>by simp only[zf,zm,zV] at hv; subst hv; decide +kernel⟩
   .exact⟨["y","x"],rfl,by simp,λv hv=>by simp only[zf,zm,zV] at hv; rcases hv with rfl | rfl<;>decide +kernel⟩
  obtain⟨N,rfl,lN,wN⟩:=this;obtain⟨v2,hv2,ev2⟩:=zce (l:=[.tup [],.tup [.str "f"],.tup [.str "f",.str "g1"]]) (u6 (ns:=ns) (k:=a+2+5*i) (many:=3) ∅).1 (by simpa using (u6 (ns:=ns) (k:=a+2+5*i) (many:=3) ∅).2);have:∃N:List Str,v2=.tup (uX N)/\N.length<=2/\wd N/\N.Nodup:=by
   simp only[zf,zm,zV] at hv2;rcases hv2 with rfl | rfl | rfl
   .exact⟨[],rfl,by simp,λv hv=>by simp at hv,by simp⟩
   .exact⟨["f"],rfl,by simp,λv hv=>by simp only[zf,zm,zV] at hv; subst hv; decide +kernel,by decide +kernel⟩
   .exact⟨["f","g1"],rfl,by simp,λv hv=>by simp only[zf,zm,zV] at hv; rcases hv with rfl | rfl<;>decide +kernel,by decide +kernel⟩
  obtain⟨H,rfl,lH,wH,ndH⟩:=this;obtain⟨w,ew,pw,ow⟩:=HD rl hr (a+20+7*i) N [] H wN (λv hv=>by simp at hv) wH ∅ (by simp) ∅;obtain⟨rl',hr',hl',ih⟩:=zdQ (a:=a) e HD is (rl++[.tup [.tup (uX N),.tup (uX H),w]]) (hr.snoc ∅ lN lH wN wH pw ow.1 ndH ow.2) (by simp; omega);refine⟨rl',hr',by rw[hl']; simp; omega,λh o3 o4 o5 o6=>?_⟩;obtain⟨p3,p4,p5,p6,e6⟩:=ih h (some (.int i)) (some (.tup (uX N))) (some (.tup (uX H))) (some w);refine⟨p3,p4,p5,p6,?_⟩;simp only[zH];unfold forL;have g:gNm 3 (.int i) (ρR ns a rl o3 o4 o5 o6) h=some (ρR ns a rl (some (.int i)) o4 o5 o6,h):=by simp[gNm]
  rw[g];have cr:rl.length+1<=cap:=zF (show rl.length+1<=10 by omega) (by decide);have a1:∀x y:Int,∀h,addW (.int x) (.int y) h=some (.int (x+y),h):=λx y h=>by simp[addW,addI]
  have a2:∀w h,addW (.tup rl) (.tup [w]) h=some (.tup (rl++[w]),h):=λw h=>by
   simp only[addW,addI,zG,kZ];rw[zR (by simpa using cr)]
  have ew':∀h,G.f_law_deed [scr ns,.int (a+20+7*i),.int 2,.tup [.tup (uX N),.tup [],.tup (uX H)],.tup rl] h=some (w,h):=λh=>ew h
  have b:RUb G (ρR ns a rl (some (.int i)) o4 o5 o6) h=some (.nx (ρR ns a (rl++[.tup [.tup (uX N),.tup (uX H),w]]) (some (.int i)) (some (.tup (uX N))) (some (.tup (uX H))) (some w)),h):=by
   unfold RUb;rw[uY (ρ':=ρR ns a rl (some (.int i)) (some (.tup (uX N))) o5 o6) (h':=h) (by simp![tupW,flsW,c0,c1,c2,c3,a1,m5,e (a+1+5*i) 3 _ ∅,ev1])];rw[uY (ρ':=ρR ns a rl (some (.int i)) (some (.tup (uX N))) (some (.tup (uX H))) o6) (h':=h) (by simp![tupW,flsW,c0,c1,c2,c3,a1,m5,e (a+2+5*i) 3 _ ∅,ev2])];rw[uY (ρ':=ρR ns a rl (some (.int i)) (some (.tup (uX N))) (some (.tup (uX H))) (some w)) (h':=h) (by simp![tupW,c0,c3,a1,m7,ew'])];simp![tupW,c1,c3,a2]
  simp only[b];rw[e6]
def zm6{F:Fs}{ns:List Int}{m:Nat}(hl:ns.length<=63)(hm:8<=m):∃rl,RG rl/\∀h,(step (up m F)).f_law_rules [scr ns,.int 1] h=some (.tup rl,h):=by
 have HD:=λrl (hr:RG rl)=>zcs hl hr F 2 ∅ m ∅
 have e:∀(k many:Int) (h:MH),0<many->(up m F).f_law_drawn [scr ns,.int k,.int many] h=some (.int (zaS ns k many),h):=by
  obtain⟨m',rfl⟩:∃m',m=m'+2:=⟨m-2,by omega⟩;exactλk many h hm=>zbl (F:=up m' F) hl hm
 generalize up m F=G at e HD;have rg:=u6 (ns:=ns) (k:=1) (many:=3) ∅;have e1:=λh=>e 1 3 h ∅
 obtain⟨j,hj⟩:=wK rg.1;rw[hj] at rg e1;obtain⟨rl',hr',hl',ih⟩:=zdQ (a:=1) e HD ((_root_.List.range j).map λ(i:Nat)=>(i:Int)) [] ⟨by simp,λi hi=>by simp at hi⟩ (by simp; omega);refine⟨rl',hr',λh=>zbi (n:=8) ?_ (zaL hr'.pl)⟩;obtain⟨p3,p4,p5,p6,e6⟩:=ih h none none none none;have c0:(0:Nat)<=cap:=by decide
 have s0:RU0 G [some (scr ns),some (.int 1),none,none,none,none,none] h=some (.nx (ρR ns 1 [] none none none none),h):=by
  simp![RU0,tupW,c0]
 have s1:RU1 G (ρR ns 1 [] none none none none) h=some (.nx (ρR ns 1 rl' p3 p4 p5 p6),h):=by
  rw[<-e6];have ir:(iRng [uW G.f_law_drawn [eVar 0,eVar 1,eC (.int 3)]]) (ρR ns 1 [] none none none none) h=some (.items (upto j),h):=by
   have q:-(2 ^ 62:Int)<=(j:Int)/\(j:Int)<2 ^ 62:=by omega
   have rw1:∀h,rngW [.int (j:Int)] h=some (.items (upto j),h):=λh=>by
    unfold rngW;simp only;rw[zR q,jl]
   simp![iRng,e1,rw1]
  show(sFor _ _ (RUb G)) _ _=_
  unfold sFor;rw[ir];simp only;rw[zeX]
 have hs:b_f_law_rules G [some (scr ns),some (.int 1),none,none,none,none,none] h=some (.ret (.tup rl'),h):=by
  rw[zoV,uY s0,uY s1];simp![RU2]
 simp only[fnM,zG,kZ,jd,zH,jw,List.replicate,jE,jh];simp only[hs]
noncomputable def zcw:List Str:=["a","b","c","d"]
def zgC:∀c∈zcw,pl 1 (.str c)=true:=by decide +kernel
def zeW:∀c∈zcw,c∈six:=by decide +kernel
def ziH:∀c∈zcw,c∈shel []:=by decide +kernel
def zhD{y:Int}(h0:0<=y)(h4:y<4):∃c∈zcw,∀h,ixW (.str "abcd") (.int y) h=some (.str c,h):=by
 have hy:y=0\/y=1\/y=2\/y=3:=by omega
 have hc:(("abcd":Str).length<=cap):=by decide +kernel
 have hx:("abcd":Str).cps.toList=[97,98,99,100]:=by decide +kernel
 rcases hy with rfl | rfl | rfl | rfl
 .exact⟨⟨#[97]⟩,by decide +kernel,λh=>by simp[ixW,hc,hx,atI,ixN]⟩
 .exact⟨⟨#[98]⟩,by decide +kernel,λh=>by simp[ixW,hc,hx,atI,ixN]⟩
 .exact⟨⟨#[99]⟩,by decide +kernel,λh=>by simp[ixW,hc,hx,atI,ixN]⟩
 .exact⟨⟨#[100]⟩,by decide +kernel,λh=>by simp[ixW,hc,hx,atI,ixN]⟩
def zer{F:Fs}{ns:List Int}{m:Nat}{rl:List W}{a:Int}(hl:ns.length<=63)(hm:15<=m)(hr:RG rl):∃w,pl 6 w=true/\(okd rl rl.length [] 3 w/\scp 3 [] w)/\∀h,(step (up m F)).f_law_light [scr ns,.int a,.int 2,.tup rl] h=some (w,h):=by
 obtain⟨w,ew,p,o⟩:=zcs hl hr F 2 ∅ m ∅ a [] [] [] (λv hv=>by simp at hv) (λv hv=>by simp at hv) (λv hv=>by simp at hv) (by simp) (by simp) (by simp);obtain⟨v,ev⟩:=zcu hr.good F m rl.length 3 (by have:=hr.l; omega) ∅ ∅ _ w [] o.1 (zaG (zaL p) ∅) (λp hp=>by simp at hp);have e:∀(k many:Int) (h:MH),0<many->(up m F).f_law_drawn [scr ns,.int k,.int many] h=some (.int (zaS ns k many),h):=by
  obtain⟨m',rfl⟩:∃m',m=m'+2:=⟨m-2,by omega⟩;exactλk many h hm=>zbl (F:=up m' F) hl hm
 generalize up m F=G at e ew ev;have c0:(0:Nat)<=cap:=by decide
 have c2:(2:Nat)<=cap:=by decide
 have c3:(3:Nat)<=cap:=by decide
 have ew':∀h,G.f_law_deed [scr ns,.int a,.int 2,.tup [.tup [],.tup [],.tup []],.tup rl] h=some (w,h):=λh=>ew h
 by_cases k:80<v
 .have rg:=u6 (ns:=ns) (k:=a) (many:=4) ∅
  have e1:=λh=>e a 4 h ∅
  generalize zaS ns a 4=y at rg e1;obtain⟨c,c4,ec⟩:=zhD rg.1 rg.2;have pc:=zgC c c4;have pr:pl 2 (th "read" [.str c])=true:=pl2 ⋯ pc;have lf:=zbG (rl:=rl) (k:=rl.length) (H:=[]) (O:=[]) (2,2) (.read c (zeW c c4)) ⋯ ⋯ rfl (.inr ⟨c,[],rfl,ziH c c4,by decide +kernel⟩);refine⟨th "read" [.str c],zae pr ∅,⟨zbk lf.1 ∅,lf.2 3⟩,λh=>zbi (n:=2) ?_ (zaL pr)⟩
  .simp![b_f_law_light,tupW,c0,c2,c3,ew',ev,cmpI,k,e1,ec]
 .refine⟨w,p,o,λh=>zbi (n:=6) ?_ (zaL p)⟩
  simp![b_f_law_light,tupW,c0,c2,c3,ew',ev,cmpI,k]
noncomputable def zaF(k:List Str):Bool:=decide (k.length<=4)&&k.all λx=>PyData.strOk x&&decide (x.length<=1000)
def zhc{k:List Str}(g:zaF k=true):dt 2 (tupS k)=true:=by
 unfold zaF at g;rw[zr] at g;have l:=jW g.1;refine zbK (by simp; omega) λw hw=>?_
 obtain⟨x,hx,rfl⟩:=zz.mp hw;exact kE.mp g.2 x hx
def zm0{ks:List (List Str)}(hl:ks.length<=1000)(g:∀k∈ks,zaF k=true):dt 3 (.fls (ks.map tupS))=true:=zkh (by simpa using hl) λw hw=>by
 obtain⟨k,hk,rfl⟩:=zz.mp hw;exact zhc (g k hk)
theorem zcB{m:Nat}(k:List Str):low m (tupS k)=true:=by
 unfold tupS low;exact zas λw hw=>by
  obtain⟨x,_,rfl⟩:=zz.mp hw;unfold low; rfl
def zcJ{m:Nat}(ks:List (List Str)):low m (.fls (ks.map tupS))=true:=by
 unfold low;exact zas λw hw=>by
  obtain⟨k,_,rfl⟩:=zz.mp hw;exact zcB k
noncomputable def bw(B:List (List (List Str))):List W:=B.map λks=>.fls (ks.map tupS)
noncomputable def za8(k:List Str):Bool:=match k with
 | x::_=>!(x=="do")
 | []=>true
noncomputable def itself(B:List (List (List Str))):W->List (List Str)
 | .tup (.str x::r)=>if zak ["read","write","do"] (.str x) then (match r with
   | .str v::_=>[[x,v]]
   | _=>[]) else if zak ["say","ask"] (.str x) then [[x]] else if x=="call" then (match r with
   | .int i::_=>((B[i.toNat]?).getD []).filter za8
   | _=>[]) else []
 | _=>[]
def i3{x:Str}{h:MH}{n:Nat}(d:dt n (.str x)=true)(hn:n<=60):inB h (.str x) (.tup [.str "read",.str "write",.str "do"])=some (zak ["read","write","do"] (.str x)):=zbO (l:=["read","write","do"]) d hn ⋯
def i2{x:Str}{h:MH}{n:Nat}(d:dt n (.str x)=true)(hn:n<=60):inB h (.str x) (.tup [.str "say",.str "ask"])=some (zak ["say","ask"] (.str x)):=zbO (l:=["say","ask"]) d hn ⋯
def zlv{F:Fs}{B:List (List (List Str))}{bd w:W}{h:MH}{rl:List W}{k:Nat}{H:List Str}(hb:getL h bd=some (bw B))(nb:∀l,bd≠.tup l)(ns:∀z,bd≠.str z)(hB:∀ks∈B,ks.length<=60/\∀k∈ks,k≠[])(hk:k<=B.length)(d:dt 60 w=true)(sh:Sh rl k H w) :
  (step F).f_marks_of_itself [bd,w] h=some (.fls ((itself B w).map tupS),h):=by
 refine zaE (h':=h) ?_ (zcJ _) (jf _);suffices row:b_f_marks_of_itself F [some bd,some w] h=some (.ret (.fls ((itself B w).map tupS)),h) by
  simp only[fnM,zG,kZ,jd,zH,jw,List.replicate,jE,jh];simp only[row]
 have c0:(0:Nat)<=cap:=by decide
 have c1:(1:Nat)<=cap:=by decide
 have c2:(2:Nat)<=cap:=by decide
 have c3:(3:Nat)<=cap:=by decide
 have one:∀(x v:Str) (r:List W),zak ["read","write","do"] (.str x)=true->dt 60 (th x (.str v::r))=true->b_f_marks_of_itself F [some bd,some (th x (.str v::r))] h=some (.ret (.fls ((itself B (th x (.str v::r))).map tupS)),h):=by
  intro x v r q d;obtain⟨m,e,_,hd⟩:=zam d;cases e;have z3:=i3 (h:=h) (hd (.str x) (by simp)) ∅;rw[q] at z3;have e:itself B (th x (.str v::r))=[[x,v]]:=by simp only[th,itself,q,jd]
  rw[e];simp![b_f_marks_of_itself,ix0,ix1,z3,tupW,flsW,c1,c2,c3,tupS]
 have two:∀(x:Str) (r:List W),zak ["read","write","do"] (.str x)=false->zak ["say","ask"] (.str x)=true->dt 60 (th x r)=true->b_f_marks_of_itself F [some bd,some (th x r)] h=some (.ret (.fls ((itself B (th x r)).map tupS)),h):=by
  intro x r q q2 d;obtain⟨m,e,_,hd⟩:=zam d;cases e;have z3:=i3 (h:=h) (hd (.str x) (by simp)) ∅;have z2:=i2 (h:=h) (hd (.str x) (by simp)) ∅;rw[q] at z3;rw[q2] at z2;have e:itself B (th x r)=[[x]]:=by simp only[th,itself,q,q2,jd,zQ,jt]
  rw[e];simp![b_f_marks_of_itself,ix0,z3,z2,tupW,flsW,c1,c2,c3,tupS]
 have non:∀(x:Str) (r:List W),zak ["read","write","do"] (.str x)=false->zak ["say","ask"] (.str x)=false->(x==("call":Str))=false->dt 60 (th x r)=true->b_f_marks_of_itself F [some bd,some (th x r)] h=some (.ret (.fls ((itself B (th x r)).map tupS)),h):=by
  intro x r q q2 q4 d;obtain⟨m,e,_,hd⟩:=zam d;cases e;have z3:=i3 (h:=h) (hd (.str x) (by simp)) ∅;have z2:=i2 (h:=h) (hd (.str x) (by simp)) ∅;rw[q] at z3;rw[q2] at z2;have e:itself B (th x r)=[]:=by simp only[th,itself,q,q2,q4,zQ,jt]
  rw[e];simp![b_f_marks_of_itself,ix0,z3,z2,zaz,q4,tupW,flsW,c0,c2,c3]
 cases sh with
 | read v hv=>exact one _ v [] ⋯ d
 | doo v hv=>exact one _ v [] ⋯ d
 | write v hv a=>exact one _ v _ ⋯ d
 | ask=>exact two _ _ ⋯ ⋯ d
 | say a=>exact two _ _ ⋯ ⋯ d
 | call i a b hi ns hs body e lb=>
  obtain⟨m,em,_,hd⟩:=zam d;cases em;have z3:=i3 (h:=h) (hd (.str "call") (by simp)) ∅;have z2:=i2 (h:=h) (hd (.str "call") (by simp)) ∅;rw[show zak ["read","write","do"] (.str "call")=false by decide +kernel] at z3;rw[show zak ["say","ask"] (.str "call")=false by decide +kernel] at z2;have hiB:i<B.length:=by omega
  obtain⟨lk,nk⟩:=hB B[i] (qZ hiB);have e:itself B (th "call" [.int (i:Int),.tup a,.tup b])=B[i].filter za8:=by
   simp only[th,itself,show zak ["read","write","do"] (.str "call")=false by decide +kernel,show zak ["say","ask"] (.str "call")=false by decide +kernel,jP,jd,zQ,jt,jl,zO hiB,vO]
  rw[e];have ei:∀{h'},getL h' bd=some (bw B)->ixW bd (.int (i:Int)) h'=some (.fls (B[i].map tupS),h'):=by
   intro h' hb';have at1:atI (bw B) (i:Int)=some (.fls (B[i].map tupS)):=by
    unfold atI ixN bw;rw[zR ∅,zR (by simp; omega)];simp[hiB]
   cases bd with
   | tup l=>exact absurd rfl (nb l)
   | str z=>exact absurd rfl (ns z)
   | fls l=>unfold ixW; simp only[hb',at1]
   | ref n=>unfold ixW; simp only[hb',at1]
   | _=>cases hb'
  have cm:zaq (iSeq (eOp ixW (eVar 0) (eOp ixW (eVar 1) (eC (.int 1))))) 1 [] (gNm 0) (tVal (eOp (eqW true) (eOp ixW (eVar 0) (eC (.int 0))) (eC (.str "do")))) (eVar 0) [some bd,some (th "call" [.int (i:Int),.tup a,.tup b])] h=some (.fls ((B[i].filter za8).map tupS),h):=by
   refine(zdg (l:=B[i].map tupS) (λw=>match w with | .tup (.str x::_)=>!(x=="do") | _=>true) id ?_ ?_ ?_ ?_ ?_).trans ?_
   .simp![iSeq,ix1,ei hb,srcOf]
   .intro w hw H'
    obtain⟨k,hk,rfl⟩:=zz.mp hw;cases k with
    | nil=>exact absurd rfl (nk _ hk)
    | cons x r=>
     simp![tupS,ix0,zaz]
   .intro w hw _ H'; simp![]
   .intro w hw _
    obtain⟨k,hk,rfl⟩:=zz.mp hw;exact zcB k
   .simp only[zL]; exact zF lk (by decide)
   .have fe:((λw=>match w with | .tup (.str x::_)=>!(x=="do") | _=>true)∘tupS)=za8:=funext λk=>by cases k<;>rfl
    rw[List.map_id,xN,fe]
  simp![b_f_marks_of_itself,ix0,z3,z2,zaz,tupW,c2,c3,cm]
 | number i=>exact non _ _ ⋯ ⋯ ⋯ d
 | name v=>exact non _ _ ⋯ ⋯ ⋯ d
 | lett v a b=>exact non _ _ ⋯ ⋯ ⋯ d
 | own v hv a b=>exact non _ _ ⋯ ⋯ ⋯ d
 | add a b=>exact non _ _ ⋯ ⋯ ⋯ d
 | less a b=>exact non _ _ ⋯ ⋯ ⋯ d
 | thenn a b=>exact non _ _ ⋯ ⋯ ⋯ d
 | loop a b=>exact non _ _ ⋯ ⋯ ⋯ d
 | iff a b c=>exact non _ _ ⋯ ⋯ ⋯ d
theorem zbh:∀k:List Str,strsOf (k.map .str)=some k
 | []=>rfl
 | x::r=>by simp only[zH]; unfold strsOf; rw[zbh r]
def zaX(k:List Str):tkOf (tupS k)=some k:=zbh k
structure Bod(h:MH)(B:List (List (List Str)))(bd:W):Prop where
 gl:getL h bd=some (bw B)
 nt:∀l,bd≠.tup l
 ns:∀z,bd≠.str z
def Bod.ix{h:MH}{B:List (List (List Str))}{bd:W}(b:Bod h B bd){i:Nat}(hi:i<B.length):ixW bd (.int (i:Int)) h=some (.fls (B[i].map tupS),h):=by
 have hb':=b.gl;have at1:atI (bw B) (i:Int)=some (.fls (B[i].map tupS)):=by
  unfold atI ixN bw;rw[zR ∅,zR (by simp; omega)];simp[hi]
 cases bd with
 | tup l=>exact absurd rfl (b.nt l)
 | str z=>exact absurd rfl (b.ns z)
 | fls l=>unfold ixW; simp only[hb',at1]
 | ref n=>unfold ixW; simp only[hb',at1]
 | _=>cases hb'
def Bod.more{h t:MH}{B:List (List (List Str))}{bd:W}(b:Bod h B bd):Bod (h++t) B bd:=by
 refine⟨?_,b.nt,b.ns⟩;have hb':=b.gl;cases bd with
 | fls l=>exact hb'
 | ref n=>
  have hb2:(match h[n]? with | some (.lst l)=>some l | _=>none)=some (bw B):=hb';show(match (h++t)[n]? with | some (.lst l)=>some l | _=>none)=some (bw B)
  cases e:h[n]? with
  | none=>rw[e] at hb2; cases hb2
  | some o=>
   rw[zX (zE.mp e).1,e];rw[e] at hb2;exact hb2
 | _=>cases hb'
theorem zdm{caps:En}{t:MT}{m:ME}{n0:Nat}{h:MH}(hn:h.length=n0)(p:W->W->Bool)(f:W->W->W):∀(l:List (W×W)) (acc:List W) (o1 o2:Option W),
  (∀w∈l,∀acc,t (some w.1::some w.2::caps) (h++[.lst acc])=some (p w.1 w.2,h++[.lst acc]))->(∀w∈l,p w.1 w.2=true->∀H',m (some w.1::some w.2::caps) H'=some (f w.1 w.2,H'))->acc.length+l.length<=cap->
  zaW 2 (gTp [gNm 0,gNm 1]) t m n0 (l.map λw=>.tup [w.1,w.2]) (o1::o2::caps) (h++[.lst acc])=some (h++[.lst (acc++(l.filter λw=>p w.1 w.2).map λw=>f w.1 w.2)])
 | [],acc,_,_,_,_,_=>by simp[zaW]
 | (a,b)::l,acc,o1,o2,ht,hf,hl=>by
  have ih:=λacc'=>zdm (caps:=caps) (t:=t) (m:=m) hn p f l acc' none none (λw hw=>ht w (zq _ hw)) (λw hw=>hf w (zq _ hw))
  have hb:blank 2 (some a::some b::caps)=none::none::caps:=by simp[blank,List.replicate]
  simp only[zH];unfold zaW;have hg:gTp [gNm 0,gNm 1] (.tup [a,b]) (o1::o2::caps) (h++[.lst acc])=some (some a::some b::caps,h++[.lst acc]):=by simp[gTp,gTps,bnd,gNm]
  rw[hg];simp only;rw[ht (a,b) zy];simp only[zG] at hl;cases hp:p a b with
  | false=>
   simp only;rw[hb,ih acc ∅];simp[jT,hp]
  | true=>
   simp only;rw[hf (a,b) zy hp];have e1:(h++[MO.lst acc])[n0]?=some (.lst acc):=by rw[<-hn]; simp
   have e2:(h++[MO.lst acc]).set n0 (.lst (acc++[f a b]))=h++[.lst (acc++[f a b])]:=by rw[<-hn,qw _ _ (zu _)]; simp
   simp only[e1];rw[zR ∅,hb,e2,ih (acc++[f a b]) (by rw[zW]; simp; omega)];simp[jT,hp]
def zpq{mi:MI}{ks:List Nat}{t:MT}{m:ME}{ρ:En}{h:MH}{l:List (W×W)}(p:W->W->Bool)(f:W->W->W)(hm:mi ρ h=some (.items (l.map λw=>.tup [w.1,w.2]),h))(ht:∀w∈l,∀acc,t (some w.1::some w.2::ks.map λk=>(ρ[k]?).join) (h++[.lst acc])=some (p w.1 w.2,h++[.lst acc]))
  (hf:∀w∈l,p w.1 w.2=true->∀H',m (some w.1::some w.2::ks.map λk=>(ρ[k]?).join) H'=some (f w.1 w.2,H')) (hlow:∀w∈l,p w.1 w.2=true->low h.length (f w.1 w.2)=true) (hl:l.length<=cap):zaq mi 2 ks (gTp [gNm 0,gNm 1]) t m ρ h=some (.fls ((l.filter λw=>p w.1 w.2).map λw=>f w.1 w.2),h):=by
 have e:=zdm (caps:=ks.map λk=>(ρ[k]?).join) (t:=t) (m:=m) (h:=h) rfl p f l [] none none ht hf (by simpa using hl);unfold zaq zb1;rw[hm];have er:(List.replicate 2 (none:Option W)++ks.map λk=>(ρ[k]?).join)=none::none::ks.map λk=>(ρ[k]?).join:=rfl
 simp only;rw[er,e];simp only[jh,kj (zu _),uB,wI];rw[zR];refine⟨qx _ _,zas λw hw=>?_⟩;obtain⟨w',h1,rfl⟩:=zz.mp hw;obtain⟨h2,h3⟩:=jm.mp h1;exact hlow w' h2 h3
theorem zdu:∀(k l:List Str),PyData.eqvAll (k.map .str) (l.map .str)=decide (k=l)
 | [],[]=>by simp[PyData.eqvAll]
 | [],_::_=>by simp[PyData.eqvAll]
 | _::_,[]=>by simp[PyData.eqvAll]
 | x::k,y::l=>by
  simp only[zH,PyData.eqvAll,PyData.eqv,zdu k l];by_cases e:x=y
  .subst e; simp
  .have:(x==y)=false:=jn.mpr e
   simp[this,e]
def zfg{h:MH}{k:List Str}(g:zaF k=true):zad deep h (tupS k)=some (.tuple (k.map .str)):=by
 rw[zaV (zhc g) (show 2<=deep by decide)];unfold tupS toD;simp only[kY];congr 2
def zj7{h:MH}{ks:List (List Str)}(g:∀k∈ks,zaF k=true):mapO (zad deep h) (ks.map tupS)=some (ks.map λk=>.tuple (k.map .str)):=by
 induction ks with
 | nil=>rfl
 | cons k r ih=>
  simp only[zH];unfold mapO;rw[zfg (g k zy),ih λq hq=>g q (zq _ hq)]
def zlN{h:MH}{k:List Str}{ks:List (List Str)}{y:W}(g:zaF k=true)(gs:∀k∈ks,zaF k=true)(hy:zaD h y=some (ks.map tupS)):inB h (tupS k) y=some (ks.contains k):=by
 have e3:inB h (tupS k) y=match zaD h y with
  | some l=>match zad deep h (tupS k),mapO (zad deep h) l with
   | some d,some ds=>some (ds.any λe=>PyData.eqv e d)
   | _,_=>none
  | none=>none:=by unfold inB tupS; rfl
 rw[e3,hy];simp only[zfg g,zj7 gs];congr 1
 rw[uD,List.contains_eq_any_beq];congr 1
 funext x
 show PyData.eqv (.tuple (x.map .str)) (.tuple (k.map .str))=(k==x)
 simp only[PyData.eqv,zdu];by_cases e:x=k
 .subst e; simp
 .have:(k==x)=false:=jn.mpr λz=>e z.symm
  simp[this,e]
noncomputable def zaj(ks:List (List Str))(hs:List Str)(b:List W):List W:=((hs.zip b).filter λp=>ks.contains ["do",p.1]).map (·.2)
def zkM{F:Fs}{B:List (List (List Str))}{bd:W}{h:MH}{rl:List W}{i:Nat}{ns:List W}{hs:List Str}{body:W}{b:List W}{n:Nat}(Bo:Bod h B bd)(hB:∀ks∈B,∀k∈ks,zaF k=true)(hi:i<B.length)(hir:i<rl.length)(lr:rl.length<=1000)(e:rl[i]?=some (.tup [.tup ns,.tup (uX hs),body]))(hg:∀x∈hs,zaF ["do",x]=true)(lb:b.length<=1000)(db:∀w∈b,dt n w=true) :
  (step F).f_handed_that_are_done [.tup rl,bd,.int (i:Int),.tup b] h=some (.tup (zaj B[i] hs b),h):=by
 have ei:∀h,ixW (.tup rl) (.int (i:Int)) h=some (.tup [.tup ns,.tup (uX hs),body],h):=λh=>ixn ∅ ∅ (by simpa using e)
 have ld:(zaj B[i] hs b).length<=1000:=by
  unfold zaj;rw[zL];refine zF (qy _ _) ?_;rw[vA]; omega
 have dd:∀w∈zaj B[i] hs b,dt n w=true:=λw hw=>by
  unfold zaj at hw;obtain⟨p,hp,rfl⟩:=zz.mp hw;exact db _ (ql (jm.mp hp).1).2
 refine zbi (n:=n+1) ?_ (zbK ld dd);have c2:(2:Nat)<=cap:=by decide
 have gB:=hB B[i] (qZ hi);have cm:zaq (iZip [eVar 4,eVar 3]) 2 [1,2] (gTp [gNm 0,gNm 1]) (tVal (eOp (inW false) (uW tupW [eC (.str "do"),eVar 0]) (eOp ixW (eVar 2) (eVar 3)))) (eVar 1) [some (.tup rl),some bd,some (.int (i:Int)),some (.tup b),some (.tup (uX hs))] h=some (.fls (zaj B[i] hs b),h):=by
  have zs:=zgr hs b;refine(zpq (l:=(hs.zip b).map λp=>(W.str p.1,p.2)) (λx y=>match x with | .str v=>B[i].contains ["do",v] | _=>false) (λ_ y=>y) ?_ ?_ ?_ ?_ ?_).trans ?_
  .rw[<-zs]
   simp![iZip,zipW,zcA]
  .intro w hw acc
   obtain⟨p,hp,rfl⟩:=zz.mp hw;have h1:=(Bo.more (t:=[.lst acc])).ix hi;have h2:=zlN (h:=h++[.lst acc]) (k:=["do",p.1]) (ks:=B[i]) (y:=.fls (B[i].map tupS)) (hg _ (ql hp).1) gB rfl;have h3:tupS ["do",p.1]=.tup [.str "do",.str p.1]:=rfl;rw[h3] at h2;rw[List.contains_eq_mem] at h2;simp![tupW,c2,h1,h2]
  .intro w hw _ H'; simp![]
  .intro w hw _
   obtain⟨p,hp,rfl⟩:=zz.mp hw;exact zaC (db _ (ql hp).2)
  .rw[zL,vA]; exact zF (show min hs.length b.length<=1000 by omega) (by decide)
  .rw[xN,kY]
   rfl
 simp![b_f_handed_that_are_done,ei,ix1,cm,zbv,getL]
noncomputable def zai(rl:List W)(B:List (List (List Str))):W->List W
 | .tup [.str x,.int i,.tup a,.tup b]=>if x=="call" then a++zaj ((B[i.toNat]?).getD []) (match rl[i.toNat]? with
   | some (.tup [_,.tup l,_])=>(strsOf l).getD []
   | _=>[]) b else uZ (.tup [.str x,.int i,.tup a,.tup b])
 | w=>uZ w
theorem zaK{rl:List W}{B:List (List (List Str))}{w:W}(h:Pn w):zai rl B w=uZ w:=by
 cases h with
 | mk x r p hc hf hp=>
  unfold zai th;split
  .rename_i x' i a b e
   cases e;rw[zZ (by rw[hc]; exact zN)]
  .rfl
def znB{F:Fs}{B:List (List (List Str))}{bd w:W}{h:MH}{rl:List W}{k:Nat}{H:List Str}(Bo:Bod h B bd)(hB:∀ks∈B,∀k∈ks,zaF k=true)(hk:k<=B.length)(lr:rl.length<=1000)(hg:∀(i:Nat) (ns:List W) (hs:List Str) (body:W),rl[i]?=some (.tup [.tup ns,.tup (uX hs),body])->∀x∈hs,zaF ["do",x]=true)(d:dt 60 w=true)(sh:Sh rl k H w) :
  (step (step F)).f_parts_that_count [.tup rl,bd,w] h=some (.tup (zai rl B w),h):=by
 have eP:=zhR (F:=F) (h:=h) d sh;rcases sh.split with hp | ⟨i,a,b,ns,hs,body,rfl,hi,e⟩
 .rw[zaK hp]
  generalize step F=G at eP;have dp:=zb5 (n:=59) d;have lp:=zcC d;obtain⟨x,r,p,hc,hf,hq⟩:=hp;refine zaE (h':=h) ?_ ?_ (jf _)
  .simp![b_f_parts_that_count,ix0,zaz,hc,eP]
  .unfold low
   exact zas λw hw=>zaC (dp w hw)
 .have hiB:i<B.length:=by omega
  have hir:i<rl.length:=(zE.mp e).1;obtain⟨m,em,hl,hd⟩:=zam d;cases em;obtain⟨m1,e1,la,da⟩:=zam (hd (.tup a) (by simp));obtain⟨m2,e2,lb,db⟩:=zam (hd (.tup b) (by simp));have eH:=zkM (F:=F) (n:=m2) Bo hB hiB hir lr e (hg i ns hs body e) lb db;generalize step F=G at eH;have ec:zai rl B (th "call" [.int (i:Int),.tup a,.tup b])=a++zaj B[i] hs b:=by
   unfold zai th;simp only[jP,jd,jl,zO hiB,vO,e];rw[show strsOf (uX hs)=some hs from zbh hs];rfl
  rw[ec];have ld:(zaj B[i] hs b).length<=b.length:=by
   unfold zaj;rw[zL];refine zF (qy _ _) ?_;rw[vA]; omega
  have ad:∀h,addW (.tup a) (.tup (zaj B[i] hs b)) h=some (.tup (a++zaj B[i] hs b),h):=λh=>by
   simp only[addW,addI];rw[zR (zF (show a.length+(zaj B[i] hs b).length<=2000 by omega) (by decide))]
  have lw:low h.length (.tup (a++zaj B[i] hs b))=true:=by
   unfold low;refine zas λw hw=>?_
   rcases zx.mp hw with z | z
   .exact zaC (da w z)
   .unfold zaj at z
    obtain⟨p,hp,rfl⟩:=zz.mp z;exact zaC (db _ (ql (jm.mp hp).1).2)
  generalize a++zaj B[i] hs b=Z at ad lw;generalize zaj B[i] hs b=Y at eH ad;refine zaE (h':=h) ?_ lw (jf _);simp![b_f_parts_that_count,ix0,ix1,ix2,ix3,zaz,eH,ad]
noncomputable def hide(hid:List Str)(v:Str):List Str:=if hid.any (· == v) then hid else hid++[v]
noncomputable def u5(rl:List W)(B:List (List (List Str)))(w:W)(hid:List Str):List (W×List Str):=match w with
 | .tup [.str x,.str v,a,b]=>if x=="own" then [(a,hid),(b,hide hid v)] else (zai rl B w).map λp=>(p,hid)
 | w=>(zai rl B w).map λp=>(p,hid)
noncomputable def encP(p:W×List Str):W:=.tup [p.1,.tup (uX p.2)]
def zpc{F:Fs}{hid:List Str}{v:Str}{h:MH}(ho:hid.all PyData.strOk=true)(dv:dt 1 (.str v)=true)(hl:hid.length<=100):(step F).f_with_hidden [.tup (uX hid),.str v] h=some (.tup (uX (hide hid v)),h):=by
 have e:=λh=>zbO (h:=h) (w:=.str v) (l:=hid) dv ∅ ho
 have e':∀h,inB h (.str v) (.tup (uX hid))=some (hid.any (· == v)):=e;have c1:(1:Nat)<=cap:=by decide
 have ad:∀h,addW (.tup (uX hid)) (.tup [.str v]) h=some (.tup (uX (hid++[v])),h):=λh=>by
  rw[<-zcv];simp only[addW,addI,zG,kZ,zap];rw[zR (zF (show hid.length+(0+1)<=101 by omega) (by decide))]
 refine zaE (h':=h) ?_ ?_ (jf _)
 .unfold hide
  cases q:hid.any (· == v) with
  | true=>simp![b_f_with_hidden,e',q]
  | false=>simp![b_f_with_hidden,e',q,tupW,c1,ad]
 .exact zcB _
theorem zaY{rl:List W}{B:List (List (List Str))}{x:Str}{r:List W}{hid:List Str}(hx:(x==("own":Str))=false):u5 rl B (th x r) hid=(zai rl B (th x r)).map λp=>(p,hid):=by
 unfold u5 th;split
 .rename_i x' v a b e
  cases e;rw[zZ (by rw[hx]; exact zN)]
 .rfl
structure HidOk(hid:List Str):Prop where
 nd:hid.Nodup
 pq:∀v∈hid,v="p" \/ v="q"
theorem zcl{α:Type}[DecidableEq α]:∀{l m:List α},l.Nodup->(∀x∈l,x∈m)->l.length<=m.length
 | [],_,_,_=>j8 _
 | x::l,m,n,h=>by
  obtain⟨n1,n2⟩:=jA.mp n;have hx:=h x zy;have ih:=zcl (m:=m.erase x) n2 λy hy=>by
   have ne:y≠x:=λe=>by subst e; exact n1 hy
   exact(uH ne).mpr (h y (zq _ hy))
  rw[ue hx] at ih;have:0<m.length:=ux hx;simp only[zG]; omega
def HidOk.len{hid:List Str}(h:HidOk hid):hid.length<=2:=zcl (m:=[("p":Str),"q"]) h.nd λv hv=>by rcases h.pq v hv with rfl | rfl<;>simp
theorem zay(x:Str)(p:Int×Int)(hc:(x==("call":Str))=false)(hf:fm x=some p)(r:List W)(hr:r.filter (tyB .tuple)=r.drop (p.2.toNat-1)):Pn (th x r):=by
 refine .mk x r p hc hf ?_;simp only[uZ,hc,hf,hr];rfl
def HidOk.ok{hid:List Str}(h:HidOk hid):hid.all PyData.strOk=true:=kE.mpr λv hv=>by rcases h.pq v hv with rfl | rfl<;>decide +kernel
theorem HidOk.hide{hid:List Str}(h:HidOk hid){v:Str}(hv:v="p" \/ v="q"):HidOk (hide hid v):=by
 unfold K23.hide;split
 .exact h
 .rename_i q
  refine⟨?_,λu hu=>?_⟩
  .rw[yO]
   refine⟨h.nd,by simp,λa ha b hb e=>?_⟩;rw[kh] at hb;subst hb; subst e;exact q (wU.mpr ⟨a,ha,by simp⟩)
  .rcases zx.mp hu with z | z
   .exact h.pq u z
   .rw[kh.mp z]; exact hv
def zh1{ks:List (List Str)}{hs:List Str}{b:List W}:(∀p∈zaj ks hs b,p∈b)/\(zaj ks hs b).length<=b.length:=by
 unfold zaj;refine⟨λp hp=>?_,?_⟩
 .obtain⟨q,hq,rfl⟩:=zz.mp hp
  exact(ql (jm.mp hq).1).2
 .rw[zL]
  refine zF (qy _ _) ?_;rw[vA]; omega
def zed{rl:List W}{B:List (List (List Str))}{i:Nat}{a b:List W}:(∀p∈zai rl B (th "call" [.int (i:Int),.tup a,.tup b]),p∈a++b)/\(zai rl B (th "call" [.int (i:Int),.tup a,.tup b])).length<=a.length+b.length:=by
 unfold zai th;simp only[jP,jd]
 have:=zh1 (ks:=(B[(i:Int).toNat]?).getD []) (hs:=match rl[(i:Int).toNat]? with
   | some (.tup [_,.tup l,_])=>(strsOf l).getD []
   | _=>[]) (b:=b)
 refine⟨λp hp=>?_,by rw[zW]; exact Nat.add_le_add_left this.2 _⟩;rcases zx.mp hp with z | z
 .exact zx.mpr (.inl z)
 .exact zx.mpr (.inr (this.1 p z))
structure Env0(rl:List W)(B:List (List (List Str)))(k:Nat):Prop where
 lr:rl.length<=1000
 kB:k<=B.length
 len:∀ks∈B,ks.length<=60
 good:∀ks∈B,∀k∈ks,zaF k=true
 ne:∀ks∈B,∀k∈ks,k≠[]
 hg:∀(i:Nat) (ns:List W) (hs:List Str) (body:W),rl[i]?=some (.tup [.tup ns,.tup (uX hs),body])->∀x∈hs,zaF ["do",x]=true
def zqp{F:Fs}{B:List (List (List Str))}{bd w:W}{h:MH}{rl:List W}{k:Nat}{H hid:List Str}(E0:Env0 rl B k)(Bo:Bod h B bd)(d:dt 60 w=true)(sh:Sh rl k H w)(ho:HidOk hid) :
  (step (step (step F))).f_parts_with_hidden [.tup rl,bd,w,.tup (uX hid)] h=some (.fls ((u5 rl B w hid).map encP),h):=by
 have eC:=znB (F:=F) Bo E0.good E0.kB E0.lr E0.hg d sh;have eH:=λ(v:Str) (dv:dt 1 (.str v)=true) h=>zpc (F:=step F) (h:=h) ho.ok dv (zF ho.len ∅)
 generalize step (step F)=G at eC eH;have lowe:∀(p:W) (hd:List Str),low h.length p=true->low h.length (encP (p,hd))=true:=λp hd hp=>by
  unfold encP low;refine zas λw hw=>?_
  simp only[zf,zm,zV] at hw;rcases hw with rfl | rfl
  .exact hp
  .exact zcB _
 have c2:(2:Nat)<=cap:=by decide
 have plain:∀(x:Str) (r:List W),w=th x r->(x==("own":Str))=false->(∀p∈zai rl B w,low h.length p=true)->(zai rl B w).length<=2000->gc (fnM 4 0 (b_f_parts_with_hidden G)) [.tup rl,bd,w,.tup (uX hid)] h=some (.fls ((u5 rl B w hid).map encP),h):=by
  intro x r ew hx lp ll;have ewp:u5 rl B w hid=(zai rl B w).map λp=>(p,hid):=by subst ew; exact zaY hx
  refine zaE (h':=h) ?_ ?_ (jf _)
  .have cm:zaq (iSeq (uW G.f_parts_that_count [eVar 0,eVar 1,eVar 2])) 1 [3] (gNm 0) zba (uW tupW [eVar 0,eVar 1]) [some (.tup rl),some bd,some w,some (.tup (uX hid))] h=some (.fls ((u5 rl B w hid).map encP),h):=by
    refine(zdg (l:=zai rl B w) (λ_=>true) (λp=>.tup [p,.tup (uX hid)]) ?_ ?_ ?_ ?_ ?_).trans ?_
    .simp![iSeq,eC,srcOf]
    .intro p _ H'; rfl
    .intro p hp _ H'; simp![tupW,c2]
    .intro p hp _; exact lowe p hid (lp p hp)
    .exact zF ll (by decide)
    .rw[filter_true,ewp,kY]; rfl
   subst ew;generalize (u5 rl B (th x r) hid).map encP=Z at cm;simp![b_f_parts_with_hidden,ix0,zaz,hx,cm]
  .rw[ewp,kY]
   unfold low;refine zas λz hz=>?_
   obtain⟨p,hp,rfl⟩:=zz.mp hz;exact lowe p hid (lp p hp)
 have dpl:=zb5 (n:=59) d;have lpl:=zcC d;show gc (fnM 4 0 (b_f_parts_with_hidden G)) [.tup rl,bd,w,.tup (uX hid)] h=_
 have pn:∀(x:Str) (r:List W),w=th x r->(x==("own":Str))=false->Pn w->gc (fnM 4 0 (b_f_parts_with_hidden G)) [.tup rl,bd,w,.tup (uX hid)] h=some (.fls ((u5 rl B w hid).map encP),h):=λx r ew hx p=>by
  refine plain x r ew hx ?_ ?_<;>rw[zaK p]
  .exact λp hp=>zaC (dpl p hp)
  .exact lpl
 cases sh with
 | number i=>exact pn _ _ rfl ⋯ (zay _ (2,2) ⋯ ⋯ _ (by simp[tyB]))
 | name v=>exact pn _ _ rfl ⋯ (zay _ (2,2) ⋯ ⋯ _ (by simp[tyB]))
 | read v hv=>exact pn _ _ rfl ⋯ (zay _ (2,2) ⋯ ⋯ _ (by simp[tyB]))
 | doo v hv=>exact pn _ _ rfl ⋯ (zay _ (2,2) ⋯ ⋯ _ (by simp[tyB]))
 | ask=>exact pn _ _ rfl ⋯ (zay _ (1,1) ⋯ ⋯ _ (by simp))
 | write v hv a=>exact pn _ _ rfl ⋯ (zay _ (3,2) ⋯ ⋯ _ (by simp[tyB]))
 | say a=>exact pn _ _ rfl ⋯ (zay _ (2,1) ⋯ ⋯ _ (by simp[tyB]))
 | lett v a b=>exact pn _ _ rfl ⋯ (zay _ (4,2) ⋯ ⋯ _ (by simp[tyB]))
 | add a b=>exact pn _ _ rfl ⋯ (zay _ (3,1) ⋯ ⋯ _ (by simp[tyB]))
 | less a b=>exact pn _ _ rfl ⋯ (zay _ (3,1) ⋯ ⋯ _ (by simp[tyB]))
 | thenn a b=>exact pn _ _ rfl ⋯ (zay _ (3,1) ⋯ ⋯ _ (by simp[tyB]))
 | loop a b=>exact pn _ _ rfl ⋯ (zay _ (3,1) ⋯ ⋯ _ (by simp[tyB]))
 | iff a b c=>exact pn _ _ rfl ⋯ (zay _ (4,1) ⋯ ⋯ _ (by simp[tyB]))
 | call i a b hi ns hs body e lb=>
  have sub:=zed (rl:=rl) (B:=B) (i:=i) (a:=a) (b:=b);refine plain _ _ rfl ⋯ (λp hp=>?_) ?_
  .have:=sub.1 p hp
   rw[<-zaw (i:Int)] at this;exact zaC (dpl p this)
  .have:=sub.2
   rw[zaw] at lpl;rw[zW] at lpl;omega
 | own v hv a b=>
  obtain⟨m,em,hl,hd⟩:=zam d;cases em;have dv:dt 1 (.str v)=true:=by
   have:PyData.strOk v=true/\v.length<=1000:=by rcases hv with rfl | rfl<;>decide +kernel
   unfold dt;rw[zr];exact⟨this.1,kI this.2⟩
  have e2:=eH v dv;have ew:u5 rl B (th "own" [.str v,.tup a,.tup b]) hid=[(.tup a,hid),(.tup b,hide hid v)]:=by
   simp only[u5,th,jP,jd]
  rw[ew];refine zaE (h':=h) ?_ ?_ (jf _)
  .generalize hide hid v=hv2 at e2
   simp![b_f_parts_with_hidden,ix0,ix1,ix2,ix3,zaz,e2,tupW,flsW,c2,encP]
  .unfold low
   refine zas λz hz=>?_
   simp only[zH,jw,zf,zm,zV] at hz;rcases hz with rfl | rfl
   .exact lowe _ _ (zaC (hd (.tup a) (by simp)))
   .exact lowe _ _ (zaC (hd (.tup b) (by simp)))
noncomputable def za1(k:List Str):Str:=k.getLastD ""
noncomputable def hidB(hid:List Str)(k:List Str):Bool:=hid.any (· == za1 k)
noncomputable def za2(hid:List Str)(F:List (List Str))(ks:List (List Str)):List (List Str):=ks.foldl (λF k=>if hidB hid k then F else addK F k) F
def zkB{F:List (List Str)}{k x:List Str}:x∈addK F k↔x∈F\/x=k:=by
 unfold addK;split
 .rename_i q
  refine⟨.inl,λh=>h.elim id λe=>by subst e; exact q⟩
 .simp
theorem mem_addAll{hid:List Str}{x:List Str}:∀{ks F:List (List Str)},x∈za2 hid F ks↔x∈F\/(x∈ks/\hidB hid x=false)
 | [],F=>by simp[za2]
 | k::ks,F=>by
  have ih:=mem_addAll (hid:=hid) (x:=x) (ks:=ks) (F:=if hidB hid k then F else addK F k);have e:za2 hid F (k::ks)=za2 hid (if hidB hid k then F else addK F k) ks:=rfl;rw[e,ih];cases q:hidB hid k with
  | true=>
   simp only[jd,zf];constructor
   .rintro(h | ⟨h,z⟩)
    .exact .inl h
    .exact .inr ⟨.inr h,z⟩
   .rintro(h | ⟨rfl | h,z⟩)
    .exact .inl h
    .rw[q] at z; cases z
    .exact .inr ⟨h,z⟩
  | false=>
   simp only[zQ,jt,zkB,zf];constructor
   .rintro((h | rfl) | ⟨h,z⟩)
    .exact .inl h
    .exact .inr ⟨.inl rfl,q⟩
    .exact .inr ⟨.inr h,z⟩
   .rintro(h | ⟨rfl | h,z⟩)
    .exact .inl (.inl h)
    .exact .inl (.inr rfl)
    .exact .inr ⟨h,z⟩
theorem zfa{hid:List Str}:∀{ks F:List (List Str)},F.Nodup->(za2 hid F ks).Nodup
 | [],F,n=>n
 | k::ks,F,n=>by
  have e:za2 hid F (k::ks)=za2 hid (if hidB hid k then F else addK F k) ks:=rfl;rw[e];refine zfa ?_;split
  .exact n
  .exact zdN n
theorem last_eq(x:Str)(r:List Str):za1 (x::r)=(x::r).getLast (by simp):=by
 unfold za1;rw[List.getLastD_eq_getLast?,List.getLast?_eq_some_getLast (by simp)];rfl
def zmZ{k:List Str}(hk:k≠[]):∀h,ixW (tupS k) (.int (-1)) h=some (.str (za1 k),h):=by
 intro h;obtain⟨x,r,rfl⟩:∃x r,k=x::r:=by
  cases k with
  | nil=>exact absurd rfl hk
  | cons x r=>exact⟨x,r,rfl⟩
 have e4:((x::r).map W.str)[r.length]?=some (.str (za1 (x::r))):=by
  rw[kJ,last_eq,List.getLast_eq_getElem];simp
 have e:atI ((x::r).map W.str) (-1)=some (.str (za1 (x::r))):=by
  have n:ixN ((x::r).map W.str).length (-1)=some r.length:=by
   unfold ixN;simp;omega
  unfold atI;rw[n];exact e4
 unfold tupS ixW;simp only[e]
noncomputable abbrev ρm(r b d:W)(n:Nat)(o5 o6:Option W):En:=[some r,some b,some d,some (.ref n),some (.ref (n+1)),o5,o6]
theorem zeO{r b d p:W}{h0:MH}{hid:List Str}{s:List W}(ho:HidOk hid):∀(ks F:List (List Str)) (o6:Option W),(∀k∈ks,zaF k=true/\k≠[])->F.length+ks.length<800->
  ∃o6',forL (gNm 6) mBd (ks.map tupS) (ρm r b d h0.length (some (encP (p,hid))) o6) (h0++[.tdc F,.lst s])=some (.nx (ρm r b d h0.length (some (encP (p,hid))) o6'),h0++[.tdc (za2 hid F ks),.lst s])
 | [],F,o6,_,_=>⟨o6,by simp[forL,za2]⟩
 | k::ks,F,o6,hk,hl=>by
  obtain⟨g,ne⟩:=hk k zy;simp only[zG] at hl;have hF:(if hidB hid k then F else addK F k).length<=F.length+1:=by
   split
   .omega
   .unfold addK; split
    .omega
    .simp
  obtain⟨o6',ih⟩:=zeO (r:=r) (b:=b) (d:=d) (p:=p) (h0:=h0) (s:=s) ho ks (if hidB hid k then F else addK F k) (some (tupS k)) (λq hq=>hk q (zq _ hq)) ∅;refine⟨o6',?_⟩;have hg:gNm 6 (tupS k) (ρm r b d h0.length (some (encP (p,hid))) o6) (h0++[.tdc F,.lst s])=some (ρm r b d h0.length (some (encP (p,hid))) (some (tupS k)),h0++[.tdc F,.lst s]):=by simp[gNm]
  have dl:dt 1 (.str (za1 k))=true:=by
   unfold zaF at g;rw[zr] at g;obtain⟨x,q,rfl⟩:∃x q,k=x::q:=by
    cases k with
    | nil=>exact absurd rfl ne
    | cons x q=>exact⟨x,q,rfl⟩
   have hm:za1 (x::q)∈x::q:=by
    rw[last_eq];exact List.getLast_mem _
   exact kE.mp g.2 _ hm
  have li:=zmZ ne (h0++[.tdc F,.lst s]);have ii:ixW (encP (p,hid)) (.int 1) (h0++[.tdc F,.lst s])=some (.tup (uX hid),h0++[.tdc F,.lst s]):=ix1;have ib:inB (h0++[.tdc F,.lst s]) (.str (za1 k)) (.tup (uX hid))=some (hidB hid k):=zbO (w:=.str (za1 k)) (l:=hid) dl ∅ ho.ok;have pt:putT (.ref h0.length) (tupS k) (.bl true) (h0++[.tdc F,.lst s])=some (.non,h0++[.tdc (addK F k),.lst s]):=by
   have e1:(h0++[.tdc F,.lst s])[h0.length]?=some (.tdc F):=by simp
   have e2:(h0++([.tdc F,.lst s]:MH)).set h0.length (.tdc (addK F k))=h0++[.tdc (addK F k),.lst s]:=by
    rw[qw _ _ (zu _)]; simp
   unfold putT;simp only[e1,zaX];rw[zR ∅,e2]
  have bd:mBd (ρm r b d h0.length (some (encP (p,hid))) (some (tupS k))) (h0++[.tdc F,.lst s])=some (.nx (ρm r b d h0.length (some (encP (p,hid))) (some (tupS k))),h0++[.tdc (if hidB hid k then F else addK F k),.lst s]):=by
   generalize tupS k=tk at li pt;generalize encP (p,hid)=pp at ii;cases q:hidB hid k with
   | true=>
    rw[q] at ib;simp![mBd,negW,li,ii,ib]
   | false=>
    rw[q] at ib;simp![mBd,negW,li,ii,ib,zfB,pt]
  simp only[zH];unfold forL;rw[hg];simp only[bd];exact ih
noncomputable def mk(rl:List W)(B:List (List (List Str))):Nat->W->List (List Str)
 | 0,_=>[]
 | n+1,w=>itself B w++(u5 rl B w []).flatMap λp=>(mk rl B n p.1).filter λk=>!hidB p.2 k
def ze0{rl:List W}{B:List (List (List Str))}{k:Nat}{H:List Str}{w:W}(sh:Sh rl k H w):∀p∈zai rl B w,p∈uZ w:=by
 rcases sh.split with hp | ⟨i,a,b,ns,hs,body,rfl,hi,e⟩
 .rw[zaK hp]; exactλp hp=>hp
 .rw[zaw]; exact zed.1
def zbw{rl:List W}{B:List (List (List Str))}{k:Nat}{H hid:List Str}{w:W}(sh:Sh rl k H w)(ho:HidOk hid):∀p∈u5 rl B w hid,p.1∈uZ w/\HidOk p.2:=by
 have pl:∀(x:Str) (r:List W),w=th x r->(x==("own":Str))=false->∀p∈u5 rl B w hid,p.1∈uZ w/\HidOk p.2:=by
  intro x r e hx p hp;have e2:u5 rl B w hid=(zai rl B w).map λp=>(p,hid):=by subst e; exact zaY hx
  rw[e2] at hp;obtain⟨q,hq,rfl⟩:=zz.mp hp;exact⟨ze0 sh q hq,ho⟩
 have sh':=sh;cases sh with
 | own v hv a b=>
  intro p hp;have e:u5 rl B (th "own" [.str v,.tup a,.tup b]) hid=[(.tup a,hid),(.tup b,hide hid v)]:=by
   simp only[u5,th,jP,jd]
  rw[e] at hp;have ep:uZ (th "own" [.str v,.tup a,.tup b])=[.tup a,.tup b]:=by
   have h1:(("own":Str)=="call")=false:=by decide +kernel
   have h2:fm "own" = some (4,2):=by decide +kernel
   simp only[uZ,h1,h2];rfl
  rw[ep];simp only[zf,zm,zV] at hp;rcases hp with rfl | rfl
  .exact⟨by simp,ho⟩
  .exact⟨by simp,ho.hide hv⟩
 | _=>exact pl _ _ rfl ⋯
theorem zeD(k:List Str):hidB [] k=false:=rfl
def zkS{hid:List Str}{v:Str}{k:List Str}:hidB (hide hid v) k=(hidB hid k||hidB (hide [] v) k):=by
 unfold hidB hide;by_cases q:(hid.any (· == v))=true
 .rw[zR q]
  simp only[List.any_nil,zQ,jt,jh,vB,yH];obtain⟨u,hu,e⟩:=wU.mp q;have e:=eq_of_beq e;subst e;cases z:(u==za1 k) with
  | false=>simp
  | true=>
   rw[Bool.or_true];exact wU.mpr ⟨u,hu,z⟩
 .rw[zZ q]
  simp[List.any_append]
def zhX{rl:List W}{B:List (List (List Str))}{w:W}{hid:List Str}{f:W->List (List Str)}{x:List Str}:(∃p∈u5 rl B w hid,x∈f p.1/\hidB p.2 x=false)↔(∃p∈u5 rl B w [],x∈f p.1/\hidB p.2 x=false)/\hidB hid x=false:=by
 unfold u5;split
 .rename_i y v a b
  split
  .simp only[zf,zm,zV,exists_eq_or_imp,exists_eq_left,zeD]
   rw[zkS (hid:=hid)];cases hidB hid x<;>simp
  .simp only[zz]
   constructor
   .rintro⟨p,⟨q,hq,rfl⟩,h1,h2⟩
    exact⟨⟨(q,[]),⟨q,hq,rfl⟩,h1,rfl⟩,h2⟩
   .rintro⟨⟨p,⟨q,hq,rfl⟩,h1,_⟩,h2⟩
    exact⟨(q,hid),⟨q,hq,rfl⟩,h1,h2⟩
 .simp only[zz]
  constructor
  .rintro⟨p,⟨q,hq,rfl⟩,h1,h2⟩
   exact⟨⟨(q,[]),⟨q,hq,rfl⟩,h1,rfl⟩,h2⟩
  .rintro⟨⟨p,⟨q,hq,rfl⟩,h1,_⟩,h2⟩
   exact⟨(q,hid),⟨q,hq,rfl⟩,h1,h2⟩
def mem_mk{rl:List W}{B:List (List (List Str))}{n:Nat}{w:W}{x:List Str}:x∈mk rl B (n+1) w↔x∈itself B w\/∃p∈u5 rl B w [],x∈mk rl B n p.1/\hidB p.2 x=false:=by
 have e:mk rl B (n+1) w=itself B w++(u5 rl B w []).flatMap λp=>(mk rl B n p.1).filter λk=>!hidB p.2 k:=rfl
 rw[e,zx,qY];simp only[jm,qg]
def seen{rl:List W}{B:List (List (List Str))}{n:Nat}{w:W}{hid:List Str}{x:List Str}:(x∈mk rl B (n+1) w/\hidB hid x=false)↔(x∈itself B w/\hidB hid x=false)\/∃p∈u5 rl B w hid,x∈mk rl B n p.1/\hidB p.2 x=false:=by
 rw[zhX (hid:=hid) (f:=mk rl B n),mem_mk];constructor
 .rintro⟨h | h,z⟩
  .exact .inl ⟨h,z⟩
  .exact .inr ⟨h,z⟩
 .rintro(⟨h,z⟩ | ⟨h,z⟩)
  .exact⟨.inl h,z⟩
  .exact⟨.inr h,z⟩
theorem zeG{rl:List W}{B:List (List (List Str))}{k:Nat}{H:List Str}:∀{n m:Nat} {w:W},okd rl k H n w->n<=m->mk rl B m w=mk rl B n w
 | 0,_,_,h,_=>by cases h
 | n+1,0,_,_,h=>by omega
 | n+1,m+1,w,h,hn=>by
  show itself B w++_=itself B w++_
  congr 1
  have:∀p∈u5 rl B w [],(λp:W×List Str=>(mk rl B m p.1).filter λk=>!hidB p.2 k) p=(λp:W×List Str=>(mk rl B n p.1).filter λk=>!hidB p.2 k) p:=λp hp=>by
   have hp':=(zbw h.1 ⟨qz,nofun⟩ p hp).1;show(mk rl B m p.1).filter _=(mk rl B n p.1).filter _
   rw[zeG (h.2 p.1 hp') ∅]
  rw[wQ,wQ,qm this]
def ziC{rl:List W}{B:List (List (List Str))}{k:Nat}{H hid:List Str}{w:W}{n:Nat}(sh:Sh rl k H w):((u5 rl B w hid).map λp=>cnt n p.1).sum<=((uZ w).map (cnt n)).sum:=by
 have sub:∀{l m:List W},l.Sublist m->(l.map (cnt n)).sum<=(m.map (cnt n)).sum:=by
  intro l m s;induction s with
  | slnil=>exact zu _
  | cons a _ ih=>simp only[zH,vR]; omega
  | cons_cons a _ ih=>simp only[zH,vR]; omega
 have dsub:∀(ks:List (List Str)) (hs:List Str) (b:List W),(zaj ks hs b).Sublist b:=by
  intro ks hs b;unfold zaj;have h1:(((hs.zip b).filter λp=>ks.contains ["do",p.1]).map (·.2)).Sublist ((hs.zip b).map (·.2)):=List.filter_sublist.map _;have h2:((hs.zip b).map (·.2)).Sublist b:=by
   have:(hs.zip b).map (·.2)=b.take hs.length:=by
    clear h1;induction hs generalizing b with
    | nil=>simp
    | cons x hs ih=>
     cases b with
     | nil=>simp
     | cons y b=>
      simp only[yC,zH,zG,uP];rw[ih b]
   rw[this];exact yN _ _
  exact h1.trans h2
 have csub:(zai rl B w).Sublist (uZ w):=by
  rcases sh.split with hp | ⟨i,a,b,ns,hs,body,rfl,hi,e⟩
  .rw[zaK hp]; exact List.Sublist.refl _
  .rw[zaw]
   unfold zai th;simp only[jP,jd];exact List.Sublist.append (List.Sublist.refl _) (dsub _ _ _)
 have pl:∀(x:Str) (r:List W),w=th x r->(x==("own":Str))=false->((u5 rl B w hid).map λp=>cnt n p.1).sum<=((uZ w).map (cnt n)).sum:=by
  intro x r e hx;have e2:u5 rl B w hid=(zai rl B w).map λp=>(p,hid):=by subst e; exact zaY hx
  rw[e2,kY];exact sub csub
 cases sh with
 | own v hv a b=>
  have e:u5 rl B (th "own" [.str v,.tup a,.tup b]) hid=[(.tup a,hid),(.tup b,hide hid v)]:=by
   simp only[u5,th,jP,jd]
  have ep:uZ (th "own" [.str v,.tup a,.tup b])=[.tup a,.tup b]:=by
   have h1:(("own":Str)=="call")=false:=by decide +kernel
   have h2:fm "own" = some (4,2):=by decide +kernel
   simp only[uZ,h1,h2];rfl
  rw[e,ep];exact zu _
 | _=>exact pl _ _ rfl ⋯
noncomputable def uni(H:List Str):List (List Str):=(six.flatMap λv=>[[("read":Str),v],["write",v]])++[[("say":Str)],["ask"]]++H.map λv=>[("do":Str),v]
def zeu(H:List Str):(uni H).length=14+H.length:=by
 unfold uni;rw[zW,zW,zL];have:(six.flatMap λv=>[[("read":Str),v],["write",v]]).length=12:=by decide +kernel
 rw[this];simp
noncomputable def wdH(H:List Str):Prop:=∀v∈H,pl 1 (.str v)=true
def zcy{x v:Str}(h1:PyData.strOk x=true/\x.length<=1000)(h2:pl 1 (.str v)=true):zaF [x,v]=true:=by
 unfold zaF;rw[zr];refine⟨kI (by simp),?_⟩;simp only[jF,List.all_nil,Bool.and_true];rw[zr,zr];exact⟨⟨h1.1,kI h1.2⟩,h2⟩
def zf7:∀v∈six,pl 1 (.str v)=true:=by decide +kernel
def zbn{H:List Str}(wH:wdH H):∀k∈uni H,zaF k=true/\k≠[]:=by
 intro k hk;unfold uni at hk;rcases zx.mp hk with hk | hk
 .rcases zx.mp hk with hk | hk
  .obtain⟨v,hv,hk⟩:=qY.mp hk
   simp only[zf,zm,zV] at hk;rcases hk with rfl | rfl
   .exact⟨zcy ⋯ (zf7 v hv),by simp⟩
   .exact⟨zcy ⋯ (zf7 v hv),by simp⟩
  .simp only[zf,zm,zV] at hk
   rcases hk with rfl | rfl<;>exact⟨by decide +kernel,by simp⟩
 .obtain⟨v,hv,rfl⟩:=zz.mp hk
  exact⟨zcy ⋯ (wH v hv),by simp⟩
noncomputable def BodU(B:List (List (List Str)))(k:Nat)(H:List Str):Prop:=∀(i:Nat) (ks:List (List Str)),i<k->B[i]?=some ks->∀x∈ks,za8 x=true->x∈uni H
def ziB{rl:List W}{B:List (List (List Str))}{k:Nat}{H:List Str}{w:W}(hU:BodU B k H)(sh:Sh rl k H w):∀x∈itself B w,x∈uni H:=by
 have in6:∀v∈six,[("read":Str),v]∈uni H/\[("write":Str),v]∈uni H:=λv hv=>by
  unfold uni;constructor
  .exact zx.mpr (.inl (zx.mpr (.inl (qY.mpr ⟨v,hv,by simp⟩))))
  .exact zx.mpr (.inl (zx.mpr (.inl (qY.mpr ⟨v,hv,by simp⟩))))
 have sy:[("say":Str)]∈uni H/\[("ask":Str)]∈uni H:=by
  unfold uni;exact⟨zx.mpr (.inl (zx.mpr (.inr (by simp)))),zx.mpr (.inl (zx.mpr (.inr (by simp))))⟩
 intro x hx;have l3:∀y:Str,zak ["read","write","do"] (.str y)=true->∀v r,itself B (th y (.str v::r))=[[y,v]]:=λy q v r=>by simp only[th,itself,q,jd]
 have l0:∀y:Str,zak ["read","write","do"] (.str y)=false->zak ["say","ask"] (.str y)=false->(y==("call":Str))=false->∀r,itself B (th y r)=[]:=λy q q2 q4 r=>by simp only[th,itself,q,q2,q4,zQ,jt]
 have l2:∀y:Str,zak ["read","write","do"] (.str y)=false->zak ["say","ask"] (.str y)=true->∀r,itself B (th y r)=[[y]]:=λy q q2 r=>by simp only[th,itself,q,q2,jd,zQ,jt]
 cases sh with
 | read v hv=>rw[l3 _ ⋯] at hx; rw[kh.mp hx]; exact(in6 v hv).1
 | write v hv a=>rw[l3 _ ⋯] at hx; rw[kh.mp hx]; exact(in6 v hv).2
 | doo v hv=>
  rw[l3 _ ⋯] at hx; rw[kh.mp hx];unfold uni;exact zx.mpr (.inr (zz.mpr ⟨v,hv,rfl⟩))
 | say a=>rw[l2 _ ⋯ ⋯] at hx; rw[kh.mp hx]; exact sy.1
 | ask=>rw[l2 _ ⋯ ⋯] at hx; rw[kh.mp hx]; exact sy.2
 | call i a b hi ns hs body e lb=>
  have e1:itself B (th "call" [.int (i:Int),.tup a,.tup b])=((B[i]?).getD []).filter za8:=by
   simp only[th,itself,show zak ["read","write","do"] (.str "call")=false by decide +kernel,show zak ["say","ask"] (.str "call")=false by decide +kernel,jP,jd,zQ,jt,jl]
  rw[e1] at hx;obtain⟨h1,h2⟩:=jm.mp hx;cases q:B[i]? with
  | none=>rw[q] at h1; simp at h1
  | some ks=>rw[q] at h1; exact hU i ks hi q x h1 h2
 | number i=>rw[l0 _ ⋯ ⋯ ⋯] at hx; simp at hx
 | name v=>rw[l0 _ ⋯ ⋯ ⋯] at hx; simp at hx
 | lett v a b=>rw[l0 _ ⋯ ⋯ ⋯] at hx; simp at hx
 | own v hv a b=>rw[l0 _ ⋯ ⋯ ⋯] at hx; simp at hx
 | add a b=>rw[l0 _ ⋯ ⋯ ⋯] at hx; simp at hx
 | less a b=>rw[l0 _ ⋯ ⋯ ⋯] at hx; simp at hx
 | thenn a b=>rw[l0 _ ⋯ ⋯ ⋯] at hx; simp at hx
 | loop a b=>rw[l0 _ ⋯ ⋯ ⋯] at hx; simp at hx
 | iff a b c=>rw[l0 _ ⋯ ⋯ ⋯] at hx; simp at hx
theorem zoM(F:Fs):b_f_marks_by F=sSeq (sAsg zdL (gNm 3)) (sSeq (sAsg (uW lstW [uW tupW [eVar 2,uW tupW []]]) (gNm 4)) (sSeq (zbz zT (zB F)) (sRet (uW zcF [eVar 3])))):=rfl
def at1{α:Type}(h:List α)(o p:α):(h++[o,p])[h.length+1]?=some p:=by rw[kj ∅]; simp
def set1{α:Type}(h:List α)(o p q:α):(h++[o,p]).set (h.length+1) q=h++[o,q]:=by rw[qw _ _ ∅]; simp
def zhY{G:Fs}{rl:List W}{B:List (List (List Str))}{bd d0:W}{h0:MH}{k N:Nat}{H:List Str}(E0:Env0 rl B k)(hU:BodU B k H)(wH:wdH H)(lH:H.length<=20)(Bo:Bod h0 B bd)
  (e1:∀(w:W) (h:MH),Bod h B bd->dt 60 w=true->Sh rl k H w->G.f_marks_of_itself [bd,w] h=some (.fls ((itself B w).map tupS),h))
  (e2:∀(w:W) (hid:List Str) (h:MH),Bod h B bd->dt 60 w=true->Sh rl k H w->HidOk hid->G.f_parts_with_hidden [.tup rl,bd,w,.tup (uX hid)] h=some (.fls ((u5 rl B w hid).map encP),h)) :
  ∀(T:Nat) (s:List (W×List Str)) (F:List (List Str)) (o5 o6:Option W),(∀p∈s,dt 60 p.1=true/\okd rl k H N p.1/\HidOk p.2)->(s.map λp=>cnt N p.1).sum<=T->T<=100000->F.Nodup->(∀x∈F,x∈uni H)->
   ∃F' p5 p6,zaH zT (zB G) (T+1) (ρm (.tup rl) bd d0 h0.length o5 o6) (h0++[.tdc F,.lst (s.reverse.map encP)])=some (.nx (ρm (.tup rl) bd d0 h0.length p5 p6),h0++[.tdc F',.lst []])/\F'.Nodup/\(∀x∈F',x∈uni H)/\∀x,x∈F'↔x∈F\/∃p∈s,x∈mk rl B N p.1/\hidB p.2 x=false:=by
 intro T;induction T with
 | zero=>
  intro s F o5 o6 hs ht hT nF uF;cases s with
  | nil=>
   have t:zT (ρm (.tup rl) bd d0 h0.length o5 o6) (h0++[.tdc F,.lst []])=some (false,h0++[.tdc F,.lst []]):=by
    simp![zT,lenW,getL,at1,cmpI]
   refine⟨F,o5,o6,?_,nF,uF,λx=>by simp⟩;simp only[xq,jw];unfold zaH;rw[t]
  | cons p r=>
   exfalso;simp only[zH,vR] at ht;obtain⟨_,o,_⟩:=hs p zy;cases N with
   | zero=>cases o
   | succ N=>have:=zhf (n:=N) (w:=p.1); omega
 | succ T ih=>
  intro s F o5 o6 hs ht hT nF uF;cases s with
  | nil=>
   have t:zT (ρm (.tup rl) bd d0 h0.length o5 o6) (h0++[.tdc F,.lst []])=some (false,h0++[.tdc F,.lst []]):=by
    simp![zT,lenW,getL,at1,cmpI]
   refine⟨F,o5,o6,?_,nF,uF,λx=>by simp⟩;simp only[xq,jw];unfold zaH;rw[t]
  | cons p r=>
   obtain⟨d,o,ho⟩:=hs p zy;cases N with
   | zero=>cases o
   | succ N=>
   obtain⟨w,hid⟩:=p;simp only at d o ho;have sh:=o.1;let F1:=za2 hid F (itself B w)
   let s1:=(u5 rl B w hid).reverse++r
   have uI:=ziB hU sh;have u1:∀x∈F1,x∈uni H:=λx hx=>(mem_addAll.mp hx).elim (uF x) λz=>uI x z.1
   have hs1:∀p∈s1,dt 60 p.1=true/\okd rl k H (N+1) p.1/\HidOk p.2:=by
    intro q hq;rcases zx.mp hq with z | z
    .obtain⟨z1,z2⟩:=zbw sh ho q (xr.mp z)
     exact⟨zaG (zb5 (n:=59) d q.1 z1) ∅,zbk (o.2 q.1 z1) (qK _),z2⟩
    .exact hs q (zq _ z)
   have hsum:(s1.map λp=>cnt (N+1) p.1).sum<=T:=by
    simp only[zH,vR] at ht;have e:cnt (N+1) w=1+((uZ w).map (cnt (N+1))).sum:=by
     conv=>lhs; unfold cnt
     rw[zcM λp hp=>(zfN (o.2 p hp) (qK N)).symm]
    have:=ziC (rl:=rl) (B:=B) (hid:=hid) (n:=N+1) sh;rw[vW,List.sum_append,List.map_reverse,List.sum_reverse];omega
   have lF:F.length<=34:=zF (zcl nF uF) (by rw[zeu]; omega);have lI:(itself B w).length<=60:=by
    have pl:(itself B w).length<=1\/∃ks∈B,(itself B w).length<=ks.length:=by
     unfold itself;split
     .split
      .split<;>simp
      .split
       .simp
       .split
        .split
         .rename_i i _
          cases q:B[i.toNat]? with
          | none=>simp
          | some ks=>exact .inr ⟨ks,qd q,by simp[qy]⟩
         .simp
        .simp
     .simp
    rcases pl with z | ⟨ks,hk,z⟩
    .omega
    .exact zF z (E0.len ks hk)
   obtain⟨o6',ef⟩:=zeO (r:=.tup rl) (b:=bd) (d:=d0) (p:=w) (h0:=h0) (s:=r.reverse.map encP) ho (itself B w) F o6 (λx hx=>zbn wH x (uI x hx)) ∅;obtain⟨F',p5,p6,ew,n1,n2,n3⟩:=ih s1 F1 (some (encP (w,hid))) o6' hs1 hsum ∅ (zfa nF) u1;refine⟨F',p5,p6,?_,n1,n2,λx=>?_⟩
   .have hl:(0:Int)<(r.length:Int)+1:=by omega
    have t:zT (ρm (.tup rl) bd d0 h0.length o5 o6) (h0++[.tdc F,.lst (((w,hid)::r).reverse.map encP)])=some (true,h0++[.tdc F,.lst (((w,hid)::r).reverse.map encP)]):=by
     simp![zT,lenW,getL,at1,cmpI,hl]
    have q1:(sAsg (zau popM (eVar 4) []) (gNm 5)) (ρm (.tup rl) bd d0 h0.length o5 o6) (h0++[.tdc F,.lst (((w,hid)::r).reverse.map encP)])=some (.nx (ρm (.tup rl) bd d0 h0.length (some (encP (w,hid))) o6),h0++[.tdc F,.lst (r.reverse.map encP)]):=by
     simp![zau,getL,at1,popM,set1]
    have i0:∀h,ixW (encP (w,hid)) (.int 0) h=some (w,h):=λh=>ix0
    have i1':∀h,ixW (encP (w,hid)) (.int 1) h=some (.tup (uX hid),h):=λh=>ix1
    have m1:=e1 w (h0++[.tdc F,.lst (r.reverse.map encP)]) Bo.more d sh;have q2:(sFor (iSeq (uW G.f_marks_of_itself [eVar 1,eOp ixW (eVar 5) (eC (.int 0))])) (gNm 6) mBd) (ρm (.tup rl) bd d0 h0.length (some (encP (w,hid))) o6) (h0++[.tdc F,.lst (r.reverse.map encP)])=some (.nx (ρm (.tup rl) bd d0 h0.length (some (encP (w,hid))) o6'),h0++[.tdc F1,.lst (r.reverse.map encP)]):=by
     have it:(iSeq (uW G.f_marks_of_itself [eVar 1,eOp ixW (eVar 5) (eC (.int 0))])) (ρm (.tup rl) bd d0 h0.length (some (encP (w,hid))) o6) (h0++[.tdc F,.lst (r.reverse.map encP)])=some (.items ((itself B w).map tupS),h0++[.tdc F,.lst (r.reverse.map encP)]):=by
      generalize encP (w,hid)=pp at i0;generalize (itself B w).map tupS=Z at m1;generalize h0++[.tdc F,.lst (r.reverse.map encP)]=hh at m1;simp![iSeq,i0,m1,srcOf]
     unfold sFor;rw[it];exact ef
    have m2:=e2 w hid (h0++[.tdc F1,.lst (r.reverse.map encP)]) Bo.more d sh ho;have hc:∀l:List (W×List Str),(∀p∈l,okd rl k H (N+1) p.1)->l.length<=(l.map λp=>cnt (N+1) p.1).sum:=by
     intro l;induction l with
     | nil=>intro _; simp
     | cons p q ihq=>
      intro hq;have h1:=ihq λz hz=>hq z (zq _ hz)
      have h2:=zhf (n:=N) (w:=p.1);simp only[zH,vR,zG];omega
    have hc1:=hc s1 λp hp=>(hs1 p hp).2.1
    have hlen:s1.length=(u5 rl B w hid).length+r.length:=by show((u5 rl B w hid).reverse++r).length=_; simp
    have hcap:r.length+(u5 rl B w hid).length<=cap:=zF (show r.length+(u5 rl B w hid).length<=100000 by omega) (by decide);have es:s1.reverse.map encP=r.reverse.map encP++(u5 rl B w hid).map encP:=by
     show((u5 rl B w hid).reverse++r).reverse.map encP=_
     rw[List.reverse_append,List.reverse_reverse,vW]
    have q3:(zbp (zau zbf (eVar 4) [uW G.f_parts_with_hidden [eVar 0,eVar 1,eOp ixW (eVar 5) (eC (.int 0)),eOp ixW (eVar 5) (eC (.int 1))]])) (ρm (.tup rl) bd d0 h0.length (some (encP (w,hid))) o6') (h0++[.tdc F1,.lst (r.reverse.map encP)])=some (.nx (ρm (.tup rl) bd d0 h0.length (some (encP (w,hid))) o6'),h0++[.tdc F1,.lst (s1.reverse.map encP)]):=by
     rw[es];have ex:zbf (.ref (h0.length+1)) [.fls ((u5 rl B w hid).map encP)] (h0++[.tdc F1,.lst (r.reverse.map encP)])=some (.non,h0++[.tdc F1,.lst (r.reverse.map encP++(u5 rl B w hid).map encP)]):=by
      simp only[zbf,at1,zaD,getL];rw[zR (by simp only[zL,List.length_reverse]; exact hcap),set1]
     have gl:getL (h0++[.tdc F1,.lst (r.reverse.map encP)]) (.ref (h0.length+1))=some (r.reverse.map encP):=by simp only[getL,at1]
     generalize (r.reverse.map encP++(u5 rl B w hid).map encP)=R2 at ex ⊢;generalize (u5 rl B w hid).map encP=Y at m2 ex;generalize h0++[.tdc F1,.lst (r.reverse.map encP)]=hh at m2 ex gl ⊢;generalize encP (w,hid)=pp at i0 i1' ⊢;simp![zau,gl,i0,i1',m2,ex]
    have zb:zB G (ρm (.tup rl) bd d0 h0.length o5 o6) (h0++[.tdc F,.lst (((w,hid)::r).reverse.map encP)])=some (.nx (ρm (.tup rl) bd d0 h0.length (some (encP (w,hid))) o6'),h0++[.tdc F1,.lst (s1.reverse.map encP)]):=by
     unfold zB;rw[uY q1,uY q2,q3]
    unfold zaH;rw[t];simp only[zb];exact ew
   .rw[n3 x]
    have sn:=seen (rl:=rl) (B:=B) (n:=N) (w:=w) (hid:=hid) (x:=x);have pm:∀p∈u5 rl B w hid,mk rl B (N+1) p.1=mk rl B N p.1:=λp hp=>zeG (o.2 p.1 (zbw sh ho p hp).1) (qK _)
    rw[show(x∈F1↔_) from mem_addAll];constructor
    .rintro((h | h) | ⟨p,hp,h1,h2⟩)
     .exact .inl h
     .exact .inr ⟨(w,hid),zy,sn.mpr (.inl h)⟩
     .rcases zx.mp hp with z | z
      .have z:=xr.mp z
       rw[pm p z] at h1;exact .inr ⟨(w,hid),zy,sn.mpr (.inr ⟨p,z,h1,h2⟩)⟩
      .exact .inr ⟨p,zq _ z,h1,h2⟩
    .rintro(h | ⟨p,hp,h1,h2⟩)
     .exact .inl (.inl h)
     .rcases zf.mp hp with rfl | z
      .rcases sn.mp ⟨h1,h2⟩ with z | ⟨p,hp,h3,h4⟩
       .exact .inl (.inr z)
       .rw[<-pm p hp] at h3
        exact .inr ⟨p,zx.mpr (.inl (xr.mpr hp)),h3,h4⟩
      .exact .inr ⟨p,zx.mpr (.inr z),h1,h2⟩
def s_by{F:Fs}{rl:List W}{B:List (List (List Str))}{bd w:W}{h:MH}{k n:Nat}{H:List Str}(E0:Env0 rl B k)(hU:BodU B k H)(wH:wdH H)(lH:H.length<=20)(Bo:Bod h B bd)(d:dt 60 w=true)(o:okd rl k H n w)(hb:cnt n w<=100000) :
  ∃M:List (List Str),SUp M/\(∀x,x∈M↔x∈mk rl B n w)/\(∀x∈M,x∈uni H)/\M.length<=34/\(step (step (step (step F)))).f_marks_by [.tup rl,bd,w] h=some (.fls (M.map tupS),h):=by
 have e1:=λ(w:W) (h:MH) (Bo:Bod h B bd) (d:dt 60 w=true) (sh:Sh rl k H w)=>zlv (F:=step (step F)) (h:=h) Bo.gl Bo.nt Bo.ns (λks hk=>⟨E0.len ks hk,E0.ne ks hk⟩) E0.kB d sh
 have e2:=λ(w:W) (hid:List Str) (h:MH) (Bo:Bod h B bd) (d:dt 60 w=true) (sh:Sh rl k H w) (ho:HidOk hid)=>zqp (F:=F) (h:=h) E0 Bo d sh ho
 generalize step (step (step F))=G at e1 e2;obtain⟨F',p5,p6,ew,n1,n2,n3⟩:=zhY (G:=G) (d0:=w) (h0:=h) (N:=n) E0 hU wH lH Bo e1 e2 (cnt n w) [(w,[])] [] none none (λp hp=>by rw[kh.mp hp]; exact⟨d,o,qz,nofun⟩) (by simp) hb qz nofun;have lF:F'.length<=34:=zF (zcl n1 n2) (by rw[zeu]; omega);have ls:(u9 F').length=F'.length:=(zfq n1 λx=>Iff.rfl).symm;refine⟨u9 F',zaQ _,λx=>?_,λx hx=>n2 x (ssort_mem.mp hx),by omega,?_⟩
 .rw[ssort_mem,n3 x]
  simp[zeD]
 have wr:=zko ew;simp only[List.reverse_cons,xq,jh,zH,jw] at wr;have c0:(0:Nat)<=cap:=by decide
 have c1:(1:Nat)<=cap:=by decide
 have c2:(2:Nat)<=cap:=by decide
 refine zaE (h':=h++[.tdc F',.lst []]) ?_ (zcJ _) (qx _ _);have srt:zcF [.ref h.length] (h++[.tdc F',.lst []])=some (.fls ((u9 F').map tupS),h++[.tdc F',.lst []]):=by
  have e:(h++[.tdc F',.lst []])[h.length]?=some (.tdc F'):=by simp
  unfold zcF;simp only[e];rw[zR ⟨by omega,λx hx=>(zbn wH x (n2 x hx)).2⟩]
 have row:b_f_marks_by G [some (.tup rl),some bd,some w,none,none,none,none] h=some (.ret (.fls ((u9 F').map tupS)),h++[.tdc F',.lst []]):=by
  rw[zoM];rw[uY (ρ':=[some (.tup rl),some bd,some w,some (.ref h.length),none,none,none]) (h':=h++[.tdc []]) (by simp![zdL])];rw[uY (ρ':=ρm (.tup rl) bd w h.length none none) (h':=h++[.tdc [],.lst [encP (w,[])]]) (by simp![lstW,tupW,c0,c1,c2,encP,uX])];rw[uY wr];generalize (u9 F').map tupS=Z at srt;simp![srt]
 simp only[fnM,zG,kZ,jd,zH,jw,List.replicate,jE,jh];simp only[row]
def zf8{rl:List W}{B B':List (List (List Str))}{k:Nat}{H:List Str}{w:W}(hb:∀j,j<k->B[j]?=B'[j]?)(sh:Sh rl k H w):itself B w=itself B' w:=by
 cases sh with
 | call i a b hi ns hs body e lb=>
  have e1:∀B:List (List (List Str)),itself B (th "call" [.int (i:Int),.tup a,.tup b])=((B[i]?).getD []).filter za8:=λB=>by
   simp only[th,itself,show zak ["read","write","do"] (.str "call")=false by decide +kernel,show zak ["say","ask"] (.str "call")=false by decide +kernel,jP,jd,zQ,jt,jl]
  rw[e1,e1,hb i hi]
 | _=>first | rfl | (unfold itself th; simp only[show(("number":Str)=="call")=false by decide +kernel,show(("name":Str)=="call")=false by decide +kernel,show(("let":Str)=="call")=false by decide +kernel,show(("own":Str)=="call")=false by decide +kernel,show(("add":Str)=="call")=false by decide +kernel,show(("less":Str)=="call")=false by decide +kernel,show(("then":Str)=="call")=false by decide +kernel,show(("loop":Str)=="call")=false by decide +kernel,show(("if":Str)=="call")=false by decide +kernel,zQ,jt])
def zgP{rl:List W}{B B':List (List (List Str))}{k:Nat}{H:List Str}{w:W}(hb:∀j,j<k->B[j]?=B'[j]?)(sh:Sh rl k H w):zai rl B w=zai rl B' w:=by
 rcases sh.split with hp | ⟨i,a,b,ns,hs,body,rfl,hi,e⟩
 .rw[zaK hp,zaK hp]
 .unfold zai th
  simp only[jP,jd,jl,hb i hi]
def zgN{rl:List W}{B B':List (List (List Str))}{k:Nat}{H hid:List Str}{w:W}(hb:∀j,j<k->B[j]?=B'[j]?)(sh:Sh rl k H w):u5 rl B w hid=u5 rl B' w hid:=by
 have e:=zgP hb sh;unfold u5;split
 .split
  .rfl
  .rw[e]
 .rw[e]
theorem zct{rl:List W}{B B':List (List (List Str))}{k:Nat}{H:List Str}(hb:∀j,j<k->B[j]?=B'[j]?):∀{n:Nat} {w:W},okd rl k H n w->mk rl B n w=mk rl B' n w
 | 0,_,h=>by cases h
 | n+1,w,h=>by
  show itself B w++_=itself B' w++_
  rw[zf8 hb h.1,zgN hb h.1];congr 1
  have:∀p∈u5 rl B' w [],(λp:W×List Str=>(mk rl B n p.1).filter λk=>!hidB p.2 k) p=(λp:W×List Str=>(mk rl B' n p.1).filter λk=>!hidB p.2 k) p:=λp hp=>by
   have hp':=(zbw h.1 ⟨qz,nofun⟩ p hp).1;show(mk rl B n p.1).filter _=(mk rl B' n p.1).filter _
   rw[zct hb (h.2 p.1 hp')]
  rw[wQ,wQ,qm this]
structure BodsOk(rl:List W)(B:List (List (List Str))):Prop where
 len:B.length<=rl.length
 at_:∀(i:Nat) (ks:List (List Str)),B[i]?=some ks->∀(N hs:List Str) (body:W),rl[i]?=some (.tup [.tup (uX N),.tup (uX hs),body])->SUp ks/\ks.length<=34/\(∀x∈ks,x∈uni hs)/\∀x,x∈ks↔x∈mk rl B 3 body
def ziQ{H H':List Str}{x:List Str}(h:x∈uni H)(n:za8 x=true):x∈uni H':=by
 unfold uni at h ⊢;rcases zx.mp h with z | z
 .exact zx.mpr (.inl z)
 .obtain⟨v,_,rfl⟩:=zz.mp z
  simp[za8] at n
def BodsOk.env{rl:List W}{B:List (List (List Str))}(b:BodsOk rl B)(hr:RG rl):Env0 rl B B.length:=by
 have g:∀ks∈B,∃(N hs:List Str) (body:W),wd hs/\SUp ks/\ks.length<=34/\∀x∈ks,x∈uni hs:=λks hk=>by
  obtain⟨i,hi⟩:=vL.mp hk;have hl:i<rl.length:=zK (zE.mp hi).1 b.len;obtain⟨N,hs,body,e,_,_,_,w2,_⟩:=hr.g i hl;obtain⟨q1,q2,q3,_⟩:=b.at_ i ks hi N hs body e;exact⟨N,hs,body,w2,q1,q2,q3⟩
 refine⟨zF hr.l ∅,zu _,λks hk=>?_,λks hk x hx=>?_,λks hk x hx=>?_,λi ns hs body e x hx=>?_⟩
 .obtain⟨_,_,_,_,_,q,_⟩:=g ks hk; omega
 .obtain⟨_,hs,_,w2,_,_,q⟩:=g ks hk; exact(zbn w2 x (q x hx)).1
 .obtain⟨_,hs,_,w2,_,_,q⟩:=g ks hk; exact(zbn w2 x (q x hx)).2
 .have hl:=(zE.mp e).1
  obtain⟨N,hs',body',e',_,_,_,w2,_⟩:=hr.g i hl;rw[e] at e';injection e' with e';injection e' with e';injection e' with e1 e2;injection e2 with e2 e3;injection e2 with e2;have:=zb6 e2;subst this;exact zcy ⋯ (w2 x hx)
def BodsOk.uni{rl:List W}{B:List (List (List Str))}(b:BodsOk rl B)(hr:RG rl)(H:List Str):BodU B B.length H:=by
 intro i ks hi e x hx n;have hl:i<rl.length:=zK hi b.len;obtain⟨N,hs,body,e',_⟩:=hr.g i hl;exact ziQ ((b.at_ i ks e N hs body e').2.2.1 x hx) n
theorem zli(F:Fs):b_f_marks_of_bodies F=sSeq (sAsg (uW lstW []) (gNm 1)) (sSeq (sFor (iSeq (eVar 0)) (gNm 2) (bB F)) (sRet (eVar 1))):=rfl
def zlx{n:Nat}{w:W}(p:pl n w=true):(uZ w).length<=8/\∀q∈uZ w,pl n q=true:=by
 cases w with
 | tup l=>
  obtain⟨m,rfl,hl,hd⟩:=zcY p;unfold uZ;split
  .rename_i x r e
   cases e;split
   .split
    .rename_i y a b
     obtain⟨m1,rfl,la,da⟩:=zcY (hd (.tup a) (by simp));obtain⟨m2,e2,lb,db⟩:=zcY (hd (.tup b) (by simp));refine⟨by rw[zW]; omega,λq hq=>?_⟩;rcases zx.mp hq with z | z
     .exact zae (da q z) ∅
     .exact zae (db q z) ∅
    .exact⟨by simp,λq hq=>by simp at hq⟩
   .split
    .rename_i pp _
     refine⟨?_,λq hq=>?_⟩
     .rw[qI]; simp only[zG] at hl; omega
     .exact zae (hd q (zq _ (jz hq))) ∅
    .exact⟨by simp,λq hq=>by simp at hq⟩
  .exact⟨by simp,λq hq=>by simp at hq⟩
 | _=>exact⟨by simp[uZ],λq hq=>by simp[uZ] at hq⟩
theorem zio{m:Nat}:∀(n:Nat) (w:W),pl m w=true->cnt n w<=9 ^ n
 | 0,_,_=>by unfold cnt; omega
 | n+1,w,p=>by
  have hp:=zlx p;have:=zoj (n:=n) (B:=9 ^ n) (w:=w) (l:=8) hp.1 λq hq=>zio n q (hp.2 q hq)
  have h1:1<=9 ^ n:=uU (by simp);rw[vo];omega
def zjS{w:W}(p:pl 6 w=true):cnt 3 w<=100000:=zF (zio 3 w p) (by decide)
def at_of{α:Type}(h:List α)(o:α):(h++[o])[h.length]?=some o:=by simp
theorem zfi{G:Fs}{rl:List W}{h0:MH}(hr:RG rl)
  (e:∀(B:List (List (List Str))) (bd w:W) (h:MH) (k:Nat) (H:List Str),Env0 rl B k->BodU B k H->wdH H->H.length<=20->Bod h B bd->dt 60 w=true->okd rl k H 3 w->cnt 3 w<=100000->∃M:List (List Str),SUp M/\(∀x,x∈M↔x∈mk rl B 3 w)/\(∀x∈M,x∈uni H)/\M.length<=34/\G.f_marks_by [.tup rl,bd,w] h=some (.fls (M.map tupS),h)) :
  ∀(r:List W) (B:List (List (List Str))) (o2:Option W),rl.drop B.length=r->BodsOk rl B->∃B' o2',BodsOk rl B'/\B'.length=rl.length/\forL (gNm 2) (bB G) r [some (.tup rl),some (.ref h0.length),o2] (h0++[.lst (bw B)])=some (.nx [some (.tup rl),some (.ref h0.length),o2'],h0++[.lst (bw B')])
 | [],B,o2,hd,b=>by
  refine⟨B,o2,b,?_,by simp[forL]⟩;have:=List.drop_eq_nil_iff.mp hd;exact Nat.le_antisymm b.len this
 | rule::r,B,o2,hd,b=>by
  have hi:B.length<rl.length:=by
   rcases yZ B.length rl.length with z | z
   .exact z
   .rw[List.drop_eq_nil_of_le z] at hd; cases hd
  have hd':=qW hi;rw[hd] at hd';obtain⟨er,hr2⟩:=ut hd';obtain⟨N,hs,body,eb,l1,l2,w1,w2,pb,ob,nd⟩:=hr.g B.length hi;have erule:rule=.tup [.tup (uX N),.tup (uX hs),body]:=by
   rw[zO hi] at eb;rw[er]; exact zU eb
  have Bo:Bod (h0++[.lst (bw B)]) B (.ref h0.length):=⟨by simp[getL],λl=>nofun,λz=>nofun⟩;obtain⟨M,m1,m2,m3,m4,m5⟩:=e B (.ref h0.length) body (h0++[.lst (bw B)]) B.length hs (b.env hr) (b.uni hr hs) w2 ∅ Bo (zaG (zaL pb) ∅) ob (zjS pb);have bw':bw B++[.fls (M.map tupS)]=bw (B++[M]):=by unfold bw; simp
  have hlen:(B++[M]).length=B.length+1:=by simp
  have agree:∀j,j<B.length->B[j]?=(B++[M])[j]?:=λj hj=>by rw[zX hj]
  have b':BodsOk rl (B++[M]):=by
   refine⟨by rw[hlen]; omega,λi ks ei N' hs' body' e'=>?_⟩;rcases yZ i B.length with z | z
   .rw[zX z] at ei
    obtain⟨q1,q2,q3,q4⟩:=b.at_ i ks ei N' hs' body' e';refine⟨q1,q2,q3,λx=>?_⟩;obtain⟨N2,hs2,body2,e2,_,_,_,_,_,o2,_⟩:=hr.g i ∅;rw[e'] at e2;have:=zU e2;injection this with this;injection this with t1 t2;injection t2 with t2 t3;injection t3 with t3;subst t3;rw[q4 x,zct (λj hj=>agree j ∅) o2]
   .have zi:i=B.length:=by
     have:=(zE.mp ei).1;rw[hlen] at this; omega
    subst zi;rw[eb] at e';have:=zU e';injection this with this;injection this with t1 t2;injection t2 with t2 t3;injection t2 with t2;injection t3 with t3;subst t3;have:=zb6 t2;subst this;have ek:ks=M:=by simpa using ei.symm
    subst ek;refine⟨m1,m4,m3,λx=>?_⟩;rw[m2 x,zct agree ob]
  obtain⟨B',o2',g1,g2,g3⟩:=zfi (h0:=h0) hr e r (B++[M]) (some rule) (by rw[hlen]; exact hr2.symm) b';refine⟨B',o2',g1,g2,?_⟩;have hg:gNm 2 rule [some (.tup rl),some (.ref h0.length),o2] (h0++[.lst (bw B)])=some ([some (.tup rl),some (.ref h0.length),some rule],h0++[.lst (bw B)]):=by simp[gNm]
  have lB:(bw B).length<cap:=by
   have:(bw B).length=B.length:=by unfold bw; simp
   rw[this];have:=hr.l;exact zK (show B.length<5 by omega) (by decide)
  have ap:zaT (.ref h0.length) [.fls (M.map tupS)] (h0++[.lst (bw B)])=some (.non,h0++[.lst (bw (B++[M]))]):=by
   simp only[zaT,at_of];rw[zR lB,bw'];simp
  have gl:getL (h0++[.lst (bw B)]) (.ref h0.length)=some (bw B):=by simp only[getL,at_of]
  have ib:∀h,ixW rule (.int 2) h=some (body,h):=λh=>by rw[erule]; exact ix2
  have st:bB G [some (.tup rl),some (.ref h0.length),some rule] (h0++[.lst (bw B)])=some (.nx [some (.tup rl),some (.ref h0.length),some rule],h0++[.lst (bw (B++[M]))]):=by
   generalize h0++[.lst (bw (B++[M]))]=h2 at ap ⊢;generalize M.map tupS=Z at m5 ap;generalize h0++[.lst (bw B)]=h1 at m5 ap gl ⊢;simp![bB,zau,gl,ib,m5,ap]
  unfold forL;rw[hg];simp only[st];exact g3
def zfT{F:Fs}{rl:List W}(hr:RG rl)(h:MH):∃B,BodsOk rl B/\B.length=rl.length/\(step (step (step (step (step F))))).f_marks_of_bodies [.tup rl] h=some (.fls (bw B),h):=by
 have e:=λ(B:List (List (List Str))) (bd w:W) (h:MH) (k:Nat) (H:List Str) (a1:Env0 rl B k) (a2:BodU B k H) (a3:wdH H) (a4:H.length<=20) (a5:Bod h B bd) (a6:dt 60 w=true) (a7:okd rl k H 3 w) (a8:cnt 3 w<=100000)=>s_by (F:=F) a1 a2 a3 a4 a5 a6 a7 a8
 generalize step (step (step (step F)))=G at e;obtain⟨B',o2',b1,b2,b3⟩:=zfi (h0:=h) hr e rl [] none rfl ⟨j8 _,λi ks ei=>by simp at ei⟩;refine⟨B',b1,b2,?_⟩;have c0:(0:Nat)<=cap:=by decide
 have row:b_f_marks_of_bodies G [some (.tup rl),none,none] h=some (.ret (.ref h.length),h++[.lst (bw B')]):=by
  rw[zli];rw[uY (ρ':=[some (.tup rl),some (.ref h.length),none]) (h':=h++[.lst []]) (by simp![lstW,c0])];have fr:(sFor (iSeq (eVar 0)) (gNm 2) (bB G)) [some (.tup rl),some (.ref h.length),none] (h++[.lst []])=some (.nx [some (.tup rl),some (.ref h.length),o2'],h++[.lst (bw B')]):=by
   unfold sFor;have it:iSeq (eVar 0) [some (.tup rl),some (.ref h.length),none] (h++[.lst []])=some (.items rl,h++[.lst []]):=by simp![iSeq,srcOf]
   rw[it];exact b3
  rw[uY fr];simp![]
 refine zoH (h':=h++[.lst (bw B')]) (n:=h.length) ?_ (qx _ _) (zu _) (at_of _ _) ?_
 .simp only[fnM,zG,kZ,jd,zH,jw,List.replicate,jE,jh]
  simp only[row]
 .refine zas λw hw=>?_
  unfold bw at hw;obtain⟨ks,_,rfl⟩:=zz.mp hw;exact zcJ ks
def zfl{rl:List W}{B B':List (List (List Str))}(hr:RG rl)(b:BodsOk rl B)(b':BodsOk rl B')(hl:B.length=B'.length):B=B':=by
 have key:∀i:Nat,B[i]?=B'[i]?:=by
  intro i;induction i using Nat.strongRecOn with
  | ind i ih=>
   rcases yZ i B.length with z | z
   .obtain⟨N,hs,body,e,_,_,_,_,_,o,_⟩:=hr.g i (zK z b.len)
    have q:=zO z;have q':=zO (show i<B'.length by omega);obtain⟨u1,_,_,m1⟩:=b.at_ i _ q N hs body e;obtain⟨u2,_,_,m2⟩:=b'.at_ i _ q' N hs body e;rw[q,q'];congr 1
    refine zbe u1 u2 λx=>?_
    rw[m1 x,m2 x,zct (λj hj=>ih j hj) o]
   .rw[j4 z,j4 ∅]
 exact List.ext_getElem? key
def zjE{F:Fs}{rl:List W}(hr:RG rl):∃B,BodsOk rl B/\B.length=rl.length/\∀h,(step (step (step (step (step F))))).f_marks_of_bodies [.tup rl] h=some (.fls (bw B),h):=by
 obtain⟨B,b1,b2,b3⟩:=zfT (F:=F) hr [];refine⟨B,b1,b2,λh=>?_⟩;obtain⟨B',c1,c2,c3⟩:=zfT (F:=F) hr h;have:=zfl hr b1 c1 ∅;subst this;exact c3
def ze5{F:Fs}{rl:List W}{B:List (List (List Str))}{w:W}(hr:RG rl)(b:BodsOk rl B)(bl:B.length=rl.length)(eb:∀h,(step (step (step (step (step F))))).f_marks_of_bodies [.tup rl] h=some (.fls (bw B),h)){n m:Nat}(hn:n<=5)(hm:m<=60)(p:pl m w=true)(o:okd rl rl.length [] n w) :
  ∃M:List (List Str),SUp M/\(∀x,x∈M↔x∈mk rl B n w)/\(∀x∈M,x∈uni [])/\M.length<=34/\∀h,(step (step (step (step (step (step F)))))).f_touches [.tup rl,w] h=some (.fls (M.map tupS),h):=by
 have Bo:∀h,Bod h B (.fls (bw B)):=λh=>⟨rfl,λl=>nofun,λz=>nofun⟩
 have E0:=b.env hr;have hU:=b.uni hr [];rw[bl] at E0 hU;have by_:=λh=>s_by (F:=step F) E0 hU (λv hv=>by simp at hv) (by simp) (Bo h) (zaG (zaL p) hm) o (zF (zio n w p) (zF (qD ∅ hn) (by decide)))
 obtain⟨M,m1,m2,m3,m4,_⟩:=by_ [];refine⟨M,m1,m2,m3,m4,λh=>?_⟩;obtain⟨M',n1,n2,n3,n4,n5⟩:=by_ h;have:M=M':=zbe m1 n1 λx=>(m2 x).trans (n2 x).symm
 subst this;generalize step (step (step (step (step F))))=G at eb n5;refine zaE (h':=h) ?_ (zcJ _) (jf _);generalize M.map tupS=Z at n5;simp![b_f_touches,eb,n5]
noncomputable def hd(k:List Str):Str:=k.headD ""
noncomputable def sec(k:List Str):Str:=k.getD 1 ""
noncomputable def shv(word:Str)(M:List (List Str)):List Str:=(M.filter λk=>hd k==word).map sec
def zeK{H:List Str}{k:List Str}(h:k∈uni H):(∃a v,k=[a,v])\/k=[("say":Str)]\/k=[("ask":Str)]:=by
 unfold uni at h;rcases zx.mp h with h | h
 .rcases zx.mp h with h | h
  .obtain⟨s,_,hk⟩:=qY.mp h
   simp only[zf,zm,zV] at hk;rcases hk with rfl | rfl<;>exact .inl ⟨_,_,rfl⟩
  .simp only[zf,zm,zV] at h
   rcases h with rfl | rfl
   .exact .inr (.inl rfl)
   .exact .inr (.inr rfl)
 .obtain⟨v,_,rfl⟩:=zz.mp h
  exact .inl ⟨_,_,rfl⟩
section
variable{G:Fs}{M:List (List Str)}{h:MH}{H:List Str}
def zpQ{k:List Str}(hk:k∈uni H)(h:MH):ixW (tupS k) (.int 0) h=some (.str (hd k),h):=by
 rcases zeK hk with ⟨a,v,rfl⟩ | rfl | rfl<;>exact ix0
def zkX{mi:MI}{ks:List Nat}{ew:ME}{ρ:En}{word:Str}(uM:∀k∈M,k∈uni H)(lM:M.length<=100)(hw:word="read" \/ word="write")(hm:mi ρ h=some (.items (M.map tupS),h))(he:∀(w:W) (H':MH),ew (some w::ks.map λk=>(ρ[k]?).join) H'=some (.str word,H')) :
  zaq mi 1 ks (gNm 0) (tVal (eOp (eqW false) (eOp ixW (eVar 0) (eC (.int 0))) ew)) (eOp ixW (eVar 0) (eC (.int 1))) ρ h=some (.fls (uX (shv word M)),h):=by
 refine(zdg (l:=M.map tupS) (λz=>match tkOf z with | some k=>hd k==word | none=>false) (λz=>match tkOf z with | some k=>.str (sec k) | none=>.non) hm ?_ ?_ ?_ ?_).trans ?_
 .intro z hz H'
  obtain⟨k,hk,rfl⟩:=zz.mp hz;have i0:=zpQ (uM k hk) H';have e1:=he (tupS k) H';simp only[zaX];generalize tupS k=K at i0 e1 ⊢;generalize hd k=q at i0 ⊢;generalize (ks.map λk=>(ρ[k]?).join)=caps at e1 ⊢;simp[tVal,eOp,bnd,eVar,eC,i0,e1,eqW,zaz,asB]
 .intro z hz hp H'
  obtain⟨k,hk,rfl⟩:=zz.mp hz;simp only[zaX] at hp ⊢;rcases zeK (uM k hk) with ⟨a,v,rfl⟩ | rfl | rfl
  .have:ixW (tupS [a,v]) (.int 1) H'=some (.str v,H'):=ix1
   generalize tupS [a,v]=K at this ⊢;simp[eOp,bnd,eVar,eC,this,sec]
  .rcases hw with rfl | rfl<;>exact absurd hp ⋯
  .rcases hw with rfl | rfl<;>exact absurd hp ⋯
 .intro z hz _
  obtain⟨k,hk,rfl⟩:=zz.mp hz;simp only[zaX];unfold low; rfl
 .rw[zL]; exact zF lM (by decide)
 .have fe:((λz=>match tkOf z with | some k=>hd k==word | none=>false)∘tupS)=λk=>hd k==word:=funext λk=>by simp only[Function.comp,zaX]
  rw[xN,fe,kY];unfold uX shv;rw[kY];have fe2:((λz=>match tkOf z with | some k=>W.str (sec k) | none=>.non)∘tupS)=(W.str∘sec):=funext λk=>by simp only[Function.comp,zaX]
  rw[fe2]
theorem zjl{F:Fs}{word:Str}(uM:∀k∈M,k∈uni H)(lM:M.length<=100)(hw:word="read" \/ word="write"):(step F).f_shelves_of [.fls (M.map tupS),.str word] h=some (.fls (uX (shv word M)),h):=by
 refine zaE (h':=h) ?_ ?_ (jf _)
 .have cm:=zkX (h:=h) (mi:=iSeq (eVar 0)) (ks:=[1]) (ew:=eVar 1) (ρ:=[some (.fls (M.map tupS)),some (.str word)]) uM lM hw (by simp![iSeq,srcOf]) (λw H'=>rfl)
  generalize M.map tupS=Z at cm ⊢;generalize uX (shv word M)=Y at cm ⊢;simp![b_f_shelves_of,cm]
 .unfold low
  exact zas λw hw=>by
   obtain⟨x,_,rfl⟩:=zz.mp hw;unfold low; rfl
end
theorem zkK{m:Nat}(l:List Str):low m (.fls (uX l))=true:=by
 unfold low;exact zas λw hw=>by
  obtain⟨x,_,rfl⟩:=zz.mp hw;unfold low; rfl
noncomputable def TOk(G:Fs)(rl:List W)(w:W)(M:List (List Str)):Prop:=∀h,G.f_touches [.tup rl,w] h=some (.fls (M.map tupS),h)
def zgB{F:Fs}{rl:List W}{w:W}{M:List (List Str)}{H:List Str}(t:TOk (step F) rl w M)(uM:∀k∈M,k∈uni H)(lM:M.length<=100)(h:MH):(step (step F)).f_writes_of [.tup rl,w] h=some (.fls (uX (shv "write" M)),h):=by
 have e2:=zjl (F:=F) (h:=h) (word:="write") uM lM (.inr rfl);have t:=t h;generalize step F=G at t e2;refine zaE (h':=h) ?_ (zkK _) (jf _);generalize uX (shv "write" M)=Y at e2 ⊢;generalize M.map tupS=Z at t e2;simp![b_f_writes_of,t,e2]
noncomputable def zbb(xs:List Str):List Str:=(u9 (xs.map ([·]))).map (·.headD "")
def zlB{xs:List Str}{k:List Str}(h:k∈u9 (xs.map ([·]))):∃x∈xs,k=[x]:=by
 obtain⟨x,hx,rfl⟩:=zz.mp (ssort_mem.mp h);exact⟨x,hx,rfl⟩
def ziK{xs ys:List Str}(h:∀x,x∈xs↔x∈ys):zbb xs=zbb ys:=by
 unfold zbb;rw[zea (l:=xs.map ([·])) (m:=ys.map ([·]))];intro k;simp only[zz,h]
theorem zlR{xs:List Str}:(u9 (xs.map ([·]))).map (encK true)=uX (zbb xs):=by
 unfold zbb uX;rw[kY];rfl
def zfK(xs:List Str):strsOf (uX xs)=some xs:=zbh xs
theorem zjX(x:Str)(xs:List Str):zb7 (uX (x::xs))=some (true,(x::xs).map ([·])):=by
 have e:zdj (uX (x::xs))=none:=rfl;unfold zb7;rw[e,zfK];rfl
def zi9{xs U:List Str}(u:∀x∈xs,x∈U):(u9 (xs.map ([·]))).length<=U.length:=by
 have:=zcl (l:=u9 (xs.map ([·]))) (m:=U.map ([·])) (zb3 (zaQ _)) λk hk=>by
  obtain⟨x,hx,rfl⟩:=zlB hk;exact zz.mpr ⟨x,u x hx,rfl⟩
 simpa using this
def zfU{xs U:List Str}{h:MH}(l:xs.length<890)(u:∀x∈xs,x∈U)(lu:U.length<64):zaO (.fls (uX xs)) h=some (.fls (uX (zbb xs)),h):=by
 have:=zi9 u;unfold zaO;simp only[zaD,getL,qX];cases xs with
 | nil=>rfl
 | cons x xs=>
  rw[zjX];simp only[qX];rw[zR ⟨by simpa using l,by omega,λk hk=>by obtain⟨y,_,rfl⟩:=zz.mp hk; simp⟩,zlR]
structure Mks(M:List (List Str)):Prop where
 u:∀k∈M,k∈uni []
 l:M.length<=100
 nd:M.Nodup
def nilH:wdH []:=λv hv=>by simp at hv
def Mks.good{M:List (List Str)}(m:Mks M){k:List Str}(h:k∈M):zaF k=true:=(zbn nilH k (m.u k h)).1
def zdf{k:List Str}(h:k∈uni []):(∃v∈six,k=[("read":Str),v])\/(∃v∈six,k=[("write":Str),v])\/k=[("say":Str)]\/k=[("ask":Str)]:=by
 unfold uni at h;rcases zx.mp h with h | h
 .rcases zx.mp h with h | h
  .obtain⟨s,hs,hk⟩:=qY.mp h
   simp only[zf,zm,zV] at hk;rcases hk with rfl | rfl
   .exact .inl ⟨s,hs,rfl⟩
   .exact .inr (.inl ⟨s,hs,rfl⟩)
  .simp only[zf,zm,zV] at h
   exact .inr (.inr h)
 .simp at h
def zgL{rl:List W}(hr:RG rl):∃B,BodsOk rl B/\B.length=rl.length/\∀F h,(step (step (step (step (step F))))).f_marks_of_bodies [.tup rl] h=some (.fls (bw B),h):=by
 obtain⟨B,b1,b2,_⟩:=zjE (F:=Fs.bot) hr;refine⟨B,b1,b2,λF h=>?_⟩;obtain⟨B',c1,c2,c3⟩:=zjE (F:=F) hr;have:=zfl hr b1 c1 ∅;subst this;exact c3 h
structure Tch(rl:List W)(B:List (List (List Str)))(n:Nat)(w:W)(M:List (List Str)):Prop where
 up:SUp M
 me:∀x,x∈M↔x∈mk rl B n w
 m:Mks M
 t:∀F,TOk (step (step (step (step (step (step F)))))) rl w M
def tch{rl:List W}{B:List (List (List Str))}{w:W}{n m:Nat}(hr:RG rl)(b:BodsOk rl B)(bl:B.length=rl.length)(eb:∀F h,(step (step (step (step (step F))))).f_marks_of_bodies [.tup rl] h=some (.fls (bw B),h))(hn:n<=5)(hm:m<=60)(p:pl m w=true)(o:okd rl rl.length [] n w):∃M,Tch rl B n w M:=by
 obtain⟨M,m1,m2,m3,m4,_⟩:=ze5 (F:=Fs.bot) hr b bl (eb _) hn hm p o;refine⟨M,m1,m2,⟨m3,by omega,zb3 m1⟩,λF=>?_⟩;obtain⟨M',n1,n2,_,_,n5⟩:=ze5 (F:=F) hr b bl (eb _) hn hm p o;have:M=M':=zbe m1 n1 λx=>(m2 x).trans (n2 x).symm
 subst this;exact n5
def zaR{rl:List W}{B:List (List (List Str))}{n:Nat}{x:Str}{r:List W}(hx:(x==("own":Str))=false)(pn:Pn (th x r)){y:List Str}:y∈mk rl B (n+1) (th x r)↔y∈itself B (th x r)\/∃p∈uZ (th x r),y∈mk rl B n p:=by
 rw[mem_mk,zaY hx,zaK pn];constructor
 .rintro(h | ⟨p,hp,h,_⟩)
  .exact .inl h
  .obtain⟨q,q1,rfl⟩:=zz.mp hp
   exact .inr ⟨q,q1,h⟩
 .rintro(h | ⟨p,hp,h⟩)
  .exact .inl h
  .exact .inr ⟨(p,[]),zz.mpr ⟨p,hp,rfl⟩,h,rfl⟩
theorem Sh.k{rl:List W}{k k':Nat}{H:List Str}{w:W}(hk:k<=k')(h:Sh rl k H w):Sh rl k' H w:=by
 cases h with
 | call i a b hi ns hs body e lb=>exact .call i a b ∅ ns hs body e lb
 | _=>constructor<;>assumption
theorem zmi{rl:List W}{k k':Nat}{H:List Str}(hk:k<=k'):∀{n:Nat} {w:W},okd rl k H n w->okd rl k' H n w
 | 0,_,h=>by cases h
 | n+1,w,h=>⟨h.1.k hk,λp hp=>zmi hk (h.2 p hp)⟩
def Sh.z{rl rl':List W}{H:List Str}{w:W}(h:Sh rl 0 H w):Sh rl' 0 H w:=by
 cases h with
 | call i a b hi ns hs body e lb=>exact absurd hi (xM _)
 | _=>constructor<;>assumption
theorem zme{rl rl':List W}{H:List Str}:∀{n:Nat} {w:W},okd rl 0 H n w->okd rl' 0 H n w
 | 0,_,h=>by cases h
 | n+1,w,h=>⟨h.1.z,λp hp=>zme (h.2 p hp)⟩
theorem RG.take{rl:List W}(h:RG rl):RG (rl.take 1):=by
 refine⟨by rw[qu]; omega,λi hi=>?_⟩;rw[qu] at hi;obtain rfl:i=0:=by omega
 obtain⟨N,hs,body,e,l1,l2,w1,w2,p,o,nd⟩:=h.g 0 ∅;exact⟨N,hs,body,by rw[uf ∅]; exact e,l1,l2,w1,w2,p,zme o,nd⟩
def cut1(l:List W):cutW l none (some 1)=l.take 1:=by
 cases l with
 | nil=>simp[cutW]
 | cons x r=>exact zkj (k:=1) (by simp)
theorem zcQ{rl:List W}{k:Nat}{x:Str}{a b:W}{n:Nat}(hx:x="then" \/ x="add" \/ x="less" \/ x="loop")(ha:okd rl k [] n a)(hb:okd rl k [] n b):okd rl k [] (n+1) (th x [a,b])/\∀(B:List (List (List Str))) (y:List Str),y∈mk rl B (n+1) (th x [a,b])↔y∈mk rl B n a\/y∈mk rl B n b:=by
 obtain⟨la,rfl⟩:=ha.tup;obtain⟨lb,rfl⟩:=hb.tup;have all:∀q∈[W.tup la,W.tup lb],okd rl k [] n q:=λq hq=>by
  simp only[zf,zm,zV] at hq;rcases hq with rfl | rfl<;>assumption
 have fin:∀{x:Str},Sh rl k [] (th x [.tup la,.tup lb])->(x==("call":Str))=false->(x==("own":Str))=false->fm x=some (3,1)->(∀B,itself B (th x [.tup la,.tup lb])=[])->okd rl k [] (n+1) (th x [.tup la,.tup lb])/\∀(B:List (List (List Str))) (y:List Str),y∈mk rl B (n+1) (th x [.tup la,.tup lb])↔y∈mk rl B n (.tup la)\/y∈mk rl B n (.tup lb):=by
  intro x sh hc ho hf hi;have pn:Pn (th x [.tup la,.tup lb]):=zay x (3,1) hc hf _ (by simp[tyB]);have pe:uZ (th x [.tup la,.tup lb])=[.tup la,.tup lb]:=by simp[uZ,hc,hf]
  refine⟨⟨sh,λq hq=>all q (by rw[pe] at hq; exact hq)⟩,λB y=>?_⟩;rw[zaR ho pn,hi,pe];simp
 rcases hx with rfl | rfl | rfl | rfl
 .exact fin (.thenn la lb) ⋯ ⋯ ⋯ λB=>rfl
 .exact fin (.add la lb) ⋯ ⋯ ⋯ λB=>rfl
 .exact fin (.less la lb) ⋯ ⋯ ⋯ λB=>rfl
 .exact fin (.loop la lb) ⋯ ⋯ ⋯ λB=>rfl
def zp0{rl:List W}{k:Nat}{a b c:W}{n:Nat}(ha:okd rl k [] n a)(hb:okd rl k [] n b)(hc:okd rl k [] n c):okd rl k [] (n+1) (th "if" [a,b,c])/\∀(B:List (List (List Str))) (y:List Str),y∈mk rl B (n+1) (th "if" [a,b,c])↔y∈mk rl B n a\/y∈mk rl B n b\/y∈mk rl B n c:=by
 obtain⟨la,rfl⟩:=ha.tup;obtain⟨lb,rfl⟩:=hb.tup;obtain⟨lc,rfl⟩:=hc.tup;have c1:(("if":Str)==("call":Str))=false:=by decide +kernel
 have f1:fm "if" = some (4,1):=by decide +kernel
 have pn:Pn (th "if" [.tup la,.tup lb,.tup lc]):=zay _ (4,1) c1 f1 _ (by simp[tyB]);have pe:uZ (th "if" [.tup la,.tup lb,.tup lc])=[.tup la,.tup lb,.tup lc]:=by simp[uZ,c1,f1]
 refine⟨⟨.iff la lb lc,λq hq=>?_⟩,λB y=>?_⟩
 .rw[pe] at hq
  simp only[zf,zm,zV] at hq;rcases hq with rfl | rfl | rfl<;>assumption
 .rw[zaR ⋯ pn,show itself B (th "if" [.tup la,.tup lb,.tup lc])=[] from rfl,pe]
  simp
def zgU{rl:List W}{k n:Nat}(i:Int):okd rl k [] (n+1) (th "number" [.int i])/\∀(B:List (List (List Str))) (y:List Str),y∉mk rl B (n+1) (th "number" [.int i]):=by
 have c1:(("number":Str)==("call":Str))=false:=by decide +kernel
 have f1:fm "number" = some (2,2):=by decide +kernel
 have pn:Pn (th "number" [.int i]):=zay _ (2,2) c1 f1 _ (by simp[tyB]);have pe:uZ (th "number" [.int i])=[]:=by simp[uZ,c1,f1]
 refine⟨⟨.number i,λq hq=>?_⟩,λB y=>?_⟩
 .rw[pe] at hq; cases hq
 .rw[zaR ⋯ pn,show itself B (th "number" [.int i])=[] from rfl,pe]
  simp
def zhi{rl:List W}{B:List (List (List Str))}{i:Nat}{f:Str}{body b:W}{n:Nat}(e:rl[i]?=some (.tup [.tup [],.tup (uX [f]),body]))(hb:okd rl rl.length [] n b):okd rl rl.length [] (n+1) (th "call" [.int i,.tup [],.tup [b]])/\∀y,y∈mk rl B (n+1) (th "call" [.int i,.tup [],.tup [b]])↔(y∈(B[i]?).getD []/\za8 y=true)\/([("do":Str),f]∈(B[i]?).getD []/\y∈mk rl B n b):=by
 have hi:i<rl.length:=(zE.mp e).1;refine⟨⟨.call i [] [b] hi [] [f] body e rfl,λq hq=>?_⟩,λy=>?_⟩
 .rw[zaw] at hq
  simp at hq;rw[hq]; exact hb
 .rw[mem_mk]
  have e1:itself B (th "call" [.int i,.tup [],.tup [b]])=((B[i]?).getD []).filter za8:=rfl;have e2:u5 rl B (th "call" [.int i,.tup [],.tup [b]]) []=(zaj ((B[i]?).getD []) [f] [b]).map λp=>(p,[]):=by
   have e3:zai rl B (th "call" [.int i,.tup [],.tup [b]])=zaj ((B[i]?).getD []) [f] [b]:=by
    have s1:strsOf (uX [f])=some [f]:=zbh [f];simp[zai,e,s1]
   show(zai rl B _).map _=_
   rw[e3]
  rw[e1,e2];have e4:zaj ((B[i]?).getD []) [f] [b]=if [("do":Str),f]∈(B[i]?).getD [] then [b] else []:=by
   unfold zaj;by_cases q:[("do":Str),f]∈(B[i]?).getD []
   .simp[q]
   .simp[q]
  rw[e4,jm];constructor
  .rintro(h | ⟨p,hp,h,_⟩)
   .exact .inl h
   .by_cases q:[("do":Str),f]∈(B[i]?).getD []
    .rw[zR q] at hp
     simp at hp;rw[hp] at h;exact .inr ⟨q,h⟩
    .rw[zZ q] at hp; cases hp
  .rintro(h | ⟨q,h⟩)
   .exact .inl h
   .rw[zR q]
    exact .inr ⟨(b,[]),by simp,h,rfl⟩
def shOk(O:List Str)(x:List Str):Prop:=∀a v:Str,x=[a,v]->a="read" \/ a="write"->v∈shel O
def shel_mem{O:List Str}{v:Str}:v∈shel O↔v∈zcw\/v∈O:=by
 unfold shel zcw;simp only[zx];constructor
 .rintro(h | h | h | h)
  .exact .inl h
  .exact .inr h
  .exact .inr h
  .exact .inr h
 .rintro(h | h)
  .exact .inl h
  .exact .inr (.inl h)
def zhL{rl:List W}{k:Nat}{H:List Str}{w:W}(h:Sh rl k H w):(∃x r,w=th x r/\(x==("own":Str))=false)\/∃v a b,w=th "own" [.str v,.tup a,.tup b]:=by
 cases h with
 | own v hv a b=>exact .inr ⟨v,a,b,rfl⟩
 | _=>exact .inl ⟨_,_,rfl,by decide +kernel⟩
def zjs{rl:List W}{B:List (List (List Str))}{k:Nat}{H O:List Str}{w:W}(sh:Sh rl k H w){p:W×List Str}(hp:p∈u5 rl B w []):((p.1,O)∈scPs w O/\p.2=[])\/∃v,(p.1,O++[v])∈scPs w O/\p.2=[v]:=by
 have ci:=ze0 (B:=B) sh;rcases zhL sh with ⟨x,r,rfl,hx⟩ | ⟨v,a,b,rfl⟩
 .rw[zaY hx] at hp
  obtain⟨q,q1,rfl⟩:=zz.mp hp;rw[zex hx];exact .inl ⟨zz.mpr ⟨q,ci q q1,rfl⟩,rfl⟩
 .have e1:u5 rl B (th "own" [.str v,.tup a,.tup b]) []=[(.tup a,[]),(.tup b,[v])]:=rfl
  have e2:scPs (th "own" [.str v,.tup a,.tup b]) O=[(.tup a,O),(.tup b,O++[v])]:=rfl;rw[e1] at hp;rw[e2];simp only[zf,zm,zV] at hp;rcases hp with rfl | rfl
  .exact .inl ⟨by simp,rfl⟩
  .exact .inr ⟨v,by simp,rfl⟩
theorem zcG{rl:List W}{B:List (List (List Str))}{k:Nat}{H:List Str}(hB:∀j,j<k->∀ks,B[j]?=some ks->∀x∈ks,shOk [] x):∀{n:Nat} {O:List Str} {w:W},okd rl k H n w->scp n O w->∀x∈mk rl B n w,shOk O x
 | 0,_,_,h,_,_,_=>by cases h
 | n+1,O,w,h,sc,x,hx=>by
  rcases mem_mk.mp hx with z | ⟨p,hp,z,hid⟩
  .intro a v e ha
   have sh:=h.1;have s1:=sc.1;clear hx h sc;cases sh with
   | read u hu=>
    have z:x∈[[("read":Str),u]]:=z;rw[kh.mp z] at e;cases e;exact s1 "read" v [] rfl (.inl rfl)
   | write u hu b=>
    have z:x∈[[("write":Str),u]]:=z;rw[kh.mp z] at e;cases e;exact s1 "write" v _ rfl (.inr rfl)
   | doo u hu=>
    have z:x∈[[("do":Str),u]]:=z;rw[kh.mp z] at e;cases e;rcases ha with ha | ha<;>exact absurd ha ⋯
   | say b=>
    have z:x∈[[("say":Str)]]:=z;rw[kh.mp z] at e;cases e
   | ask=>
    have z:x∈[[("ask":Str)]]:=z;rw[kh.mp z] at e;cases e
   | call i b c hi ns hs body eb lb=>
    have z:x∈((B[i]?).getD []).filter za8:=z;have z:=(jm.mp z).1;cases q:B[i]? with
    | none=>rw[q] at z; cases z
    | some ks=>
     rw[q] at z;rcases shel_mem.mp (hB i hi ks q x z a v e ha) with q | q
     .exact shel_mem.mpr (.inl q)
     .cases q
   | _=>exact absurd z (by intro z; cases (show x∈([]:List (List Str)) from z))
  .intro a v e ha
   have hpi:=(zbw h.1 ⟨qz,nofun⟩ p hp).1;rcases zjs (O:=O) h.1 hp with ⟨q1,q2⟩ | ⟨u,q1,q2⟩
   .exact zcG hB (h.2 _ hpi) (sc.2 (p.1,O) q1) x z a v e ha
   .have:=zcG hB (h.2 _ hpi) (sc.2 (p.1,O++[u]) q1) x z a v e ha
    rcases shel_mem.mp this with t | t
    .exact shel_mem.mpr (.inl t)
    .rcases zx.mp t with t | t
     .exact shel_mem.mpr (.inr t)
     .rw[kh.mp t] at e
      rw[q2,e] at hid;exact absurd hid (by simp[hidB,za1])
def ziz{rl:List W}{B:List (List (List Str))}(hr:RG rl)(b:BodsOk rl B):∀(i:Nat) (ks:List (List Str)),B[i]?=some ks->∀x∈ks,shOk [] x:=by
 intro i;induction i using Nat.strongRecOn with
 | ind i ih=>
  intro ks e x hx;have hi:i<rl.length:=zK (zE.mp e).1 b.len;obtain⟨N,hs,body,eb,_,_,_,_,_,o,_,sc⟩:=hr.g i hi;have m:=(b.at_ i ks e N hs body eb).2.2.2;exact zcG (λj hj ks' e'=>ih j hj ks' e') o sc x ((m x).mp hx)
def zgc:∀v∈zcw,v≠("p":Str)/\v≠"q":=by decide +kernel
def zoD{rl:List W}{B:List (List (List Str))}{w:W}{n:Nat}{M:List (List Str)}(hr:RG rl)(b:BodsOk rl B)(o:okd rl rl.length [] n w)(sc:scp n [] w)(t:Tch rl B n w M){v:Str}(hv:v="p" \/ v="q"):∀x∈mk rl B n w,hidB [v] x=false:=by
 intro x hx;have so:=zcG (λj _=>ziz hr b j) o sc x hx;have key:za1 x≠v->hidB [v] x=false:=λh=>by
  unfold hidB;simp only[vB,List.any_nil,yH,jn];exactλe=>h e.symm
 refine key ?_;rcases zdf (t.m.u x ((t.me x).mpr hx)) with ⟨u,hu,rfl⟩ | ⟨u,hu,rfl⟩ | rfl | rfl
 .rcases shel_mem.mp (so "read" u rfl (.inl rfl)) with q | q
  .intro e
   have:=zgc u q;rcases hv with rfl | rfl
   .exact this.1 e
   .exact this.2 e
  .cases q
 .rcases shel_mem.mp (so "write" u rfl (.inr rfl)) with q | q
  .intro e
   have:=zgc u q;rcases hv with rfl | rfl
   .exact this.1 e
   .exact this.2 e
  .cases q
 .rcases hv with rfl | rfl<;>decide +kernel
 .rcases hv with rfl | rfl<;>decide +kernel
def zoB{rl:List W}{k:Nat}{v:Str}{a b:W}{n:Nat}(ha:okd rl k [] n a)(hb:okd rl k [] n b):okd rl k [] (n+1) (th "let" [.str v,a,b])/\∀(B:List (List (List Str))) (y:List Str),y∈mk rl B (n+1) (th "let" [.str v,a,b])↔y∈mk rl B n a\/y∈mk rl B n b:=by
 obtain⟨la,rfl⟩:=ha.tup;obtain⟨lb,rfl⟩:=hb.tup;have c1:(("let":Str)==("call":Str))=false:=by decide +kernel
 have f1:fm "let" = some (4,2):=by decide +kernel
 have pn:Pn (th "let" [.str v,.tup la,.tup lb]):=zay _ (4,2) c1 f1 _ (by simp[tyB]);have pe:uZ (th "let" [.str v,.tup la,.tup lb])=[.tup la,.tup lb]:=by simp[uZ,c1,f1]
 refine⟨⟨.lett v la lb,λq hq=>?_⟩,λB y=>?_⟩
 .rw[pe] at hq
  simp only[zf,zm,zV] at hq;rcases hq with rfl | rfl<;>assumption
 .rw[zaR ⋯ pn,show itself B (th "let" [.str v,.tup la,.tup lb])=[] from rfl,pe]
  simp
def zjd{rl:List W}{k:Nat}{v:Str}{a b:W}{n:Nat}(hv:v="p" \/ v="q")(ha:okd rl k [] n a)(hb:okd rl k [] n b):okd rl k [] (n+1) (th "own" [.str v,a,b])/\∀(B:List (List (List Str))) (y:List Str),y∈mk rl B (n+1) (th "own" [.str v,a,b])↔y∈mk rl B n a\/(y∈mk rl B n b/\hidB [v] y=false):=by
 obtain⟨la,rfl⟩:=ha.tup;obtain⟨lb,rfl⟩:=hb.tup;have c1:(("own":Str)==("call":Str))=false:=by decide +kernel
 have f1:fm "own" = some (4,2):=by decide +kernel
 have pe:uZ (th "own" [.str v,.tup la,.tup lb])=[.tup la,.tup lb]:=by simp[uZ,c1,f1]
 refine⟨⟨.own v hv la lb,λq hq=>?_⟩,λB y=>?_⟩
 .rw[pe] at hq
  simp only[zf,zm,zV] at hq;rcases hq with rfl | rfl<;>assumption
 .rw[mem_mk,show itself B (th "own" [.str v,.tup la,.tup lb])=[] from rfl,show u5 rl B (th "own" [.str v,.tup la,.tup lb]) []=[(.tup la,[]),(.tup lb,[v])] from rfl]
  simp[zeD]
def zgd{rl:List W}{k:Nat}{v:Str}{a:W}{n:Nat}(hv:v∈six)(ha:okd rl k [] n a):okd rl k [] (n+1) (th "write" [.str v,a])/\∀(B:List (List (List Str))) (y:List Str),y∈mk rl B (n+1) (th "write" [.str v,a])↔y=[("write":Str),v]\/y∈mk rl B n a:=by
 obtain⟨la,rfl⟩:=ha.tup;have c1:(("write":Str)==("call":Str))=false:=by decide +kernel
 have f1:fm "write" = some (3,2):=by decide +kernel
 have pn:Pn (th "write" [.str v,.tup la]):=zay _ (3,2) c1 f1 _ (by simp[tyB]);have pe:uZ (th "write" [.str v,.tup la])=[.tup la]:=by simp[uZ,c1,f1]
 refine⟨⟨.write v hv la,λq hq=>?_⟩,λB y=>?_⟩
 .rw[pe] at hq
  simp only[zf,zm,zV] at hq;rw[hq]; exact ha
 .rw[zaR ⋯ pn,show itself B (th "write" [.str v,.tup la])=[[("write":Str),v]] from rfl,pe]
  simp
def zo6{rl:List W}{k:Nat}{a:W}{n:Nat}(ha:okd rl k [] n a):okd rl k [] (n+1) (th "say" [a])/\∀(B:List (List (List Str))) (y:List Str),y∈mk rl B (n+1) (th "say" [a])↔y=[("say":Str)]\/y∈mk rl B n a:=by
 obtain⟨la,rfl⟩:=ha.tup;have c1:(("say":Str)==("call":Str))=false:=by decide +kernel
 have f1:fm "say" = some (2,1):=by decide +kernel
 have pn:Pn (th "say" [.tup la]):=zay _ (2,1) c1 f1 _ (by simp[tyB]);have pe:uZ (th "say" [.tup la])=[.tup la]:=by simp[uZ,c1,f1]
 refine⟨⟨.say la,λq hq=>?_⟩,λB y=>?_⟩
 .rw[pe] at hq
  simp only[zf,zm,zV] at hq;rw[hq]; exact ha
 .rw[zaR ⋯ pn,show itself B (th "say" [.tup la])=[[("say":Str)]] from rfl,pe]
  simp
def zmP{rl:List W}{k n:Nat}{H:List Str}{v:Str}(hv:v∈six):okd rl k H (n+1) (th "read" [.str v])/\∀(B:List (List (List Str))) (y:List Str),y∈mk rl B (n+1) (th "read" [.str v])↔y=[("read":Str),v]:=by
 have c1:(("read":Str)==("call":Str))=false:=by decide +kernel
 have f1:fm "read" = some (2,2):=by decide +kernel
 have pn:Pn (th "read" [.str v]):=zay _ (2,2) c1 f1 _ (by simp[tyB]);have pe:uZ (th "read" [.str v])=[]:=by simp[uZ,c1,f1]
 refine⟨⟨.read v hv,λq hq=>by rw[pe] at hq; cases hq⟩,λB y=>?_⟩;rw[zaR ⋯ pn,show itself B (th "read" [.str v])=[[("read":Str),v]] from rfl,pe];simp
def zgo{rl:List W}{k n:Nat}{H:List Str}:okd rl k H (n+1) (th "ask" [])/\∀(B:List (List (List Str))) (y:List Str),y∈mk rl B (n+1) (th "ask" [])↔y=[("ask":Str)]:=by
 have c1:(("ask":Str)==("call":Str))=false:=by decide +kernel
 have f1:fm "ask" = some (1,1):=by decide +kernel
 have pn:Pn (th "ask" []):=zay _ (1,1) c1 f1 _ (by simp);have pe:uZ (th "ask" [])=[]:=by simp[uZ,c1,f1]
 refine⟨⟨.ask,λq hq=>by rw[pe] at hq; cases hq⟩,λB y=>?_⟩;rw[zaR ⋯ pn,show itself B (th "ask" [])=[[("ask":Str)]] from rfl,pe];simp
def zmc{rl:List W}{k n:Nat}{H:List Str}{v:Str}(hv:v∈H):okd rl k H (n+1) (th "do" [.str v])/\∀(B:List (List (List Str))) (y:List Str),y∈mk rl B (n+1) (th "do" [.str v])↔y=[("do":Str),v]:=by
 have c1:(("do":Str)==("call":Str))=false:=by decide +kernel
 have f1:fm "do" = some (2,2):=by decide +kernel
 have pn:Pn (th "do" [.str v]):=zay _ (2,2) c1 f1 _ (by simp[tyB]);have pe:uZ (th "do" [.str v])=[]:=by simp[uZ,c1,f1]
 refine⟨⟨.doo v hv,λq hq=>by rw[pe] at hq; cases hq⟩,λB y=>?_⟩;rw[zaR ⋯ pn,show itself B (th "do" [.str v])=[[("do":Str),v]] from rfl,pe];simp
def Tch.eq{rl:List W}{B:List (List (List Str))}{n:Nat}{w:W}{M L:List (List Str)}(t:Tch rl B n w M)(h:∀x,x∈K23.mk rl B n w↔x∈L):M=u9 L:=zbe t.up (zaQ L) λx=>by rw[t.me,h,ssort_mem]
def zd8{M:List (List Str)}(u:SUp M):u9 M=M:=zbe (zaQ M) u λx=>ssort_mem
def zix{M:List (List Str)}(m:Mks M)(u:SUp M):shv "write" M=zbb (shv "write" M):=by
 have e:(shv "write" M).map ([·])=u9 ((shv "write" M).map ([·])):=by
  refine(zd8 ?_).symm;unfold SUp shv;rw[kY];refine List.pairwise_map.mpr (List.Pairwise.imp_of_mem ?_ (List.Pairwise.filter _ u));intro k l hk hl lt;obtain⟨h1,h2⟩:=jm.mp hk;obtain⟨h3,h4⟩:=jm.mp hl;have sp:∀{k:List Str},k∈M->(hd k=="write")=true->∃v,k=[("write":Str),v]:=by
   intro k hk hw;rcases zdf (m.u k hk) with ⟨v,hv,rfl⟩ | ⟨v,hv,rfl⟩ | rfl | rfl
   .exact absurd (show(("read":Str)=="write")=true from hw) ⋯
   .exact⟨v,rfl⟩
   .exact absurd (show(("say":Str)=="write")=true from hw) ⋯
   .exact absurd (show(("ask":Str)=="write")=true from hw) ⋯
  obtain⟨a,rfl⟩:=sp h1 h2;obtain⟨b,rfl⟩:=sp h3 h4;unfold lexS at lt;rw[zR rfl] at lt;exact lt
 unfold zbb;rw[<-e,kY];exact(List.map_id _).symm
def zes{M:List (List Str)}(m:Mks M){x:Str}:x∈shv "write" M↔[("write":Str),x]∈M:=by
 unfold shv;simp only[zz,jm];constructor
 .rintro⟨k,⟨h1,h2⟩,rfl⟩
  rcases zdf (m.u k h1) with ⟨v,hv,rfl⟩ | ⟨v,hv,rfl⟩ | rfl | rfl
  .exact absurd (show(("read":Str)=="write")=true from h2) ⋯
  .exact h1
  .exact absurd (show(("say":Str)=="write")=true from h2) ⋯
  .exact absurd (show(("ask":Str)=="write")=true from h2) ⋯
 .intro h
  exact⟨_,⟨h,show(("write":Str)=="write")=true by decide +kernel⟩,rfl⟩
def zhl{M:List (List Str)}(m:Mks M):∀x∈shv "write" M,x∈six:=λx hx=>by
 rcases zdf (m.u _ ((zes m).mp hx)) with ⟨v,hv,e⟩ | ⟨v,hv,e⟩ | e | e
 .simp at e; exact absurd e.1 ⋯
 .simp at e; rw[e]; exact hv
 .simp at e
 .simp at e
theorem zoC(F:Fs):b_f_law F=sSeq (LW0 F) (sSeq (LW1 F) (sSeq (LW2 F) (sSeq (LW3 F) (sSeq (LW4 F) (sSeq (LW5 F) (sSeq (LW6 F) (sSeq (LW7 F) (sSeq (LW8 F) (sSeq (LW9 F) (sSeq (LW10 F) (sSeq (LW11 F) (sSeq (LW12 F) (sSeq (LW13 F) (sSeq (LW14 F) (sSeq (LW15 F) (sSeq (LW16 F) (sSeq (LW17 F) (LW18 F)))))))))))))))))):=rfl
def zk4{l:List Str}(hl:l.length<=1000)(g:∀x∈l,pl 1 (.str x)=true):dt 2 (.fls (uX l))=true:=zkh (by simpa[uX] using hl) λw hw=>by
 obtain⟨x,hx,rfl⟩:=zz.mp hw;exact zaL (g x hx)
def zdZ{n:Nat}{w:W}{h:MH}(d:dt n w=true)(hn:n<=60)(hf:eqF w w=none)(hr:PyData.eqv (toD n w) (toD n w)=true):eqB h w w=some true:=by
 have e:=zaV (h:=h) d (show n<=deep from hn);unfold eqB;rw[hf,e];simp only[hr]
theorem zfe:∀l:List Str,PyData.eqvAll ((uX l).map (toD 1)) ((uX l).map (toD 1))=true
 | []=>rfl
 | x::l=>by
  have:=zfe l;simp only[uX,zH,PyData.eqvAll] at this ⊢;rw[this];simp[toD,PyData.eqv]
def zhb{l:List Str}{h:MH}(hl:l.length<=1000)(g:∀x∈l,pl 1 (.str x)=true):eqB h (.fls (uX l)) (.fls (uX l))=some true:=zdZ (zk4 hl g) ∅ rfl (by simp only[toD,PyData.eqv]; exact zfe l)
def zkY{ks:List (List Str)}{h:MH}(hl:ks.length<=1000)(g:∀k∈ks,zaF k=true):eqB h (.fls (ks.map tupS)) (.fls (ks.map tupS))=some true:=by
 have r1:∀k:List Str,PyData.eqvAll (k.map .str) (k.map .str)=true:=λk=>by rw[zdu]; simp
 have t2:∀k:List Str,toD 2 (tupS k)=.tuple (k.map .str):=λk=>by
  unfold tupS toD;simp only[kY];congr 1
 have r2:∀l:List (List Str),PyData.eqvAll ((l.map tupS).map (toD 2)) ((l.map tupS).map (toD 2))=true:=by
  intro l;induction l with
  | nil=>rfl
  | cons k l ih=>simp only[zH,PyData.eqvAll,t2,PyData.eqv,r1,ih]; rfl
 exact zdZ (zm0 hl g) ∅ rfl (by simp only[toD,PyData.eqv]; exact r2 ks)
def Mks.eq{M:List (List Str)}(m:Mks M)(h:MH):eqB h (.fls (M.map tupS)) (.fls (M.map tupS))=some true:=zkY (zF m.l ∅) λk hk=>m.good hk
def zk6{A C:List Str}(h:MH)(hl:A.length+C.length<=1000):addW (.fls (uX A)) (.fls (uX C)) h=some (.fls (uX (A++C)),h):=by
 simp only[addW,addI,getL,uX,zL];rw[zR (zF hl (by decide)),vW]
def zlc{A C:List (List Str)}(h:MH)(hl:A.length+C.length<=1000):addW (.fls (A.map tupS)) (.fls (C.map tupS)) h=some (.fls ((A++C).map tupS),h):=by
 simp only[addW,addI,getL,zL];rw[zR (zF hl (by decide)),vW]
theorem zfp:∀ks:List (List Str),zdj (ks.map tupS)=some ks
 | []=>rfl
 | k::r=>by simp only[zH,zdj,zaX,zfp r]; rfl
theorem zfZ{ks:List (List Str)}{h:MH}(l:ks.length<890)(u:∀x∈ks,x∈uni []):zaO (.fls (ks.map tupS)) h=some (.fls ((u9 ks).map tupS),h):=by
 have kk:zb7 (ks.map tupS)=some (false,ks):=by unfold zb7; rw[zfp]
 unfold zaO;simp only[zaD,getL,qX,kk];have nd:(u9 ks).Nodup:=zb3 (zaQ ks);have:=zcl nd λx hx=>u x (ssort_mem.mp hx)
 rw[zeu] at this;rw[zR ⟨l,by simp at this; omega,λk hk=>(zbn nilH k (u k hk)).2⟩];rfl
def zb8{A C:List (List Str)}(h:MH)(a:Mks A)(c:∀x∈C,x∈uni [])(lc:C.length<=100):addW (.fls (A.map tupS)) (.fls (C.map tupS)) h=some (.fls ((A++C).map tupS),h)/\zaO (.fls ((A++C).map tupS)) h=some (.fls ((u9 (A++C)).map tupS),h):=by
 have:=a.l;exact⟨zlc h ∅,zfZ (by rw[zW]; omega) λx hx=>(zx.mp hx).elim (a.u x) (c x)⟩
noncomputable abbrev ρg(ns:List Int)(o1 o2 o3 o4 o5 o6 o7 o8 o9 o10 o11:Option W):En:=[some (scr ns),o1,o2,o3,o4,o5,o6,o7,o8,o9,o10,o11]
theorem zqv{G:Fs}{ns:List Int}{R w0 w1:W}{ρ:En}{h:MH}(e0:ρ[0]?=some (some (scr ns)))(e1:ρ[1]?=some (some R))(l0:∀h,G.f_law_light [scr ns,.int 90,.int 2,R] h=some (w0,h))(l1:∀h,G.f_law_light [scr ns,.int 121,.int 2,R] h=some (w1,h))(d0:low h.length w0=true)(d1:low h.length w1=true) :
  zaq (iRng [eC (.int 2)]) 1 [0,1] (gNm 0) zba (uW G.f_law_light [eVar 1,eOp addW (eC (.int 90)) (eOp mulW (eC (.int 31)) (eVar 0)),eC (.int 2),eVar 2]) ρ h=some (.fls [w0,w1],h):=by
 refine(zdg (l:=[.int 0,.int 1]) (λ_=>true) (λz=>match z with | .int i=>if i=0 then w0 else w1 | _=>.non) ?_ ?_ ?_ ?_ ?_).trans ?_
 .have:rngW [W.int 2] h=some (.items [.int 0,.int 1],h):=rfl
  simp![iRng,this]
 .intro z _ H'; rfl
 .intro z hz _ H'
  simp only[zf,zm,zV] at hz;have s31:small 31=true:=by decide
  rcases hz with rfl | rfl
  .simp![e0,e1,mulW,s31,addW,addI,l0]
  .simp![e0,e1,mulW,s31,addW,addI,l1]
 .intro z hz _
  simp only[zf,zm,zV] at hz;rcases hz with rfl | rfl<;>simpa
 .exact(by decide:2<=cap)
 .rfl
theorem zf9{g:MG}{b:MS}{h:MH}{ρ:W->En}{I:En->Prop}:∀(l:List W) (ρ0:En),I ρ0->(∀w∈l,∀ρ,I ρ->∃ρ',g w ρ h=some (ρ',h)/\I ρ'/\b ρ' h=some (.nx ρ',h))->∃ρ',I ρ'/\forL g b l ρ0 h=some (.nx ρ',h)
 | [],ρ0,i0,_=>⟨ρ0,i0,by simp[forL]⟩
 | w::l,ρ0,i0,st=>by
  obtain⟨ρ1,e1,i1,e2⟩:=st w (zy ..) ρ0 i0;obtain⟨ρ2,i2,e3⟩:=zf9 (ρ:=ρ) l ρ1 i1 λw hw=>st w (zq _ hw)
  refine⟨ρ2,i2,?_⟩;unfold forL;rw[e1];simp only[e2];exact e3
def zqs{F:Fs}{ns:List Int}{h:MH}(hl:ns.length<=63):(step (up 30 F)).f_law [scr ns] h=some (.bl true,h):=by
 obtain⟨rl,hr,er⟩:=zm6 (F:=F) (ns:=ns) (m:=29) hl ∅;obtain⟨w1,p1,⟨o1,s1⟩,e1⟩:=zer (F:=F) (m:=29) (rl:=rl) (a:=90) hl ∅ hr;obtain⟨w2,p2,⟨o2,s2⟩,e2⟩:=zer (F:=F) (m:=29) (rl:=rl) (a:=121) hl ∅ hr;obtain⟨B,bo,bl,eb⟩:=zgL hr;have rt:=hr.take;obtain⟨u1,pu1,⟨ou1,_⟩,eu1⟩:=zer (F:=F) (m:=29) (rl:=rl.take 1) (a:=190) hl ∅ rt;have lt1:(rl.take 1).length<=1:=by rw[qu]; omega
 have bf:∀(rl:List W) (k:Nat),okd rl k ["f"] 2 (th "then" [th "do" [.str "f"],th "ask" []]):=λrl k=>zdU (p:=(3,1)) (.thenn _ _) ⋯ ⋯ λq hq=>by
  simp at hq;rcases hq with rfl | rfl
  .exact(zmc (by simp)).1
  .exact zgo.1
 have sf:scp 3 [] (th "then" [th "do" [.str "f"],th "ask" []]):=zdW ⋯ λq hq=>by
  have pe:uZ (th "then" [th "do" [.str "f"],th "ask" []])=[th "do" [.str "f"],th "ask" []]:=by simp[uZ,show(("then":Str)==("call":Str))=false by decide +kernel,show fm "then" = some (3,1) by decide +kernel]
  rw[pe] at hq;simp only[zf,zm,zV] at hq;rcases hq with rfl | rfl
  .exact(zbG (rl:=[]) (k:=0) (H:=["f"]) (2,2) (.doo "f" (by simp)) ⋯ ⋯ rfl (.inl ⋯)).2 2
  .exact(zbG (rl:=[]) (k:=0) (H:=[]) (1,1) .ask ⋯ ⋯ rfl (.inl ⋯)).2 2
 have rf:=rt.snoc (N:=[]) (hs:=["f"]) (body:=th "then" [th "do" [.str "f"],th "ask" []]) ∅ (by simp) (by simp) (λv hv=>by cases hv) (λv hv=>by simp at hv; rw[hv]; decide +kernel) ⋯ (zbk (bf _ _) ∅) (by simp) sf;have rm:=rf.snoc (N:=[]) (hs:=["g"]) (body:=th "number" [.int 0]) (by simp; omega) (by simp) (by simp) (λv hv=>by cases hv) (λv hv=>by simp at hv; rw[hv]; decide +kernel) ⋯ ⟨.number 0,λq hq=>by rw[zdt (p:=(2,2)) ⋯ ⋯ rfl] at hq; cases hq⟩ (by simp) ((zbG (rl:=[]) (k:=0) (H:=[]) (2,2) (.number 0) ⋯ ⋯ rfl (.inl ⋯)).2 3);have vm:addW (.tup (rl.take 1)) (.tup [.tup [.tup [],.tup [.str "f"],th "then" [th "do" [.str "f"],th "ask" []]],.tup [.tup [],.tup [.str "g"],th "number" [.int 0]]]) h=some (.tup (rl.take 1++[W.tup [.tup (uX []),.tup (uX ["f"]),th "then" [th "do" [.str "f"],th "ask" []]]]++[W.tup [.tup (uX []),.tup (uX ["g"]),th "number" [.int 0]]]),h):=by
  have:(rl.take 1).length+2<=cap:=zF (show(rl.take 1).length+2<=3 by omega) (by decide);simp only[addW,addI,zG,kZ];rw[zR this,wC];rfl
 have ef:(rl.take 1++[W.tup [.tup (uX []),.tup (uX ["f"]),th "then" [th "do" [.str "f"],th "ask" []]]]++[W.tup [.tup (uX []),.tup (uX ["g"]),th "number" [.int 0]]])[(rl.take 1).length]?=some (.tup [.tup (uX []),.tup (uX ["f"]),th "then" [th "do" [.str "f"],th "ask" []]]):=by
  rw[zX (by simp),kj (zu _)];simp
 have eg:(rl.take 1++[W.tup [.tup (uX []),.tup (uX ["f"]),th "then" [th "do" [.str "f"],th "ask" []]]]++[W.tup [.tup (uX []),.tup (uX ["g"]),th "number" [.int 0]]])[(rl.take 1).length+1]?=some (.tup [.tup (uX []),.tup (uX ["g"]),th "number" [.int 0]]):=by
  rw[kj (by simp)];simp
 have lm:(rl.take 1++[W.tup [.tup (uX []),.tup (uX ["f"]),th "then" [th "do" [.str "f"],th "ask" []]]]++[W.tup [.tup (uX []),.tup (uX ["g"]),th "number" [.int 0]]]).length=(rl.take 1).length+2:=by rw[zW,zW]; rfl
 have om:okd (rl.take 1++[W.tup [.tup (uX []),.tup (uX ["f"]),th "then" [th "do" [.str "f"],th "ask" []]]]++[W.tup [.tup (uX []),.tup (uX ["g"]),th "number" [.int 0]]]) (rl.take 1++[W.tup [.tup (uX []),.tup (uX ["f"]),th "then" [th "do" [.str "f"],th "ask" []]]]++[W.tup [.tup (uX []),.tup (uX ["g"]),th "number" [.int 0]]]).length [] 3 u1:=zmi (by rw[lm]; omega) (zbS (zbS ou1));generalize (rl.take 1++[W.tup [.tup (uX []),.tup (uX ["f"]),th "then" [th "do" [.str "f"],th "ask" []]]]++[W.tup [.tup (uX []),.tup (uX ["g"]),th "number" [.int 0]]])=mo at rm ef eg lm om vm;obtain⟨B2,bo2,bl2,eb2⟩:=zgL rm;obtain⟨C1,c1⟩:=tch rm bo2 bl2 eb2 ∅ ∅ pu1 om;have kf:=zhi (B:=B2) ef om;have kg:=zhi (B:=B2) eg om;have pk:∀i:Nat,i<=2->pl 8 (th "call" [.int (i:Int),.tup [],.tup [u1]])=true:=λi hi=>zaP (by simp) λq hq=>by
  simp only[zf,zm,zV] at hq;rcases hq with rfl | rfl | rfl | rfl
  .decide +kernel
  .show(decide (0<=(i:Int))&&decide ((i:Int)<=1008))=true
   rw[kI ∅,kI ∅]; rfl
  .rfl
  .exact zaP (by simp) λq hq=>by simp at hq; rw[hq]; exact pu1
 obtain⟨CF,cf⟩:=tch rm bo2 bl2 eb2 ∅ ∅ (pk _ ∅) kf.1;obtain⟨CG,cg⟩:=tch rm bo2 bl2 eb2 ∅ ∅ (pk _ ∅) kg.1;obtain⟨bdf,ebf⟩:∃bd,B2[(rl.take 1).length]?=some bd:=⟨_,zO ∅⟩;obtain⟨bdg,ebg⟩:∃bd,B2[(rl.take 1).length+1]?=some bd:=⟨_,zO ∅⟩;have bfm:=(bo2.at_ _ bdf ebf [] ["f"] _ ef).2.2.2;have bgm:=(bo2.at_ _ bdg ebg [] ["g"] _ eg).2.2.2;have fm_:∀x,x∈bdf↔x=[("do":Str),"f"]\/x=[("ask":Str)]:=λx=>by
  have pn:Pn (th "then" [th "do" [.str "f"],th "ask" []]):=zay _ (3,1) ⋯ ⋯ _ (by simp[tyB]);have pe:uZ (th "then" [th "do" [.str "f"],th "ask" []])=[th "do" [.str "f"],th "ask" []]:=by simp[uZ,show(("then":Str)==("call":Str))=false by decide +kernel,show fm "then" = some (3,1) by decide +kernel]
  rw[bfm,zaR ⋯ pn,show itself B2 (th "then" [th "do" [.str "f"],th "ask" []])=[] from rfl,pe];simp only[zf,zm,zV,false_or,exists_eq_or_imp,exists_eq_left];rw[(zmc (k:=0) (H:=["f"]) (by simp)).2 B2 x,(zgo (k:=0) (H:=[])).2 B2 x]
 have gm_:∀x,x∉bdg:=λx hx=>(zgU (k:=0) 0).2 B2 x ((bgm x).mp hx)
 have eCF:CF=u9 (C1++[[("ask":Str)]]):=cf.eq λx=>by
  rw[kf.2,ebf];simp only[vO,fm_,zx,kh,c1.me];constructor
  .rintro(⟨rfl | rfl,q⟩ | ⟨_,q⟩)
   .exact absurd q ⋯
   .exact .inr rfl
   .exact .inl q
  .rintro(q | rfl)
   .exact .inr ⟨.inl trivial,q⟩
   .exact .inl ⟨.inr rfl,by decide +kernel⟩
 have eCG:CG=[]:=List.eq_nil_iff_forall_not_mem.mpr λx hx=>by
  have:=(kg.2 x).mp ((cg.me x).mp hx);rw[ebg] at this;simp only[vO] at this;rcases this with q | q
  .exact gm_ _ q.1
  .exact gm_ _ q.1
 subst eCF eCG;obtain⟨A1,a1⟩:=tch hr bo bl eb ∅ ∅ p1 o1;obtain⟨A2,a2⟩:=tch hr bo bl eb ∅ ∅ p2 o2;have n2:∀{v:Str},v="p" \/ v="q"->∀x∈mk rl B 3 w2,hidB [v] x=false:=λhv=>zoD hr bo o2 s2 a2 hv
 have p4:∀{m:Nat} {x:Str} {r:List W},pl 1 (.str x)=true->r.length<=3->(∀q∈r,pl (m+1) q=true)->pl (m+2) (th x r)=true:=λhx hr hq=>zaP (by simp only[zG]; omega) λq hq'=>by
  rcases zf.mp hq' with rfl | hq'
  .exact zae hx ∅
  .exact hq q hq'
 have two:∀{x:Str} {a b:W},pl 6 a=true->pl 6 b=true->∀q∈[a,b],pl (5+1) q=true:=λha hb q hq=>by
  simp only[zf,zm,zV] at hq;rcases hq with rfl | rfl<;>assumption
 have L12:∀x,x∈A1++A2↔x∈mk rl B 3 w1\/x∈mk rl B 3 w2:=λx=>by rw[zx,a1.me,a2.me]
 have tf:∀{n:Nat} {w:W} {M:List (List Str)},Tch rl B n w M->∀h,(up 30 F).f_touches [.tup rl,w] h=some (.fls (M.map tupS),h):=λt=>t.t (up 24 F)
 have get:∀{n m:Nat} {w:W} {L:List (List Str)},n<=5->m<=60->pl m w=true->okd rl rl.length [] n w->(∀x,x∈mk rl B n w↔x∈L)->Mks (u9 L)/\∀h,(up 30 F).f_touches [.tup rl,w] h=some (.fls ((u9 L).map tupS),h):=λhn hm p o me=>by
  obtain⟨M,t⟩:=tch hr bo bl eb hn hm p o;have:=t.eq me;subst this;exact⟨t.m,tf t⟩
 have kThen:=zcQ (x:="then") (.inl rfl) o1 o2;have kAdd:=zcQ (x:="add") (.inr (.inl rfl)) o2 o1;have kLess:=zcQ (x:="less") (.inr (.inr (.inl rfl))) o1 o2;have kLoop:=zcQ (x:="loop") (.inr (.inr (.inr rfl))) o1 o2;have kLet:=zoB (v:="x") o1 o2;have kOwn:=zjd (.inl rfl) o1 o2;have nu:=zgU (rl:=rl) (k:=rl.length) (n:=2) 0;have kIf:=zp0 nu.1 o1 o2;have kLp:=zcQ (x:="loop") (.inr (.inr (.inr rfl))) nu.1 o1;have kW:=zgd (v:="q") ⋯ o2;have kOq:=zjd (.inr rfl) (zbk o1 (show 3<=3+1 by omega)) kW.1;have mm1:∀B x,x∈mk rl B 4 w1↔x∈mk rl B 3 w1:=λB x=>by rw[zeG o1 ∅]
 obtain⟨mB,tThen⟩:=get (L:=A1++A2) ∅ ∅ (p4 (x:="then") (m:=5) ⋯ (by simp) (two (x:="x") p1 p2)) kThen.1 λx=>by rw[kThen.2,L12]
 obtain⟨_,tAdd⟩:=get (L:=A1++A2) ∅ ∅ (p4 (x:="add") (m:=5) ⋯ (by simp) (two (x:="x") p2 p1)) kAdd.1 λx=>by rw[kAdd.2,L12,or_comm]
 obtain⟨_,tLess⟩:=get (L:=A1++A2) ∅ ∅ (p4 (x:="less") (m:=5) ⋯ (by simp) (two (x:="x") p1 p2)) kLess.1 λx=>by rw[kLess.2,L12]
 obtain⟨_,tLoop⟩:=get (L:=A1++A2) ∅ ∅ (p4 (x:="loop") (m:=5) ⋯ (by simp) (two (x:="x") p1 p2)) kLoop.1 λx=>by rw[kLoop.2,L12]
 have three:∀{v:Str} {a b:W},pl 1 (.str v)=true->pl 6 a=true->pl 6 b=true->∀q∈[.str v,a,b],pl (5+1) q=true:=λhv ha hb q hq=>by
  simp only[zf,zm,zV] at hq;rcases hq with rfl | rfl | rfl
  .exact hv
  .exact ha
  .exact hb
 obtain⟨_,tLet⟩:=get (L:=A1++A2) ∅ ∅ (p4 (x:="let") (m:=5) ⋯ (by simp) (three (v:="x") ⋯ p1 p2)) kLet.1 λx=>by rw[kLet.2,L12]
 obtain⟨_,tOwn⟩:=get (L:=A1++A2) ∅ ∅ (p4 (x:="own") (m:=5) ⋯ (by simp) (three (v:="p") ⋯ p1 p2)) kOwn.1 λx=>by
  rw[kOwn.2,L12];exact or_congr Iff.rfl ⟨λq=>q.1,λq=>⟨q,n2 (.inl rfl) x q⟩⟩
 have p0:pl 6 (th "number" [.int 0])=true:=by decide +kernel
 obtain⟨_,tIf⟩:=get (L:=A1++A2) ∅ ∅ (p4 (x:="if") (r:=[th "number" [.int 0],w1,w2]) (m:=5) ⋯ (by simp) (λq hq=>by
  simp only[zf,zm,zV] at hq;rcases hq with rfl | rfl | rfl
  .exact p0
  .exact p1
  .exact p2)) kIf.1 λx=>by
  rw[kIf.2,L12];exact⟨λq=>q.elim (λq=>absurd q (nu.2 B x)) id,.inr⟩
 obtain⟨_,tLp⟩:=get (L:=A1) ∅ ∅ (p4 (x:="loop") (m:=5) ⋯ (by simp) (two (x:="x") p0 p1)) kLp.1 λx=>by
  rw[kLp.2,a1.me];exact⟨λq=>q.elim (λq=>absurd q (nu.2 B x)) id,.inr⟩
 rw[zd8 a1.up] at tLp;have pW:pl 7 (th "write" [.str "q",w2])=true:=p4 (x:="write") (m:=5) ⋯ (by simp) λq hq=>by
  simp only[zf,zm,zV] at hq;rcases hq with rfl | rfl
  .decide +kernel
  .exact p2
 obtain⟨_,tOq⟩:=get (L:=A1++A2) ∅ ∅ (p4 (x:="own") (r:=[.str "q",w1,th "write" [.str "q",w2]]) (m:=6) ⋯ (by simp) (λq hq=>by
  simp only[zf,zm,zV] at hq;rcases hq with rfl | rfl | rfl
  .decide +kernel
  .exact zae p1 ∅
  .exact pW)) kOq.1 λx=>by
  rw[kOq.2,L12,mm1,kW.2];refine or_congr Iff.rfl ⟨?_,λq=>⟨.inr q,n2 (.inr rfl) x q⟩⟩;rintro⟨rfl | q,hh⟩
  .exact absurd hh ⋯
  .exact q
 have ed:∀h,(up 30 F).f_law_drawn [scr ns,.int 300,.int 4] h=some (.int (zaS ns 300 4),h):=λh=>zbl (F:=up 28 F) hl ∅
 obtain⟨sv,sv4,esv⟩:=zhD (u6 (ns:=ns) (k:=300) (many:=4) ∅).1 (u6 (ns:=ns) (k:=300) (many:=4) ∅).2;have sv6:=zeW sv sv4;have svp:=zgC sv sv4;generalize zaS ns 300 4=dy at ed esv;have kR:=zmP (rl:=rl) (k:=rl.length) (n:=0) (H:=[]) sv6;have kN:=zgU (rl:=rl) (k:=rl.length) (n:=0) 3;have kWs:=zgd sv6 o1;have kS:=zo6 o1;have kA:=zgo (rl:=rl) (k:=rl.length) (n:=0) (H:=[]);obtain⟨mR,tR⟩:=get (L:=[[("read":Str),sv]]) ∅ ∅ (p4 (x:="read") (r:=[.str sv]) (m:=0) ⋯ (by simp) λq hq=>by simp at hq; rw[hq]; exact svp) kR.1 λx=>by rw[kR.2]; simp
 obtain⟨_,tN⟩:=get (L:=[]) (m:=3) (w:=th "number" [.int 3]) ∅ ∅ ⋯ kN.1 λx=>by simp[kN.2]
 obtain⟨MW,tW⟩:=tch hr bo bl eb ∅ ∅ (p4 (x:="write") (r:=[.str sv,w1]) (m:=5) ⋯ (by simp) (λq hq=>by
  simp only[zf,zm,zV] at hq;rcases hq with rfl | rfl
  .exact svp
  .exact p1)) kWs.1
 have mW:∀x,x∈mk rl B 4 (th "write" [.str sv,w1])↔x∈A1++[[("write":Str),sv]]:=λx=>by rw[kWs.2,zx,a1.me,kh,or_comm]
 have eW:=tW.eq mW;obtain⟨mS,tS⟩:=get (L:=A1++[[("say":Str)]]) ∅ ∅ (p4 (x:="say") (r:=[w1]) (m:=5) ⋯ (by simp) λq hq=>by simp at hq; rw[hq]; exact p1) kS.1 λx=>by rw[kS.2,zx,a1.me,kh,or_comm]
 obtain⟨mA,tA⟩:=get (L:=[[("ask":Str)]]) (m:=2) (w:=th "ask" []) ∅ ∅ ⋯ kA.1 λx=>by rw[kA.2]; simp
 have wf1:∀h,(up 30 F).f_writes_of [.tup rl,w1] h=some (.fls (uX (shv "write" A1)),h):=zgB (F:=up 28 F) (a1.t (up 23 F)) a1.m.u a1.m.l;have wfW:∀h,(up 30 F).f_writes_of [.tup rl,th "write" [.str sv,w1]] h=some (.fls (uX (shv "write" MW)),h):=zgB (F:=up 28 F) (tW.t (up 23 F)) tW.m.u tW.m.l;have eWs:shv "write" MW=zbb (shv "write" A1++[sv]):=by
  rw[zix tW.m tW.up];refine ziK λx=>?_
  rw[zes tW.m,tW.me,mW,zx,zx,zes a1.m];simp
 have tWt:=tf tW;have tf1:=tf a1;have tf2:=tf a2;have tC1:∀h,(up 30 F).f_touches [.tup mo,u1] h=some (.fls (C1.map tupS),h):=c1.t (up 24 F);have tCF:∀h,(up 30 F).f_touches [.tup mo,th "call" [.int ((rl.take 1).length:Int),.tup [],.tup [u1]]] h=some (.fls ((u9 (C1++[[("ask":Str)]])).map tupS),h):=cf.t (up 24 F);have tCG:∀h,(up 30 F).f_touches [.tup mo,th "call" [.int (((rl.take 1).length:Int)+1),.tup [],.tup [u1]]] h=some (.fls [],h):=cg.t (up 24 F);have er':∀h,(up 30 F).f_law_rules [scr ns,.int 1] h=some (.tup rl,h):=er;have e1':∀h,(up 30 F).f_law_light [scr ns,.int 90,.int 2,.tup rl] h=some (w1,h):=e1;have e2':∀h,(up 30 F).f_law_light [scr ns,.int 121,.int 2,.tup rl] h=some (w2,h):=e2;have u1':∀h,(up 30 F).f_law_light [scr ns,.int 190,.int 2,.tup (rl.take 1)] h=some (u1,h):=eu1;have low1:low h.length w1=true:=zaC (zaL p1);have low2:low h.length w2=true:=zaC (zaL p2);clear tf get;generalize up 30 F=G at *;have cap0:0<=cap:=by decide
 have cap1:1<=cap:=by decide
 have cap2:2<=cap:=by decide
 have cap3:3<=cap:=by decide
 have cap4:4<=cap:=by decide
 have cap5:5<=cap:=by decide
 have sl1:∀h,slW (.tup rl) none (some 1) h=some (.tup (rl.take 1),h):=λh=>by simp only[slW]; rw[cut1]
 have lenT:∀h,lenW [.tup (rl.take 1)] h=some (.int ((rl.take 1).length:Int),h):=λh=>by simp only[lenW,zaD]
 have b12:=zb8 h a1.m a2.m.u a2.m.l;have bW:=zb8 (C:=[[("write":Str),sv]]) h a1.m (λx hx=>by rw[kh.mp hx]; exact tW.m.u _ ((tW.me _).mpr ((mW _).mpr (by simp)))) (by simp);have bS:=zb8 (C:=[[("say":Str)]]) h a1.m (λx hx=>by rw[kh.mp hx]; decide +kernel) (by simp);have bC:=zb8 (C:=[[("ask":Str)]]) h c1.m (λx hx=>by rw[kh.mp hx]; decide +kernel) (by simp);have lsh:(shv "write" A1).length<=100:=by unfold shv; rw[zL]; exact zF (qy _ _) a1.m.l
 have adw:=zk6 (A:=shv "write" A1) (C:=[sv]) h (by simp; omega)
 have sow:=zfU (U:=six) (xs:=shv "write" A1++[sv]) (h:=h) (by simp; omega) (λx hx=>by
  rcases zx.mp hx with q | q
  .exact zhl a1.m x q
  .rw[kh.mp q]; exact sv6) (by decide)
 have eqB_:=mB.eq h;have eq1:=a1.m.eq h;have eqR:eqB h (.fls ((u9 [[("read":Str),sv]]).map tupS)) (.fls [.tup [.str "read",.str sv]])=some true:=mR.eq h;have eqA:eqB h (.fls ((u9 [[("ask":Str)]]).map tupS)) (.fls [.tup [.str "ask"]])=some true:=mA.eq h;have eq0:eqB h (.fls []) (.fls [])=some true:=zhb (l:=[]) (by simp) (λx hx=>by cases hx);have eqWm:=tW.m.eq h;rw[eW] at eqWm tWt;have eqS:=mS.eq h;have eqC:=cf.m.eq h;have eqWs:eqB h (.fls (uX (zbb (shv "write" A1++[sv])))) (.fls (uX (zbb (shv "write" A1++[sv]))))=some true:=by
  rw[<-eWs];exact zhb (by unfold shv; rw[zL]; exact zF (zF (qy _ _) tW.m.l) ∅) λx hx=>zf7 x (zhl tW.m x hx)
 rw[eWs] at wfW;generalize hR:W.tup rl=R at *;generalize hT1:W.tup (rl.take 1)=T1 at *;generalize hMo:W.tup mo=Mo at *;generalize ((rl.take 1).length:Int)=L1 at *;generalize hBB:(u9 (A1++A2)).map tupS=BB at *;generalize (A1++A2).map tupS=BA at *;generalize hK1:A1.map tupS=K1 at *;generalize A2.map tupS=K2 at *;have z0:LW0 G (ρg ns none none none none none none none none none none none) h=some (.nx (ρg ns (some R) none none none none none none none none none none),h):=by simp![LW0,er']
 have z1:LW1 G (ρg ns (some R) none none none none none none none none none none) h=some (.nx (ρg ns (some R) (some w1) (some w2) none none none none none none none none),h):=by
  have:=zqv (G:=G) (R:=R) (ρ:=ρg ns (some R) none none none none none none none none none none) (h:=h) rfl rfl e1' e2' low1 low2;simp![LW1,this]
 have z2:LW2 G (ρg ns (some R) (some w1) (some w2) none none none none none none none none) h=some (.nx (ρg ns (some R) (some w1) (some w2) (some (.fls K1)) none none none none none none none),h):=by simp![LW2,tf1]
 have z3:LW3 G (ρg ns (some R) (some w1) (some w2) (some (.fls K1)) none none none none none none none) h=some (.nx (ρg ns (some R) (some w1) (some w2) (some (.fls K1)) (some (.fls K2)) none none none none none none),h):=by simp![LW3,tf2]
 have z4:LW4 G (ρg ns (some R) (some w1) (some w2) (some (.fls K1)) (some (.fls K2)) none none none none none none) h=some (.nx (ρg ns (some R) (some w1) (some w2) (some (.fls K1)) (some (.fls K2)) (some (.fls BB)) none none none none none),h):=by simp![LW4,b12.1,b12.2]
 have z5:∃o7,LW5 G (ρg ns (some R) (some w1) (some w2) (some (.fls K1)) (some (.fls K2)) (some (.fls BB)) none none none none none) h=some (.nx (ρg ns (some R) (some w1) (some w2) (some (.fls K1)) (some (.fls K2)) (some (.fls BB)) o7 none none none none),h):=by
  have st:∀w∈[th "then" [w1,w2],th "add" [w2,w1],th "less" [w1,w2],th "loop" [w1,w2],th "let" [.str "x",w1,w2]],G.f_touches [R,w] h=some (.fls BB,h):=λw hw=>by
   simp only[zf,zm,zV] at hw;rcases hw with rfl | rfl | rfl | rfl | rfl
   .exact tThen h
   .exact tAdd h
   .exact tLess h
   .exact tLoop h
   .exact tLet h
  obtain⟨ρ',⟨o7,rfl⟩,e⟩:=zf9 (g:=gNm 7) (b:=(sIf (tVal (eOp (eqW true) (uW G.f_touches [eVar 1,eVar 7]) (eVar 6))) (sRet (eC (.bl false))) zaa)) (h:=h) (ρ:=λ_=>[]) (I:=λρ=>∃o7,ρ=ρg ns (some R) (some w1) (some w2) (some (.fls K1)) (some (.fls K2)) (some (.fls BB)) o7 none none none none) _ _ ⟨none,rfl⟩ λw hw ρ ⟨o7,e⟩=>by
   subst e;refine⟨_,rfl,⟨some w,rfl⟩,?_⟩;have:=st w hw;simp![this,eqB_]
  refine⟨o7,?_⟩;unfold LW5 sFor;have it:iSeq (uW tupW [uW tupW [eC (.str "then"),eVar 2,eVar 3],uW tupW [eC (.str "add"),eVar 3,eVar 2],uW tupW [eC (.str "less"),eVar 2,eVar 3],uW tupW [eC (.str "loop"),eVar 2,eVar 3],uW tupW [eC (.str "let"),eC (.str "x"),eVar 2,eVar 3]]) (ρg ns (some R) (some w1) (some w2) (some (.fls K1)) (some (.fls K2)) (some (.fls BB)) none none none none none) h=some (.items [th "then" [w1,w2],th "add" [w2,w1],th "less" [w1,w2],th "loop" [w1,w2],th "let" [.str "x",w1,w2]],h):=by
   simp![iSeq,srcOf,tupW,cap3,cap4,cap5]
  rw[it];exact e
 obtain⟨o7,z5⟩:=z5;have z6:LW6 G (ρg ns (some R) (some w1) (some w2) (some (.fls K1)) (some (.fls K2)) (some (.fls BB)) o7 none none none none) h=some (.nx (ρg ns (some R) (some w1) (some w2) (some (.fls K1)) (some (.fls K2)) (some (.fls BB)) o7 none none none none),h):=by simp![LW6,tupW,cap2,cap4,tOwn,tIf,eqB_]
 have z7:LW7 G (ρg ns (some R) (some w1) (some w2) (some (.fls K1)) (some (.fls K2)) (some (.fls BB)) o7 none none none none) h=some (.nx (ρg ns (some R) (some w1) (some w2) (some (.fls K1)) (some (.fls K2)) (some (.fls BB)) o7 none none none none),h):=by simp![LW7,tupW,cap2,cap3,tLp,eq1]
 have z8:LW8 G (ρg ns (some R) (some w1) (some w2) (some (.fls K1)) (some (.fls K2)) (some (.fls BB)) o7 none none none none) h=some (.nx (ρg ns (some R) (some w1) (some w2) (some (.fls K1)) (some (.fls K2)) (some (.fls BB)) o7 none none none none),h):=by simp![LW8,tupW,cap3,cap4,tOq,eqB_]
 have z9:LW9 G (ρg ns (some R) (some w1) (some w2) (some (.fls K1)) (some (.fls K2)) (some (.fls BB)) o7 none none none none) h=some (.nx (ρg ns (some R) (some w1) (some w2) (some (.fls K1)) (some (.fls K2)) (some (.fls BB)) o7 (some (.str sv)) none none none),h):=by simp![LW9,ed,esv]
 have z10:LW10 G (ρg ns (some R) (some w1) (some w2) (some (.fls K1)) (some (.fls K2)) (some (.fls BB)) o7 (some (.str sv)) none none none) h=some (.nx (ρg ns (some R) (some w1) (some w2) (some (.fls K1)) (some (.fls K2)) (some (.fls BB)) o7 (some (.str sv)) none none none),h):=by
  have tN':∀h,G.f_touches [R,th "number" [.int 3]] h=some (.fls [],h):=tN;generalize (u9 [[("read":Str),sv]]).map tupS=Z at tR eqR;simp![LW10,tupW,flsW,cap0,cap1,cap2,tR,eqR,tN',eq0]
 have z11:LW11 G (ρg ns (some R) (some w1) (some w2) (some (.fls K1)) (some (.fls K2)) (some (.fls BB)) o7 (some (.str sv)) none none none) h=some (.nx (ρg ns (some R) (some w1) (some w2) (some (.fls K1)) (some (.fls K2)) (some (.fls BB)) o7 (some (.str sv)) none none none),h):=by
  have b1:addW (.fls K1) (.fls [.tup [.str "write",.str sv]]) h=some (.fls ((A1++[[("write":Str),sv]]).map tupS),h):=bW.1;have b2:=bW.2;generalize (u9 (A1++[[("write":Str),sv]])).map tupS=Z at tWt eqWm b2;generalize (A1++[[("write":Str),sv]]).map tupS=Z2 at b1 b2;simp![LW11,tupW,flsW,cap1,cap2,cap3,tWt,b1,b2,eqWm]
 have z12:LW12 G (ρg ns (some R) (some w1) (some w2) (some (.fls K1)) (some (.fls K2)) (some (.fls BB)) o7 (some (.str sv)) none none none) h=some (.nx (ρg ns (some R) (some w1) (some w2) (some (.fls K1)) (some (.fls K2)) (some (.fls BB)) o7 (some (.str sv)) none none none),h):=by
  have adw:addW (.fls (uX (shv "write" A1))) (.fls [.str sv]) h=some (.fls (uX (shv "write" A1++[sv])),h):=adw;generalize uX (zbb (shv "write" A1++[sv]))=Z at wfW sow eqWs;generalize uX (shv "write" A1++[sv])=Z2 at adw sow;generalize uX (shv "write" A1)=Z3 at wf1 adw;simp![LW12,tupW,flsW,cap1,cap3,wfW,wf1,adw,sow,eqWs]
 have z13:LW13 G (ρg ns (some R) (some w1) (some w2) (some (.fls K1)) (some (.fls K2)) (some (.fls BB)) o7 (some (.str sv)) none none none) h=some (.nx (ρg ns (some R) (some w1) (some w2) (some (.fls K1)) (some (.fls K2)) (some (.fls BB)) o7 (some (.str sv)) none none none),h):=by
  have b1:addW (.fls K1) (.fls [.tup [.str "say"]]) h=some (.fls ((A1++[[("say":Str)]]).map tupS),h):=bS.1;have b2:=bS.2;generalize (u9 (A1++[[("say":Str)]])).map tupS=Z at tS eqS b2;generalize (A1++[[("say":Str)]]).map tupS=Z2 at b1 b2;generalize (u9 [[("ask":Str)]]).map tupS=Z3 at tA eqA;simp![LW13,tupW,flsW,cap1,cap2,tS,b1,b2,eqS,tA,eqA]
 have z14:LW14 G (ρg ns (some R) (some w1) (some w2) (some (.fls K1)) (some (.fls K2)) (some (.fls BB)) o7 (some (.str sv)) none none none) h=some (.nx (ρg ns (some R) (some w1) (some w2) (some (.fls K1)) (some (.fls K2)) (some (.fls BB)) o7 (some (.str sv)) (some Mo) none none),h):=by
  simp![LW14,eSl,za7,sl1,tupW,cap0,cap1,cap2,cap3,vm]
 have z15:LW15 G (ρg ns (some R) (some w1) (some w2) (some (.fls K1)) (some (.fls K2)) (some (.fls BB)) o7 (some (.str sv)) (some Mo) none none) h=some (.nx (ρg ns (some R) (some w1) (some w2) (some (.fls K1)) (some (.fls K2)) (some (.fls BB)) o7 (some (.str sv)) (some Mo) (some (.int L1)) none),h):=by
  simp![LW15,eSl,za7,sl1,lenT]
 have z16:LW16 G (ρg ns (some R) (some w1) (some w2) (some (.fls K1)) (some (.fls K2)) (some (.fls BB)) o7 (some (.str sv)) (some Mo) (some (.int L1)) none) h=some (.nx (ρg ns (some R) (some w1) (some w2) (some (.fls K1)) (some (.fls K2)) (some (.fls BB)) o7 (some (.str sv)) (some Mo) (some (.int L1)) (some (.fls [u1]))),h):=by
  simp![LW16,eSl,za7,sl1,u1',flsW,cap1]
 have ix:∀h,ixW (.fls [u1]) (.int 0) h=some (u1,h):=λh=>ixf0
 have z17:LW17 G (ρg ns (some R) (some w1) (some w2) (some (.fls K1)) (some (.fls K2)) (some (.fls BB)) o7 (some (.str sv)) (some Mo) (some (.int L1)) (some (.fls [u1]))) h=some (.nx (ρg ns (some R) (some w1) (some w2) (some (.fls K1)) (some (.fls K2)) (some (.fls BB)) o7 (some (.str sv)) (some Mo) (some (.int L1)) (some (.fls [u1]))),h):=by
  have b1:addW (.fls (C1.map tupS)) (.fls [.tup [.str "ask"]]) h=some (.fls ((C1++[[("ask":Str)]]).map tupS),h):=bC.1;have b2:=bC.2;generalize (u9 (C1++[[("ask":Str)]])).map tupS=Z at tCF eqC b2;generalize (C1++[[("ask":Str)]]).map tupS=Z2 at b1 b2;generalize C1.map tupS=Z3 at b1 tC1;generalize W.fls [u1]=U at ix ⊢;simp![LW17,tupW,flsW,cap0,cap1,cap4,ix,tCF,tC1,b1,b2,eqC]
 have z18:LW18 G (ρg ns (some R) (some w1) (some w2) (some (.fls K1)) (some (.fls K2)) (some (.fls BB)) o7 (some (.str sv)) (some Mo) (some (.int L1)) (some (.fls [u1]))) h=some (.ret (.bl true),h):=by
  generalize W.fls [u1]=U at ix ⊢;simp![LW18,tupW,flsW,cap0,cap1,cap4,ix,addW,addI,tCG,eq0]
 refine zbi (n:=1) ?_ rfl;have hs2:b_f_law G (ρg ns none none none none none none none none none none none) h=some (.ret (.bl true),h):=by
  rw[zoC,uY z0,uY z1,uY z2,uY z3,uY z4,uY z5,uY z6,uY z7,uY z8,uY z9,uY z10,uY z11,uY z12,uY z13,uY z14,uY z15,uY z16,uY z17,z18]
 simp only[fnM,zG,kZ,jd,zH,jw,List.replicate,jE,jh];simp only[ρg] at hs2;simp only[hs2]
theorem zl3:∀n,lv n=up n Fs.bot
 | 0=>rfl
 | n+1=>by show step (lv n)=step (up n Fs.bot); rw[zl3 n]
def main(ns:List Int)(hl:ns.length<=63):∃h',(lv 200).f_law [.fls (ns.map W.int)] []=some (.bl true,h'):=by
 refine⟨[],?_⟩;rw[zl3];exact zqs (F:=up 169 Fs.bot) hl
end K23
namespace K23
open PySem PySem.W PyProof.Rows ML
set_option maxHeartbeats 0 in
def txt {XP : (Str -> Option Value) -> Heap -> Prop} {w : World} {s₀ : Shared} {mg mb : Str -> Option Value} {h : Heap} (G : Ground q ["FORMS"] [] XP w s₀ mg mb h) : AllD (zbY (Kw h) mg) defs :=
  ⟨txtG G (d := d_f_parts_of) (by kernel_rfl) (ML.hb1 λ_ _ _ _ _ _ _ => by kernel_rfl) rfl,
   txtG G (d := d_f_marks_of_itself) (by kernel_rfl) (ML.hb2 λ_ _ _ _ _ _ _ _ => by kernel_rfl) rfl,
   txtG G (d := d_f_handed_that_are_done) (by kernel_rfl) (ML.hb4 λ_ _ _ _ _ _ _ _ _ _ => by kernel_rfl) rfl,
   txtG G (d := d_f_parts_that_count) (by kernel_rfl) (ML.hb3 λ_ _ _ _ _ _ _ _ _ => by kernel_rfl) rfl,
   txtG G (d := d_f_with_hidden) (by kernel_rfl) (ML.hb2 λ_ _ _ _ _ _ _ _ => by kernel_rfl) rfl,
   txtG G (d := d_f_parts_with_hidden) (by kernel_rfl) (ML.hb4 λ_ _ _ _ _ _ _ _ _ _ => by kernel_rfl) rfl,
   txtG G (d := d_f_marks_by) (by kernel_rfl) (ML.hb3 λ_ _ _ _ _ _ _ _ _ => by kernel_rfl) rfl,
   txtG G (d := d_f_marks_of_bodies) (by kernel_rfl) (ML.hb1 λ_ _ _ _ _ _ _ => by kernel_rfl) rfl,
   txtG G (d := d_f_touches) (by kernel_rfl) (ML.hb2 λ_ _ _ _ _ _ _ _ => by kernel_rfl) rfl,
   txtG G (d := d_f_shelves_of) (by kernel_rfl) (ML.hb2 λ_ _ _ _ _ _ _ _ => by kernel_rfl) rfl,
   txtG G (d := d_f_writes_of) (by kernel_rfl) (ML.hb2 λ_ _ _ _ _ _ _ _ => by kernel_rfl) rfl,
   txtG G (d := d_f_law_cell) (by kernel_rfl) (ML.hb2 λ_ _ _ _ _ _ _ _ => by kernel_rfl) rfl,
   txtG G (d := d_f_law_drawn) (by kernel_rfl) (ML.hb3 λ_ _ _ _ _ _ _ _ _ => by kernel_rfl) rfl,
   txtG G (d := d_f_law_leaf) (by kernel_rfl) (ML.hb3 λ_ _ _ _ _ _ _ _ _ => by kernel_rfl) rfl,
   txtG G (d := d_f_law_deed) (by kernel_rfl) (ML.hb5 λ_ _ _ _ _ _ _ _ _ _ _ => by kernel_rfl) rfl,
   txtG G (d := d_f_law_call) (by kernel_rfl) (ML.hb5 λ_ _ _ _ _ _ _ _ _ _ _ => by kernel_rfl) rfl,
   txtG G (d := d_f_law_rules) (by kernel_rfl) (ML.hb2 λ_ _ _ _ _ _ _ _ => by kernel_rfl) rfl,
   txtG G (d := d_f_law_weight) (by kernel_rfl) (ML.hb3 λ_ _ _ _ _ _ _ _ _ => by kernel_rfl) rfl,
   txtG G (d := d_f_law_light) (by kernel_rfl) (ML.hb4 λ_ _ _ _ _ _ _ _ _ _ => by kernel_rfl) rfl,
   txtG G (d := d_f_law) (by kernel_rfl) (ML.hb1 λ_ _ _ _ _ _ _ => by kernel_rfl) rfl, trivial⟩
end K23
open PySem PySem.W PyProof.Rows ML
set_option maxRecDepth 100000 in
set_option maxHeartbeats 0 in
theorem PySem.Challenge.cw_shelfwork_k23_whole_marks_holds : PySem.Challenge.rw_shelfwork_k23_whole_marks.Holds := by
 refine holds_law K23.said λsaid=>?_
 refine holds_open (q:=K23.q) (loose:=["FORMS"]) (Xt:=λs=>xlAt K23.q [] s&&recOk [] s) (XP:=XL K23.q []) (Yf:=K23.H.obs) (Ya:=K23.H.val) (YP:=K23.H.says) (N:=3400) K23.left (Hook.of K23.H) (Hook.keeps K23.H) (λs e=>xl_of s (jO.mp e).1) XL.keeps rfl rfl rfl (λs e=>recFacts_of (jO.mp e).2) rfl said ⋯ ⟨rfl,rfl,rfl,rfl,rfl,by decide +kernel⟩ ?hw ?hc
 case hw=>w_witness2
 case hc=>
  exact ML.walk_lawE (l:=PySem.Challenge.rw_shelfwork_k23_whole_marks) (D:=K23.d_f_law) (g:=(K23.lv 200).f_law) (b:=K23.b_f_law (K23.lv 199)) (Γ:=K23.rc (K23.lv 199)) (ds:=K23.defs) (y:="_law_script") (room:=199) (cons:=K23.consC) (tabs:=K23.tabsC) (by kernel_rfl) (by kernel_rfl) rfl rfl ⟨rfl,by decide,by decide⟩ rfl rfl (ML.hb1 λ_ _ _ _ _ _ _=>by kernel_rfl) (by kernel_rfl) rfl (by kernel_rfl) rfl K23.main (λw K mg base T c t z=>K23.lvl T c t z 199) λw s₀ mg mb h G=>⟨(K23.txt G).2.2.2.2.2.2.2.2.2.2.2.2.2.2.2.2.2.2.2.1,K23.txt G⟩

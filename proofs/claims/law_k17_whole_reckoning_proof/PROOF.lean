import PyProof.Rows.All
import KE.KDictOf
import KE.KIntText
import KE.KIsAll
import PySem.Challenge.RW_shelfwork_k17_whole_reckoning
import KE.KItem
import KE.KRevIter
set_option compiler.extract_closed false
set_option Elab.async false
set_option linter.all false
set_option maxRecDepth 100000
set_option maxHeartbeats 1000000
def za:=@PySem.wpAny_bind
def zb:=@List.mem_cons
def zc:=@List.not_mem_nil
def zf:=@PySem.Heap.get?_push_of_some
def zg:=@Option.map_eq_some_iff
def zj:=@Nat.le_refl
def zm:=@Option.bind_eq_some_iff
def zp:=@List.length_cons
def zq:=@List.getElem?_cons_zero
def zr:=@PySem.wpAny_pure
def zu:=@Bool.and_eq_true
def zx:=@List.map_cons
def zy:=@List.getElem?_append_left
def zA:=@PySem.Heap.lt_size
def zB:=@List.getElem?_eq_getElem
def zE:=@List.getElem?_cons_succ
def zF:=@List.getElem?_set_ne
def zG:=@List.getElem?_append_right
def zH:=@List.getElem?_set_self
def zJ:=@List.mem_cons_of_mem
def zK:=@List.size_toArray
def zL:=@Nat.lt_of_lt_of_le
def zM:=@or_false
def zN:=@List.length_append
def zO:=@List.length_map
def zP:=@List.prefix_refl
def zQ:=@PySem.Heap.get?_push_size
def zR:=@Nat.le_trans
def zT:=@List.getElem?_eq_some_iff
def zU:=@List.mem_append
def zV:=@List.length_nil
def zW:=@Nat.ne_of_lt
def zX:=@List.mem_cons_self
def zY:=@if_pos
def zZ:=@Bool.false_ne_true
def z9:=@List.append_nil
def kh:=@Option.some.inj
def kj:=@List.append_assoc
def kE:=@if_true
def kI:=@List.nil_append
def kJ:=@List.lookup_cons
def kO:=@if_neg
def kW:=@List.all_eq_true
def kY:=@Ne.symm
def kZ:=@List.length_set
def jb:=@PySem.wpAny_holding
def jc:=@List.mem_append_right
def jd:=@List.mem_map
def je:=@List.getElem?_map
def jf:=@PySem.W.kia_one
def jh:=@List.map_nil
def ji:=@PySem.wpAny_field
def jj:=@if_false
def jk:=@List.cons_append
def jl:=@List.prefix_append
def jm:=@PySem.wpAny_newObj_type
def jn:=@PySem.wpAny_callSpecial?_slot
def jo:=@PyProof.Rows.callWith_type1
def jq:=@List.zip_cons_cons
def jr:=@beq_eq_false_iff_ne
def jt:=@List.all_cons
def ju:=@List.mem_of_getElem?
def jw:=@Bool.and_eq_true_iff
def jx:=@PySem.wpAny_call_entry
def jy:=@PySem.wpAny_Call_Name_kw
def jz:=@List.nodup_cons
def jA:=@List.mem_iff_getElem?
def jB:=@List.find?_cons
def jC:=@PyProof.Rows.slot_tuple_getitem
def jD:=@Nat.lt_irrefl
def jE:=@Bool.false_eq_true
def jF:=@PySem.wpAny_seqItems
def jG:=@decide_eq_false
def jH:=@PySem.builtinLookup_eq_fast
def jJ:=@List.length_eq_zero_iff
def jK:=@List.cons.injEq
def jL:=@PySem.Heap.get?_update_self
def jM:=@List.mem_append_left
def jN:=@List.getElem?_eq_none_iff
def jO:=@List.set_append_right
def jP:=@List.getElem?_eq_none
def jQ:=@PySem.wpAny_of_eq
def jR:=@congrArg
def jT:=@Nat.lt_succ_self
def jU:=@PySem.wpAny_isInstance
def jV:=@List.replicate_succ
def jW:=@List.length_reverse
def jX:=@List.foldl_cons
def jY:=@PySem.wpAny_attempt
def jZ:=@PySem.wpAny_typeOf
def j0:=@not_or
def j4:=@PySem.Heap.size_push
def j5:=@List.getD_eq_getElem?_getD
def j6:=@PySem.wpAny_setField_rec
def j7:=@beq_iff_eq
def j8:=@Option.isSome_iff_exists
def j9:=@List.of_mem_zip
def qd:=@List.length_zip
def qe:=@Int.toNat_natCast
def qg:=@Nat.ne_of_gt
def qi:=@List.getElem?_replicate
def qj:=@Int.eq_ofNat_of_zero_le
def ql:=@PySem.typeLookup_type
def qm:=@List.any_eq_true
def qp:=@PySem.F.slot_zip_next
def qt:=@decide_eq_true
def qu:=@PySem.Heap.SameBut.update
def qw:=@List.length_replicate
def qx:=@PySem.wpAny_rule
def qy:=@of_decide_eq_true
def qz:=@List.flatten_cons
def qC:=@PySem.Heap.get?_update_other
def qD:=@PySem.Obj.data_mapFields
def qF:=@PySem.Calls.spliced_cons
def qG:=@List.mem_of_mem_drop
def qH:=@PySem.wpAny_passesOwn
def qI:=@Option.isNone_iff_eq_none
def qJ:=@List.drop_eq_getElem_cons
def qK:=@Option.bind_some
def qL:=@List.length_take
def qM:=@PySem.wpAny_mono
def qN:=@PySem.mem_of_lookup
def qO:=@Nat.zero_le
def qP:=@Nat.sub_self
def qQ:=@PySem.F.slot_tuple_iterator_next
def qR:=@PySem.Around.under_plainId
def qT:=@List.forIn_cons
def qU:=@Int.emod_lt_of_pos
def qW:=@List.reverse_cons
def qX:=@List.length_range
def qY:=@Bool.not_eq_true'
def qZ:=@PySem.plainId_quiet
def q8:=@Nat.add_comm
def q9:=@List.map_map
def vd:=@List.length_drop
def vf:=@List.getElem_inj
def vg:=@PySem.wpAny_truthy_bool
def vh:=@PySem.wpAny_pyIter_list
def vm:=@PySem.sizeLine_eq
def vo:=@PySem.call_meets
def vp:=@PySem.Calls.spliced_nil
def vq:=@Nat.le_succ
def vA:=@List.mem_filter
def vB:=@List.map_append
def vC:=@Int.emod_nonneg
def vD:=@Bool.eq_iff_iff
def vG:=@PySem.F.slot_tuple_mul
def vH:=@PySem.AutoSeq1.idx_int
def vI:=@PySem.W.callWith_K
def vJ:=@Option.isSome_some
def vK:=@PySem.Heap.get?_none_of_le
def vL:=@List.nodup_nil
def vM:=@List.mem_of_find?_eq_some
def vN:=@PySem.wpAny_updateSeq
def vO:=@PySem.wpAny_specialOf
def vP:=@decide_eq_true_eq
def vQ:=@PySem.codeAny_builtin
def vR:=@PySem.W.kitx_list
def vU:=@PySem.F.args_tuple_add_2
def vV:=@Nat.lt_succ_of_lt
def vW:=@PySem.F.plainAttrs_list
def vX:=@PySem.F.entry_tuple_add
def vY:=@Nat.add_mul
def vZ:=@List.any_cons
def v6:=@Option.join_some
def v7:=@List.filter_cons
def v8:=@PySem.wpAny_setField
def v9:=@PySem.isSubtype_type
def wg:=@PySem.F.slot_tuple_add
def wj:=@PySem.F.slot_dict_get
def wu:=@Nat.le_of_lt
def wz:=@PySem.F.slot_list_getattribute
def wA:=@PySem.F.args_zip_next_1
def wB:=@PySem.wpAny_throw
def wC:=@Nat.mul_le_mul_right
def wD:=@PySem.F.slot_zip_getattribute
def wF:=@List.forIn_nil
def wG:=@List.drop_zero
def wI:=@PySem.F.entry_zip_next
def wJ:=@PySem.W.plainGet_of
def wK:=@List.filterMap_cons
def wL:=@PySem.Calls.callWith_builtin
def wM:=@Array.length_toList
def wO:=@PySem.wpAny_execs_nil
def wQ:=@Prod.mk.injEq
def wR:=@PySem.PassesOwn.never
def wU:=@PySem.Obj.isFreed_of_fields
def wV:=@PySem.F.slot_int_rmul
def wW:=@Array.find?_toList
def wX:=@PySem.wpAny_updateSeq_pair
def wY:=@PySem.W.kitx_dict
def wZ:=@List.nodup_append
def yc:=@PySem.F.plain_reversed_new
def yd:=@PyProof.Rows.tupleItemsOf_
def ye:=@PySem.callType_codes
def yf:=@List.take_length
def yg:=@List.drop_length
def yh:=@PySem.wpAny_standAt
def yj:=@PySem.wpAny_pyIter_tuple
def ym:=@PySem.wpAny_onRaise
def yo:=@PySem.tupleKind_room_in1
def yp:=@Sum.inr.inj
def yq:=@Prod.mk.inj
def yr:=@Option.map_some
def yt:=@List.lookup_nil
def yu:=@PySem.F.args_tuple_mul_2
def yw:=@PySem.typeIs_int
def yx:=@PySem.F.plain_extend_loop
def yz:=@List.mem_range
def yC:=@PySem.F.entry_tuple_mul
def yD:=@PySem.concat_meets
def yE:=@PySem.codeAny_mono
def yF:=@PySem.wpAny_pyIter_zip
def yG:=@PySem.noFill_tuple_add
def yH:=@PySem.F.args_dict_get_3
def yI:=@Nat.add_sub_cancel_left
def yJ:=@List.sum_cons
def yK:=@PySem.W.cellsFrom_some
def yL:=@PySem.F.entry_dict_get
def yM:=@List.take_of_length_le
def yN:=@List.drop_of_length_le
def yO:=@PySem.F.args_tuple_iterator_next_1
def yP:=@PySem.wpAny_letGo
def yQ:=@PySem.W.methodCall_KW
def yR:=@Nat.mul_comm
def yS:=@List.set_set
def yU:=@PySem.Heap.DictOf.new
def yV:=@PySem.F.entry_tuple_iterator_next
def yW:=@PySem.Calls.Name_function_global
def yX:=@Array.mem_toList_iff
def yZ:=@PySem.wpAny_dictSetHashed_pairs
def xf:=@PySem.wpAny_binaryOp_repeat_ref
def xg:=@PySem.isSubtype_stop
def xj:=@PySem.W.callWith_K0
def xm:=@Int.toNat_of_nonneg
def xn:=@Bool.or_eq_true_iff
def xq:=@PySem.Walks.list
def xr:=@PySem.W.kitx_tuple
def xu:=@Option.isNone_none
def xx:=@List.mem_singleton
def xF:=@List.mem_filterMap
def xG:=@PySem.AutoSeq1.sub_tuple_tuple
def xH:=@Array.forIn_toList
local macro_rules|`(⋯)=>`(by decide +kernel)
local macro_rules|`(∅)=>`(by omega)
namespace ML
open PySem PySem.W PyProof.Rows
inductive Cn where
 | int (i:Int) | str (x:Str) | tup (l:List Cn)
noncomputable def oO(h:Heap)(v:Value):Option (Array Value):=match v with
 | .ref a=>(h.get? a).bind λo=>match o.cls with
  | .type t=>if t="tuple" then (match o.data with | .seq its _=>if o.dict.isNone then some its else none | _=>none) else none
  | _=>none
 | _=>none
noncomputable def isI(i:Int)(v:Value):Bool:=match v with | .int j _=>i==j | _=>false
noncomputable def Qv(x:Str)(v:Value):Bool:=match v with | .str y _=>x==y | _=>false
noncomputable def am{α β:Type}(p:α->β->Bool):List α->List β->Bool
 | [],[]=>true
 | a::l,b::r=>p a b&&am p l r
 | _,_=>false
noncomputable def fk(h:Heap):Nat->Cn->Value->Bool
 | 0,_,_=>false
 | n+1,w,v=>match w with
  | .int i=>isI i v
  | .str x=>Qv x v
  | .tup l=>(oO h v).any λits=>decide (its.size<=sizeLine)&&am (fk h n) l its.toList
noncomputable def dictAt(h:Heap)(v:Value):Option (Array DictEntry):=match v with
 | .ref a=>(h.get? a).bind λo=>match o.cls with
  | .type t=>if t="dict" then (match o.data with | .dict es _=>if o.dict.isNone&&o.slots.isEmpty&&a != sysModules then some es else none | _=>none) else none
  | _=>none
 | _=>none
noncomputable def Vf(h:Heap)(l:List (Str×Cn))(v:Option Value):Bool×List Int:=match v.bind (dictAt h) with
 | some es=>(am (λp (e:DictEntry)=>Qv p.1 e.key&&fk h 9 p.2 e.val) l es.toList,es.toList.map (·.hash))
 | none=>(false,[])
noncomputable def mT(cons:List (Str×Cn))(bins:List Str)(h:Heap):Bool:=h.isNs mainGlobals&&cons.all (λp=>(h.nsMap mainGlobals p.1).any λv=>fk h 9 p.2 v)&&bins.all λx=>(h.nsMap mainGlobals x).isNone
noncomputable def rX(tabs:List (Str×List (Str×Cn)))(h:Heap):List (Bool×List Int):=tabs.map λp=>Vf h p.2 (h.nsMap mainGlobals p.1)
noncomputable def l3(tabs:List (Str×List (Str×Cn)))(w:World):List (Bool×List Int):=tabs.map λp=>(true,p.2.map λk=>PyData.keyHash w.params k.1)
noncomputable def DR(cons:List (Str×Cn))(tabs:List (Str×List (Str×Cn)))(bins:List Str):PySem.W.Hook:=
 ⟨Bool×List (Bool×List Int),λs=>(mT cons bins s.heap,rX tabs s.heap),λw=>(true,l3 tabs w),
  λw h=>∃h₀:Heap,(∀b o,h₀.get? b=some o->h.get? b=some o)/\mT cons bins h₀=true/\rX tabs h₀=l3 tabs w,
  λw s e=>⟨s.heap,λ_ _ z=>z,jR Prod.fst e,jR Prod.snd e⟩,λw h h' ⟨h₀,a,b⟩ k=>⟨h₀,λ_ _ z=>k _ _ (a _ _ z),b⟩⟩
def YO{p q:Program}{loose:List Str}{Xt:Shared->Bool}{α:Type}{Yf:Shared->α}{Ya:World->α}{N:Nat}{g0:Bool}(row:String)
  (hf:∀w:World,(openEnds treeTable p (w.withFollow row false) N).map (λs=>(openSeen q loose (importedModules p.main.body) Xt g0 s,Yf s))=some (openGood q loose,Ya (w.withFollow row false)))
  (ht:∀w:World,(openEnds treeTable p (w.withFollow row true) N).map (λs=>(openSeen q loose (importedModules p.main.body) Xt g0 s,Yf s))=some (openGood q loose,Ya (w.withFollow row true))):LeftO p q loose Xt Yf Ya N g0:=
 byRow2 row (P:=λw=>(openEnds treeTable p w N).map (λs=>(openSeen q loose (importedModules p.main.body) Xt g0 s,Yf s))=some (openGood q loose,Ya w)) hf ht
noncomputable def VA(h:Heap)(x:Str)(v:Value):Bool:=match v,h.nsMap mainGlobals x with
 | .ref a,some (.ref b)=>a==b
 | _,_=>false
noncomputable def Wb(h:Heap)(l:List (Str×Str))(v:Option Value):Bool×List Int:=match v.bind (dictAt h) with
 | some es=>(am (λp (e:DictEntry)=>Qv p.1 e.key&&VA h p.2 e.val) l es.toList,es.toList.map (·.hash))
 | none=>(false,[])
noncomputable def Vp(ways:List (Str×List (Str×Str)))(h:Heap):List (Bool×List Int):=ways.map λp=>Wb h p.2 (h.nsMap mainGlobals p.1)
noncomputable def goodW(ways:List (Str×List (Str×Str)))(w:World):List (Bool×List Int):=ways.map λp=>(true,p.2.map λk=>PyData.keyHash w.params k.1)
noncomputable def Yr(cons:List (Str×Cn))(tabs:List (Str×List (Str×Cn)))(bins:List Str)(ways:List (Str×List (Str×Str))):PySem.W.Hook:=
 ⟨(Bool×List (Bool×List Int))×List (Bool×List Int),λs=>((mT cons bins s.heap,rX tabs s.heap),Vp ways s.heap),λw=>((true,l3 tabs w),goodW ways w),
  λw h=>∃h₀:Heap,(∀b o,h₀.get? b=some o->h.get? b=some o)/\mT cons bins h₀=true/\rX tabs h₀=l3 tabs w/\Vp ways h₀=goodW ways w,
  λw s e=>⟨s.heap,λ_ _ z=>z,jR (·.1.1) e,jR (·.1.2) e,jR (·.2) e⟩,λw h h' ⟨h₀,a,b⟩ k=>⟨h₀,λ_ _ z=>k _ _ (a _ _ z),b⟩⟩
end ML
namespace K17
open PySem PySem.W PyProof.Rows ML
def pw:Program:=PySem.Challenge.pw_shelfwork_k17_whole_reckoning
def isNm(x:String):Expr->Bool | .Name y ..=>y==x | _=>false
def drops:Stmt->Bool
 | .Assign [t] ..=>isNm "FORMS" t||isNm "WAYS" t||isNm "__name__" t
 | _=>false
def q:Program:={ pw with main:={ pw.main with body:=pw.main.body.filter λs=>!drops s } }
def Yl:List (Str×Cn):=[("SHELVES",(.tup [.str "a",.str "b",.str "c",.str "d"])),("MODULUS",(.int 1009)),("LOOP_MODULUS",(.int 4))]
def tabsC:List (Str×List (Str×Cn)):=[("FORMS",[("number",(.tup [.int 2,.int 2])),("name",(.tup [.int 2,.int 2])),("read",(.tup [.int 2,.int 2])),("write",(.tup [.int 3,.int 2])),("add",(.tup [.int 3,.int 1])),("less",(.tup [.int 3,.int 1])),("then",(.tup [.int 3,.int 1])),("if",(.tup [.int 4,.int 1])),("loop",(.tup [.int 3,.int 1])),("let",(.tup [.int 4,.int 2])),("own",(.tup [.int 4,.int 2])),("say",(.tup [.int 2,.int 1])),("ask",(.tup [.int 1,.int 1])),("do",(.tup [.int 2,.int 2])),("call",(.tup [.int 4,.int 2]))])]
def Dh:List Str:=["dict","int","isinstance","len","list","min","range","reversed","sum","tuple","zip"]
def DX:List (Str×List (Str×Str)):=[("WAYS",[("number","do_number"),("name","do_name"),("read","do_read"),("write","do_write"),("add","do_add"),("less","do_less"),("then","do_then"),("if","do_if"),("loop","do_loop"),("let","do_let"),("own","do_own"),("say","do_say"),("ask","do_ask"),("do","do_handed"),("call","do_call")])]
noncomputable def H:Hook:=Yr Yl tabsC Dh DX
set_option maxHeartbeats 0 in
theorem said:PySem.Challenge.rw_shelfwork_k17_whole_reckoning.wellSaid=true:=by kernel_rfl
set_option maxHeartbeats 0 in
theorem leftF(w:World):(openEnds treeTable pw (w.withFollow "special-get-raises" false) 8000).map (λs=>(openSeen q ["FORMS","WAYS"] (importedModules pw.main.body) (λs=>xlAt q [] s&&recOk [] s) true s,H.obs s))=some (openGood q ["FORMS","WAYS"],H.val (w.withFollow "special-get-raises" false)):=by kernel_rfl
set_option maxHeartbeats 0 in
theorem leftT(w:World):(openEnds treeTable pw (w.withFollow "special-get-raises" true) 8000).map (λs=>(openSeen q ["FORMS","WAYS"] (importedModules pw.main.body) (λs=>xlAt q [] s&&recOk [] s) true s,H.obs s))=some (openGood q ["FORMS","WAYS"],H.val (w.withFollow "special-get-raises" true)):=by kernel_rfl
def left:LeftO pw q ["FORMS","WAYS"] (λs=>xlAt q [] s&&recOk [] s) H.obs H.val 8000:=YO "special-get-raises" leftF leftT
end K17
section
namespace L2
open PySem PySem.Spec PyProof.Rows
abbrev Key:=Sum Int Str
def iw:Key->Value->Bool
 | .inl k,v=>Value.isInt k v
 | .inr x,v=>Value.isStrOf x v
def Fz(w:World):Key->Int
 | .inl k=>hashInt k
 | .inr x=>hashStr w x
def wm:∀{k:Key} {v:Value},iw k v=true->(∃i t,k=Sum.inl i/\v=Value.int i t)\/(∃x t,k=Sum.inr x/\v=Value.str x t)
 | .inl i,v,h=>by
  obtain⟨t,e⟩:=Value.isInt_shape (k:=i) (v:=v) h;exact .inl ⟨i,t,rfl,e⟩
 | .inr x,v,h=>by
  obtain⟨t,e⟩:=Value.isStrOf_shape (x:=x) (v:=v) h;exact .inr ⟨x,t,rfl,e⟩
def Jl(i:Int)(t:Tok):iw (.inl i) (.int i t)=true:=by simp[iw,Value.isInt]
def Qh(x:Str)(t:Tok):iw (.inr x) (.str x t)=true:=by simp[iw,Value.isStrOf]
def UW(a b:Int):decide ((Sum.inl a:Key)=Sum.inl b)=(a==b):=by
 by_cases e:a=b
 .subst e;simp
 .have h:¬(Sum.inl a:Key)=Sum.inl b:=λq=>e (Sum.inl.inj q)
  rw[jG h];exact(jr.mpr e).symm
def BA(a b:Str):decide ((Sum.inr a:Key)=Sum.inr b)=decide (a=b):=by
 by_cases e:a=b
 .subst e;simp
 .have h:¬(Sum.inr a:Key)=Sum.inr b:=λq=>e (yp q)
  rw[jG h,jG e]
def CA(a:Int)(b:Str):decide ((Sum.inl a:Key)=Sum.inr b)=false:=jG (λq=>nomatch q)
def CG(a:Str)(b:Int):decide ((Sum.inr a:Key)=Sum.inl b)=false:=jG (λq=>nomatch q)
def qr(prog:Program)(w:World):PySem.KeyKind prog w Key where
 is:=iw
 hash:=Fz w
 inj:=λv a b ha hb=>by
  rcases wm ha with ⟨i,t,rfl,rfl⟩ | ⟨x,t,rfl,rfl⟩
  .rcases wm hb with ⟨j,u,rfl,e⟩ | ⟨y,u,rfl,e⟩
   .injection e with e1 _;rw[e1]
   .exact nomatch e
  .rcases wm hb with ⟨j,u,rfl,e⟩ | ⟨y,u,rfl,e⟩
   .exact nomatch e
   .injection e with e1 _;rw[e1]
 byValue:=λk v h=>by
  rcases wm h with ⟨i,t,rfl,rfl⟩ | ⟨x,t,rfl,rfl⟩<;>rfl
 pyHash:=λhv h=>by
  rcases wm hv with ⟨i,t,rfl,rfl⟩ | ⟨x,t,rfl,rfl⟩
  .exact wpAny_pyHash_int h
  .exact wpAny_pyHash_str h
 eqBool:=λhu hv h=>by
  rcases wm hu with ⟨i,t,rfl,rfl⟩ | ⟨x,t,rfl,rfl⟩
  .rcases wm hv with ⟨j,u,rfl,rfl⟩ | ⟨y,u,rfl,rfl⟩
   .rw[UW] at h;exact wpAny_eqBool_int h
   .rw[CA] at h;exact SeqAt.EqAt.int_str i t y u _ _ _ _ h
  .rcases wm hv with ⟨j,u,rfl,rfl⟩ | ⟨y,u,rfl,rfl⟩
   .rw[CG] at h;exact SeqAt.EqAt.str_int x t j u _ _ _ _ h
   .rw[BA] at h;exact wpAny_eqBool_str h
 «strs»:=λk x t v h=>by
  rcases wm h with ⟨i,u,rfl,e⟩ | ⟨y,u,rfl,e⟩
  .exact nomatch e
  .injection e with e1 _
   subst e1;cases v<;>rfl
def tJ(prog:Program)(w:World)(i:Int)(t:Tok):(qr prog w).is (.inl i) (.int i t)=true:=Jl i t
def tw(prog:Program)(w:World)(x:Str)(t:Tok):(qr prog w).is (.inr x) (.str x t)=true:=Qh x t
end L2
namespace L2
open PySem PySem.Spec PyProof.Rows
inductive V where
 | non | bl (b:Bool) | int (i:Int) | str (x:Str) | byt (b:Array UInt8) | flt (b:UInt64) | ref (a:Addr) | ty (n:String)
 deriving DecidableEq
def RelV:V->Value->Prop
 | .non,u=>u=Value.none
 | .bl b,u=>u=Value.bool b
 | .int i,u=>∃t,u=Value.int i t
 | .str x,u=>∃t,u=Value.str x t
 | .byt b,u=>∃t,u=Value.bytes b t
 | .flt b,u=>∃t,u=Value.float b t
 | .ref a,u=>u=Value.ref a
 | .ty n,u=>u=Value.type n
abbrev Vals:List V->List Value->Prop:=Paired RelV
theorem Vals.length{xs:List V}{us:List Value}(r:Vals xs us):xs.length=us.length:=Paired.length r
theorem Vals.get:∀{xs:List V} {us:List Value} {i:Nat} {x:V},Vals xs us->xs[i]?=some x->∃u,us[i]?=some u/\RelV x u
 | _,_,_,_,.nil,e=>by simp at e
 | _,_,0,_,.cons r _,e=>by simp at e;subst e;exact⟨_,rfl,r⟩
 | _,_,i+1,x,.cons _ t,e=>by
  obtain⟨u,h1,h2⟩:=Vals.get (i:=i) (x:=x) t (by simpa using e);exact⟨u,by simpa using h1,h2⟩
theorem Vals.set{x:V}{u:Value}(r:RelV x u):∀{xs:List V} {us:List Value} (i:Nat),Vals xs us->Vals (xs.set i x) (us.set i u)
 | _,_,_,.nil=>.nil
 | _,_,0,.cons _ t=>.cons r t
 | _,_,i+1,.cons q t=>.cons q (Vals.set r i t)
theorem Vals.append:∀{xs ys:List V} {us ws:List Value},Vals xs us->Vals ys ws->Vals (xs++ys) (us++ws)
 | _,_,_,_,.nil,s=>s
 | _,_,_,_,.cons r t,s=>.cons r (Vals.append t s)
theorem Vals.take:∀{xs:List V} {us:List Value} (n:Nat),Vals xs us->Vals (xs.take n) (us.take n)
 | _,_,0,_=>.nil
 | _,_,_+1,.nil=>.nil
 | _,_,n+1,.cons r t=>.cons r (Vals.take n t)
theorem Vals.drop:∀{xs:List V} {us:List Value} (n:Nat),Vals xs us->Vals (xs.drop n) (us.drop n)
 | _,_,0,r=>r
 | _,_,_+1,.nil=>.nil
 | _,_,n+1,.cons _ t=>Vals.drop n t
def RelO:Option V->Option Value->Prop
 | some v,some u=>RelV v u
 | none,none=>True
 | _,_=>False
def KV{κ:Type}:List (κ×V)->List (κ×Value)->Prop:=Paired λ(p:κ×V) (q:κ×Value)=>p.1=q.1/\RelV p.2 q.2
def kV:Key->V
 | .inl i=>.int i
 | .inr x=>.str x
inductive HO where
 | lst (xs:List V)
 | tup (xs:List V)
 | dK (kvs:List (Key×V)) | dT (kvs:List (List Key×V))
 | set (S:Int->Bool) (n:Nat)
 | ins (C dx:Addr) (fs:List (Str×V))
 | own (x:Addr)
 | xd (fs:List (Str×V))
 | met (f x:Addr)
 | rng (lo hi:Int)
 | frz (o:Obj) (u:HO)
 | tbl (ps:Array Value)
 | ext (φ:Heap->Prop)
abbrev Hp:=Addr->Option HO
def upd(H:Hp)(a:Addr)(o:HO):Hp:=λb=>if b=a then some o else H b
def qk{H:Hp}{a:Addr}{o:HO}:upd H a o a=some o:=by unfold upd;rw[zY rfl]
def kM{H:Hp}{a b:Addr}{o:HO}(h:b≠a):upd H a o b=H b:=by unfold upd;rw[kO h]
def D3{H:Hp}{a b:Addr}{o u:HO}(h:H a=some o)(h':H b=some u)(d:o≠u):a≠b:=by
 intro e;subst e;rw[h] at h';exact d (kh h')
def qA{H:Hp}{a b:Addr}{o:HO}(h:H a=some o)(h':H b=none):a≠b:=by
 intro e;subst e;rw[h] at h';cases h'
def NoDi(h:Heap)(a:Addr):Prop:=∃o,h.get? a=some o/\o.dict=none
def NoDi.new(h:Heap)(o:Obj)(n:o.dict=none:=by rfl)(f:o.isFreed=false:=by rfl):NoDi (h.push o) h.objs.size:=⟨o,zQ _ f,n⟩
section
variable(P:Program)(w:World)
def ObjOk(H:Hp)(h:Heap)(a:Addr):HO->Prop
 | .lst xs=>xs.length<=sizeLine/\∃(its:List Value) (n:Nat),Vals xs its/\h.get? a=some { cls:=.type "list",data:=.seq its.toArray n }
 | .tup xs=>xs.length<=sizeLine/\∃its:List Value,Vals xs its/\IsTup h a its.toArray/\NoDi h a
 | .dK kvs=>kvs.length<=sizeLine/\(a==sysModules)=false/\∃vs,KV kvs vs/\h.DictOf (qr P w) a vs
 | .dT kvs=>kvs.length<=sizeLine/\(a==sysModules)=false/\∃xs:List (List Key×Addr×Value),
   Paired (λ(p:List Key×V) (q:List Key×Addr×Value)=>p.1=q.1/\H q.2.1=some (.tup (p.1.map kV))/\RelV p.2 q.2.2) kvs xs /\
   ∃o es ep,h.get? a=some o/\o.ExactDict/\o.data=.dict es ep/\es.toList=xs.map (entryOfKey (tupleKind (qr P w)))/\(xs.map (·.1)).Nodup
 | .set S n=>h.SetOf (intKind P w) a S n
 | .ins C dx fs=>H dx=some (.own a)/\fs.length<=1000/\dx≠a/\h.get? a=some (PySem.W.instObj C dx) /\
   ∃mA,h.Ns1 dx mA/\(∀f,RelO (fs.lookup f) (mA f))/\PySem.Within mA (fs.map (·.1))
 | .own _=>∃o,h.get? a=some o
 | .xd fs=>∃mA,h.Ns1 a mA/\∀f,RelO (fs.lookup f) (mA f)
 | .rng lo hi=>∃t u v,h.get? a=some { cls:=.type "range",data:=.fields #[.int lo t,.int hi u,.int 1 v] }
 | .frz o u=>h.get? a=some o/\ObjOk H h a u
 | .tbl ps=>h.get? a=some { cls:=.none,data:=.fields ps }
 | .met f x=>h.get? a=some (PySem.W.methodObj (.ref f) (.ref x))
 | .ext φ=>φ h/\(∃o,h.get? a=some o)/\∀h1 h2:Heap,φ h1->(∀o,h1.get? a=some o->h2.get? a=some o)->φ h2
def HOk(H:Hp)(h:Heap):Prop:=∀a o,H a=some o->ObjOk P w H h a o
end
section
variable{P:Program}{w:World}{H H':Hp}{h h':Heap}{a:Addr}{o:HO}
theorem ObjOk.lt(x:ObjOk P w H h a o):a<h.objs.size:=by
 cases o with
 | lst xs=>obtain⟨_,_,_,_,e⟩:=x;exact zA e
 | tup xs=>obtain⟨_,_,_,p,_⟩:=x;exact p.lt
 | dK kvs=>obtain⟨_,_,_,_,o,_,_,e,_⟩:=x;exact zA e
 | dT kvs=>obtain⟨_,_,_,_,o,_,_,e,_⟩:=x;exact zA e
 | set S n=>obtain⟨o,_,_,_,e,_⟩:=x;exact zA e
 | ins C dx fs=>obtain⟨_,_,_,e,_⟩:=x;exact zA e
 | own y=>obtain⟨_,e⟩:=x;exact zA e
 | xd fs=>obtain⟨_,⟨_,_,_,e,_⟩,_⟩:=x;exact zA e
 | rng lo hi=>obtain⟨_,_,_,e⟩:=x;exact zA e
 | frz ob u=>obtain⟨e,_⟩:=x;exact zA e
 | tbl ps=>exact zA (show h.get? a=some _ from x)
 | met f y=>exact zA (show h.get? a=some _ from x)
 | ext φ=>obtain⟨_,⟨_,e⟩,_⟩:=x;exact zA e
theorem Paired.mapP{α β:Type}{F G:α->β->Prop}:∀{l₁:List α} {l₂:List β},Paired F l₁ l₂->(∀a b,F a b->G a b)->Paired G l₁ l₂
 | _,_,.nil,_=>.nil
 | _,_,.cons r t,f=>.cons (f _ _ r) (Paired.mapP t f)
def ObjOk.stay(x:ObjOk P w H h a o)(k:∀b u,(b=a\/H b=some (.own a))->h.get? b=some u->h'.get? b=some u)
  (ho:∀b,H b=some (.own a)->H' b=some (.own a)) (ht:∀b xs,H b=some (.tup xs)->H' b=some (.tup xs)):ObjOk P w H' h' a o:=by
 induction o with
 | lst xs=>obtain⟨z,its,n,r,e⟩:=x;exact⟨z,its,n,r,k _ _ (.inl rfl) e⟩
 | tup xs=>obtain⟨z,its,r,⟨ob,e,c⟩,o2,e2,d2⟩:=x;exact⟨z,its,r,⟨ob,k _ _ (.inl rfl) e,c⟩,o2,k _ _ (.inl rfl) e2,d2⟩
 | dK kvs=>obtain⟨z,y,vs,r,ob,es,ep,e,c⟩:=x;exact⟨z,y,vs,r,ob,es,ep,k _ _ (.inl rfl) e,c⟩
 | dT kvs=>
  obtain⟨z,y,xs,r,ob,es,ep,e,c⟩:=x;exact⟨z,y,xs,Paired.mapP r λp q z=>⟨z.1,ht _ _ z.2.1,z.2.2⟩,ob,es,ep,k _ _ (.inl rfl) e,c⟩
 | set S n=>obtain⟨ob,es,ep,t,e,c⟩:=x;exact⟨ob,es,ep,t,k _ _ (.inl rfl) e,c⟩
 | ins C dx fs=>
  obtain⟨d,z,ne,e,mA,⟨od,es,ep,e2,c⟩,r⟩:=x;exact⟨ho _ d,z,ne,k _ _ (.inl rfl) e,mA,⟨od,es,ep,k _ _ (.inr d) e2,c⟩,r⟩
 | own y=>obtain⟨ob,e⟩:=x;exact⟨ob,k _ _ (.inl rfl) e⟩
 | xd fs=>obtain⟨mA,⟨od,es,ep,e,c⟩,r⟩:=x;exact⟨mA,⟨od,es,ep,k _ _ (.inl rfl) e,c⟩,r⟩
 | rng lo hi=>obtain⟨t,u,v,e⟩:=x;exact⟨t,u,v,k _ _ (.inl rfl) e⟩
 | frz ob u ih=>obtain⟨e,q⟩:=x;exact⟨k _ _ (.inl rfl) e,ih q⟩
 | tbl ps=>
  have e:h.get? a=some { cls:=.none,data:=.fields ps }:=x;show h'.get? a=some { cls:=.none,data:=.fields ps }
  exact k a _ (.inl rfl) e
 | met f y=>
  have e:h.get? a=some (PySem.W.methodObj (.ref f) (.ref y)):=x;show h'.get? a=some (PySem.W.methodObj (.ref f) (.ref y))
  exact k a _ (.inl rfl) e
 | ext φ=>obtain⟨p,⟨o,e⟩,st⟩:=x;exact⟨st _ _ p λo q=>k _ _ (.inl rfl) q,⟨o,k _ _ (.inl rfl) e⟩,st⟩
theorem HOk.lt(x:HOk P w H h)(e:H a=some o):a<h.objs.size:=(x a o e).lt
def HOk.fresh(x:HOk P w H h)(e:h.objs.size<=a):H a=none:=by
 cases q:H a with
 | none=>rfl
 | some u=>exact absurd (zL (x.lt q) e) (jD _)
def HOk.kept(x:HOk P w H h)(k:∀b u,h.get? b=some u->h'.get? b=some u):HOk P w H h':=λa o e=>
 (x a o e).stay (λb u _ q=>k b u q) (λ_ q=>q) λ_ _ q=>q
def HOk.laid(x:HOk P w H h)(k:∀b u,h.get? b=some u->h'.get? b=some u)(hp:h.objs.size<=a)(new:ObjOk P w (upd H a o) h' a o):HOk P w (upd H a o) h':=λb u e=>by
 have hn:=x.fresh hp;by_cases hb:b=a
 .subst hb;rw[qk] at e;cases e;exact new
 .rw[kM hb] at e
  exact(x b u e).stay (λc v _ q=>k c v q) (λc q=>by rw[kM (qA q hn)];exact q) λc xs q=>by rw[kM (qA q hn)];exact q
end
def Rd(H:Hp)(a:Addr)(u:HO):Prop:=H a=some u\/∃o,H a=some (.frz o u)
def Rd.ok{P:Program}{w:World}{H:Hp}{h:Heap}{a:Addr}{u:HO}(r:Rd H a u)(x:HOk P w H h):ObjOk P w H h a u:=by
 rcases r with r | ⟨o,r⟩
 .exact x a u r
 .obtain⟨_,q⟩:=x a _ r
  exact q
def nN:Option HO->Prop
 | some (.lst _)=>True
 | some (.dK _)=>True
 | some (.dT _)=>True
 | some (.set _ _)=>True
 | some (.ins _ _ _)=>True
 | some (.ext _)=>True
 | _=>False
section
variable{P:Program}{w:World}{H:Hp}{h h':Heap}{x e:Addr}{o':HO}
theorem HOk.write(ok:HOk P w H h)(mu:nN (H x))(he:e=x\/H e=some (.own x))(k:∀b u,b≠e->h.get? b=some u->h'.get? b=some u)(heo:∃u,h'.get? e=some u)
  (new:ObjOk P w (upd H x o') h' x o'):HOk P w (upd H x o') h':=λb u q=>by
 have nown:∀c y,H c=some (.own y)->c≠x:=λc y r z=>by subst z;rw[r] at mu;exact mu
 have ntup:∀c xs,H c=some (.tup xs)->c≠x:=λc xs r z=>by subst z;rw[r] at mu;exact mu
 by_cases hb:b=x
 .subst hb;rw[qk] at q;cases q;exact new
 .rw[kM hb] at q
  by_cases hbe:b=e
  .have q':H b=some (.own x):=by
    rcases he with z | z
    .exact absurd (hbe.trans z) hb
    .rw[hbe];exact z
   rw[q] at q';cases q';obtain⟨v,hv⟩:=heo;exact⟨v,by rw[hbe];exact hv⟩
  .refine(ok b u q).stay (λc v hc r=>k c v ?_ r) (λc r=>by rw[kM (nown c b r)];exact r) λc xs r=>by rw[kM (ntup c xs r)];exact r
   rcases hc with rfl | hc
   .exact hbe
   .rintro rfl
    rcases he with z | z
    .exact nown c b hc z
    .rw[hc] at z;cases z;exact hb rfl
end
structure Un(fs ex:List Addr)(H H':Hp)(h h':Heap):Prop where
 keep:∀b o,h.get? b=some o->H b=none->b∉fs->b∉ex->h'.get? b=some o
 slot:∀b o,h.get? b=some o->H b=none->b∈fs->b∉ex->∃sl,h'.get? b=some { o with slots:=sl }
 free:∀b o,h.get? b=some o->H b=none->b∉ex->H' b=none
 there:∀b o,h.get? b=some o->b∉ex->∃o',h'.get? b=some o'
 tups:∀b xs,H b=some (.tup xs)->H' b=some (.tup xs)
 frzs:∀b o u,H b=some (.frz o u)->H' b=some (.frz o u)
 tbls:∀b ps,H b=some (.tbl ps)->∃more,H' b=some (.tbl (ps++more))
section
variable{fs fs' ex ex':List Addr}{H H1 H2:Hp}{h h1 h2 h':Heap}{a x e:Addr}{o:HO}
def Un.any(u:Un fs ex H H1 h h1){b:Addr}{ob:Obj}(q:h.get? b=some ob)(n:H b=none)(hx:b∉ex):∃sl,h1.get? b=some { ob with slots:=sl }:=by
 by_cases hb:b∈fs
 .exact u.slot b ob q n hb hx
 .exact⟨ob.slots,u.keep b ob q n hb hx⟩
def Un.kept(k:∀b u,h.get? b=some u->h'.get? b=some u):Un fs ex H H h h':=
 ⟨λb ob q _ _ _=>k b ob q,λb ob q _ _ _=>⟨ob.slots,k b ob q⟩,λ_ _ _ n _=>n,λb ob q _=>⟨ob,k b ob q⟩,λ_ _ q=>q,λ_ _ _ q=>q,λ_ ps q=>⟨#[],by rw[q];simp⟩⟩
def Un.refl:Un fs ex H H h h:=Un.kept λ_ _ q=>q
def Un.laid(k:∀b u,h.get? b=some u->h'.get? b=some u)(hp:h.objs.size<=a)(hn:H a=none):Un fs ex H (upd H a o) h h' where
 keep:=λb u q _ _ _=>k b u q
 slot:=λb u q _ _ _=>⟨u.slots,k b u q⟩
 free:=λb u q n _=>by rw[kM (zW (zL (zA q) hp))];exact n
 there:=λb u q _=>⟨u,k b u q⟩
 tups:=λb xs q=>by rw[kM (qA q hn)];exact q
 frzs:=λb u xs q=>by rw[kM (qA q hn)];exact q
 tbls:=λb ps q=>⟨#[],by rw[kM (qA q hn),q];simp⟩
def Un.write(mu:nN (H x))(he:e=x\/H e=some (.own x))(k:∀b u,b≠e->h.get? b=some u->h'.get? b=some u)(heo:∃u,h'.get? e=some u):Un fs ex H (upd H x o) h h':=by
 have hx:∀b,H b=none->b≠x:=λb n z=>by subst z;rw[n] at mu;exact mu
 have hb:∀b,H b=none->b≠e:=λb n z=>by
  subst z;rcases he with r | r
  .exact hx b n r
  .rw[n] at r;cases r
 have hm:∀b u,H b=some u->¬nN (some u)->b≠x:=λb u q nm z=>by subst z;rw[q] at mu;exact nm mu
 refine⟨λb u q n _ _=>k b u (hb b n) q,λb u q n _ _=>⟨u.slots,k b u (hb b n) q⟩,λb u q n _=>by rw[kM (hx b n)];exact n,λb u q _=>?_,
  λb xs q=>by rw[kM (hm b _ q λz=>z)];exact q,λb u xs q=>by rw[kM (hm b _ q λz=>z)];exact q,λb ps q=>⟨#[],by rw[kM (hm b _ q λz=>z),q];simp⟩⟩
 by_cases hbe:b=e
 .subst hbe;exact heo
 .exact⟨u,k b u hbe q⟩
end
def Yg(h:Heap)(H:Hp):List Addr:=(List.range h.objs.size).filter λa=>(H a).isSome
def f6(h:Heap)(H:Hp):Heap:=PySem.W.hideAll h (Yg h H)
def Qz(h:Heap)(H:Hp):(f6 h H).objs.size=h.objs.size:=PySem.W.hideAll_size _ _
def Vo{h:Heap}{H:Hp}{b:Addr}{o:Obj}(e:h.get? b=some o)(n:H b=none):(f6 h H).get? b=some o:=
 PySem.W.hideAll_get _ e λhm=>by
  have q:(H b).isSome=true:=(vA.mp hm).2;rw[n] at q;simp at q
def Y2{h:Heap}{H:Hp}{b:Addr}{o:Obj}(e:(f6 h H).get? b=some o):h.get? b=some o/\H b=none:=by
 have e':h.get? b=some o:=PySem.W.of_hideAll (Yg h H) e;refine⟨e',?_⟩;cases q:H b with
 | none=>rfl
 | some x=>
  have hm:b∈Yg h H:=vA.mpr ⟨yz.mpr (zA e'),by simp[q]⟩;have z:(f6 h H).get? b=none:=PySem.W.hideAll_none (Yg h H) hm;rw[z] at e;cases e
end L2
namespace L2
open PySem PySem.Spec PyProof.Rows
structure Mod(K:PySem.W.Frag)(mg:Str->Option Value)(base:Heap):Prop where
 kin:K.In base
 glob:base.Ns mainGlobals mg
 blt:∃mb,base.Ns builtinsNs mb/\∀x:Str,x≠"__name__"->mb x=bootBuiltins x
 nolimit:base.NoLimit
structure Cx where
 prog:Program
 w:World
 K:PySem.W.Frag
 mg:Str->Option Value
 base:Heap
 A:Around
 N:List Str
 s₀:Shared
 H₀:Hp
 env:Env
 outer:List Env
 stack:List Env
 ex:List Addr
 fn:Str->Bool
 calm:Bool
 pn:List (Addr×Obj)
 xe:Value->Shared->Prop
def frs(l:List Env):List Addr:=l.filterMap (·.frame)
abbrev Cx.fs(X:Cx):List Addr:=frs X.outer
def QB(sc:Scope)(x:Str):Prop:=sc.names.lookup x=some .local\/sc.names.lookup x=some .cell\/sc.names.lookup x=some .free
def Loc(sc:Scope)(x:Str):Prop:=sc.names.lookup x=some .local\/sc.names.lookup x=some .cell
def Look(env:Env)(h:Heap)(m:Str->Option Value)(x:Str)(u:Value):Prop:=
 (env.kindOf x=some .local/\m x=some u)\/((env.kindOf x=some .cell\/env.kindOf x=some .free)/\∃c,env.cells.lookup x=some c/\h.IsCell c (some u))
structure Cx.Ok(X:Cx):Prop where
 mod:Mod X.K X.mg X.base
 kind:X.env.scope.kind=.function
 glob:X.env.globals=mainGlobals
 blt:X.env.builtins=builtinsNs
 above:X.s₀.heap.objs.size<=X.env.locals
 inj:∀x y c,X.env.cells.lookup x=some c->X.env.cells.lookup y=some c->x=y
 has:∀x,(X.env.kindOf x=some .cell\/X.env.kindOf x=some .free)->∃c,X.env.cells.lookup x=some c
 cab:∀x c,X.fn x=true->X.env.cells.lookup x=some c->X.s₀.heap.objs.size<=c
 hd:X.calm=true->X.A.handled=none
 frames:X.A.frames=some X.stack
 stk:X.stack=X.outer\/(X.stack=X.env::X.outer/\X.env.frame=some X.env.locals)
 exf:∀b∈X.ex,b≠X.env.locals/\∀x c,X.env.cells.lookup x=some c->c≠b
 bs:∀b o,X.base.get? b=some o->X.s₀.heap.get? b=some o/\X.H₀ b=none
 bsz:X.base.objs.size<=X.s₀.heap.objs.size
 noex:∀b o,X.base.get? b=some o->b∉X.ex
 exfs:∀b∈X.ex,b∉X.fs
 funs:X.s₀.heap.FunFrames X.base X.outer
 frf:∀b∈X.fs,X.H₀ b=none
structure Inv(X:Cx)(pins:List (Addr×Obj))(σ:List (Option V))(H:Hp)(s:Shared):Prop where
 ok:X.Ok
 os:s.os=X.s₀.os
 bare:AllBare s.gens
 base:Un X.fs X.ex X.H₀ H X.s₀.heap s.heap
 loc:∃m,s.heap.Ns X.env.locals m/\∀(i:Nat) (x:Str) (v:V),X.N[i]?=some x->σ[i]?=some (some v)->QB X.env.scope x->∃u,RelV v u/\Look X.env s.heap m x u
 cell:∀x c,X.env.cells.lookup x=some c->∃v,s.heap.IsCell c v
 free:H X.env.locals=none
 freeC:∀x c,X.env.cells.lookup x=some c->H c=none
 pin:∀p∈X.pn++pins,s.heap.get? p.1=some p.2/\H p.1=none/\p.1≠X.env.locals/\p.1∉X.fs/\∀v,p.2.data≠.cell v
 hok:HOk X.prog X.w H s.heap
 len:σ.length=X.N.length
section
variable{X:Cx}{pins:List (Addr×Obj)}{σ:List (Option V)}{H H':Hp}{s:Shared}{h':Heap}
def Cx.Ok.nofr(ok:X.Ok){b:Addr}{o:Obj}(e:X.base.get? b=some o):b∉X.fs:=λhb=>by
 have:=(ok.funs.mem hb).1;rw[e] at this;cases this
theorem Inv.bs(I:Inv X pins σ H s):∀b o,X.base.get? b=some o->s.heap.get? b=some o/\H b=none:=λb o e=>
 ⟨I.base.keep b o (I.ok.bs b o e).1 (I.ok.bs b o e).2 (I.ok.nofr e) (I.ok.noex b o e),I.base.free b o (I.ok.bs b o e).1 (I.ok.bs b o e).2 (I.ok.noex b o e)⟩
def Inv.bk(I:Inv X pins σ H s):∀b o,X.base.get? b=some o->s.heap.get? b=some o:=λb o e=>(I.bs b o e).1
theorem Inv.mod(I:Inv X pins σ H s):Mod X.K X.mg X.base:=I.ok.mod
def Inv.kIn(I:Inv X pins σ H s):X.K.In s.heap:=I.ok.mod.kin.keeps I.bk
theorem Inv.lt(I:Inv X pins σ H s):X.env.locals<s.heap.objs.size:=let ⟨_,hn,_⟩:=I.loc;hn.lt
def Inv.sz(I:Inv X pins σ H s):X.s₀.heap.objs.size<=s.heap.objs.size:=zR I.ok.above (wu I.lt)
def Inv.nofs(I:Inv X pins σ H s){a:Addr}(h:s.heap.objs.size<=a):a∉X.fs:=λhb=>by
 obtain⟨_,o,ho,_⟩:=I.ok.funs.mem hb;exact absurd (zL (zA ho) (zR I.sz h)) (jD _)
def Inv.cne(I:Inv X pins σ H s):∀x c,X.env.cells.lookup x=some c->c≠X.env.locals:=λx c e z=>by
 obtain⟨v,o,ho,hd⟩:=I.cell x c e;obtain⟨m,⟨o',es,ep,ho',hd',_⟩,_⟩:=I.loc;rw[z,ho'] at ho;cases ho;rw[hd'] at hd;cases hd
theorem Inv.funs(I:Inv X pins σ H s):s.heap.FunFrames X.base X.outer:=by
 have all:∀(l:List Env),(∀b∈frs l,b∈X.fs)->X.s₀.heap.FunFrames X.base l->s.heap.FunFrames X.base l:=by
  intro l;induction l with
  | nil=>intro _ _;trivial
  | cons env r ih=>
   intro hs hl;obtain⟨hk,⟨L,o,hf,hn,ho,hd⟩,hr⟩:=hl;have hL:L∈X.fs:=hs L (by unfold frs;rw[wK,hf];exact zX);obtain⟨sl,e⟩:=I.base.slot L o ho (I.ok.frf L hL) hL λz=>I.ok.exfs L z hL
   exact⟨hk,⟨L,_,hf,hn,e,hd⟩,ih (λb hb=>hs b (by unfold frs;rw[wK,hf];exact zJ _ hb)) hr⟩
 exact all X.outer (λ_ hb=>hb) I.ok.funs
theorem Inv.stack(I:Inv X pins σ H s):s.heap.FunFrames X.base X.stack:=by
 rcases I.ok.stk with e | ⟨e,hf⟩
 .rw[e];exact I.funs
 .rw[e]
  obtain⟨m,hn,_⟩:=I.loc;refine .cons (by rw[I.ok.kind];decide) hf hn ?_ I.funs;exact vK (zR I.ok.bsz I.ok.above)
def Inv.stkSub(I:Inv X pins σ H s):∀b∈frs X.stack,b∈X.env.locals::X.fs:=λb hb=>by
 rcases I.ok.stk with e | ⟨e,hf⟩
 .rw[e] at hb;exact zJ _ hb
 .rw[e] at hb
  unfold frs at hb;rw[wK,hf] at hb;exact hb
def Inv.stkFree(I:Inv X pins σ H s):∀b∈frs X.stack,H b=none:=λb hb=>by
 rcases zb.mp (I.stkSub b hb) with e | hb
 .rw[e];exact I.free
 .obtain⟨_,o,ho,_⟩:=I.ok.funs.mem hb
  exact I.base.free b o ho (I.ok.frf b hb) λz=>I.ok.exfs b z hb
def Inv.step{g':Array GenState}{t':Nat}{d':Drawn}{ch:List Addr}(I:Inv X pins σ H s)
  (hch:∀b∈ch,(b∈X.ex\/X.s₀.heap.objs.size<=b)/\b≠X.env.locals/\(∀x c,X.env.cells.lookup x=some c->c≠b)/\∀p∈X.pn++pins,p.1≠b)
  (keep:∀b o,b≠X.env.locals->b∉X.fs->b∉ch->s.heap.get? b=some o->H b=none->h'.get? b=some o)
  (slot:∀b o,b≠X.env.locals->b∈X.fs->b∉ch->s.heap.get? b=some o->H b=none->∃sl,h'.get? b=some { o with slots:=sl }) (free:∀b o,b∉ch->s.heap.get? b=some o->H b=none->H' b=none)
  (there:∀b o,b∉ch->s.heap.get? b=some o->∃o',h'.get? b=some o')
  (tups:∀b xs,H b=some (.tup xs)->H' b=some (.tup xs)) (frzs:∀b o u,H b=some (.frz o u)->H' b=some (.frz o u)) (tbls:∀b ps,H b=some (.tbl ps)->∃more,H' b=some (.tbl (ps++more)))
  (ns:∀m,s.heap.Ns X.env.locals m->h'.Ns X.env.locals m) (hok:HOk X.prog X.w H' h') (hg:AllBare g') :
  Inv X pins σ H' { s with heap:=h',gens:=g',drawn:=d',toks:=t' }:=by
 have neL:∀b o,X.s₀.heap.get? b=some o->b≠X.env.locals:=λb o e=>zW (zL (zA e) I.ok.above)
 have neC:∀b o,X.s₀.heap.get? b=some o->b∉X.ex->b∉ch:=λb o e hx hb=>by
  rcases(hch b hb).1 with z | z
  .exact hx z
  .exact absurd (zL (zA e) z) (jD _)
 have cellK:∀x c,X.env.cells.lookup x=some c->∀v,s.heap.IsCell c v->h'.IsCell c v:=λx c e v ⟨o,ho,hd⟩=>by
  have nch:c∉ch:=λz=>(hch c z).2.2.1 x c e rfl
  by_cases hc:c∈X.fs
  .obtain⟨sl,q⟩:=slot c o (I.cne x c e) hc nch ho (I.freeC x c e)
   exact⟨_,q,hd⟩
  .exact⟨o,keep c o (I.cne x c e) hc nch ho (I.freeC x c e),hd⟩
 refine⟨I.ok,I.os,hg,⟨λb o e n hb hx=>?_,λb o e n hb hx=>?_,λb o e n hx=>?_,λb o e hx=>?_,λb xs e=>tups b xs (I.base.tups b xs e),λb o xs e=>frzs b o xs (I.base.frzs b o xs e),λb ps e=>?_⟩,?_,λx c e=>?_,?_,λx c e=>?_,λp hp=>?_,hok,I.len⟩
 .exact keep b o (neL b o e) hb (neC b o e hx) (I.base.keep b o e n hb hx) (I.base.free b o e n hx)
 .obtain⟨sl,e1⟩:=I.base.slot b o e n hb hx
  obtain⟨sl',e2⟩:=slot b _ (neL b o e) hb (neC b o e hx) e1 (I.base.free b o e n hx);exact⟨sl',e2⟩
 .obtain⟨o',e1⟩:=I.base.there b o e hx
  exact free b o' (neC b o e hx) e1 (I.base.free b o e n hx)
 .obtain⟨o',e1⟩:=I.base.there b o e hx
  exact there b o' (neC b o e hx) e1
 .obtain⟨m1,e1⟩:=I.base.tbls b ps e
  obtain⟨m2,e2⟩:=tbls b _ e1;exact⟨m1++m2,by rw[e2,Array.append_assoc]⟩
 .obtain⟨m,hn,hl⟩:=I.loc
  refine⟨m,ns m hn,λi x v e1 e2 e3=>?_⟩;obtain⟨u,r,l⟩:=hl i x v e1 e2 e3;refine⟨u,r,?_⟩;rcases l with l | ⟨k,c,e,z⟩
  .exact .inl l
  .exact .inr ⟨k,c,e,cellK x c e _ z⟩
 .obtain⟨v,z⟩:=I.cell x c e
  exact⟨v,cellK x c e v z⟩
 .obtain⟨m,⟨o,_,_,ho,_⟩,_⟩:=I.loc
  exact free _ o (λz=>(hch _ z).2.1 rfl) ho I.free
 .obtain⟨v,o,ho,hd⟩:=I.cell x c e
  exact free c o (λz=>(hch c z).2.2.1 x c e rfl) ho (I.freeC x c e)
 .obtain⟨e,n,ne,nf,d⟩:=I.pin p hp
  have nch:p.1∉ch:=λz=>(hch p.1 z).2.2.2 p hp rfl
  exact⟨keep p.1 p.2 ne nf nch e n,free p.1 p.2 nch e n,ne,nf,d⟩
def Inv.un{t':Nat}(I:Inv X pins σ H s)(u:Un X.fs [] H H' s.heap h')(hok:HOk X.prog X.w H' h'):Inv X pins σ H' { s with heap:=h',toks:=t' }:=by
 obtain⟨m,⟨o,es,ep,ho,r⟩,_⟩:=id I.loc;obtain⟨sl,hL⟩:=u.any ho I.free (by simp)
 exact I.step (g':=s.gens) (d':=s.drawn) (ch:=[]) (λ_ z=>nomatch z) (λb o _ hb _ e n=>u.keep b o e n hb (by simp)) (λb o _ hb _ e n=>u.slot b o e n hb (by simp)) (λb o _ e n=>u.free b o e n (by simp)) (λb o _ e=>u.there b o e (by simp)) u.tups u.frzs u.tbls (λm' hm=>by
  obtain⟨o',es',ep',ho',r'⟩:=hm;rw[ho] at ho';cases ho'
  exact⟨_,es',ep',hL,r'⟩) hok I.bare
def Inv.call{g':Array GenState}{t':Nat}{d':Drawn}{ch:List Addr}(I:Inv X pins σ H s)(u:Un (frs X.stack) ch H H' s.heap h')(hok:HOk X.prog X.w H' h')(hg:AllBare g')
  (hch:∀b∈ch,(b∈X.ex\/X.s₀.heap.objs.size<=b)/\b≠X.env.locals/\(∀x c,X.env.cells.lookup x=some c->c≠b)/\∀p∈X.pn++pins,p.1≠b) :
  Inv X pins σ H' { s with heap:=h',gens:=g',drawn:=d',toks:=t' }:=by
 obtain⟨m,⟨o,es,ep,ho,r⟩,_⟩:=id I.loc;obtain⟨sl,hL⟩:=u.any ho I.free λz=>(hch _ z).2.1 rfl
 exact I.step (ch:=ch) hch (λb o hL hb hc e n=>u.keep b o e n (λz=>(zb.mp (I.stkSub b z)).elim hL hb) hc) (λb o _ _ hc e n=>u.any e n hc) (λb o hc e n=>u.free b o e n hc) (λb o hc e=>u.there b o e hc) u.tups u.frzs u.tbls (λm' hm=>by
  obtain⟨o',es',ep',ho',r'⟩:=hm;rw[ho] at ho';cases ho'
  exact⟨_,es',ep',hL,r'⟩) hok hg
def Inv.turned{t':Nat}{it:Addr}(I:Inv X pins σ H s)(k:∀b o,b≠it->s.heap.get? b=some o->h'.get? b=some o)(hn:H it=none)(hL:it≠X.env.locals)
  (h1:it∈X.ex\/X.s₀.heap.objs.size<=it) (h2:∀x c,X.env.cells.lookup x=some c->c≠it) (h3:∀p∈X.pn++pins,p.1≠it):Inv X pins σ H { s with heap:=h',toks:=t' }:=by
 have nit:∀b u,H b=some u->b≠it:=λb u e z=>by rw[z,hn] at e;cases e
 refine I.step (g':=s.gens) (d':=s.drawn) (ch:=[it]) (λb hb=>?_) (λb o _ _ hc e _=>k b o (λz=>hc (by simp[z])) e) (λb o _ _ hc e _=>⟨o.slots,k b o (λz=>hc (by simp[z])) e⟩) (λ_ _ _ _ n=>n)
  (λb o hc e=>⟨o,k b o (λz=>hc (by simp[z])) e⟩) (λ_ _ e=>e) (λ_ _ _ e=>e) (λb ps e=>⟨#[],by rw[e];simp⟩) (λm hm=>?_) (λb u e=>?_) I.bare
 .have e:b=it:=by simpa using hb
  subst e;exact⟨h1,hL,h2,h3⟩
 .obtain⟨o,es,ep,ho,r⟩:=hm
  exact⟨o,es,ep,k _ o (kY hL) ho,r⟩
 .refine(I.hok b u e).stay (λc v hc q=>k c v ?_ q) (λ_ q=>q) λ_ _ q=>q
  rcases hc with z | z
  .rw[z];exact nit b u e
  .exact nit c _ z
def Inv.tok(I:Inv X pins σ H s)(t:Nat):Inv X pins σ H { s with toks:=t }:=I.un (h':=s.heap) (t':=t) Un.refl I.hok
theorem Inv.kept{t':Nat}(I:Inv X pins σ H s)(k:∀b u,s.heap.get? b=some u->h'.get? b=some u):Inv X pins σ H { s with heap:=h',toks:=t' }:=I.un (Un.kept k) (I.hok.kept k)
theorem Inv.laid{a:Addr}{o:HO}{t':Nat}(I:Inv X pins σ H s)(k:∀b u,s.heap.get? b=some u->h'.get? b=some u)(hp:s.heap.objs.size<=a)(new:ObjOk X.prog X.w (upd H a o) h' a o) :
  Inv X pins σ (upd H a o) { s with heap:=h',toks:=t' }:=I.un (Un.laid k hp (I.hok.fresh hp)) (I.hok.laid k hp new)
theorem Inv.write{x e:Addr}{o:HO}{t':Nat}(I:Inv X pins σ H s)(mu:nN (H x))(he:e=x\/H e=some (.own x))(k:∀b u,b≠e->s.heap.get? b=some u->h'.get? b=some u)(heo:∃u,h'.get? e=some u)
  (new:ObjOk X.prog X.w (upd H x o) h' x o):Inv X pins σ (upd H x o) { s with heap:=h',toks:=t' }:=I.un (Un.write mu he k heo) (I.hok.write mu he k heo new)
def Inv.pins_of{pins':List (Addr×Obj)}(I:Inv X pins σ H s)(h:∀p∈pins',s.heap.get? p.1=some p.2/\H p.1=none/\p.1≠X.env.locals/\p.1∉X.fs/\∀v,p.2.data≠.cell v):Inv X pins' σ H s:=
 ⟨I.ok,I.os,I.bare,I.base,I.loc,I.cell,I.free,I.freeC,λp hp=>(zU.mp hp).elim (λz=>I.pin p (jM _ z)) (h p),I.hok,I.len⟩
def pF{N:List Str}(hN:N.Nodup){i j:Nat}{x:Str}(a:N[i]?=some x)(b:N[j]?=some x):i=j:=by
 obtain⟨h1,e1⟩:=zT.mp a;obtain⟨h2,e2⟩:=zT.mp b;exact(vf hN).mp (e1.trans e2.symm)
def nE{M:Model}{A:Around}{E:Value->Shared->Prop}{i:Nat}{x:Str}{v:V}{u:Value}{Q:Unit->Shared->Prop}(I:Inv X pins σ H s)(hN:X.N.Nodup)(hi:X.N[i]?=some x)(hx:Loc X.env.scope x)(r:RelV v u)
  (h:∀s',Inv X pins (σ.set i (some v)) H s'->(∃a,Heap.SameBut a s.heap s'.heap/\(a=X.env.locals\/X.env.cells.lookup x=some a))->Q () s') (hf:X.fn x=true\/X.env.scope.names.lookup x=some .local:=by first | exact .inl rfl | exact .inr rfl | assumption):wpAny M A (storeName X.env x u) Q E s:=by
 obtain⟨m,hn,hl⟩:=id I.loc;have hcls:(X.env.scope.kind==.class||(X.env.scope.kind==.module&&X.env.locals != X.env.globals))=false:=by rw[I.ok.kind];rfl
 have hiσ:i<σ.length:=by rw[I.len];exact(zT.mp hi).1
 have cne:=I.cne;have tracked:∀{a:Addr} {h':Heap},(∃o,s.heap.get? a=some o/\H a=none)->Heap.SameBut a s.heap h'->HOk X.prog X.w H h':=λ{a h'} ha hs b ob e=>by
  obtain⟨_,_,hfree⟩:=ha;refine(I.hok b ob e).stay (λc w' hc q=>(hs.2 c ?_).trans q) (λ_ q=>q) λ_ _ q=>q
  rintro rfl;rcases hc with rfl | hc
  .rw[hfree] at e;cases e
  .rw[hfree] at hc;cases hc
 rcases hx with hk | hk
 .refine wpAny_storeName_local hk hn (λh' hn' hs=>?_) hcls
  obtain⟨oL,_,_,hoL,_⟩:=id hn;refine h _ ⟨I.ok,I.os,I.bare,⟨λb o e n hb hx=>?_,λb o e n hb hx=>?_,I.base.free,λb o e hx=>?_,I.base.tups,I.base.frzs,I.base.tbls⟩,⟨_,hn',λj y v' e1 e2 e3=>?_⟩,λy c e=>?_,I.free,I.freeC,λp hp=>?_,tracked ⟨oL,hoL,I.free⟩ hs,by simpa using I.len⟩ ⟨_,hs,.inl rfl⟩
  .exact(hs.2 b (zW (zL (zA e) I.ok.above))).trans (I.base.keep b o e n hb hx)
  .obtain⟨sl,e1⟩:=I.base.slot b o e n hb hx
   exact⟨sl,(hs.2 b (zW (zL (zA e) I.ok.above))).trans e1⟩
  .obtain⟨o',e1⟩:=I.base.there b o e hx
   exact⟨o',(hs.2 b (zW (zL (zA e) I.ok.above))).trans e1⟩
  .by_cases hj:j=i
   .subst hj
    rw[hi] at e1;cases e1;rw[zH hiσ] at e2;cases e2;exact⟨u,r,.inl ⟨hk,by simp⟩⟩
   .rw[zF (kY hj)] at e2
    obtain⟨u',r',q⟩:=hl j y v' e1 e2 e3;refine⟨u',r',?_⟩;rcases q with ⟨k,e⟩ | ⟨k,c,e,z⟩
    .refine .inl ⟨k,?_⟩
     have:y≠x:=λe=>hj (pF hN e1 (e▸hi))
     simp[this,e]
    .exact .inr ⟨k,c,e,z.sameBut hs (cne y c e)⟩
  .obtain⟨w',z⟩:=I.cell y c e
   exact⟨w',z.sameBut hs (cne y c e)⟩
  .obtain⟨e,n,ne,nf,d⟩:=I.pin p hp
   exact⟨(hs.2 p.1 ne).trans e,n,ne,nf,d⟩
 .have hfn:X.fn x=true:=by
   rcases hf with z | z
   .exact z
   .rw[z] at hk;cases hk
  obtain⟨c,hc⟩:=I.ok.has x (.inl hk);obtain⟨w',z⟩:=I.cell x c hc;refine wpAny_storeName_cell I.ok.kind hk hc z (λh' hc' hs=>?_);obtain⟨oc,hoc,hocd⟩:=id z;refine h { s with heap:=h' } ⟨I.ok,I.os,I.bare,⟨λb o e n hb hx=>?_,λb o e n hb hx=>?_,I.base.free,λb o e hx=>?_,I.base.tups,I.base.frzs,I.base.tbls⟩,⟨m,hn.sameBut hs (kY (cne x c hc)),λj y v' e1 e2 e3=>?_⟩,λy c' e=>?_,I.free,I.freeC,λp hp=>?_,tracked ⟨oc,hoc,I.freeC x c hc⟩ hs,by simpa using I.len⟩ ⟨c,hs,.inr hc⟩
  .exact(hs.2 b (zW (zL (zA e) (I.ok.cab x c hfn hc)))).trans (I.base.keep b o e n hb hx)
  .obtain⟨sl,e1⟩:=I.base.slot b o e n hb hx
   exact⟨sl,(hs.2 b (zW (zL (zA e) (I.ok.cab x c hfn hc)))).trans e1⟩
  .obtain⟨o',e1⟩:=I.base.there b o e hx
   exact⟨o',(hs.2 b (zW (zL (zA e) (I.ok.cab x c hfn hc)))).trans e1⟩
  .by_cases hj:j=i
   .subst hj
    rw[hi] at e1;cases e1;rw[zH hiσ] at e2;cases e2;exact⟨u,r,.inr ⟨.inl hk,c,hc,hc'⟩⟩
   .rw[zF (kY hj)] at e2
    obtain⟨u',r',q⟩:=hl j y v' e1 e2 e3;refine⟨u',r',?_⟩;rcases q with q | ⟨k,c',e,z'⟩
    .exact .inl q
    .refine .inr ⟨k,c',e,z'.sameBut hs ?_⟩
     rintro rfl;exact hj (pF hN e1 (I.ok.inj _ _ _ e hc▸hi))
  .by_cases hcc:c'=c
   .subst hcc;exact⟨_,hc'⟩
   .obtain⟨w2,z2⟩:=I.cell y c' e
    exact⟨w2,z2.sameBut hs hcc⟩
  .obtain⟨e,n,ne,nf,d⟩:=I.pin p hp
   refine⟨(hs.2 p.1 ?_).trans e,n,ne,nf,d⟩;intro q;rw[q,hoc] at e;have q':oc=p.2:=kh e;exact d w' (by rw[<-q'];exact hocd)
def tj{M:Model}{A:Around}{E:Value->Shared->Prop}{i:Nat}{x:Str}{v:V}{u:Value}{Q:Unit->Shared->Prop}(I:Inv X pins σ H s)(hN:X.N.Nodup)(hi:X.N[i]?=some x)(hx:Loc X.env.scope x)(r:RelV v u)
  (h:∀s',Inv X pins (σ.set i (some v)) H s'->Q () s') (hf:X.fn x=true\/X.env.scope.names.lookup x=some .local:=by first | exact .inl rfl | exact .inr rfl | assumption):wpAny M A (storeName X.env x u) Q E s:=
 nE I hN hi hx r (λs' I' _=>h s' I') hf
def Inv.call'{s':Shared}{ch:List Addr}(I:Inv X pins σ H s)(ho:s'.os=s.os)(u:Un (frs X.stack) ch H H' s.heap s'.heap)(hok:HOk X.prog X.w H' s'.heap)(hg:AllBare s'.gens)
  (hch:∀b∈ch,(b∈X.ex\/X.s₀.heap.objs.size<=b)/\b≠X.env.locals/\(∀x c,X.env.cells.lookup x=some c->c≠b)/\∀p∈X.pn++pins,p.1≠b):Inv X pins σ H' s':=by
 obtain⟨h',g',d',t',o'⟩:=s';have e:o'=s.os:=ho;subst e;exact I.call (g':=g') (t':=t') (d':=d') u hok hg hch
end
abbrev XK:=Value->Option Addr->Hp->Prop
abbrev St:=List (Option V)
abbrev VK:=V->Hp->Prop
abbrev TE:=St->Hp->VK->Prop
abbrev TT:=St->Hp->(Bool->Hp->Prop)->Prop
abbrev TA:=St->Hp->(List V->Hp->Prop)->Prop
structure Ends where
 nx:St->Hp->Prop
 rt:VK
 bk:St->Hp->Prop:=λ_ _=>False
 ct:St->Hp->Prop:=λ_ _=>False
abbrev TS:=Ends->St->Hp->Prop
def EP(X:Cx)(pins:List (Addr×Obj))(σ:St)(Q:VK)(u:Value)(s':Shared):Prop:=∃v H',Inv X pins σ H' s'/\RelV v u/\Q v H'
def TP(X:Cx)(pins:List (Addr×Obj))(σ:St)(Q:Bool->Hp->Prop)(b:Bool)(s':Shared):Prop:=∃H',Inv X pins σ H' s'/\Q b H'
def AP(X:Cx)(pins:List (Addr×Obj))(σ:St)(Q:List V->Hp->Prop)(us:List Value)(s':Shared):Prop:=∃vs H',Inv X pins σ H' s'/\Vals vs us/\Q vs H'
def SP(X:Cx)(pins:List (Addr×Obj))(D:Ends)(f:Flow)(s':Shared):Prop:=
 match f with
 | .next=>∃σ' H',Inv X pins σ' H' s'/\D.nx σ' H'
 | .brk=>∃σ' H',Inv X pins σ' H' s'/\D.bk σ' H'
 | .cont=>∃σ' H',Inv X pins σ' H' s'/\D.ct σ' H'
 | .ret u=>∃v σ' H',Inv X pins σ' H' s'/\RelV v u/\D.rt v H'
def PE(X:Cx)(e:Expr)(t:TE):Prop:=
 ∀(pins:List (Addr×Obj)) (s:Shared) (σ:St) (H:Hp) (Q:VK),Inv X pins σ H s->t σ H Q->wpAny (model X.prog X.w) X.A (eval e X.env) (EP X pins σ Q) X.xe s
def PT(X:Cx)(e:Expr)(t:TT):Prop:=
 ∀(pins:List (Addr×Obj)) (s:Shared) (σ:St) (H:Hp) (Q:Bool->Hp->Prop),Inv X pins σ H s->t σ H Q->wpAny (model X.prog X.w) X.A (isTrue e X.env (eval e X.env)) (TP X pins σ Q) X.xe s
def PW(X:Cx)(e:Expr)(t:TT):Prop:=
 ∀(whole:Sem Value) (pins:List (Addr×Obj)) (s:Shared) (σ:St) (H:Hp) (Q:Bool->Hp->Prop),Inv X pins σ H s->t σ H Q->wpAny (model X.prog X.w) X.A (isTrue e X.env whole) (TP X pins σ Q) X.xe s
def PW.pt{X:Cx}{e:Expr}{t:TT}(h:PW X e t):PT X e t:=h _
def PA(X:Cx)(es:List Expr)(t:TA):Prop:=
 ∀(pos:Pos) (pins:List (Addr×Obj)) (s:Shared) (σ:St) (H:Hp) (Q:List V->Hp->Prop),Inv X pins σ H s->t σ H Q->wpAny (model X.prog X.w) X.A (spliced (backTo pos (starEach es X.env))) (AP X pins σ Q) X.xe s
def PS(X:Cx)(st:Stmt)(t:TS):Prop:=
 ∀(pins:List (Addr×Obj)) (s:Shared) (σ:St) (H:Hp) (D:Ends),Inv X pins σ H s->t D σ H->wpAny (model X.prog X.w) X.A (exec st X.env) (SP X pins D) X.xe s
def PSs(X:Cx)(st:List Stmt)(t:TS):Prop:=
 ∀(pins:List (Addr×Obj)) (s:Shared) (σ:St) (H:Hp) (D:Ends),Inv X pins σ H s->t D σ H->wpAny (model X.prog X.w) X.A (execs st X.env) (SP X pins D) X.xe s
def kA{α:Type}{t:Sem α}{Q Q':α->Shared->Prop}{M:Model}{A:Around}{E:Value->Shared->Prop}{s:Shared}(h:wpAny M A t Q E s)(hQ:∀a s,Q a s->Q' a s):wpAny M A t Q' E s:=qM h hQ λ_ _ x=>x
end L2
namespace L2
open PySem PySem.Spec PyProof.Rows
section
variable{X:Cx}
def FR(i:Nat):TE:=λσ H Q=>∃v,σ[i]?=some (some v)/\Q v H
def tC(v:V):TE:=λ_ H Q=>Q v H
def Uz{i:Nat}{x:Str}{pos:Pos}(hN:X.N[i]?=some x)(hv:QB X.env.scope x)(hd:(x==("__debug__":Str))=false:=by decide)(hcd:(x==("__classdict__":Str))=false:=by decide):PE X (.Name x pos) (FR i):=by
 intro pins s σ H Q I h;obtain⟨v,e,h⟩:=h;obtain⟨m,hn,hl⟩:=I.loc;obtain⟨u,r,l⟩:=hl i x v hN e hv;have fin:EP X pins σ Q u s:=⟨v,H,I,r,h⟩;rcases l with ⟨hk,hm⟩ | ⟨hk,c,hc,hcell⟩
 .exact wpAny_Name (wpAny_loadName_local I.ok.kind hk hn hm fin) hd
 .rcases hk with hk | hk
  .exact wpAny_Name (wpAny_loadName_cell I.ok.kind hk hc hcell fin) hd
  .exact wpAny_Name (wpAny_loadName_free I.ok.kind hk hc hcell fin hcd) hd
def UU{i j pos}:PE X (.Constant (.int i) j pos) (tC (.int i)):=λ_ _ _ H _ I h=>wpAny_Constant_int ⟨.int i,H,I.tok _,⟨_,rfl⟩,h⟩
def DC{b j pos}:PE X (.Constant (.bool b) j pos) (tC (.bl b)):=λ_ _ _ H _ I h=>Constant_bool ⟨.bl b,H,I,rfl,h⟩
def Bk{j pos}:PE X (.Constant .none j pos) (tC .non):=λ_ _ _ H _ I h=>Constant_none ⟨.non,H,I,rfl,h⟩
def U1{x j pos}:PE X (.Constant (.str x) j pos) (tC (.str x)):=λ_ _ _ H _ I h=>Calls.Constant_str ⟨.str x,H,I.tok _,⟨_,rfl⟩,h⟩
def Gl(X:Cx)(x:Str):Prop:=X.env.kindOf x=some .globalImplicit
def iI{E:Value->Shared->Prop}{pins:List (Addr×Obj)}{s:Shared}{σ:St}{H:Hp}{x:Str}{u:Value}{pos:Pos}{Q:Value->Shared->Prop}(I:Inv X pins σ H s)(hg:Gl X x)(hm:X.mg x=some u)(h:Q u s)
  (hd:(x==("__debug__":Str))=false:=by decide):wpAny (model X.prog X.w) X.A (eval (.Name x pos) X.env) Q E s:=
 yW I.ok.kind hg (Calls.loadGlobal_global (by rw[I.ok.glob];exact I.mod.glob.keeps I.bk) hm h) hd
def ud{E:Value->Shared->Prop}{pins:List (Addr×Obj)}{s:Shared}{σ:St}{H:Hp}{x:Str}{u:Value}{pos:Pos}{Q:Value->Shared->Prop}(I:Inv X pins σ H s)(hg:Gl X x)(hm:X.mg x=none)(hv:bootBuiltins x=some u)(h:Q u s)
  (hn:x≠"__name__":=by decide) (hd:(x==("__debug__":Str))=false:=by decide):wpAny (model X.prog X.w) X.A (eval (.Name x pos) X.env) Q E s:=by
 obtain⟨mb,h1,h2⟩:=I.mod.blt;exact yW I.ok.kind hg (Calls.loadGlobal_builtin (by rw[I.ok.glob];exact I.mod.glob.keeps I.bk) hm (by rw[I.ok.blt];exact h1.keeps I.bk) ((h2 x hn).trans hv) h) hd
def Zh{x:Str}{v:V}{u:Value}{pos:Pos}(hg:Gl X x)(hm:X.mg x=some u)(r:RelV v u)(hd:(x==("__debug__":Str))=false:=by decide):PE X (.Name x pos) (tC v):=
 λ_ _ _ H _ I h=>iI I hg hm ⟨v,H,I,r,h⟩ hd
def YW{x:Str}{v:V}{u:Value}{pos:Pos}(hg:Gl X x)(hm:X.mg x=none)(hv:bootBuiltins x=some u)(r:RelV v u)(hn:x≠"__name__":=by decide)(hd:(x==("__debug__":Str))=false:=by decide):PE X (.Name x pos) (tC v):=
 λ_ _ _ H _ I h=>ud I hg hm hv ⟨v,H,I,r,h⟩ hn hd
variable{a b:Expr}{ta tb:TE}{pos:Pos}
def tB(t:TE):TT:=λσ H Q=>t σ H λx H1=>∃c,x=.bl c/\Q c H1
def UM{e:Expr}{t:TE}(h:PE X e t)(he:∀whole,isTrue e X.env whole=(do let v <-whole;standAt e.pos;holding [v] (truthy v)):=by intro _;rfl):PT X e (tB t):=by
 intro pins s σ H Q I hw;refine isTrue_plain (kA (h pins s σ H _ I hw) λv s1 ⟨x,H1,I1,r1,q1⟩=>?_) (he _);obtain⟨d,rfl,q⟩:=q1;cases r1;exact vg ⟨H1,I1,q⟩
variable{tA tB':TT}{rest:List Expr}
def Fv(t u:TT):TT:=λσ H Q=>t σ H λc H1=>if c=true then u σ H1 Q else Q false H1
def Gk(t u:TT):TT:=λσ H Q=>t σ H λc H1=>if c=true then Q true H1 else u σ H1 Q
def FG(t:TT):TT:=λσ H Q=>t σ H λc H1=>Q (!c) H1
def pw_and1(ha:PT X a tA):PW X (.BoolOp .And [a] pos) tA:=by
 intro wh pins s σ H Q I h;refine isTrue_and (kA (ha pins s σ H Q I h) λc s1 e=>?_);cases c with
 | true=>exact isTrue_and_nil e
 | false=>exact e
def pw_or1(ha:PT X a tA):PW X (.BoolOp .Or [a] pos) tA:=by
 intro wh pins s σ H Q I h;refine isTrue_or (kA (ha pins s σ H Q I h) λc s1 e=>?_);cases c with
 | false=>exact isTrue_or_nil e
 | true=>exact e
def pw_and(ha:PT X a tA)(hb:PW X (.BoolOp .And (b::rest) pos) tB'):PW X (.BoolOp .And (a::b::rest) pos) (Fv tA tB'):=by
 intro wh pins s σ H Q I h;refine isTrue_and (kA (ha pins s σ H _ I h) λc s1 ⟨H1,I1,q1⟩=>?_);cases c with
 | true=>exact hb wh pins s1 σ H1 Q I1 q1
 | false=>exact⟨H1,I1,q1⟩
def pw_or(ha:PT X a tA)(hb:PW X (.BoolOp .Or (b::rest) pos) tB'):PW X (.BoolOp .Or (a::b::rest) pos) (Gk tA tB'):=by
 intro wh pins s σ H Q I h;refine isTrue_or (kA (ha pins s σ H _ I h) λc s1 ⟨H1,I1,q1⟩=>?_);cases c with
 | true=>exact⟨H1,I1,q1⟩
 | false=>exact hb wh pins s1 σ H1 Q I1 q1
def BO(ha:PT X a tA):PT X (.UnaryOp .Not a pos) (FG tA):=by
 intro pins s σ H Q I h;exact isTrue_not (ha pins s σ H (λc H1=>Q (!c) H1) I h)
def Gg(t:TT)(ta tb:TE):TE:=λσ H Q=>t σ H λc H1=>if c=true then ta σ H1 Q else tb σ H1 Q
def Ws{c:Expr}(hc:PT X c tA)(ha:PE X a ta)(hb:PE X b tb):PE X (.IfExp c a b pos) (Gg tA ta tb):=by
 intro pins s σ H Q I h;refine wpAny_IfExp (kA (hc pins s σ H _ I h) λd s1 ⟨H1,I1,q1⟩=>?_);cases d with
 | true=>exact ha pins s1 σ H1 Q I1 q1
 | false=>exact hb pins s1 σ H1 Q I1 q1
end
end L2
namespace L2
open PySem PySem.Spec PyProof.Rows
def SqL(K:PySem.W.Frag)(H:Hp)(a:Addr)(xs:List V):Prop:=
 Rd H a (.lst xs) \/
  ∃(o:Obj) (its:Array Value) (n:Nat),K.lookup a=some o/\o.cls=.type "list" /\ o.dict=none/\o.data=.seq its n/\its.size<=sizeLine/\Vals xs its.toList
def SqT(K:PySem.W.Frag)(H:Hp)(a:Addr)(xs:List V):Prop:=
 Rd H a (.tup xs) \/
  ∃(o:Obj) (its:Array Value) (n:Nat),K.lookup a=some o/\(o.cls=.type "tuple" /\ o.dict=none)/\o.data=.seq its n/\its.size<=sizeLine/\Vals xs its.toList
def Fy:Value->Option V
 | .none=>some .non
 | .bool b=>some (.bl b)
 | .int i _=>some (.int i)
 | .str x _=>some (.str x)
 | .bytes b _=>some (.byt b)
 | .float b _=>some (.flt b)
 | .ref a=>some (.ref a)
 | .type n=>some (.ty n)
 | _=>none
theorem RelV.abs{x:V}{u:Value}(r:RelV x u):Fy u=some x:=by
 cases x with
 | non=>cases r;rfl
 | bl _=>cases r;rfl
 | int _=>obtain⟨t,rfl⟩:=r;rfl
 | str _=>obtain⟨t,rfl⟩:=r;rfl
 | byt _=>obtain⟨t,rfl⟩:=r;rfl
 | flt _=>obtain⟨t,rfl⟩:=r;rfl
 | ref _=>cases r;rfl
 | ty _=>cases r;rfl
theorem RelV.inj{x y:V}{u:Value}(r:RelV x u)(q:RelV y u):x=y:=kh (r.abs.symm.trans q.abs)
theorem Vals.inj:∀{xs ys:List V} {us:List Value},Vals xs us->Vals ys us->xs=ys
 | _,_,_,.nil,.nil=>rfl
 | _,_,_,.cons r t,.cons r' t'=>by rw[r.inj r',Vals.inj t t']
section
variable{X:Cx}{pins:List (Addr×Obj)}{σ:St}{H:Hp}{s:Shared}{a:Addr}{xs ys:List V}
def SqL.of{K:PySem.W.Frag}(h:H a=some (.lst xs)):SqL K H a xs:=.inl (.inl h)
def SqT.of{K:PySem.W.Frag}(h:H a=some (.tup xs)):SqT K H a xs:=.inl (.inl h)
def Inv.list(I:Inv X pins σ H s)(h:SqL X.K H a xs):∃its:List Value,Vals xs its/\PlainL s.heap a its.toArray/\xs.length<=sizeLine:=by
 rcases h with h | ⟨o,its,n,hk,hc,hd,hs,hz,r⟩
 .obtain⟨z,its,n,r,e⟩:=h.ok I.hok
  exact⟨its,r,⟨_,n,e,rfl,rfl,rfl⟩,z⟩
 .refine⟨its.toList,r,⟨o,n,I.kIn a o hk,hc,hd,by simpa using hs⟩,?_⟩
  have e:=r.length;simp only[wM] at e;omega
def Inv.tuple(I:Inv X pins σ H s)(h:SqT X.K H a xs):∃its:List Value,Vals xs its/\IsTup s.heap a its.toArray/\xs.length<=sizeLine:=by
 rcases h with h | ⟨o,its,n,hk,⟨hc,_⟩,hs,hz,r⟩
 .obtain⟨z,its,r,p,_⟩:=h.ok I.hok
  exact⟨its,r,p,z⟩
 .refine⟨its.toList,r,⟨o,I.kIn a o hk,hc,n,by simpa using hs⟩,?_⟩
  have e:=r.length;simp only[wM] at e;omega
def Inv.list_inj(I:Inv X pins σ H s)(h:SqL X.K H a xs)(h':SqL X.K H a ys):xs=ys:=by
 obtain⟨its,r,⟨o,n,e,_,_,d⟩,_⟩:=I.list h;obtain⟨its',r',⟨o',n',e',_,_,d'⟩,_⟩:=I.list h';rw[e] at e';cases e';rw[d] at d';injection d' with d1 _;have:its=its':=by simpa using jR Array.toList d1
 subst this;exact r.inj r'
def Inv.tuple_inj(I:Inv X pins σ H s)(h:SqT X.K H a xs)(h':SqT X.K H a ys):xs=ys:=by
 obtain⟨its,r,⟨o,e,_,n,d⟩,_⟩:=I.tuple h;obtain⟨its',r',⟨o',e',_,n',d'⟩,_⟩:=I.tuple h';rw[e] at e';cases e';rw[d] at d';injection d' with d1 _;have:its=its':=by simpa using jR Array.toList d1
 subst this;exact r.inj r'
end
abbrev Cx.wish(X:Cx)(E:Value->Shared->Prop):Cx:={ X with xe:=E }
abbrev Cx.nox(X:Cx):Cx:=X.wish λ_ _=>False
theorem Cx.Ok.wish{X:Cx}(ok:X.Ok)(E:Value->Shared->Prop):(X.wish E).Ok:=
 ⟨ok.mod,ok.kind,ok.glob,ok.blt,ok.above,ok.inj,ok.has,ok.cab,ok.hd,ok.frames,ok.stk,ok.exf,ok.bs,ok.bsz,ok.noex,ok.exfs,ok.funs,ok.frf⟩
def Cx.Ok.unwish{X:Cx}{E:Value->Shared->Prop}(ok:(X.wish E).Ok):X.Ok:=
 ⟨ok.mod,ok.kind,ok.glob,ok.blt,ok.above,ok.inj,ok.has,ok.cab,ok.hd,ok.frames,ok.stk,ok.exf,ok.bs,ok.bsz,ok.noex,ok.exfs,ok.funs,ok.frf⟩
section
variable{X:Cx}{pins:List (Addr×Obj)}{σ:St}{H:Hp}{s:Shared}{E:Value->Shared->Prop}
theorem Inv.wish(I:Inv X pins σ H s)(E:Value->Shared->Prop):Inv (X.wish E) pins σ H s:=⟨I.ok.wish E,I.os,I.bare,I.base,I.loc,I.cell,I.free,I.freeC,I.pin,I.hok,I.len⟩
theorem Inv.unwish(I:Inv (X.wish E) pins σ H s):Inv X pins σ H s:=⟨I.ok.unwish,I.os,I.bare,I.base,I.loc,I.cell,I.free,I.freeC,I.pin,I.hok,I.len⟩
theorem SP.unwish{D:Ends}{f:Flow}{s':Shared}(h:SP (X.wish E) pins D f s'):SP X pins D f s':=by
 cases f with
 | next=>obtain⟨σ',H',I,q⟩:=h;exact⟨σ',H',I.unwish,q⟩
 | brk=>obtain⟨σ',H',I,q⟩:=h;exact⟨σ',H',I.unwish,q⟩
 | cont=>obtain⟨σ',H',I,q⟩:=h;exact⟨σ',H',I.unwish,q⟩
 | ret u=>obtain⟨v,σ',H',I,r,q⟩:=h;exact⟨v,σ',H',I.unwish,r,q⟩
theorem PSs.nox{st:List Stmt}{t:TS}(h:PSs X.nox st t):PSs X st t:=λpins s σ H D I hw=>
 qM (h pins s σ H D (I.wish _) hw) (λ_ _ q=>q.unwish) λ_ _ z=>False.elim z
end
section
variable{X:Cx}{st:Stmt}{rest:List Stmt}{t u:TS}{e:Expr}{te:TE}{pos:Pos}
def Ys:TS:=λD σ H=>D.nx σ H
def F6(t u:TS):TS:=λD σ H=>t { D with nx:=u D } σ H
def Xz:PSs X [] Ys:=λ_ _ σ H _ I h=>wO ⟨σ,H,I,h⟩
def Wg(h1:PS X st t)(h2:PSs X rest u):PSs X (st::rest) (F6 t u):=by
 intro pins s σ H D I h;refine wpAny_execs_cons (kA (h1 pins s σ H { D with nx:=u D } I h) λf s1 q=>?_);cases f with
 | next=>
  obtain⟨σ',H',I',q⟩:=q;exact h2 pins s1 σ' H' D I' q
 | ret v=>exact q
 | brk=>exact q
 | cont=>exact q
def Uw(h1:PS X st t):PSs X [st] t:=by
 intro pins s σ H D I h;refine wpAny_execs_cons (kA (h1 pins s σ H D I h) λf s1 q=>?_);cases f with
 | next=>exact wO q
 | ret v=>exact q
 | brk=>exact q
 | cont=>exact q
def XQ:PS X (.Pass pos) Ys:=λ_ _ σ H _ I h=>wpAny_Pass ⟨σ,H,I,h⟩
def Inv.quiet{pins:List (Addr×Obj)}{σ:St}{H:Hp}{s:Shared}(I:Inv X pins σ H s):interactive X.env=false:=by simp[interactive,I.ok.kind]
def DH(te:TE):TS:=λD σ H=>te σ H λ_ H1=>D.nx σ H1
def XY(he:PE X e te)(hs:swapsWith e none pos.line X.env=pure false:=by rfl):PS X (.Expr e pos) (DH te):=by
 intro pins s σ H D I h;exact wpAny_Expr_any (kA (he pins s σ H _ I h) λv s1 ⟨x,H1,I1,r1,q1⟩=>⟨σ,H1,I1,q1⟩) I.quiet hs
def Fw(te:TE):TS:=λD σ H=>te σ H D.rt
def UP(he:PE X e te):PS X (.Return (some e) pos) (Fw te):=by
 intro pins s σ H D I h;exact wpAny_Return_some (kA (he pins s σ H _ I h) λv s1 ⟨x,H1,I1,r1,q1⟩=>⟨x,σ,H1,I1,r1,q1⟩)
def FW(c:TT)(t u:TS):TS:=λD σ H=>c σ H λb H1=>if b=true then t D σ H1 else u D σ H1
def Dj{c:Expr}{a b:List Stmt}{tc:TT}(hc:PT X c tc)(ha:PSs X a t)(hb:PSs X b u):PS X (.If c a b pos) (FW tc t u):=by
 intro pins s σ H D I h;refine wpAny_If (kA (hc pins s σ H _ I h) λd s1 ⟨H1,I1,q1⟩=>?_);cases d with
 | true=>exact ha pins s1 σ H1 D I1 q1
 | false=>exact hb pins s1 σ H1 D I1 q1
end
abbrev TG:=V->St->Hp->(St->Hp->Prop)->Prop
abbrev oA:=List V->St->Hp->(St->Hp->Prop)->Prop
def PG(X:Cx)(target:Expr)(t:TG):Prop:=
 ∀(pins:List (Addr×Obj)) (s:Shared) (σ:St) (H:Hp) (v:V) (u:Value) (Q:St->Hp->Prop),Inv X pins σ H s->RelV v u->t v σ H Q->
  wpAny (model X.prog X.w) X.A (assign target X.env u) (λ_ s'=>∃σ' H',Inv X pins σ' H' s'/\Q σ' H') X.xe s
def PGs(X:Cx)(ts:List Expr)(t:oA):Prop:=
 ∀(pins:List (Addr×Obj)) (s:Shared) (σ:St) (H:Hp) (vs:List V) (us:List Value) (Q:St->Hp->Prop),Inv X pins σ H s->Vals vs us->t vs σ H Q->
  wpAny (model X.prog X.w) X.A (assignInOrder ((assignEach ts X.env).map (·.2)) us) (λ_ s'=>∃σ' H',Inv X pins σ' H' s'/\Q σ' H') X.xe s
abbrev VT:=V->V->V->Hp->(Hp->Prop)->Prop
def VP(X:Cx)(t:VT):Prop:=
 ∀(pins:List (Addr×Obj)) (s:Shared) (σ:St) (H:Hp) (o i v:V) (ov iv u:Value) (Q:Hp->Prop),Inv X pins σ H s->RelV o ov->RelV i iv->RelV v u->t o i v H Q->
  wpAny (model X.prog X.w) X.A (setItem ov iv u) (λ_ s'=>∃H',Inv X pins σ H' s'/\Q H') X.xe s
section
variable{X:Cx}{pos:Pos}
def WP(i:Nat):TG:=λv σ H Q=>Q (σ.set i (some v)) H
def X7{i:Nat}{x:Str}(hN:X.N.Nodup)(hi:X.N[i]?=some x)(hx:Loc X.env.scope x)(hf:X.fn x=true\/X.env.scope.names.lookup x=some .local:=by first | exact .inl rfl | exact .inr rfl | assumption):PG X (.Name x pos) (WP i):=by
 intro pins s σ H v u Q I r h;exact wpAny_assign_Name (tj I hN hi hx r (λs' I'=>⟨_,H,I',h⟩) hf)
def Fo:oA:=λvs σ H Q=>vs=[]/\Q σ H
def DT(t:TG)(u:oA):oA:=λvs σ H Q=>∃v r,vs=v::r/\t v σ H λσ' H'=>u r σ' H' Q
def YN:PGs X [] Fo:=by
 intro pins s σ H vs us Q I r h;obtain⟨e,h⟩:=h;subst e;cases r;exact assignInOrder_nil ⟨σ,H,I,h⟩
def WD{e:Expr}{es:List Expr}{t:TG}{u:oA}(h1:PG X e t)(h2:PGs X es u)
  (hs:(assignEach (e::es) X.env).map (·.2)=assign e X.env::(assignEach es X.env).map (·.2):=by rfl):PGs X (e::es) (DT t u):=by
 intro pins s σ H vs us Q I r h;obtain⟨v,vr,e1,h⟩:=h;subst e1;cases r with
 | cons r rr=>
  rw[hs];refine assignInOrder_cons (kA (h1 pins s σ H _ _ _ I r h) λ_ s1 ⟨σ1,H1,I1,q1⟩=>?_);exact h2 pins s1 σ1 H1 _ _ Q I1 rr q1
def FJ(K:PySem.W.Frag)(n:Nat)(t:oA):TG:=λv σ H Q=>∃a xs,v=.ref a/\SqT K H a xs/\xs.length=n/\t xs σ H Q
def Bj{es:List Expr}{k:Nat}{t:oA}{n:Nat}(hc:X.calm=true)(h:PGs X es t)
  (hn:(assignEach es X.env).length=n:=by rfl) (hst:(assignEach es X.env).findIdx? (·.1)=none:=by rfl):PG X (.Tuple es k pos) (FJ X.K n t):=by
 intro pins s σ H v u Q I r hw;obtain⟨a,xs,e1,hq,hl,hw⟩:=hw;subst e1;cases r;obtain⟨its,rv,ht,hz⟩:=I.tuple hq;refine assign_Tuple_tuple (I.ok.hd hc) ht (by simp[hn,<-hl,rv.length]) hst λh' hx=>?_
 have I1:Inv X pins σ H { s with heap:=h' }:=I.kept (t':=s.toks) λb o e=>hx b o (zW (zA e)) e
 exact h pins _ σ H xs _ Q I1 (by simpa using rv) hw
def Fx(to ti:TE)(t:VT):TG:=λv σ H Q=>to σ H λo H1=>ti σ H1 λi H2=>t o i v H2 λH3=>Q σ H3
def CK{o i:Expr}{to ti:TE}{t:VT}(ho:PE X o to)(hi:PE X i ti)(hs:VP X t)
  (ha:∀v,assign (.Subscript o i pos) X.env v=(do
   let ov <-holding [v] (eval o X.env)
   let iv <-holding [v,ov] (eval i X.env)
   standAt pos
   holding [v,ov,iv] (setItem ov iv v)
   release [v,ov,iv] []):=by intro _;rfl):PG X (.Subscript o i pos) (Fx to ti t):=by
 intro pins s σ H v u Q I r h;rw[ha];refine za (jb (kA (ho pins s σ H _ I h) λov s1 ⟨x,H1,I1,r1,q1⟩=>?_));refine za (jb (kA (hi pins s1 σ H1 _ I1 q1) λiv s2 ⟨y,H2,I2,r2,q2⟩=>?_));refine za (yh (za (jb (kA (hs pins s2 σ H2 x y v ov iv u _ I2 r1 r2 r q2) λ_ s3 ⟨H3,I3,q3⟩=>?_))));exact wpAny_release ⟨σ,H3,I3,q3⟩
def BZ(te:TE)(g:TG):TS:=λD σ H=>te σ H λx H1=>g x σ H1 D.nx
def Cz{tg e:Expr}{te:TE}{g:TG}(he:PE X e te)(hg:PG X tg g)(hs:swapsWithSole [tg] e pos.line X.env=pure false:=by rfl)(hw:swappedStores [tg] e X.env=pure none:=by rfl)
  (h1:(assignEach [tg] X.env).map (·.2)=[assign tg X.env]:=by rfl):PS X (.Assign [tg] e pos) (BZ te g):=by
 intro pins s σ H D I h;refine wpAny_Assign_stores (kA (he pins s σ H _ I h) λv s1 ⟨x,H1,I1,r1,q1⟩=>?_) hs hw;rw[h1];exact kA (hg pins s1 σ H1 x v _ I1 r1 q1) λ_ s2 q=>q
def B7{i:Nat}{x:Str}{e:Expr}{te:TE}{pos':Pos}(hN:X.N.Nodup)(hi:X.N[i]?=some x)(hx:Loc X.env.scope x)(he:PE X e te)(hs:swapsWith e (some (.Name x pos')) pos.line X.env=pure false:=by rfl)(hf:X.fn x=true\/X.env.scope.names.lookup x=some .local:=by first | exact .inl rfl | exact .inr rfl | assumption) :
  PS X (.Assign [.Name x pos'] e pos) (BZ te (WP i)):=by
 intro pins s σ H D I h;refine wpAny_Assign_Name (kA (he pins s σ H _ I h) λv s1 ⟨y,H1,I1,r1,q1⟩=>?_) hs;exact tj I1 hN hi hx r1 (λs2 I2=>⟨_,H1,I2,q1⟩) hf
end
section
variable{X:Cx}{pos:Pos}
def Cy(c:TT)(tb:TS):TS:=λD σ H=>∃W:Nat->St->Hp->Prop,(∃m,W m σ H)/\∀m σ H,W m σ H->
 c σ H λb H1=>if b=true then ∃N:St->Hp->Prop,(∀σ' H',N σ' H'->∃m',m'<m/\W m' σ' H')/\tb { D with nx:=N,ct:=N,bk:=D.nx } σ H1 else D.nx σ H1
def Wp{c:Expr}{body:List Stmt}{tc:TT}{tb:TS}(hp:PassesOwn (model X.prog X.w) X.A X.env X.xe)(hc:PT X c tc)(hb:PSs X body tb):PS X (.While c body [] pos) (Cy tc tb):=by
 intro pins s σ H D I h;obtain⟨W,⟨m0,w0⟩,turn⟩:=h;refine wpAny_While (codeAny_whileLoop (λn s'=>∃σ' H',Inv X pins σ' H' s'/\W n σ' H') ?_ m0 ⟨σ,H,I,w0⟩);rintro n s1 ⟨σ1,H1,I1,w1⟩;refine qH hp (kA (hc pins s1 σ1 H1 _ I1 (turn n σ1 H1 w1)) λb s2 ⟨H2,I2,q2⟩=>?_);cases b with
 | true=>
  obtain⟨N,hN,q2⟩:=q2;rw[zY rfl];refine qH hp (kA (hb pins s2 σ1 H2 _ I2 q2) λf s3 q3=>?_);cases f with
  | next=>
   obtain⟨σ3,H3,I3,n3⟩:=q3;obtain⟨m',hm,w3⟩:=hN σ3 H3 n3;exact⟨m',hm,σ3,H3,I3,w3⟩
  | cont=>
   obtain⟨σ3,H3,I3,n3⟩:=q3;obtain⟨m',hm,w3⟩:=hN σ3 H3 n3;exact⟨m',hm,σ3,H3,I3,w3⟩
  | brk=>exact q3
  | ret v=>exact q3
 | false=>
  rw[kO zZ];exact wO ⟨σ1,H2,I2,q2⟩
end
structure It where
 go:Nat->Hp->Prop
 yld:Nat->Hp->V->Hp->Prop
 stop:Nat->Hp->Prop
def uR(X:Cx)(pins:List (Addr×Obj))(H:Hp)(b:Addr):Prop:=
 H b=none/\b≠X.env.locals/\b∉X.fs/\(b∈X.ex\/X.s₀.heap.objs.size<=b)/\(∀x c,X.env.cells.lookup x=some c->c≠b)/\∀p∈X.pn++pins,p.1≠b
def Inv.fpOk{X:Cx}{pins:List (Addr×Obj)}{σ:St}{H H':Hp}{s:Shared}{b:Addr}(I:Inv X pins σ H s)(hb:s.heap.objs.size<=b)(hn:H' b=none):uR X pins H' b:=by
 refine⟨hn,qg (zL I.lt hb),I.nofs hb,.inr (zR I.sz hb),λx c e z=>?_,λp hp z=>?_⟩
 .obtain⟨v,q⟩:=I.cell x c e
  exact absurd (zL q.lt (by rw[z];exact hb)) (jD _)
 .exact absurd (zL (zA (I.pin p hp).1) (by rw[z];exact hb)) (jD _)
structure Turn(P:Program)(w:World)(K:PySem.W.Frag)(tg:Expr)(J:It)(fp:List Addr)(it:Addr)(tn:Nat->Heap->Prop):Prop where
 mem:it∈fp
 obj:∀i h,tn i h->∀b∈fp,∃o,h.get? b=some o/\∀v,o.data≠.cell v
 keep:∀i h h',tn i h->(∀b∈fp,∀o,h.get? b=some o->h'.get? b=some o)->tn i h'
 item:∀(X:Cx),X.prog=P->X.w=w->X.K=K->X.calm=true->∀(i:Nat) (pins:List (Addr×Obj)) (s:Shared) (σ:St) (H:Hp) (E:Value->Shared->Prop),Inv X pins σ H s->(∀b∈fp,uR X pins H b)->tn i s.heap->J.go i H->
  wpAny (model P w) X.A (pyNext (.ref it)) (λr s1=>∃u,r=some u /\
   wpAny (model P w) X.A (letOwnedTupleGo tg (.ref it) u) (λ_ s2=>∃x H',Inv X pins σ H' s2/\RelV x u/\J.yld i H x H'/\tn (i+1) s2.heap/\∀b∈fp,H' b=none) E s1) E s
 done:∀(X:Cx),X.prog=P->X.w=w->X.K=K->X.calm=true->∀(i:Nat) (pins:List (Addr×Obj)) (s:Shared) (σ:St) (H:Hp) (E:Value->Shared->Prop),Inv X pins σ H s->(∀b∈fp,uR X pins H b)->tn i s.heap->J.stop i H->
  wpAny (model P w) X.A (pyNext (.ref it)) (λr s1=>r=none/\Inv X pins σ H s1) E s
 self:∀(A:Around) (i:Nat) (s:Shared) (Q:Value->Shared->Prop) (E:Value->Shared->Prop),tn i s.heap->Q (.ref it) s->wpAny (model P w) A (pyIter (.ref it)) Q E s
abbrev TI:=St->Hp->(It->Hp->Prop)->Prop
def PIE(X:Cx)(pins:List (Addr×Obj))(σ:St)(tg:Expr)(R:It->Hp->Prop)(itv:Value)(s2:Shared):Prop:=
 ∃(it:Addr) (fp:List Addr) (tn:Nat->Heap->Prop) (J:It) (H':Hp),itv=.ref it/\Inv X pins σ H' s2/\Turn X.prog X.w X.K tg J fp it tn/\tn 0 s2.heap/\(∀b∈fp,uR X pins H' b)/\R J H'
def PI(X:Cx)(tg iter:Expr)(wi:TI):Prop:=
 ∀(pins:List (Addr×Obj)) (s:Shared) (σ:St) (H:Hp) (R:It->Hp->Prop),Inv X pins σ H s->wi σ H R->
  wpAny (model X.prog X.w) X.A (eval iter X.env) (λv s1=>wpAny (model X.prog X.w) X.A (pyIter v) (PIE X pins σ tg R) X.xe s1) X.xe s
def oQ {M : Model} {A : Around} {E : Value -> Shared -> Prop} {s : Shared} {tg : Expr} {it : Addr} {u : Value} {o : Obj} {n : String} {vs : Array Value} {Q : Unit -> Shared -> Prop} (ho : s.heap.get? it = some o) (hc : o.cls = .type n) (hd : o.data = .fields vs)
    (hn : ["enumerate", "zip", "dict_itemiterator", "dict_reverseitemiterator", "odict_iterator", "itertools.zip_longest", "itertools.pairwise"].contains n = false) (hQ : Q () s) : wpAny M A (letOwnedTupleGo tg (.ref it) u) Q E s := by
  unfold letOwnedTupleGo;cases tg <;> first
    | exact zr hQ
    | (cases u <;> first
        | exact zr hQ
        | (refine za (wpAny_load ho ?_)
           rw [hc, hd];show wpAny M A (if (["enumerate", "zip", "dict_itemiterator", "dict_reverseitemiterator", "odict_iterator", "itertools.zip_longest", "itertools.pairwise"].contains n && vs[0]? == some (rawInt _)) = true then _ else _) Q E s
           rw [kO (by intro h;rw [hn, Bool.false_and] at h;cases h)]
           exact zr hQ))
def WX(K:PySem.W.Frag)(a:Addr):It:=
 ⟨λi H=>∃xs x,SqL K H a xs/\xs[i]?=some x,λi H x H'=>H'=H/\∀xs,SqL K H a xs->xs[i]?=some x,λi H=>∃xs,SqL K H a xs/\xs.length<=i⟩
def Ct(K:PySem.W.Frag)(a:Addr):It:=
 ⟨λi H=>∃xs x,SqT K H a xs/\xs[i]?=some x,λi H x H'=>H'=H/\∀xs,SqT K H a xs->xs[i]?=some x,λi H=>∃xs,SqT K H a xs/\xs.length<=i⟩
def Yd(lo:Int)(n:Nat):It:=⟨λi _=>i<n,λi H x H'=>H'=H/\x=.int (lo+i),λi _=>n<=i⟩
def Qc{P:Program}{w:World}{K:PySem.W.Frag}{tg:Expr}(a it:Addr):Turn P w K tg (WX K a) [it] it (λi h=>h.IsListIter it a i) where
 mem:=by simp
 obj:=λi h st b hb=>by
  have e:b=it:=by simpa using hb
  subst e;obtain⟨o,e,c,d⟩:=st;exact⟨o,e,λv z=>by rw[d] at z;cases z⟩
 keep:=λi h h' st k=>st.at λo e=>k it (by simp) o e
 item:=by
  intro X hP hw hK hc i pins s σ H E I hf st hg;subst hP hw hK;obtain⟨xs,x,hq,hx⟩:=hg;obtain⟨its,rv,p,hz⟩:=I.list hq;obtain⟨u,hu,ru⟩:=rv.get hx;obtain⟨f0,f1,f2,f3,f4,f5⟩:=hf it (by simp);refine wpAny_pyNext_list_item st p.isList (x:=u) (by simpa using hu) λh' st' sb=>?_
  have I1:Inv X pins σ H { s with heap:=h' }:=I.turned (t':=s.toks) (λb o hb e=>(sb.2 b hb).trans e) f0 f1 f3 f4 f5;obtain⟨o,e,c,d⟩:=id st';exact⟨u,rfl,oQ (s:={ s with heap:=h' }) e c d (by decide) ⟨x,H,I1,ru,⟨rfl,λys hy=>by rw[I.list_inj hy hq];exact hx⟩,st',λb hb=>(hf b hb).1⟩⟩
 done:=by
  intro X hP hw hK hc i pins s σ H E I hf st hg;subst hP hw hK;obtain⟨xs,hq,hx⟩:=hg;obtain⟨its,rv,p,hz⟩:=I.list hq;obtain⟨f0,f1,f2,f3,f4,f5⟩:=hf it (by simp);have hl:=rv.length;exact wpAny_pyNext_list_end (I.ok.hd hc) st p.isList (by simp;omega) λh' eb=>⟨rfl,I.turned (t':=s.toks) (λb o hb e=>eb b o hb e) f0 f1 f3 f4 f5⟩
 self:=λ_ _ _ _ _ st h=>wpAny_pyIter_listiter st h
def Z3{P:Program}{w:World}{K:PySem.W.Frag}{tg:Expr}(a it:Addr):Turn P w K tg (Ct K a) [it] it (λi h=>h.IsTupleIter it a i) where
 mem:=by simp
 obj:=λi h st b hb=>by
  have e:b=it:=by simpa using hb
  subst e;obtain⟨o,e,c,d⟩:=st;exact⟨o,e,λv z=>by rw[d] at z;cases z⟩
 keep:=λi h h' st k=>st.at λo e=>k it (by simp) o e
 item:=by
  intro X hP hw hK hc i pins s σ H E I hf st hg;subst hP hw hK;obtain⟨xs,x,hq,hx⟩:=hg;obtain⟨its,rv,p,hz⟩:=I.tuple hq;obtain⟨u,hu,ru⟩:=rv.get hx;obtain⟨f0,f1,f2,f3,f4,f5⟩:=hf it (by simp);refine wpAny_pyNext_tuple_item st (show s.heap.IsTuple a its.toArray from p) (x:=u) (by simpa using hu) λh' st' sb=>?_
  have I1:Inv X pins σ H { s with heap:=h' }:=I.turned (t':=s.toks) (λb o hb e=>(sb.2 b hb).trans e) f0 f1 f3 f4 f5;obtain⟨o,e,c,d⟩:=id st';exact⟨u,rfl,oQ (s:={ s with heap:=h' }) e c d (by decide) ⟨x,H,I1,ru,⟨rfl,λys hy=>by rw[I.tuple_inj hy hq];exact hx⟩,st',λb hb=>(hf b hb).1⟩⟩
 done:=by
  intro X hP hw hK hc i pins s σ H E I hf st hg;subst hP hw hK;obtain⟨xs,hq,hx⟩:=hg;obtain⟨its,rv,p,hz⟩:=I.tuple hq;obtain⟨f0,f1,f2,f3,f4,f5⟩:=hf it (by simp);have hl:=rv.length;exact wpAny_pyNext_tuple_end (I.ok.hd hc) st (show s.heap.IsTuple a its.toArray from p) (by simp;omega) λh' eb=>⟨rfl,I.turned (t':=s.toks) (λb o hb e=>eb b o hb e) f0 f1 f3 f4 f5⟩
 self:=λ_ _ _ _ _ st h=>wpAny_pyIter_tupleiter st h
def KJ{P:Program}{w:World}{K:PySem.W.Frag}{tg:Expr}(it:Addr)(lo:Int)(n:Nat):Turn P w K tg (Yd lo n) [it] it (λi h=>IsRangeIter h it (lo+(i:Nat)*1) ((n:Int)-(i:Nat)) 1) where
 mem:=by simp
 obj:=λi h st b hb=>by
  have e:b=it:=by simpa using hb
  subst e
  exact⟨_,st,λv z=>by
   have z':Data.fields _=Data.cell v:=z
   cases z'⟩
 keep:=λi h h' st k=>k it (by simp) _ st
 item:=by
  intro X hP hw hK hc i pins s σ H E I hf st hg;subst hP hw hK;obtain⟨f0,f1,f2,f3,f4,f5⟩:=hf it (by simp);have W:=Walks.range (prog:=X.prog) (w:=X.w) (I.ok.hd hc) it lo 1 n;refine W.item i s _ _ hg st λv h' tk hv st' kk=>?_
  obtain⟨t,rfl⟩:=hv;have I1:Inv X pins σ H { s with heap:=h',toks:=tk }:=I.turned (λb o hb e=>kk b o (by simpa using hb) e) f0 f1 f3 f4 f5;refine⟨_,rfl,oQ (s:={ s with heap:=h',toks:=tk }) (n:="range_iterator") st' rfl rfl (by decide) ⟨.int (lo+i),H,I1,⟨t,?_⟩,⟨rfl,rfl⟩,st',λb hb=>(hf b hb).1⟩⟩;rw[Int.mul_one]
 done:=by
  intro X hP hw hK hc i pins s σ H E I hf st hg;subst hP hw hK;obtain⟨f0,f1,f2,f3,f4,f5⟩:=hf it (by simp);exact wpAny_pyNext_range_end (I.ok.hd hc) st (by have:n<=i:=hg;omega) λh' eb=>⟨rfl,I.turned (t':=s.toks) (λb o hb e=>eb b o hb e) f0 f1 f3 f4 f5⟩
 self:=λ_ _ _ _ _ st h=>wpAny_pyIter_rangeiter st h
end L2
namespace L2
open PySem PySem.Spec PyProof.Rows
section
variable{X:Cx}{tg:Expr}
def VZ{pins:List (Addr×Obj)}{σ:St}{H:Hp}{s:Shared}{R:It->Hp->Prop}{E:Value->Shared->Prop}{lo hi:Int}{t u v:Tok}{tk:Nat}(I:Inv X pins σ H s)(h1:-(2 ^ 62)<=lo)(h2:lo<2 ^ 62)(h3:-(2 ^ 62)<=hi)(h4:hi<2 ^ 62)
  (q:R (Yd lo (hi-lo).toNat) H):wpAny (model X.prog X.w) X.A (pyIter (.ref s.heap.objs.size)) (PIE X pins σ tg R) E { s with heap:=s.heap.push { cls:=.type "range",data:=.fields #[.int lo t,.int hi u,.int 1 v] },toks:=tk }:=by
 refine wpAny_pyIter_range (IsRange.new ..) (small_one h1 h2 h3 h4) ?_;have I1:Inv X pins σ H { s with heap:=s.heap.push { cls:=.type "range",data:=.fields #[.int lo t,.int hi u,.int 1 v] },toks:=tk }:=I.kept λb o e=>zf _ e
 refine⟨(s.heap.push { cls:=.type "range",data:=.fields #[.int lo t,.int hi u,.int 1 v] }).objs.size,[(s.heap.push { cls:=.type "range",data:=.fields #[.int lo t,.int hi u,.int 1 v] }).objs.size],_,_,H,rfl,
  I1.kept (t':=tk) λb o e=>zf _ e,KJ _ lo (hi-lo).toNat,?_,λb hb=>?_,q⟩
 .have e1:lo+((0:Nat):Int)*1=lo:=by simp
  have e2:(((hi-lo).toNat:Nat):Int)-((0:Nat):Int)=Builtin.Range.rangeSize lo hi 1:=by rw[rangeSize_one];split<;>omega
  show IsRangeIter _ _ (lo+((0:Nat):Int)*1) ((((hi-lo).toNat:Nat):Int)-((0:Nat):Int)) 1
  rw[e1,e2];exact zQ _ rfl
 .have e:b=(s.heap.push { cls:=.type "range",data:=.fields #[.int lo t,.int hi u,.int 1 v] }).objs.size:=by simpa using hb
  subst e;exact I1.fpOk (zj _) (I1.hok.fresh (zj _))
def Dk(ta:TA):TI:=λσ H R=>ta σ H λvs H1=>∃j:Int,vs=[.int j]/\-(2 ^ 62)<=j/\j<2 ^ 62/\R (Yd 0 j.toNat) H1
def Qa{a:Expr}{ta:TA}{p pos:Pos}(hg:Gl X "range")(hm:X.mg "range" = none)(ha:PA X [a] ta)(hs:starEach [a] X.env=[(false,eval a X.env)]:=by rfl):PI X tg (.Call (.Name "range" p) [a] [] pos) (Dk ta):=by
 intro pins s σ H R I h;refine Call_ (ud I hg hm boot_range (jo (kA (ha pos pins s σ H _ I h) λus s1 ⟨vs,H1,I1,r1,q1⟩=>?_) hs rfl));obtain⟨j,e,q1,q2,q⟩:=q1;subst e;cases r1 with
 | cons r rr=>
  cases rr;obtain⟨t,rfl⟩:=r;exact call_range_1 (VZ I1 ∅ ∅ q1 q2 (by simpa using q))
def FO(wi:TI)(g:TG)(tb:TS):TS:=λD σ H=>wi σ H λJ H1=>∃W:Nat->Nat->St->Hp->Prop,(∃m,W 0 m σ H1)/\∀i m σ H,W i m σ H->
 (J.stop i H/\D.nx σ H)\/(J.go i H/\∃N:St->Hp->Prop,(∀σ' H',N σ' H'->∃m',m'<m/\W (i+1) m' σ' H')/\∀x H',J.yld i H x H'->g x σ H' λσ2 H2=>tb { D with nx:=N,ct:=N,bk:=D.nx } σ2 H2)
def ib(fp:List Addr)(h:Heap):List (Addr×Obj):=fp.filterMap λb=>(h.get? b).map λo=>(b,o)
def bt{fp:List Addr}{h:Heap}{b:Addr}{o:Obj}(hb:b∈fp)(e:h.get? b=some o):(b,o)∈ib fp h:=xF.mpr ⟨b,hb,by rw[e];rfl⟩
def K4{fp:List Addr}{h:Heap}{p:Addr×Obj}(hp:p∈ib fp h):p.1∈fp/\h.get? p.1=some p.2:=by
 obtain⟨b,hb,e⟩:=xF.mp hp;cases q:h.get? b with
 | none=>rw[q] at e;cases e
 | some o=>
  rw[q] at e;have e':(b,o)=p:=kh e;subst e';exact⟨hb,q⟩
def Inv.pinned{pins:List (Addr×Obj)}{σ:St}{H:Hp}{s:Shared}{fp:List Addr}(I:Inv X pins σ H s)(hf:∀b∈fp,uR X pins H b)(ho:∀b∈fp,∃o,s.heap.get? b=some o/\∀v,o.data≠.cell v):Inv X (pins++ib fp s.heap) σ H s:=
 I.pins_of λp hp=>(zU.mp hp).elim (λz=>I.pin p (jc _ z)) λz=>by
  obtain⟨hb,e⟩:=K4 z;obtain⟨f0,f1,f2,_⟩:=hf p.1 hb;obtain⟨o,e',d⟩:=ho p.1 hb;rw[e] at e';cases e';exact⟨e,f0,f1,f2,d⟩
def Inv.unpinned{pins pl:List (Addr×Obj)}{σ:St}{H:Hp}{s:Shared}(I:Inv X (pins++pl) σ H s):Inv X pins σ H s:=I.pins_of λp hp=>I.pin p (jc _ (jM _ hp))
def CS{iter:Expr}{body:List Stmt}{wi:TI}{g:TG}{tb:TS}{pos:Pos}(hp:PassesOwn (model X.prog X.w) X.A X.env X.xe)(hc:X.calm=true)(hi:PI X tg iter wi)(hg:PG X tg g)(hb:PSs X body tb)
  (hs:∀x,foldedSetIterable iter X.env x=pure x:=by intro _;rfl):PS X (.For tg iter body [] pos) (FO wi g tb):=by
 intro pins s σ H D I h;refine wpAny_For (kA (hi pins s σ H _ I h) λv s1 h1=>kA h1 λitv s2 h2=>?_) hs;obtain⟨it,fp,tn,J,H2,e,I2,T,st2,f2,W,⟨m0,w0⟩,turn⟩:=h2;subst e;have stat:∀{H':Hp},(∀b∈fp,H' b=none)->∀b∈fp,uR X pins H' b:=λhn b hb=>⟨hn b hb,(f2 b hb).2⟩
 refine codeAny_forLoop_any (λn s'=>∃i σ' H',Inv X pins σ' H' s'/\tn i s'.heap/\(∀b∈fp,H' b=none)/\W i n σ' H') ?_ m0 ⟨0,σ,H2,I2,st2,λb hb=>(f2 b hb).1,w0⟩;rintro n s3 ⟨i,σ3,H3,I3,st3,fr3,w3⟩;rcases turn i n σ3 H3 w3 with ⟨stop,qn⟩ | ⟨go,N,hN,step⟩
 .refine qH hp (kA (T.done X rfl rfl rfl hc i pins s3 σ3 H3 X.xe I3 (stat fr3) st3 stop) λr s4 ⟨hr,I4⟩=>?_)
  subst hr;exact wO ⟨σ3,H3,I4,qn⟩
 .refine qH hp (kA (T.item X rfl rfl rfl hc i pins s3 σ3 H3 X.xe I3 (stat fr3) st3 go) λr s4 ⟨u,hr,h4⟩=>?_)
  subst hr;refine qH hp (kA h4 λ_ s5 ⟨x,H5,I5,r5,y5,st5,fr5⟩=>?_);have I5':=I5.pinned (stat fr5) (T.obj _ _ st5);refine qH hp (kA (hg _ s5 σ3 H5 x u _ I5' r5 (step x H5 y5)) λ_ s6 ⟨σ6,H6,I6,q6⟩=>?_);refine qH hp (kA (hb _ s6 σ6 H6 _ I6 q6) λf s7 q7=>?_);have again:∀{σ7:St} {H7:Hp},Inv X (pins++ib fp s5.heap) σ7 H7 s7->N σ7 H7->∃m,m<n/\∃i σ' H',Inv X pins σ' H' s7/\tn i s7.heap/\(∀b∈fp,H' b=none)/\W i m σ' H':=λ{σ7 H7} I7 n7=>by
   obtain⟨m',hm,w7⟩:=hN σ7 H7 n7;refine⟨m',hm,i+1,σ7,H7,I7.unpinned,T.keep _ _ _ st5 λb hb o e=>(I7.pin (b,o) (jc _ (jc _ (bt hb e)))).1,λb hb=>?_,w7⟩;obtain⟨o,e,d⟩:=T.obj _ _ st5 b hb;exact(I7.pin (b,o) (jc _ (jc _ (bt hb e)))).2.1
  cases f with
  | next=>obtain⟨σ7,H7,I7,n7⟩:=q7;exact again I7 n7
  | cont=>obtain⟨σ7,H7,I7,n7⟩:=q7;exact again I7 n7
  | brk=>obtain⟨σ7,H7,I7,q7⟩:=q7;exact⟨σ7,H7,I7.unpinned,q7⟩
  | ret v=>obtain⟨x7,σ7,H7,I7,r7,q7⟩:=q7;exact⟨x7,σ7,H7,I7.unpinned,r7,q7⟩
end
end L2
namespace L2
open PySem PySem.Spec PyProof.Rows
abbrev R2:=V->V->Hp->VK->Prop
def qh(X:Cx)(f:Value->Value->Sem Value)(r:R2):Prop:=
 ∀(pins:List (Addr×Obj)) (s:Shared) (σ:St) (H:Hp) (x y:V) (v u:Value) (Q:VK),Inv X pins σ H s->RelV x v->RelV y u->r x y H Q->
  wpAny (model X.prog X.w) X.A (f v u) (EP X pins σ Q) X.xe s
def JW(X:Cx)(f:Value->Sem Value)(r:V->Hp->VK->Prop):Prop:=
 ∀(pins:List (Addr×Obj)) (s:Shared) (σ:St) (H:Hp) (x:V) (v:Value) (Q:VK),Inv X pins σ H s->RelV x v->r x H Q->
  wpAny (model X.prog X.w) X.A (f v) (EP X pins σ Q) X.xe s
def yB(X:Cx)(f:Value)(r:List V->Hp->VK->Prop):Prop:=
 ∀(pins:List (Addr×Obj)) (s:Shared) (σ:St) (H:Hp) (xs:List V) (us:List Value) (Q:VK),Inv X pins σ H s->Vals xs us->r xs H Q->
  wpAny (model X.prog X.w) X.A (call f us) (EP X pins σ Q) X.xe s
def JT(r:R2)(ta tb:TE):TE:=λσ H Q=>ta σ H λx H1=>tb σ H1 λy H2=>r x y H2 Q
def Gf(r:V->Hp->VK->Prop)(ta:TE):TE:=λσ H Q=>ta σ H λx H1=>r x H1 Q
def rI(C:Int->Int->Prop)(g:Int->Int->V):R2:=λx y H Q=>∃i j,x=.int i/\y=.int j/\C i j/\Q (g i j) H
def om(g:Int->Int->V):R2:=λx y H Q=>∃i j,x=.int i/\y=.int j/\Q (g i j) H
def rU(g:Int->V):V->Hp->VK->Prop:=λx H Q=>∃i,x=.int i/\Q (g i) H
section
variable{X:Cx}{a b c:Expr}{ta tb tc:TE}{pos:Pos}
def Wj(ha:PE X a ta)(hb:PE X b tb){pins:List (Addr×Obj)}{s:Shared}{σ:St}{H:Hp}{R:V->V->Hp->Prop}(I:Inv X pins σ H s)
  (h:ta σ H λx H1=>tb σ H1 λy H2=>R x y H2) {Q:Value->Shared->Prop} {f:Value->Value->Sem Value}
  (hf:∀v u s2 x y H2,Inv X pins σ H2 s2->RelV x v->RelV y u->R x y H2->wpAny (model X.prog X.w) X.A (f v u) Q X.xe s2) :
  wpAny (model X.prog X.w) X.A (eval a X.env) (λv s₁=>wpAny (model X.prog X.w) X.A (eval b X.env) (λu s₂=>wpAny (model X.prog X.w) X.A (f v u) Q X.xe s₂) X.xe s₁) X.xe s:=by
 refine kA (ha pins s σ H _ I h) λv s1 ⟨x,H1,I1,r1,q1⟩=>?_
 refine kA (hb pins s1 σ H1 _ I1 q1) λu s2 ⟨y,H2,I2,r2,q2⟩=>?_
 exact hf v u s2 x y H2 I2 r1 r2 q2
def DD{op:Operator}{r:R2}(ho:qh X (binaryOp op) r)(ha:PE X a ta)(hb:PE X b tb):PE X (.BinOp a op b pos) (JT r ta tb):=by
 intro pins s σ H Q I h;exact wpAny_BinOp (Wj ha hb I h λv u s2 x y H2 I2 rx ry q=>ho pins s2 σ H2 x y v u Q I2 rx ry q)
def Ds{op:UnaryOp}{r:V->Hp->VK->Prop}(ho:JW X (unaryOp op) r)(ha:PE X a ta):PE X (.UnaryOp op a pos) (Gf r ta):=by
 intro pins s σ H Q I h;exact UnaryOp_ (kA (ha pins s σ H _ I h) λv s1 ⟨x,H1,I1,r1,q1⟩=>ho pins s1 σ H1 x v Q I1 r1 q1)
def Dd{f:Value->Value->Sem Value}{C:Int->Int->Prop}{g:Int->Int->Int}
  (rule:∀(i j:Int) (t u:Tok) (s:Shared) (Q:Value->Shared->Prop) (E:Value->Shared->Prop),C i j->Q (.int (g i j) s.toks) { s with toks:=s.toks+1 }->wpAny (model X.prog X.w) X.A (f (.int i t) (.int j u)) Q E s) :
  qh X f (rI C λi j=>.int (g i j)):=by
 intro pins s σ H x y v u Q I rx ry h;obtain⟨i,j,rfl,rfl,hc,q⟩:=h;obtain⟨t,rfl⟩:=rx;obtain⟨t',rfl⟩:=ry;exact rule i j t t' s _ _ hc ⟨.int (g i j),H,I.tok _,⟨_,rfl⟩,q⟩
def UR{f:Value->Value->Sem Value}{g:Int->Int->Int}
  (rule:∀(i j:Int) (t u:Tok) (s:Shared) (Q:Value->Shared->Prop) (E:Value->Shared->Prop),Q (.int (g i j) s.toks) { s with toks:=s.toks+1 }->wpAny (model X.prog X.w) X.A (f (.int i t) (.int j u)) Q E s) :
  qh X f (om λi j=>.int (g i j)):=by
 intro pins s σ H x y v u Q I rx ry h;obtain⟨i,j,rfl,rfl,q⟩:=h;obtain⟨t,rfl⟩:=rx;obtain⟨t',rfl⟩:=ry;exact rule i j t t' s _ _ ⟨.int (g i j),H,I.tok _,⟨_,rfl⟩,q⟩
def Vr{f:Value->Value->Sem Value}{g:Int->Int->Bool}
  (rule:∀(i j:Int) (t u:Tok) (s:Shared) (Q:Value->Shared->Prop) (E:Value->Shared->Prop),Q (.bool (g i j)) s->wpAny (model X.prog X.w) X.A (f (.int i t) (.int j u)) Q E s) :
  qh X f (om λi j=>.bl (g i j)):=by
 intro pins s σ H x y v u Q I rx ry h;obtain⟨i,j,rfl,rfl,q⟩:=h;obtain⟨t,rfl⟩:=rx;obtain⟨t',rfl⟩:=ry;exact rule i j t t' s _ _ ⟨.bl (g i j),H,I,rfl,q⟩
def F4(i j:Int):Prop:=0<j/\j<1073741824
def CMul(i j:Int):Prop:=(-(2 ^ 64)<i/\i<2 ^ 64)\/(-(2 ^ 64)<j/\j<2 ^ 64)
def CMul.ok{i j:Int}(h:CMul i j):IntMulOk i j:=by
 rcases h with ⟨h1,h2⟩ | ⟨h1,h2⟩
 .exact .of_left (intBits_le_64 h1 h2)
 .exact .of_right (intBits_le_64 h1 h2)
def CZ:qh X (binaryOp .Add) (om λi j=>.int (i+j)):=UR λ_ _ _ _ _ _ _ q=>add_int q
def Cc:qh X (binaryOp .Sub) (om λi j=>.int (i-j)):=UR λ_ _ _ _ _ _ _ q=>sub_int q
def Ce:qh X (binaryOp .Mult) (rI CMul λi j=>.int (i*j)):=Dd λ_ _ _ _ _ _ _ hc q=>mul_int q hc.ok
def XD:qh X (binaryOp .FloorDiv) (rI F4 λi j=>.int (i/j)):=Dd λi j _ _ _ _ _ hc q=>by
 have h1:(0:Int)<j:=hc.1;have h2:j<1073741824:=hc.2;exact floordiv_int ∅ (by rw[Int.fdiv_eq_ediv_of_nonneg i ∅];exact q) (.inl (PyProof.noPylong_small ∅))
def Bu:qh X (binaryOp .Mod) (rI (λ_ j=>0<j) λi j=>.int (i%j)):=Dd λi j _ _ _ _ _ hc q=>by
 have h1:(0:Int)<j:=hc;exact mod_int' ∅ (by rw[Int.fmod_eq_emod_of_nonneg i ∅];exact q)
def Gc{f:Value->Sem Value}{g:Int->Int}
  (rule:∀(i:Int) (t:Tok) (s:Shared) (Q:Value->Shared->Prop) (E:Value->Shared->Prop),Q (.int (g i) s.toks) { s with toks:=s.toks+1 }->wpAny (model X.prog X.w) X.A (f (.int i t)) Q E s) :
  JW X f (rU λi=>.int (g i)):=by
 intro pins s σ H x v Q I rx h;obtain⟨i,rfl,q⟩:=h;obtain⟨t,rfl⟩:=rx;exact rule i t s _ _ ⟨.int (g i),H,I.tok _,⟨_,rfl⟩,q⟩
def Bg:JW X (unaryOp .USub) (rU λi=>.int (-i)):=Gc λ_ _ _ _ _ q=>neg_int q
end
def Bw:V->V->Bool
 | .non,.non=>true | .non,.int _=>true | .int _,.non=>true | .non,.bl _=>true | .bl _,.non=>true | .non,.str _=>true | .str _,.non=>true
 | .int _,.int _=>true | .bl _,.bl _=>true | .str _,.str _=>true | .byt _,.byt _=>true
 | .int _,.str _=>true | .str _,.int _=>true | .bl _,.str _=>true | .str _,.bl _=>true
 | _,_=>false
def Gh:R2:=λx y H Q=>Bw x y=true/\Q (.bl (decide (x=y))) H
def F9:R2:=λx y H Q=>Bw x y=true/\Q (.bl (!decide (x=y))) H
def iz{i j:Int}:decide (V.int i=V.int j)=(i==j):=by
 rw[vD];simp
def mq{i j:Bool}:decide (V.bl i=V.bl j)=(i==j):=by
 rw[vD];simp
def iA{i j:Str}:decide (V.str i=V.str j)=(i==j):=by
 rw[vD];simp
def ZH{i j:Array UInt8}:decide (V.byt i=V.byt j)=(i.toList==j.toList):=by
 rw[vD];cases i;cases j;simp
section
variable{X:Cx}{a b c:Expr}{ta tb tc:TE}{pos:Pos}
def kQ{pins:List (Addr×Obj)}{σ:St}{H:Hp}{s:Shared}{Q:VK}{k k':Bool}(I:Inv X pins σ H s)(q:Q (.bl k) H)(e:k=k'):EP X pins σ Q (.bool k') s:=by
 subst e;exact⟨.bl k,H,I,rfl,q⟩
def ZO:qh X (compareOp .Eq) Gh:=by
 intro pins s σ H x y v u Q I rx ry h;obtain⟨hs,q⟩:=h;cases x with
 | non=>
  cases rx;cases y with
  | non=>cases ry;exact PySem.EqNone.eq_none_none (kQ I q (by simp))
  | bl j=>cases ry;exact PySem.EqNone.eq_none_bool (kQ I q (by simp))
  | int j=>obtain⟨t',rfl⟩:=ry;exact PySem.EqNone.eq_none_int (kQ I q (by simp))
  | str j=>obtain⟨t',rfl⟩:=ry;exact PySem.EqNone.eq_none_str (kQ I q (by simp))
  | _=>exact absurd (show false=true from hs) zZ
 | bl i=>
  cases rx;cases y with
  | non=>cases ry;exact PySem.EqNone.eq_bool_none (kQ I q (by simp))
  | bl j=>cases ry;exact eq_bool (kQ I q mq)
  | str j=>obtain⟨t',rfl⟩:=ry;exact PySem.EqMixed.eq_bool_str (kQ I q (by simp))
  | _=>exact absurd (show false=true from hs) zZ
 | int i=>
  obtain⟨t,rfl⟩:=rx;cases y with
  | non=>cases ry;exact PySem.EqNone.eq_int_none (kQ I q (by simp))
  | int j=>obtain⟨t',rfl⟩:=ry;exact eq_int (kQ I q iz)
  | str j=>obtain⟨t',rfl⟩:=ry;exact PySem.EqMixed.eq_int_str (kQ I q (by simp))
  | _=>exact absurd (show false=true from hs) zZ
 | str i=>
  obtain⟨t,rfl⟩:=rx;cases y with
  | non=>cases ry;exact PySem.EqNone.eq_str_none (kQ I q (by simp))
  | bl j=>cases ry;exact PySem.EqMixed.eq_str_bool (kQ I q (by simp))
  | int j=>obtain⟨t',rfl⟩:=ry;exact PySem.EqMixed.eq_str_int (kQ I q (by simp))
  | str j=>obtain⟨t',rfl⟩:=ry;exact eq_str (kQ I q iA)
  | _=>exact absurd (show false=true from hs) zZ
 | byt i=>
  obtain⟨t,rfl⟩:=rx;cases y with
  | byt j=>obtain⟨t',rfl⟩:=ry;exact PySem.W.eq_bytes (kQ I q ZH)
  | _=>exact absurd (show false=true from hs) zZ
 | _=>cases y<;>exact absurd (show false=true from hs) zZ
def ZS:qh X (compareOp .NotEq) F9:=by
 intro pins s σ H x y v u Q I rx ry h;obtain⟨hs,q⟩:=h;cases x with
 | non=>
  cases rx;cases y with
  | non=>cases ry;exact PySem.EqNone.ne_none_none (kQ I q (by simp))
  | bl j=>cases ry;exact PySem.EqNone.ne_none_bool (kQ I q (by simp))
  | int j=>obtain⟨t',rfl⟩:=ry;exact PySem.EqNone.ne_none_int (kQ I q (by simp))
  | str j=>obtain⟨t',rfl⟩:=ry;exact PySem.EqNone.ne_none_str (kQ I q (by simp))
  | _=>exact absurd (show false=true from hs) zZ
 | bl i=>
  cases rx;cases y with
  | non=>cases ry;exact PySem.EqNone.ne_bool_none (kQ I q (by simp))
  | bl j=>cases ry;exact ne_bool (kQ I q (jR not mq))
  | str j=>obtain⟨t',rfl⟩:=ry;exact PySem.EqMixed.ne_bool_str (kQ I q (by simp))
  | _=>exact absurd (show false=true from hs) zZ
 | int i=>
  obtain⟨t,rfl⟩:=rx;cases y with
  | non=>cases ry;exact PySem.EqNone.ne_int_none (kQ I q (by simp))
  | int j=>obtain⟨t',rfl⟩:=ry;exact ne_int (kQ I q (jR not iz))
  | str j=>obtain⟨t',rfl⟩:=ry;exact PySem.EqMixed.ne_int_str (kQ I q (by simp))
  | _=>exact absurd (show false=true from hs) zZ
 | str i=>
  obtain⟨t,rfl⟩:=rx;cases y with
  | non=>cases ry;exact PySem.EqNone.ne_str_none (kQ I q (by simp))
  | bl j=>cases ry;exact PySem.EqMixed.ne_str_bool (kQ I q (by simp))
  | int j=>obtain⟨t',rfl⟩:=ry;exact PySem.EqMixed.ne_str_int (kQ I q (by simp))
  | str j=>obtain⟨t',rfl⟩:=ry;exact ne_str (kQ I q (jR not iA))
  | _=>exact absurd (show false=true from hs) zZ
 | byt i=>
  obtain⟨t,rfl⟩:=rx;cases y with
  | byt j=>obtain⟨t',rfl⟩:=ry;exact PySem.W.ne_bytes (kQ I q (jR not ZH))
  | _=>exact absurd (show false=true from hs) zZ
 | _=>cases y<;>exact absurd (show false=true from hs) zZ
def DS:qh X (compareOp .Lt) (om λi j=>.bl (decide (i<j))):=Vr λ_ _ _ _ _ _ _ q=>lt_int q
def DA:qh X (compareOp .LtE) (om λi j=>.bl (decide (i<=j))):=Vr λ_ _ _ _ _ _ _ q=>le_int q
def DY:qh X (compareOp .Gt) (om λi j=>.bl (decide (j<i))):=Vr λ_ _ _ _ _ _ _ q=>gt_int q
def Bl:qh X (compareOp .Is) (λx y H Q=>y=.non/\Q (.bl (decide (x=.non))) H):=by
 intro pins s σ H x y v u Q I rx ry h;obtain⟨rfl,q⟩:=h;cases ry;refine is_none_gen (kQ I q ?_);cases x<;>first
  | (cases rx;rfl)
  | (obtain⟨t,rfl⟩:=rx;rfl)
def Ud:qh X (compareOp .IsNot) (λx y H Q=>y=.non/\Q (.bl (!decide (x=.non))) H):=by
 intro pins s σ H x y v u Q I rx ry h;obtain⟨rfl,q⟩:=h;cases ry;refine isnot_none_gen (kQ I q ?_);cases x<;>first
  | (cases rx;rfl)
  | (obtain⟨t,rfl⟩:=rx;rfl)
def X1{op:CmpOp}{r:R2}(ho:qh X (compareOp op) r)(ha:PE X a ta)(hb:PE X b tb)(hm:behindInMarks op b=false):PE X (.Compare a [op] [b] pos) (JT r ta tb):=by
 intro pins s σ H Q I h;exact wpAny_Compare1 (Wj ha hb I h λv u s2 x y H2 I2 rx ry q=>ho pins s2 σ H2 x y v u Q I2 rx ry q) hm
def WU(t:TE):TT:=λσ H Q=>t σ H λx H'=>∃k,x=.bl k/\Q k H'
def Xn{op:CmpOp}{r:R2}(ho:qh X (compareOp op) r)(ha:PE X a ta)(hb:PE X b tb)(hm:behindInMarks op b=false):PT X (.Compare a [op] [b] pos) (WU (JT r ta tb)):=by
 intro pins s σ H Q I h
 refine wpAny_isTrue_Compare1 (kA (ha pins s σ H _ I h) λv s1 ⟨x,H1,I1,r1,q1⟩=>kA (hb pins s1 σ H1 _ I1 q1) λu s2 ⟨y,H2,I2,r2,q2⟩=>
  kA (ho pins s2 σ H2 x y v u _ I2 r1 r2 q2) λc s3 ⟨z,H3,I3,r3,k,e,q3⟩=>?_) hm
 subst e;cases r3;exact vg ⟨H3,I3,q3⟩
def sj(r r':R2)(ta tb tc:TE):TE:=λσ H Q=>ta σ H λx H1=>tb σ H1 λy H2=>r x y H2 λz H3=>∃k,z=.bl k /\
 (if k=true then tc σ H3 λw' H4=>r' y w' H4 Q else Q (.bl false) H3)
def VW{op op':CmpOp}{r r':R2}(ho:qh X (compareOp op) r)(ho':qh X (compareOp op') r')(ha:PE X a ta)(hb:PE X b tb)(hc:PE X c tc)
  (hm:lastMarks [op,op'] [b,c]=false:=by with_unfolding_all rfl):PE X (.Compare a [op,op'] [b,c] pos) (sj r r' ta tb tc):=by
 intro pins s σ H Q I h
 refine Compare_chain (kA (ha pins s σ H _ I h) λv s1 ⟨x,H1,I1,r1,q1⟩=>chain_link (kA (hb pins s1 σ H1 _ I1 q1) λu s2 ⟨y,H2,I2,r2,q2⟩=>
  kA (ho pins s2 σ H2 x y v u _ I2 r1 r2 q2) λd s3 ⟨z,H3,I3,r3,k,e,q3⟩=>?_)) hm
 subst e;cases r3;refine vg ?_;cases k with
 | false=>exact ite_ff ⟨.bl false,H3,I3,rfl,q3⟩
 | true=>exact ite_tt (chain_last (kA (hc pins s3 σ H3 _ I3 q3) λw' s4 ⟨z',H4,I4,r4,q4⟩=>ho' pins s4 σ H4 y z' u w' Q I4 r2 r4 q4))
def Vb{op op':CmpOp}{r r':R2}(ho:qh X (compareOp op) r)(ho':qh X (compareOp op') r')(ha:PE X a ta)(hb:PE X b tb)(hc:PE X c tc)
  (hm:lastMarks [op,op'] [b,c]=false:=by with_unfolding_all rfl):PT X (.Compare a [op,op'] [b,c] pos) (WU (sj r r' ta tb tc)):=by
 intro pins s σ H Q I h
 refine isTrue_chain (kA (ha pins s σ H _ I h) λv s1 ⟨x,H1,I1,r1,q1⟩=>test_link (kA (hb pins s1 σ H1 _ I1 q1) λu s2 ⟨y,H2,I2,r2,q2⟩=>
  kA (ho pins s2 σ H2 x y v u _ I2 r1 r2 q2) λd s3 ⟨z,H3,I3,r3,k,e,q3⟩=>?_)) hm
 subst e;cases r3;refine vg ?_;cases k with
 | false=>
  obtain⟨k',e',q'⟩:=q3;cases e';exact ite_ff ⟨H3,I3,q'⟩
 | true=>
  refine ite_tt (test_last (kA (hc pins s3 σ H3 _ I3 q3) λw' s4 ⟨z',H4,I4,r4,q4⟩=>kA (ho' pins s4 σ H4 y z' u w' _ I4 r2 r4 q4) λd' s5 ⟨z2,H5,I5,r5,k2,e2,q5⟩=>?_));subst e2;cases r5;exact vg ⟨H5,I5,q5⟩
def gP:(sizeLine:Nat)<2 ^ 63:=by rw[vm];decide
def vals1{x:V}{us:List Value}(r:Vals [x] us):∃u,us=[u]/\RelV x u:=by
 cases r with
 | cons r1 r2=>cases r2;exact⟨_,rfl,r1⟩
def vals2{x y:V}{us:List Value}(r:Vals [x,y] us):∃u w',us=[u,w']/\RelV x u/\RelV y w':=by
 cases r with
 | cons r1 r2=>
  cases r2 with
  | cons r3 r4=>cases r4;exact⟨_,_,rfl,r1,r3⟩
def nL:yB X (.type "int") (λxs H Q=>(∃i,xs=[.int i]/\Q (.int i) H)\/∃k,xs=[.bl k]/\Q (.int (if k then 1 else 0)) H):=by
 intro pins s σ H xs us Q I r h;rcases h with ⟨i,rfl,q⟩ | ⟨k,rfl,q⟩
 .obtain⟨u,rfl,t,rfl⟩:=vals1 r
  exact call_int_int ⟨.int i,H,I,⟨_,rfl⟩,q⟩
 .obtain⟨u,rfl,r1⟩:=vals1 r
  cases r1;exact call_int_bool ⟨.int (if k then 1 else 0),H,I.tok _,⟨_,rfl⟩,q⟩
end
end L2
namespace L2
open PySem PySem.Spec PyProof.Rows
structure ObjM(h:Heap)(x dx C:Addr)(mA:Str->Option Value):Prop where
 obj:h.get? x=some (PySem.W.instObj C dx)
 ns:h.Ns1 dx mA
 ne:dx≠x
def K5{h:Heap}{dx:Addr}{mA:Str->Option Value}(n:h.Ns1 dx mA):∃od,h.get? dx=some od/\∀name,PySem.W.lookIn name od=some (mA name):=by
 obtain⟨o,es,ep,ho,hd,hk,_,hm⟩:=n;refine⟨o,ho,λname=>?_⟩;have e:=hm name;unfold nsFind findBy at e;rw[<-wW] at e;unfold PySem.W.lookIn;rw[hd];dsimp only;split
 .rename_i y q
  rw[q] at e;exact jR some e
 .rename_i q
  rw[q] at e;have a:es.toList.any (·.refKey)=false:=by
   rw[List.any_eq_false];intro y hy;obtain⟨z,t,hkey⟩:=hk y (yX.mp hy);simp[DictEntry.refKey,hkey]
  have a':¬es.toList.any (·.refKey)=true:=by rw[a];exact zZ
  rw[kO a'];exact jR some e
def ObjM.look{h:Heap}{x dx C:Addr}{mA:Str->Option Value}(I:ObjM h x dx C mA):∃od,PySem.W.InstAt h x (PySem.W.instObj C dx) C (some od)/\∀name,PySem.W.lookIn name od=some (mA name):=
 let ⟨od,ho,hl⟩:=K5 I.ns
 ⟨od,⟨I.obj,rfl,rfl,ho⟩,hl⟩
section
variable{prog:Program}{w:World}{A:Around}{E:Value->Shared->Prop}{s:Shared}{K:PySem.W.Frag}{x dx C f:Addr}{mA:Str->Option Value}{name:Str}{v:Value}
def XU{expr:Bool}{Q:Value->Shared->Prop}(X:K.In s.heap)(I:ObjM s.heap x dx C mA)(hg:PySem.W.plainGet K C name=true)(hh:PySem.W.hasDictIn K C=true)
  (ha:PySem.W.findIn K (.ref C) name=some none) (hv:mA name=some v) (hv':PySem.W.handedIn v=true) (h:Q v { s with toks:=s.toks+1 }) :
  wpAny (model prog w) A (getAttr (.ref x) name expr) Q E s:=by
 obtain⟨od,J,hl⟩:=I.look;exact PySem.W.get_value X J (wJ hg).1 (PySem.W.findObj_own hh ha rfl (by rw[hl,hv])) hv' h
def Vg{pl:Sem Bool}{Q:Value×List Value->Shared->Prop}(X:K.In s.heap)(I:ObjM s.heap x dx C mA)(hg:PySem.W.plainGet K C name=true)
  (hf:PySem.W.findIn K (.ref C) name=some (some (.ref f))) (ht:PySem.W.isFn K (.ref f)=true) (hv:mA name=none) (h:Q (.ref f,[.ref x]) s) :
  wpAny (model prog w) A (getMethod (.ref x) name pl) Q E s:=by
 obtain⟨od,J,hl⟩:=I.look;exact PySem.W.method_fn X J (wJ hg).1 (wJ hg).2 hf (j7.mp ht) (by show(PySem.W.lookIn name od).map (·.isSome)=some false;rw[hl,hv];rfl) h
def Ul{ns:List Str}{Q:Unit->Shared->Prop}(X:K.In s.heap)(I:ObjM s.heap x dx C mA)
  (hs:PySem.W.findIn K (.ref C) "__setattr__" = some (some (.builtin "object.__setattr__"))) (hp:PySem.W.plainOver K C=true) (ht:PySem.W.takerIn K C name=some none) (hh:PySem.W.hasDictIn K C=true)
  (hw:PySem.Within mA ns) (hsz:ns.length<=sizeLine)
  (h:∀h',ObjM h' x dx C (λy=>if y=name then some v else mA y)->Heap.SameBut dx s.heap h'->Q () { s with heap:=h',toks:=s.toks+2 }) :
  wpAny (model prog w) A (setAttr (.ref x) name v) Q E s:=by
 obtain⟨od,J,hl⟩:=I.look;refine PySem.W.set_plain X J hs (PySem.W.osa_open (s:={ s with toks:=s.toks+1 }) (r:=none) X J hp ht λb=>?_);obtain⟨cd,hc,hd'⟩:=PySem.W.any_some hh;have hx:s.heap.get? x=some ⟨.ref C,some dx,.plain,#[]⟩:=I.obj;refine za (zr (za (za (wpAny_loadPart hx (za (PySem.W.Looks.here (s:={ s with toks:=s.toks+1 }) (PySem.W.looks_clsIn X hc) ?_))))));rw[hd'];refine zr (a:=some dx) (za (zr (za ?_)));refine wpAny_nsSet1 (s:={ s with toks:=s.toks+1 }) I.ns λh' hn2 hs2=>?_
 obtain⟨oD,esD,epD,hoD,hdD,hcD⟩:=hn2.count (PySem.Within.cons name v hw);refine za (wpAny_lookBehind hoD (by rw[hdD];exact pastItsLine_dict (zR hcD (by rw[zp];omega))) ?_);exact zr (h _ ⟨(hs2.2 _ (kY I.ne)).trans I.obj,hn2,I.ne⟩ hs2)
def Wk{R:Result->Shared->Prop}{vs:List Value}{kw:List (Str×Value)}(X:K.In s.heap)(hm:PySem.W.makesIn K C=true)
  (hi:PySem.W.findIn K (.ref C) "__init__" = some (some (.ref f))) (hf:PySem.W.typeIn K (.ref f)=some (.type "function"))
  (h:codeAny (model prog w) (A.under (.builtin "type.__call__" ⟨.ref C::vs,kw⟩)) (.call (.ref f) ⟨.ref (s.heap.objs.size+1)::vs,kw⟩) (PySem.W.InitBack (s.heap.objs.size+1) R)
   { s with heap:=(s.heap.push PySem.W.emptyDict).push (PySem.W.instObj C s.heap.objs.size) }) :
  codeAny (model prog w) A (.call (.ref C) ⟨vs,kw⟩) R s:=by
 obtain⟨hh,g,d,t,os⟩:=s;exact PySem.W.make_core (PySem.W.makes_of X hm) (PySem.W.looks_findIn X hi) (λself=>PySem.W.bind_fn X self hf) (.inl rfl) h
end
def putF(f:Str)(v:V):List (Str×V)->List (Str×V)
 | []=>[(f,v)]
 | (g,x)::r=>if g=f then (g,v)::r else (g,x)::putF f v r
theorem iW(f g:Str)(v:V):∀fs:List (Str×V),(putF f v fs).lookup g=if g=f then some v else fs.lookup g
 | []=>by
  show List.lookup g [(f,v)]=_
  by_cases h:g=f
  .have hb:(g==f)=true:=j7.mpr h
   simp only[List.lookup,hb,zY h]
  .have hb:(g==f)=false:=jr.mpr h
   simp only[List.lookup,hb,kO h]
 | (k,x)::r=>by
  have ih:=iW f g v r;rw[show putF f v ((k,x)::r)=(if k=f then (k,v)::r else (k,x)::putF f v r) from rfl];by_cases hk:k=f
  .rw[zY hk]
   by_cases h:g=k
   .have hb:(g==k)=true:=j7.mpr h
    simp only[List.lookup,hb,zY (h.trans hk)]
   .have hb:(g==k)=false:=jr.mpr h
    simp only[List.lookup,hb,kO (λe:g=f=>h (e.trans hk.symm))]
  .rw[kO hk]
   by_cases h:g=k
   .have hb:(g==k)=true:=j7.mpr h
    simp only[List.lookup,hb,kO (λe:g=f=>hk (h.symm.trans e))]
   .have hb:(g==k)=false:=jr.mpr h
    simp only[List.lookup,hb];exact ih
theorem ii(f:Str)(v:V):∀fs:List (Str×V),f∈(putF f v fs).map (·.1)/\∀g,g∈fs.map (·.1)->g∈(putF f v fs).map (·.1)
 | []=>⟨by simp[putF],λg h=>by simp at h⟩
 | (k,x)::r=>by
  obtain⟨i1,i2⟩:=ii f v r;rw[show putF f v ((k,x)::r)=(if k=f then (k,v)::r else (k,x)::putF f v r) from rfl];by_cases hk:k=f
  .rw[zY hk]
   subst hk;exact⟨by simp,λg h=>by simpa using h⟩
  .rw[kO hk]
   refine⟨?_,λg h=>?_⟩
   .rw[zx]
    exact zJ _ i1
   .rw[zx] at h ⊢
    rcases zb.mp h with e | e
    .exact zb.mpr (.inl e)
    .exact zJ _ (i2 g e)
theorem iX(f:Str)(v:V):∀fs:List (Str×V),(putF f v fs).length<=fs.length+1
 | []=>by simp[putF]
 | (k,x)::r=>by
  have ih:=iX f v r;rw[show putF f v ((k,x)::r)=(if k=f then (k,v)::r else (k,x)::putF f v r) from rfl];by_cases hk:k=f
  .rw[zY hk,zp,zp];omega
  .rw[kO hk,zp,zp];omega
def RelO.some_of{v:V}{o:Option Value}(r:RelO (some v) o):∃u,o=some u/\RelV v u:=by
 cases o with
 | none=>exact(show False from r).elim
 | some u=>exact⟨u,rfl,r⟩
def RelO.none_of{o:Option Value}(r:RelO none o):o=none:=by
 cases o with
 | none=>rfl
 | some u=>exact(show False from r).elim
theorem JF{v:V}{u:Value}(r:RelV v u):PySem.W.handedIn u=true:=by
 cases v with
 | non=>cases (show u=Value.none from r);rfl
 | bl b=>cases (show u=Value.bool b from r);rfl
 | int i=>obtain⟨t,e⟩:=(show ∃t,u=Value.int i t from r);cases e;rfl
 | str x=>obtain⟨t,e⟩:=(show ∃t,u=Value.str x t from r);cases e;rfl
 | byt b=>obtain⟨t,e⟩:=(show ∃t,u=Value.bytes b t from r);cases e;rfl
 | flt b=>obtain⟨t,e⟩:=(show ∃t,u=Value.float b t from r);cases e;rfl
 | ref a=>cases (show u=Value.ref a from r);rfl
 | ty n=>cases (show u=Value.type n from r);rfl
section
variable{P:Program}{w:World}{H H':Hp}{h h':Heap}{a C dx:Addr}{fs fs':List (Str×V)}
def iH(hok:HOk P w H h)(e:H a=some (.ins C dx fs)):∃mA,ObjM h a dx C mA/\(∀f,RelO (fs.lookup f) (mA f))/\PySem.Within mA (fs.map (·.1))/\fs.length<=1000/\H dx=some (.own a):=by
 obtain⟨d,z,ne,ob,mA,n,r,q⟩:=(show ObjOk P w H h a (.ins C dx fs) from hok a _ e);exact⟨mA,⟨ob,n,ne⟩,r,q,z,d⟩
end
structure Cls(K:PySem.W.Frag)(C:Addr):Prop where
 pg:PySem.W.plainGet K C Str.empty=true
 hd:PySem.W.hasDictIn K C=true
 po:PySem.W.plainOver K C=true
 sa:PySem.W.findIn K (.ref C) "__setattr__" = some (some (.builtin "object.__setattr__"))
def Cls.get{K:PySem.W.Frag}{C:Addr}(c:Cls K C)(f:Str):PySem.W.plainGet K C f=true:=c.pg
def NoAttr(K:PySem.W.Frag)(C:Addr)(f:Str):Prop:=PySem.W.findIn K (.ref C) f=some none
theorem NoAttr.taker{K:PySem.W.Frag}{C:Addr}{f:Str}(n:NoAttr K C f):PySem.W.takerIn K C f=some none:=by
 unfold PySem.W.takerIn;rw[show PySem.W.findIn K (.ref C) f=some none from n];rfl
structure Meth(K:PySem.W.Frag)(C:Addr)(m:Str)(f:Addr):Prop where
 at_:PySem.W.findIn K (.ref C) m=some (some (.ref f))
 fn:PySem.W.isFn K (.ref f)=true
 kp:PySem.W.keepIn K (.ref f)=true
section
variable{X:Cx}{pins:List (Addr×Obj)}{σ:St}{H:Hp}{s:Shared}{a C dx:Addr}{fs:List (Str×V)}{f:Str}{v:V}{A:Around}{E:Value->Shared->Prop}
def mC{b:Bool}{Q:Value->Shared->Prop}(I:Inv X pins σ H s)(e:H a=some (.ins C dx fs))(c:Cls X.K C)(n:NoAttr X.K C f)(l:fs.lookup f=some v)
  (h:∀u s',Inv X pins σ H s'->RelV v u->Q u s'):wpAny (model X.prog X.w) A (getAttr (.ref a) f b) Q E s:=by
 obtain⟨mA,O,r,_,_,_⟩:=iH I.hok e;obtain⟨u,hu,ru⟩:=RelO.some_of (v:=v) (o:=mA f) (by rw[<-l];exact r f);exact XU I.kIn O (c.get f) c.hd n hu (JF ru) (h u _ (I.tok _) ru)
def mj{m:Str}{g:Addr}{pl:Sem Bool}{Q:Value×List Value->Shared->Prop}(I:Inv X pins σ H s)(e:H a=some (.ins C dx fs))(c:Cls X.K C)(k:Meth X.K C m g)(l:fs.lookup m=none)
  (h:Q (.ref g,[.ref a]) s):wpAny (model X.prog X.w) A (getMethod (.ref a) m pl) Q E s:=by
 obtain⟨mA,O,r,_,_,_⟩:=iH I.hok e;have hn:mA m=none:=RelO.none_of (by rw[<-l];exact r m);exact Vg I.kIn O (c.get m) k.at_ k.fn hn h
def mw{y:V}{u:Value}{Q:Unit->Shared->Prop}(I:Inv X pins σ H s)(e:H a=some (.ins C dx fs))(c:Cls X.K C)(n:NoAttr X.K C f)(hl:fs.length<1000)(ry:RelV y u)
  (h:∀s',Inv X pins σ (upd H a (.ins C dx (putF f y fs))) s'->Q () s'):wpAny (model X.prog X.w) A (setAttr (.ref a) f u) Q E s:=by
 obtain⟨mA,O,r,wi,_,ho⟩:=iH I.hok e;have hz:(fs.map (·.1)).length<=sizeLine:=by rw[zO,vm];omega
 refine Ul I.kIn O c.sa c.po n.taker c.hd wi hz λh' O' sb=>h _ ?_
 have hd:∃o,h'.get? dx=some o:=let ⟨o,_,_,e',_⟩:=O'.ns;⟨o,e'⟩;refine I.write (x:=a) (e:=dx) (by rw[e];exact True.intro) (.inr ho) (λb q hb z=>(sb.2 b hb).trans z) hd ?_;refine⟨by rw[kM O.ne];exact ho,?_,O.ne,O'.obj,_,O'.ns,λg=>?_,λg hg=>?_⟩
 .have:=iX f y fs;omega
 .show RelO ((putF f y fs).lookup g) (if g=f then some u else mA g)
  rw[iW];by_cases q:g=f
  .rw[zY q,zY q];exact ry
  .rw[kO q,kO q];exact r g
 .by_cases q:g=f
  .rw[q];exact(ii f y fs).1
  .refine(ii f y fs).2 g (wi g λz=>hg ?_)
   show(if g=f then some u else mA g)=none
   rw[kO q];exact z
def Inv.made(I:Inv X pins σ H s):Inv X pins σ (upd (upd H s.heap.objs.size (.own (s.heap.objs.size+1))) (s.heap.objs.size+1) (.ins C s.heap.objs.size []))
  { s with heap:=(s.heap.push PySem.W.emptyDict).push (PySem.W.instObj C s.heap.objs.size) }:=by
 have e1:(s.heap.push PySem.W.emptyDict).get? s.heap.objs.size=some PySem.W.emptyDict:=zQ s.heap rfl;have e2:((s.heap.push PySem.W.emptyDict).push (PySem.W.instObj C s.heap.objs.size)).get? (s.heap.objs.size+1)=some (PySem.W.instObj C s.heap.objs.size):=by
  have:=zQ (s.heap.push PySem.W.emptyDict) (o:=PySem.W.instObj C s.heap.objs.size) rfl;rwa [j4] at this
 have e3:(s.heap.push PySem.W.emptyDict).Ns s.heap.objs.size (λ_=>none):=⟨PySem.W.emptyDict,#[],_,e1,rfl,(λe he=>absurd he (by simp)),λ_=>rfl⟩;have I1:=I.laid (a:=s.heap.objs.size) (o:=.own (s.heap.objs.size+1)) (h':=s.heap.push PySem.W.emptyDict) (t':=s.toks) (λb u q=>zf _ q) (zj _) ⟨_,e1⟩;refine I1.laid (a:=s.heap.objs.size+1) (o:=.ins C s.heap.objs.size []) (t':=s.toks) (λb u q=>zf _ q) (Nat.le_of_eq (j4 _ _)) ?_;have ne:s.heap.objs.size≠s.heap.objs.size+1:=zW (jT _);refine⟨by rw[kM ne,qk],qO _,ne,e2,λ_=>none,(Heap.Ns1.of_empty e3).at λo q=>zf _ q,λ_=>True.intro,λy hy=>absurd rfl hy⟩
def Xs{prog:Program}{w:World}{env:Env}{e:Expr}{f:Str}{pos:Pos}{s:Shared}{Q:Value->Shared->Prop}(hb:attributeBase e f env (eval e env)=eval e env)
  (h:wpAny (model prog w) A (eval e env) (λo s₁=>wpAny (model prog w) A (getAttr o f true) Q E s₁) E s):wpAny (model prog w) A (eval (.Attribute e f pos) env) Q E s:=
 Attribute_any_ h (by rw[arm_eval_Attribute,hb])
end
def FT(K:PySem.W.Frag)(ta:TE)(f:Str):TE:=λσ H Q=>ta σ H λx H1=>∃a C dx fs v,x=.ref a/\H1 a=some (.ins C dx fs)/\Cls K C/\NoAttr K C f/\fs.lookup f=some v/\Q v H1
def FN(K:PySem.W.Frag)(ta tv:TE)(f:Str):TS:=λD σ H=>tv σ H λy H1=>ta σ H1 λx H2=>∃a C dx fs,x=.ref a/\H2 a=some (.ins C dx fs)/\Cls K C/\NoAttr K C f/\fs.length<1000 /\
 D.nx σ (upd H2 a (.ins C dx (putF f y fs)))
def UH(X:Cx)(op:Operator)(rd:V->V->Hp->VK->Prop):Prop:=
 ∀(pins:List (Addr×Obj)) (s:Shared) (σ:St) (H:Hp) (x y:V) (u v:Value) (Q:VK),Inv X pins σ H s->RelV x u->RelV y v->rd x y H Q->wpAny (model X.prog X.w) X.A (inplaceOp op u v) (EP X pins σ Q) X.xe s
def Xx(K:PySem.W.Frag)(ta tv:TE)(rd:V->V->Hp->VK->Prop)(f:Str):TS:=λD σ H=>ta σ H λx H1=>∃a C dx fs v,x=.ref a/\H1 a=some (.ins C dx fs)/\Cls K C/\NoAttr K C f/\fs.lookup f=some v /\
 tv σ H1 λy H2=>rd v y H2 λz H3=>∃dx' fs',H3 a=some (.ins C dx' fs')/\fs'.length<1000/\D.nx σ (upd H3 a (.ins C dx' (putF f z fs')))
section
variable{X:Cx}{o e value:Expr}{f:Str}{pos pos' tpos:Pos}{ta tv:TE}
def BD(he:PE X e ta)(hb:attributeBase e f X.env (eval e X.env)=eval e X.env):PE X (.Attribute e f pos) (FT X.K ta f):=by
 intro pins s σ H Q I h;refine Xs hb (kA (he pins s σ H _ I h) λu s1 ⟨x,H1,I1,rx,a,C,dx,fs,v,ex,ea,c,n,l,q⟩=>?_);subst ex;obtain rfl:u=Value.ref a:=rx;exact mC I1 ea c n l λu' s2 I2 ru=>⟨v,H1,I2,ru,q⟩
def UN(ha:PE X o ta)(hv:PE X value tv)(hs:swapsWith value (some (.Attribute o f pos')) pos.line X.env=pure false):PS X (.Assign [.Attribute o f pos'] value pos) (FN X.K ta tv f):=by
 intro pins s σ H D I h;refine plainObj_wpAny_Assign_Attribute (kA (hv pins s σ H _ I h) λu s1 ⟨y,H1,I1,ry,q⟩=>kA (ha pins s1 σ H1 _ I1 q) λov s2 ⟨x,H2,I2,rx,a,C,dx,fs,ex,ea,c,n,l,q2⟩=>?_) hs;subst ex;obtain rfl:ov=Value.ref a:=rx;exact mw I2 ea c n l ry λs3 I3=>⟨σ,_,I3,q2⟩
def JE{op:Operator}{rd:V->V->Hp->VK->Prop}(ha:PE X o ta)(hv:PE X value tv)(hop:UH X op rd):PS X (.AugAssign (.Attribute o f tpos) op value pos) (Xx X.K ta tv rd f):=by
 intro pins s σ H D I h;refine wpAny_AugAssign_AttributeAny (kA (ha pins s σ H _ I h) λov s1 ⟨x,H1,I1,rx,a,C,dx,fs,v,ex,ea,c,n,l,q⟩=>?_);subst ex;obtain rfl:ov=Value.ref a:=rx;refine mC I1 ea c n l λu s2 I2 ru=>kA (hv pins s2 σ H1 _ I2 q) λw3 s3 ⟨y,H2,I3,ry,q3⟩=>kA (hop pins s3 σ H2 v y u w3 _ I3 ru ry q3) λw4 s4 ⟨z,H3,I4,rz,dx',fs',ea',l',q4⟩=>?_
 exact mw I4 ea' c n l' rz λs5 I5=>⟨σ,_,I5,q4⟩
def Ft:V->V->Hp->VK->Prop:=λx y H Q=>∃i j,x=.int i/\y=.int j/\Q (.int (i+j)) H
def UI:UH X .Add Ft:=by
 rintro pins s σ H x y u v Q I rx ry ⟨i,j,rfl,rfl,q⟩;obtain⟨t,rfl⟩:=(show ∃t,u=Value.int i t from rx);obtain⟨t',rfl⟩:=(show ∃t',v=Value.int j t' from ry);exact PyProof.Rows.iadd_int ⟨.int (i+j),H,I.tok _,⟨_,rfl⟩,q⟩
end
section
variable{X:Cx}{pins:List (Addr×Obj)}{σ:St}{H:Hp}{s:Shared}{A:Around}{E:Value->Shared->Prop}{Q:Value->Shared->Prop}{c:Value}{b:Bool}
inductive TyOf(K:PySem.W.Frag)(H:Hp):V->Value->Prop where
 | non:TyOf K H .non (.type "NoneType")
 | bl (x:Bool):TyOf K H (.bl x) (.type "bool")
 | int (i:Int):TyOf K H (.int i) (.type "int")
 | str (x:Str):TyOf K H (.str x) (.type "str")
 | flt (x:UInt64):TyOf K H (.flt x) (.type "float")
 | lst {a:Addr} {xs:List V} (e:H a=some (.lst xs)):TyOf K H (.ref a) (.type "list")
 | frz {a:Addr} {o:Obj} {xs:List V} (e:H a=some (.frz o (.lst xs))):TyOf K H (.ref a) (.type "list")
 | tup {a:Addr} {xs:List V} (e:H a=some (.tup xs)):TyOf K H (.ref a) (.type "tuple")
 | dK {a:Addr} {kvs:List (Key×V)} (e:H a=some (.dK kvs)):TyOf K H (.ref a) (.type "dict")
 | dT {a:Addr} {kvs:List (List Key×V)} (e:H a=some (.dT kvs)):TyOf K H (.ref a) (.type "dict")
 | ins {a C dx:Addr} {fs:List (Str×V)} (e:H a=some (.ins C dx fs)) (cl:Cls K C) (ha:PySem.W.findIn K (.ref C) "__class__" = some (some (.builtin "object.__class__")))
   (hn:PySem.W.specialIn K (.builtin "object.__class__") "__get__" = some (some (.builtin "getset_descriptor.__get__"))) (htk:PySem.W.takesIn K (.builtin "object.__class__")=some true)
   (hm:PySem.W.mroIn K C (.type "object")=some true):TyOf K H (.ref a) (.ref C)
def Ju{x:V}{u t:Value}(I:Inv X pins σ H s)(rx:RelV x u)(ty:TyOf X.K H x t)(e:PySem.W.kitOne X.K t c=some b)(h:∀tk,Q (.bool b) { s with toks:=tk }) :
  wpAny (model X.prog X.w) A (call (.builtin "isinstance") [u,c]) Q E s:=by
 cases ty with
 | non=>cases (show u=Value.none from rx);exact jf PySem.W.kitx_none I.kIn True.intro e (λz=>nomatch z) h
 | bl y=>cases (show u=Value.bool y from rx);exact jf PySem.W.kitx_bool I.kIn True.intro e (λz=>nomatch z) h
 | int i=>obtain⟨t,q⟩:=(show ∃t,u=Value.int i t from rx);cases q;exact jf PySem.W.kitx_int I.kIn True.intro e (λz=>nomatch z) h
 | str y=>obtain⟨t,q⟩:=(show ∃t,u=Value.str y t from rx);cases q;exact jf PySem.W.kitx_str I.kIn True.intro e (λz=>nomatch z) h
 | flt y=>obtain⟨t,q⟩:=(show ∃t,u=Value.float y t from rx);cases q;exact jf PySem.W.kitx_float I.kIn True.intro e (λz=>nomatch z) h
 | @lst a xs ea=>
  cases (show u=Value.ref a from rx);obtain⟨_,_,n,_,h1⟩:=(show ObjOk X.prog X.w H s.heap a (.lst xs) from I.hok a _ ea);exact jf vR I.kIn ⟨_,h1,rfl⟩ e (λz=>nomatch z) h
 | @frz a ob xs ea=>
  cases (show u=Value.ref a from rx);obtain⟨_,_,_,n,_,h1⟩:=(show ObjOk X.prog X.w H s.heap a (.frz ob (.lst xs)) from I.hok a _ ea);exact jf vR I.kIn ⟨_,h1,rfl⟩ e (λz=>nomatch z) h
 | @tup a xs ea=>
  cases (show u=Value.ref a from rx);obtain⟨_,_,_,p,_⟩:=(show ObjOk X.prog X.w H s.heap a (.tup xs) from I.hok a _ ea);obtain⟨o,h1,h2,_⟩:=p;exact jf xr I.kIn ⟨o,h1,h2⟩ e (λz=>nomatch z) h
 | @dK a kvs ea=>
  cases (show u=Value.ref a from rx);obtain⟨_,_,vs,_,p⟩:=(show ObjOk X.prog X.w H s.heap a (.dK kvs) from I.hok a _ ea);obtain⟨o,es,ep,h1,h2,_⟩:=p;exact jf wY I.kIn ⟨o,h1,h2.1⟩ e (λz=>nomatch z) h
 | @dT a kvs ea=>
  cases (show u=Value.ref a from rx);obtain⟨_,_,xs,_,o,es,ep,h1,h2,_⟩:=(show ObjOk X.prog X.w H s.heap a (.dT kvs) from I.hok a _ ea);exact jf wY I.kIn ⟨o,h1,h2.1⟩ e (λz=>nomatch z) h
 | @ins a C dx fs ea cl ha hn htk hm=>
  cases (show u=Value.ref a from rx);obtain⟨mA,O,_⟩:=iH I.hok ea;obtain⟨od,J,_⟩:=O.look;exact jf (PySem.W.kitx_own (cl.get _) cl.hd ha hn htk hm) I.kIn J e (λz=>nomatch z) h
end
end L2
namespace L2
open PySem PySem.Spec PyProof.Rows
structure Room(k:Nat)(A:Around):Prop where
 hd:A.handled=none
 dp:A.depth+3*k+5<recursionLimit
 un:A.units+16*k+200<cLine
def Room.mono{j k:Nat}{A:Around}(r:Room k A)(h:j<=k):Room j A:=⟨r.hd,by have:=r.dp;omega,by have:=r.un;omega⟩
theorem Room.deeper{k:Nat}{A:Around}(r:Room (k+1) A)(env:Env):Room k (A.deeper env):=
 ⟨r.hd,by have:=r.dp;show A.depth+1+3*k+5<_;omega,by have:=r.un;show A.units+3+16*k+200<_;omega⟩
def ZZ{A:Around}{C:Addr}{us:List Value}{kw:List (Str×Value)}:(A.under (.builtin "type.__call__" ⟨.ref C::us,kw⟩)).depth=A.depth+1:=by
 first | rfl | simp[Around.under,Code.weight,Code.isCreation,Code.isGuard,Code.isCaller,Code.frames,Code.isFrame,guardIds]
def Z1{A:Around}{C:Addr}{us:List Value}{kw:List (Str×Value)}:(A.under (.builtin "type.__call__" ⟨.ref C::us,kw⟩)).units=A.units+1:=by
 first | rfl | simp[Around.under,Code.cUnits,Code.frames,Code.isFrame]
def Room.make{k:Nat}{A:Around}(r:Room (k+1) A)(C:Addr)(us:List Value)(kw:List (Str×Value)):Room k (A.under (.builtin "type.__call__" ⟨.ref C::us,kw⟩)):=
 ⟨r.hd,by have:=r.dp;rw[ZZ];omega,by have:=r.un;rw[Z1];omega⟩
theorem Room.depth{k:Nat}{A:Around}(r:Room k A):A.depth<recursionLimit:=by have:=r.dp;omega
theorem Room.units{k:Nat}{A:Around}(r:Room k A):A.units+64<cLine:=by have:=r.un;omega
def QV:TA:=λ_ H Q=>Q [] H
def DU(ta:TE)(tr:TA):TA:=λσ H Q=>ta σ H λx H1=>tr σ H1 λxs H2=>Q (x::xs) H2
section
variable{X:Cx}{e:Expr}{es:List Expr}{te:TE}{t:TA}{pos:Pos}
def K6:PA X [] QV:=λ_ _ _ _ H Q I h=>vp ⟨[],H,I,.nil,h⟩
def nk(ha:PE X e te)(hr:PA X es t)(hs:starEach (e::es) X.env=(false,eval e X.env)::starEach es X.env:=by rfl):PA X (e::es) (DU te t):=by
 intro pos pins s σ H Q I h;rw[hs];show wpAny _ _ (spliced ((false,eval e X.env)::backTo pos (starEach es X.env))) _ _ s
 refine qF (kA (ha pins s σ H _ I h) λu s1 ⟨x,H1,I1,r1,q1⟩=>?_);exact kA (hr pos pins s1 σ H1 _ I1 q1) λus s2 ⟨xs,H2,I2,r2,q2⟩=>⟨x::xs,H2,I2,.cons r1 r2,q2⟩
def FD(t:TA):TE:=λσ H Q=>t σ H λxs H1=>xs.length<=sizeLine/\∀p,H1 p=none->Q (.ref p) (upd H1 p (.tup xs))
def FP(t:TA):TE:=λσ H Q=>t σ H λxs H1=>xs.length<=sizeLine/\∀p,H1 p=none->Q (.ref p) (upd H1 p (.lst xs))
def BX{x1}(h:PA X es t):PE X (.Tuple es x1 pos) (FD t):=by
 intro pins s σ H Q I hq;refine wpAny_Tuple_spliced (kA (h pos pins s σ H _ I hq) λus s1 ⟨xs,H1,I1,r,z,q⟩=>⟨by rw[<-r.length];exact z,?_⟩);have hf:H1 s1.heap.objs.size=none:=I1.hok.fresh (zj _);refine⟨.ref s1.heap.objs.size,upd H1 s1.heap.objs.size (.tup xs),I1.laid (t':=s1.toks) (λb u e=>zf _ e) (zj _) ?_,rfl,q _ hf⟩;exact⟨z,us,r,⟨_,zQ _ rfl,rfl,_,rfl⟩,.new _ _⟩
def J4(h:PA X es t):PE X (.List es pos) (FP t):=by
 intro pins s σ H Q I hq;refine wpAny_List_spliced (kA (h pos pins s σ H _ I hq) λus s1 ⟨xs,H1,I1,r,z,q⟩=>⟨by rw[<-r.length];exact z,?_⟩);have hf:H1 s1.heap.objs.size=none:=I1.hok.fresh (zj _);refine⟨.ref s1.heap.objs.size,upd H1 s1.heap.objs.size (.lst xs),I1.laid (t':=s1.toks) (λb u e=>zf _ e) (zj _) ?_,rfl,q _ hf⟩;exact⟨z,us,0,r,zQ _ rfl⟩
end
abbrev Sp:=List V->Hp->VK->XK->Prop
abbrev gT:=List Env->Hp->Shared->XK->Value->Shared->Prop
structure Env0(P:Program)(w:World)(K:PySem.W.Frag)(mg:Str->Option Value)(base:Heap)(A:Around)(outer:List Env)(s:Shared)(H:Hp):Prop where
 frames:A.frames=some outer
 mod:Mod K mg base
 bs:∀b o,base.get? b=some o->s.heap.get? b=some o/\H b=none
 bsz:base.objs.size<=s.heap.objs.size
 funs:s.heap.FunFrames base outer
 frf:∀b∈frs outer,H b=none
 hok:HOk P w H s.heap
 bare:AllBare s.gens
def CE(outer:List Env)(P:Program)(w:World)(H:Hp)(s:Shared)(Q:VK)(u:Value)(s':Shared):Prop:=
 ∃v H',s'.os=s.os/\AllBare s'.gens/\Un (frs outer) [] H H' s.heap s'.heap/\HOk P w H' s'.heap/\RelV v u/\Q v H'
def CR(CX:gT)(outer:List Env)(P:Program)(w:World)(H:Hp)(s:Shared)(Q:VK)(E:XK)(r:Result)(s':Shared):Prop:=
 match r with
 | .ok (.ret u)=>CE outer P w H s Q u s'
 | .ok _=>False
 | .error e=>CX outer H s E e s'
structure FnOk(P:Program)(w:World)(K:PySem.W.Frag)(mg:Str->Option Value)(base:Heap)(CX:gT)(k:Nat)(f:Addr)(fd:FuncData)(ps:List Str)(sp:Sp):Prop where
 len:∀vs H Q E,sp vs H Q E->vs.length=ps.length
 run:∀(A:Around) (outer:List Env) (s:Shared) (H:Hp) (args:Args) (us:List Value) (vs:List V) (Q:VK) (E:XK),Room k A->Env0 P w K mg base A outer s H->BindsTo s fd args (ps.zip us)->Vals vs us->sp vs H Q E->
  codeAny (model P w) A (.call (.ref f) args) (CR CX outer P w H s Q E) s
def FnOk.imp{P:Program}{w:World}{K:PySem.W.Frag}{mg:Str->Option Value}{base:Heap}{CX:gT}{k:Nat}{f:Addr}{fd:FuncData}{ps:List Str}{sp sp':Sp}(F:FnOk P w K mg base CX k f fd ps sp)
  (h:∀vs H Q E,sp' vs H Q E->sp vs H Q E):FnOk P w K mg base CX k f fd ps sp':=
 ⟨λvs H Q E q=>F.len vs H Q E (h _ _ _ _ q),λA outer s H args us vs Q E hr he hb hv hs=>F.run A outer s H args us vs Q E hr he hb hv (h _ _ _ _ hs)⟩
def Env0.make{P:Program}{w:World}{K:PySem.W.Frag}{mg:Str->Option Value}{base:Heap}{A:Around}{outer:List Env}{s:Shared}{H:Hp}(e:Env0 P w K mg base A outer s H)(C:Addr)(us:List Value)(kw:List (Str×Value)) :
  Env0 P w K mg base (A.under (.builtin "type.__call__" ⟨.ref C::us,kw⟩)) outer s H:=⟨by first | exact e.frames | (simpa[Around.under,Code.envs,Code.isFrame,pushEnvs] using e.frames),e.mod,e.bs,e.bsz,e.funs,e.frf,e.hok,e.bare⟩
section
variable{X:Cx}{pins:List (Addr×Obj)}{σ:St}{H:Hp}{s s':Shared}
def Inv.env0(I:Inv X pins σ H s):Env0 X.prog X.w X.K X.mg X.base X.A X.stack s H:=
 ⟨I.ok.frames,I.ok.mod,I.bs,zR I.ok.bsz I.sz,I.stack,I.stkFree,I.hok,I.bare⟩
def Inv.after{Q:VK}{u:Value}(I:Inv X pins σ H s)(h:CE X.stack X.prog X.w H s Q u s'):EP X pins σ Q u s':=by
 obtain⟨v,H',os,bare,un,hok,r,q⟩:=h;obtain⟨hh,g,d,t,os'⟩:=s';obtain rfl:os'=s.os:=os;exact⟨v,H',I.call (h':=hh) (g':=g) (d':=d) (t':=t) (ch:=[]) un hok bare (λb z=>absurd z (by simp)),r,q⟩
end
def WK(sp:Sp)(dvs:List V)(E:XK)(t:TA):TE:=λσ H Q=>t σ H λvs H1=>sp (vs++dvs) H1 Q E
def Kn(C:Addr)(m:Str)(sp:Sp)(dvs:List V)(E:XK)(ta:TE)(t:TA):TE:=λσ H Q=>ta σ H λx H1=>∃a dx fs,x=.ref a/\H1 a=some (.ins C dx fs)/\fs.lookup m=none /\
 t σ H1 λvs H2=>sp (x::(vs++dvs)) H2 Q E
def Yq(C:Addr)(sp:Sp)(dvs:List V)(E:XK)(t:TA):TE:=λσ H Q=>t σ H λvs H1=>∀x dx,H1 x=none->H1 dx=none->dx≠x->
 sp (.ref x::(vs++dvs)) (upd (upd H1 dx (.own x)) x (.ins C dx [])) (λv H2=>v=.non/\Q (.ref x) H2) E
def Binds(K:PySem.W.Frag)(fd:FuncData)(ps:List Str)(ds:List Value):Prop:=
 ∀(s:Shared) (us:List Value),K.In s.heap->(us++ds).length=ps.length->BindsTo s fd ⟨us,[]⟩ (ps.zip (us++ds))
def Binds.all{K:PySem.W.Frag}{fd:FuncData}{ps:List Str}(h:∀us:List Value,us.length=ps.length->bindArgs fd ⟨us,[]⟩=pure (ps.zip us)):Binds K fd ps []:=λs us _ hl=>by
 rw[z9] at hl ⊢;exact .of_eq (h us hl)
def ae(CX:gT)(X:Cx)(E:XK):Prop:=∀(pins:List (Addr×Obj)) (σ:St) (H:Hp) (s:Shared) (e:Value) (s':Shared),Inv X pins σ H s->CX X.stack H s E e s'->X.xe e s'
section
variable{X:Cx}{CX:gT}{k:Nat}{f C:Addr}{fd:FuncData}{ps:List Str}{sp:Sp}{dvs:List V}{ds:List Value}{E:XK}{x m:Str}{p pos apos:Pos}{e o:Expr}{es:List Expr}{ta:TE}{t:TA}
def ig{pins:List (Addr×Obj)}{σ:St}{H:Hp}{s:Shared}{Q:VK}{us:List Value}{vs:List V}(F:FnOk X.prog X.w X.K X.mg X.base CX k f fd ps sp)(hr:Room k X.A)(hb:Binds X.K fd ps ds)(hd:Vals dvs ds)(hx:ae CX X E)
  (I:Inv X pins σ H s) (r:Vals vs us) (h:sp (vs++dvs) H Q E):wpAny (model X.prog X.w) X.A (call (.ref f) us) (EP X pins σ Q) X.xe s:=by
 have r2:Vals (vs++dvs) (us++ds):=r.append hd;have hl:(us++ds).length=ps.length:=by rw[<-r2.length];exact F.len _ _ _ _ h
 refine wpAny_call (yE (F.run X.A X.stack s H ⟨us,[]⟩ (us++ds) (vs++dvs) Q E hr I.env0 (hb s us I.kIn hl) r2 h) λr s' hq=>?_);cases r with
 | error e=>exact hx pins σ H s e s' I hq
 | ok fl=>
  cases fl with
  | ret u=>exact I.after hq
  | next=>exact False.elim hq
  | brk=>exact False.elim hq
  | cont=>exact False.elim hq
def Xe(F:FnOk X.prog X.w X.K X.mg X.base CX k f fd ps sp)(hr:Room k X.A)(hg:Gl X x)(hm:X.mg x=some (.ref f))(hk:PySem.W.keepIn X.K (.ref f)=true)(hb:Binds X.K fd ps ds)(hd:Vals dvs ds)(hx:ae CX X E)
  (ha:PA X (e::es) t) (hdb:(x==("__debug__":Str))=false:=by decide) (he:starEach (e::es) X.env=(false,eval e X.env)::starEach es X.env:=by rfl) (hpl:(backTo pos (starEach es X.env)).any (·.1)=false:=by rfl) :
  PE X (.Call (.Name x p) (e::es) [] pos) (WK sp dvs E t):=by
 intro pins s σ H Q I h;refine jy (iI I hg hm ?_ hdb);refine vI (h₀:=X.base) I.ok.mod.kin hk (kA (ha pos pins s σ H _ I h) λus s1 ⟨vs,H1,I1,r,q⟩=>⟨I1.kIn,?_⟩) he hpl;exact ig F hr hb hd hx I1 r q
def Wl(F:FnOk X.prog X.w X.K X.mg X.base CX k f fd ps sp)(hr:Room k X.A)(hg:Gl X x)(hm:X.mg x=some (.ref f))(hk:PySem.W.keepIn X.K (.ref f)=true)(hb:Binds X.K fd ps ds)(hd:Vals dvs ds)(hx:ae CX X E)
  (hdb:(x==("__debug__":Str))=false:=by decide):PE X (.Call (.Name x p) [] [] pos) (WK sp dvs E QV):=by
 intro pins s σ H Q I h;refine jy (iI I hg hm ?_ hdb);exact xj I.kIn hk (ig (us:=[]) F hr hb hd hx I .nil h)
def XR{pl:Sem Bool}(he:PE X o ta)(c:Cls X.K C)(hm:Meth X.K C m f)(F:FnOk X.prog X.w X.K X.mg X.base CX k f fd ps sp)(hr:Room k X.A)(hb:Binds X.K fd ps ds)(hd:Vals dvs ds)(hx:ae CX X E)(ha:PA X (e::es) t)
  (hst:starEach (e::es) X.env=(false,eval e X.env)::starEach es X.env:=by rfl) (hpl:(backTo pos (starEach es X.env)).any (·.1)=false:=by rfl)
  (ht:eval (.Call (.Attribute o m apos) (e::es) [] pos) X.env=(do
   let ov <-eval o X.env
   standAt apos.atName
   let (f,first) <-holding [ov] (getMethod ov m pl)
   callWith pos f first (backTo pos (starEach (e::es) X.env)) (backToKw pos (keywordEach [] X.env))):=by rfl) :
  PE X (.Call (.Attribute o m apos) (e::es) [] pos) (Kn C m sp dvs E ta t):=by
 intro pins s σ H Q I h;refine yQ (pl:=pl) (kA (he pins s σ H _ I h) λu s1 ⟨x,H1,I1,rx,a,dx,fs,ex,ea,l,q⟩=>?_) ht;subst ex;obtain rfl:u=Value.ref a:=rx;refine mj I1 ea c hm l ?_;refine vI (first:=[.ref a]) (h₀:=X.base) I.ok.mod.kin hm.kp (kA (ha pos pins s1 σ H1 _ I1 q) λus s2 ⟨vs,H2,I2,r,q2⟩=>⟨I2.kIn,?_⟩) hst hpl;exact ig (us:=.ref a::us) (vs:=.ref a::vs) F hr hb hd hx I2 (.cons rfl r) q2
def Vz{pl:Sem Bool}(he:PE X o ta)(c:Cls X.K C)(hm:Meth X.K C m f)(F:FnOk X.prog X.w X.K X.mg X.base CX k f fd ps sp)(hr:Room k X.A)(hb:Binds X.K fd ps ds)(hd:Vals dvs ds)(hx:ae CX X E)
  (ht:eval (.Call (.Attribute o m apos) [] [] pos) X.env=(do
   let ov <-eval o X.env
   standAt apos.atName
   let (f,first) <-holding [ov] (getMethod ov m pl)
   callWith pos f first (backTo pos (starEach [] X.env)) (backToKw pos (keywordEach [] X.env))):=by rfl) :
  PE X (.Call (.Attribute o m apos) [] [] pos) (Kn C m sp dvs E ta QV):=by
 intro pins s σ H Q I h;refine yQ (pl:=pl) (kA (he pins s σ H _ I h) λu s1 ⟨x,H1,I1,rx,a,dx,fs,ex,ea,l,q⟩=>?_) ht;subst ex;obtain rfl:u=Value.ref a:=rx;refine mj I1 ea c hm l ?_;exact xj (first:=[.ref a]) I1.kIn hm.kp (ig (us:=[.ref a]) (vs:=[.ref a]) F hr hb hd hx I1 (.cons rfl .nil) q)
structure Mk(K:PySem.W.Frag)(C f:Addr):Prop where
 makes:PySem.W.makesIn K C=true
 init:PySem.W.findIn K (.ref C) "__init__" = some (some (.ref f))
 fn:PySem.W.isFn K (.ref f)=true
 kp:PySem.W.keepIn K (.ref C)=true
def Vx{pins:List (Addr×Obj)}{σ:St}{H:Hp}{s:Shared}{Q:VK}{us:List Value}{vs:List V}(M:Mk X.K C f)(F:FnOk X.prog X.w X.K X.mg X.base CX k f fd ps sp)(hr:Room (k+1) X.A)(hb:Binds X.K fd ps ds)(hd:Vals dvs ds)
  (hx:ae CX X E) (I:Inv X pins σ H s) (r:Vals vs us)
  (h:∀x dx,H x=none->H dx=none->dx≠x->sp (.ref x::(vs++dvs)) (upd (upd H dx (.own x)) x (.ins C dx [])) (λv H2=>v=.non/\Q (.ref x) H2) E) :
  wpAny (model X.prog X.w) X.A (call (.ref C) us) (EP X pins σ Q) X.xe s:=by
 have hq:=h (s.heap.objs.size+1) s.heap.objs.size (I.hok.fresh (vq _)) (I.hok.fresh (zj _)) (zW (jT _));have I2:=Inv.made (C:=C) I;have r2:Vals (V.ref (s.heap.objs.size+1)::(vs++dvs)) (Value.ref (s.heap.objs.size+1)::(us++ds)):=.cons rfl (r.append hd);have hl:(Value.ref (s.heap.objs.size+1)::us++ds).length=ps.length:=by
  have e:=r2.length;rw[F.len _ _ _ _ hq] at e;exact e.symm
 refine wpAny_call (Wk (f:=f) I.kIn M.makes M.init (j7.mp M.fn) (yE (F.run _ X.stack _ _ ⟨Value.ref (s.heap.objs.size+1)::us,[]⟩ (Value.ref (s.heap.objs.size+1)::(us++ds)) _ _ E (hr.make C us [])
  (I2.env0.make C us []) (hb _ (Value.ref (s.heap.objs.size+1)::us) I2.kIn hl) r2 hq) λr s' hq'=>?_))
 cases r with
 | error e=>exact hx pins σ _ _ e s' I2 hq'
 | ok fl=>
  cases fl with
  | ret u=>
   obtain⟨v,H',I3,rv,ev,q3⟩:=I2.after hq';subst ev;exact⟨rv,⟨V.ref (s.heap.objs.size+1),H',I3,rfl,q3⟩⟩
  | next=>exact False.elim hq'
  | brk=>exact False.elim hq'
  | cont=>exact False.elim hq'
def YR(M:Mk X.K C f)(F:FnOk X.prog X.w X.K X.mg X.base CX k f fd ps sp)(hr:Room (k+1) X.A)(hg:Gl X x)(hm:X.mg x=some (.ref C))(hb:Binds X.K fd ps ds)(hd:Vals dvs ds)(hx:ae CX X E)
  (ha:PA X (e::es) t) (hdb:(x==("__debug__":Str))=false:=by decide) (he:starEach (e::es) X.env=(false,eval e X.env)::starEach es X.env:=by rfl) (hpl:(backTo pos (starEach es X.env)).any (·.1)=false:=by rfl) :
  PE X (.Call (.Name x p) (e::es) [] pos) (Yq C sp dvs E t):=by
 intro pins s σ H Q I h;refine jy (iI I hg hm ?_ hdb);refine vI (h₀:=X.base) I.ok.mod.kin M.kp (kA (ha pos pins s σ H _ I h) λus s1 ⟨vs,H1,I1,r,q⟩=>⟨I1.kIn,?_⟩) he hpl;exact Vx M F hr hb hd hx I1 r q
end
section
variable{X:Cx}{CX:gT}{k:Nat}{f C:Addr}{fd:FuncData}{ps ks:List Str}{sp:Sp}{E:XK}{x m:Str}{p pos apos kpos:Pos}{e o:Expr}{es:List Expr}{kws:List Keyword}{te ta:TE}{t tk:TA}{nm:Option Str}
variable{g:List Value->List Value->List Value}{gV:List V->List V->List V}
end
structure FnScope(N P:List Str)(sc:Scope):Prop where
 kind:sc.kind=.function
 co:sc.isCoroutine=false
 gen:sc.isGenerator=false
 nd:N.Nodup
 pre:N.take P.length=P
 par:∀x∈P,sc.names.lookup x=some .local\/sc.names.lookup x=some .cell
 nofree:∀y∈sc.names,y.2≠.free
theorem nW{kindOf:Str->Option NameKind}{x:Str}:∀{binds:List (Str×Value)} {m:Str->Option Value},(∀v,(x,v)∉binds)->bindL kindOf binds m x=m x
 | [],_,_=>rfl
 | (n,v)::r,m,h=>by
  unfold bindL;rw[nW λw hw=>h w (zJ _ hw)];split
  .have:x≠n:=by rintro rfl;exact h v zX
   simp[this]
  .rfl
theorem nS{kindOf:Str->Option NameKind}{x:Str}:∀{binds:List (Str×Value)} {m:Str->Option Value},(∀v,(x,v)∉binds)->bindC kindOf binds m x=m x
 | [],_,_=>rfl
 | (n,v)::r,m,h=>by
  unfold bindC;rw[nS λw hw=>h w (zJ _ hw)];split
  .rfl
  .have:x≠n:=by rintro rfl;exact h v zX
   simp[this]
theorem oh{kindOf:Str->Option NameKind}{x:Str}{v:Value}:∀{P:List Str} {vs:List Value} {i:Nat} {m:Str->Option Value},P.Nodup->P[i]?=some x->vs[i]?=some v->kindOf x=some .local->
  bindL kindOf (P.zip vs) m x=some v
 | [],_,_,_,_,h,_,_=>by simp at h
 | _::_,[],_,_,_,_,h,_=>by simp at h
 | p::P,w::vs,0,m,nd,h1,h2,hk=>by
  simp at h1 h2;subst h1;subst h2;show bindL kindOf ((p,w)::P.zip vs) m p=_
  unfold bindL;rw[nW λv hv=>(jz.mp nd).1 (j9 hv).1,zY hk];simp
 | p::P,w::vs,i+1,m,nd,h1,h2,hk=>by
  show bindL kindOf ((p,w)::P.zip vs) m x=_
  unfold bindL;exact oh (i:=i) (jz.mp nd).2 (by simpa using h1) (by simpa using h2) hk
theorem nD{kindOf:Str->Option NameKind}{x:Str}{v:Value}:∀{P:List Str} {vs:List Value} {i:Nat} {m:Str->Option Value},P.Nodup->P[i]?=some x->vs[i]?=some v->kindOf x≠some .local->
  bindC kindOf (P.zip vs) m x=some v
 | [],_,_,_,_,h,_,_=>by simp at h
 | _::_,[],_,_,_,_,h,_=>by simp at h
 | p::P,w::vs,0,m,nd,h1,h2,hk=>by
  simp at h1 h2;subst h1;subst h2;show bindC kindOf ((p,w)::P.zip vs) m p=_
  unfold bindC;rw[nS λv hv=>(jz.mp nd).1 (j9 hv).1,kO hk];simp
 | p::P,w::vs,i+1,m,nd,h1,h2,hk=>by
  show bindC kindOf ((p,w)::P.zip vs) m x=_
  unfold bindC;exact nD (i:=i) (jz.mp nd).2 (by simpa using h1) (by simpa using h2) hk
def start(N:List Str)(vs:List V):St:=vs.map some++List.replicate (N.length-vs.length) none
def gW(CX:gT)(P:Program)(w:World)(K:PySem.W.Frag)(mg:Str->Option Value)(base:Heap)(N:List Str)(qual:Str)(scope:Scope)(f:Addr)(cd:Value)(A:Around)(outer:List Env)(s:Shared)(H:Hp)(E:XK):Cx where
 prog:=P
 w:=w
 K:=K
 mg:=mg
 base:=base
 A:=A.deeper (envOfC qual scope s.heap.objs.size f cd)
 N:=N
 s₀:=s
 H₀:=H
 env:=envOfC qual scope s.heap.objs.size f cd
 outer:=outer
 stack:=envOfC qual scope s.heap.objs.size f cd::outer
 ex:=[]
 calm:=true
 fn:=λ_=>true
 pn:=[]
 xe:=λe s'=>wpAny (model P w) (A.deeper (envOfC qual scope s.heap.objs.size f cd)) (leaving (envOfC qual scope s.heap.objs.size f cd) e) (λ_ s''=>CX outer H s E e s'') (λe' s''=>CX outer H s E e' s'') s'
def pD{sc:Scope}{n:Nat}{x:Str}(h:sc.names.lookup x=some .cell):∃c,(cellsFrom n sc.names []).lookup x=some c:=by
 have q:=yK sc.names n [] (.inl h);exact j8.mp q
def Ja{CX:gT}{P:Program}{w:World}{K:PySem.W.Frag}{mg:Str->Option Value}{base:Heap}{N ps:List Str}{qual:Str}{scope:Scope}{f:Addr}{cd:Value}{A:Around}{outer:List Env}{s s1:Shared}{H:Hp}{E:XK}{us:List Value}{vs:List V}
  (S:FnScope N ps scope) (hd:A.handled=none) (e0:Env0 P w K mg base A outer s H) (hl:vs.length=ps.length) (r:Vals vs us)
  (x:InCallC s s.heap.objs.size (bindL (envOfC qual scope s.heap.objs.size f cd).kindOf (ps.zip us) λ_=>none) (cellsFrom (s.heap.objs.size+1) scope.names []) (bindC (envOfC qual scope s.heap.objs.size f cd).kindOf (ps.zip us) λ_=>none) s1) :
  Inv (gW CX P w K mg base N qual scope f cd A outer s H E) [] (start N vs) H s1:=by
 have hpl:ps.length<=N.length:=by have:=jR List.length S.pre;rw[qL] at this;omega
 obtain⟨h1,tk,rfl,hk⟩:=x.done;have noA:∀b:Addr,b∉(gW CX P w K mg base N qual scope f cd A outer s H E).ex:=λb z=>absurd (show b∈([]:List Addr) from z) (by simp)
 refine⟨⟨e0.mod,S.kind,rfl,rfl,zj _,λy z c h1 h2=>?_,λy hy=>?_,λy c _ h=>?_,λ_=>hd,Around.frames_deeper e0.frames,.inr ⟨rfl,rfl⟩,λb z=>absurd z (noA b),e0.bs,e0.bsz,λb _ _=>noA b,λb z=>absurd z (noA b),e0.funs,e0.frf⟩,
  rfl,e0.bare,Un.kept hk,⟨_,x.toInCall.ns,λi y v h1 h2 h3=>?_⟩,λy c h=>⟨_,x.cell y c h⟩,e0.hok.fresh (zj _),λy c h=>?_,λp hp=>absurd (show p∈([]:List (Addr×Obj)) from hp) (by simp),e0.hok.kept hk,?_⟩
 .exact name_of_addr x.apart (qN h1) (qN h2)
 .have hy:scope.names.lookup y=some .cell\/scope.names.lookup y=some .free:=hy
  rcases hy with hy | hy
  .exact pD hy
  .exact absurd rfl (S.nofree _ (qN hy))
 .exact wu (x.above y c (qN h))
 .have hi:i<vs.length:=by
   unfold start at h2;by_cases hi:i<vs.length
   .exact hi
   .rw[zG (by simpa using hi)] at h2
    rw[qi] at h2;split at h2<;>cases h2
  have ha:vs[i]?=some v:=by
   unfold start at h2;rw[zy (by simpa using hi),je] at h2;cases e:vs[i]? with
   | none=>rw[e] at h2;cases h2
   | some a=>rw[e] at h2;cases h2;rfl
  obtain⟨u,hu,rv⟩:=r.get ha;have hp:ps[i]?=some y:=by
   rw[<-S.pre,List.getElem?_take_of_lt ∅];exact h1
  have ndP:ps.Nodup:=by rw[<-S.pre];exact S.nd.sublist (List.take_sublist _ _)
  refine⟨u,rv,?_⟩;rcases S.par y (ju hp) with k | k
  .exact .inl ⟨k,oh ndP hp hu k⟩
  .obtain⟨c,e⟩:=pD (n:=s.heap.objs.size+1) k
   refine .inr ⟨.inl k,c,e,?_⟩;have q:=x.cell y c e;rw[nD ndP hp hu (by show scope.names.lookup y≠_;rw[k];decide)] at q;exact q
 .exact e0.hok.fresh (wu (x.above y c (qN h)))
 .unfold start
  show _=N.length
  rw[zN,zO,qw];omega
def DL{CX:gT}{P:Program}{w:World}{K:PySem.W.Frag}{mg:Str->Option Value}{base:Heap}{k:Nat}{f:Addr}{name qual:Str}{params:Arguments}{body:List Stmt}{scope:Scope}{dV kV doc pm cdv ct oc:Value}{an od:Option Addr}
  {osl:Array (Option Value)} {N ps:List Str} {sp:Sp} (lk:K.lookup f=some ⟨oc,od,.func (PySem.W.fnOf name qual params body scope dV kV doc pm an cdv ct),osl⟩) (hcd:PySem.W.codeIn K cdv qual=true) (S:FnScope N ps scope)
  (len:∀vs H Q E,sp vs H Q E->vs.length=ps.length)
  (hbody:∀(A:Around) (outer:List Env) (s:Shared) (H:Hp) (vs:List V) (Q:VK) (E:XK),Room k (A.deeper (envOfC qual scope s.heap.objs.size f cdv))->sp vs H Q E->
   ∃t,PSs (gW CX P w K mg base N qual scope f cdv A outer s H E) body t/\t { nx:=λ_ H'=>Q .non H',rt:=Q } (start N vs) H) :
  FnOk P w K mg base CX (k+1) f (PySem.W.fnOf name qual params body scope dV kV doc pm an cdv ct) ps sp:=by
 refine⟨len,λA outer s H args us vs Q E hr e0 hb r hsp=>?_⟩;have hl:=len _ _ _ _ hsp;have KX:K.In s.heap:=e0.mod.kin.keeps λb o e=>(e0.bs b o e).1
 have lim:s.heap.NoLimit:=e0.mod.nolimit.keeps λb o e=>(e0.bs b o e).1
 have hkind:∀y∈ps.zip us,scope.names.lookup y.1=some .local\/(scope.names.lookup y.1=some .cell/\((cellsFrom (s.heap.objs.size+1) scope.names []).lookup y.1).isSome=true):=λ⟨n,v⟩ hy=>by
  rcases S.par n (j9 hy).1 with q | q
  .exact .inl q
  .exact .inr ⟨q,yK _ _ _ (.inl q)⟩
 refine codeAny_call_function hr.depth (KX _ _ lk) rfl S.co S.gen rfl (PySem.W.codeRec_of KX hcd) (hb _ _ _ _ ?_);refine wpAny_newFunctionEnv_cells S.kind hkind λenv he s1 x=>?_
 subst he;refine⟨lim.keeps x.toInCall.keep,codeAny_func ?_⟩;obtain⟨t,ht,hq⟩:=hbody A outer s H vs Q E (hr.deeper _) hsp;have I:Inv (gW CX P w K mg base N qual scope f cdv A outer s H E) [] (start N vs) H s1:=Ja S hr.hd e0 hl r x;refine qM (ht [] s1 (start N vs) H _ I hq) (λfl s' hs=>?_) λe s' hs=>hs
 have fin:∀{σ':St} {H':Hp} {v:V} {u:Value},Inv (gW CX P w K mg base N qual scope f cdv A outer s H E) [] σ' H' s'->RelV v u->Q v H'->CE outer P w H s Q u s':=
  λ{σ' H' v u} J rv q=>⟨v,H',J.os,J.bare,J.base,J.hok,rv,q⟩
 cases fl with
 | ret u=>
  obtain⟨v,σ',H',J,rv,q⟩:=hs;exact fin J rv q
 | next=>
  obtain⟨σ',H',J,q⟩:=hs;exact fin (v:=V.non) (u:=Value.none) J rfl q
 | brk=>
  obtain⟨_,_,_,q⟩:=hs;exact False.elim q
 | cont=>
  obtain⟨_,_,_,q⟩:=hs;exact False.elim q
end L2
namespace L2
open PySem PySem.Spec PyProof.Rows
section
variable{X:Cx}{x:Str}{p pos:Pos}{e:Expr}{es:List Expr}{t:TA}{id T:String}{r:List V->Hp->VK->Prop}
def Fd(r:List V->Hp->VK->Prop)(t:TA):TE:=λσ H Q=>t σ H λvs H1=>r vs H1 Q
def rJ(hc:yB X (.builtin id) r)(hg:Gl X x)(hm:X.mg x=none)(hv:bootBuiltins x=some (.builtin id))(ha:PA X (e::es) t)(hn:x≠"__name__":=by decide)(hdb:(x==("__debug__":Str))=false:=by decide)
  (he:starEach (e::es) X.env=(false,eval e X.env)::starEach es X.env:=by rfl) (hpl:(backTo pos (starEach es X.env)).any (·.1)=false:=by rfl):PE X (.Call (.Name x p) (e::es) [] pos) (Fd r t):=by
 intro pins s σ H Q I h;refine jy (ud I hg hm hv ?_ hn hdb);exact PyProof.Rows.callWith_builtin1 (kA (ha pos pins s σ H _ I h) λus s1 ⟨vs,H1,I1,r1,q1⟩=>hc pins s1 σ H1 vs us Q I1 r1 q1) he hpl
def K9(hc:yB X (.type T) r)(hg:Gl X x)(hm:X.mg x=none)(hv:bootBuiltins x=some (.type T))(ha:PA X (e::es) t)(hn:x≠"__name__":=by decide)(hdb:(x==("__debug__":Str))=false:=by decide)
  (he:starEach (e::es) X.env=(false,eval e X.env)::starEach es X.env:=by rfl) (hpl:(backTo pos (starEach es X.env)).any (·.1)=false:=by rfl):PE X (.Call (.Name x p) (e::es) [] pos) (Fd r t):=by
 intro pins s σ H Q I h;refine jy (ud I hg hm hv ?_ hn hdb);exact jo (kA (ha pos pins s σ H _ I h) λus s1 ⟨vs,H1,I1,r1,q1⟩=>hc pins s1 σ H1 vs us Q I1 r1 q1) he hpl
end
end L2
namespace HT
open PySem PyProof.Rows
section
open PySem.SeqAt
open PySem.AutoSeq1 (wpAny_loadPart')
open PySem.MeetsSeq PySem.MeetsSeq2 PySem.MeetsSeq3
end
section
variable{prog:Program}{w:World}{A:Around}{E:Value->Shared->Prop}{s:Shared}
def cat_tup{t b:Addr}{vs ws:List Value}{Q:Value->Shared->Prop}(ht:IsTup s.heap t vs.toArray)(hb:IsTup s.heap b ws.toArray)(hv:vs≠[])
  (h1:ws=[]->Q (.ref t) s) (h2:ws≠[]->Q (.ref s.heap.objs.size) { s with heap:=s.heap.push { cls:=.type "tuple",data:=.seq (vs++ws).toArray } })
  (hsz:vs.length+ws.length<=sizeLine):wpAny (model prog w) A (binaryOp .Add (.ref t) (.ref b)) Q E s:=by
 obtain⟨⟨cls,dd,data,sl⟩,ho,hc,n,hd⟩:=id ht;obtain⟨⟨cls2,dd2,data2,sl2⟩,ho2,hc2,n2,hd2⟩:=id hb;simp only at hc hd hc2 hd2;subst hc hd hc2 hd2;have e:vs.toArray++ws.toArray=(vs++ws).toArray:=by simp
 by_cases hw:ws=[]
 .exact yD ⟨_,ho,rfl⟩ ⟨_,ho2,rfl⟩ yG seq_tuple_add wg vX (vU _ _)
   (tuple_addW1 t b vs.toArray ws.toArray n n2 dd dd2 sl sl2 (by simpa using hv) (by simp[hw])) ⟨ho,ho2,h1 hw⟩
 .refine yD ⟨_,ho,rfl⟩ ⟨_,ho2,rfl⟩ yG seq_tuple_add wg vX (vU _ _)
   (tuple_addW2 t b vs.toArray ws.toArray n n2 dd dd2 sl sl2 (by simpa using hv) (by simpa using hw) (by rw[zK,zK];exact hsz)) ⟨ho,ho2,?_⟩
  rw[e];exact h2 hw
def sIx(n d:Nat):Option Int->Nat
 | none=>d
 | some v=>if v<0 then (v+(n:Int)).toNat else min v.toNat n
def CJ(n d:Nat)(hd:d<=n)(o:Option Int):sIx n d o<=n:=by
 cases o with
 | none=>exact hd
 | some v=>
  show(if v<0 then (v+(n:Int)).toNat else min v.toNat n)<=n
  by_cases hv:v<0
  .rw[zY hv];omega
  .rw[kO hv];exact Nat.min_le_right _ _
def tT(v:Int)(n d:Nat):(if v<0 then max (v+(n:Int)) 0 else min v (n:Int))=((sIx n d (some v):Nat):Int):=by
 show(if v<0 then max (v+(n:Int)) 0 else min v (n:Int))=(((if v<0 then (v+(n:Int)).toNat else min v.toNat n):Nat):Int)
 by_cases hv:v<0
 .simp only[zY hv];omega
 .simp only[kO hv];omega
def KC(lo hi:Option Int)(n:Nat):Builtin.Slice.sliceAdjust lo hi 1 (n:Int)=(((sIx n 0 lo:Nat):Int),((sIx n n hi:Nat):Int)):=by
 have h1:¬((1:Int)<0):=by omega
 unfold Builtin.Slice.sliceAdjust;simp only[h1,jj];refine Prod.ext ?_ ?_
 .cases lo with
  | none=>rfl
  | some v=>exact tT v n 0
 .cases hi with
  | none=>rfl
  | some v=>exact tT v n n
def Kr(i j:Nat):Builtin.Slice.slicePlaces (i:Int) (j:Int) 1=j-i:=by
 unfold Builtin.Slice.slicePlaces;have h1:(1:Int)>0:=by omega
 simp only[h1,kE,Int.ediv_one];split<;>omega
def mf{v:Value}{o:Option Int}{Q:Option Int->Shared->Prop}(p:IsPart v o)(h:Q o s):wpAny (model prog w) A (Builtin.Slice.slicePartIndex v) Q E s:=by
 cases p with
 | none=>exact slicePart_none h
 | int i t=>exact slicePart_int h
def de{sl:Addr}{vl vu:Value}{lo hi:Option Int}{n:Nat}{Q:Int×Int×Nat->Shared->Prop}(hs:s.heap.IsSliceOf sl vl vu .none)(pl:IsPart vl lo)(pu:IsPart vu hi)
  (h:Q (((sIx n 0 lo:Nat):Int),1,sIx n n hi-sIx n 0 lo) s):wpAny (model prog w) A (Builtin.Slice.sliceApplied (.ref sl) (pure (n:Int))) Q E s:=by
 obtain⟨os,hos,hcs,hds⟩:=id hs;unfold Builtin.Slice.sliceApplied Builtin.Slice.sliceFields;refine za (za (ji hos hds (x:=vl) rfl (za (ji hos hds (x:=vu) rfl (za (ji hos hds (x:=.none) rfl (zr ?_)))))));refine za (slicePart_none ?_);show wpAny _ _ (if ((1:Int)==0)=true then _ else _) _ _ s
 rw[kO (by decide)];refine za (mf pl (za (mf pu (za (zr ?_)))));show wpAny _ _ (match Builtin.Slice.sliceAdjust lo hi 1 (n:Int) with | (lo,hi)=>pure (lo,(1:Int),Builtin.Slice.slicePlaces lo hi 1)) _ _ s
 rw[KC lo hi n];show wpAny _ _ (pure (((sIx n 0 lo:Nat):Int),(1:Int),Builtin.Slice.slicePlaces ((sIx n 0 lo:Nat):Int) ((sIx n n hi:Nat):Int) 1)) _ _ s
 rw[Kr];exact zr h
def WC(xs:Array Value)(i k:Nat):((List.range k).filterMap λ(m:Nat)=>xs[((i:Int)+(m:Int)*1).toNat]?).toArray=((xs.toList.drop i).take k).toArray:=by
 have e:(λ(m:Nat)=>xs[((i:Int)+(m:Int)*1).toNat]?)=λm=>xs[i+m]?:=by
  funext m
  have:((i:Int)+(m:Int)*1).toNat=i+m:=by omega
  rw[this]
 rw[e];have:=pick_run xs i k;rw[List.filterMap_map] at this;have e2:((λx=>xs[x]?)∘λx=>i+x)=λm=>xs[i+m]?:=rfl
 rw[e2] at this;rw[this]
def getItem_tuple_cut{t sl:Addr}{items:Array Value}{vl vu:Value}{lo hi:Option Int}{Q:Value->Shared->Prop}(ht:IsTup s.heap t items)(hs:s.heap.IsSliceOf sl vl vu .none)(pl:IsPart vl lo)(pu:IsPart vu hi)
  (hw:¬(sIx items.size 0 lo=0/\sIx items.size items.size hi=items.size))
  (h:Q (.ref s.heap.objs.size) { s with heap:=s.heap.push { cls:=.type "tuple",data:=.seq ((items.toList.drop (sIx items.size 0 lo)).take (sIx items.size items.size hi-sIx items.size 0 lo)).toArray } })
  (hsz:items.size<=sizeLine):wpAny (model prog w) A (getItem (.ref t) (.ref sl)) Q E s:=by
 have htake:sizeOk (.seq ((items.toList.drop (sIx items.size 0 lo)).take (sIx items.size items.size hi-sIx items.size 0 lo)).toArray):=by
  show((items.toList.drop (sIx items.size 0 lo)).take (sIx items.size items.size hi-sIx items.size 0 lo)).toArray.size<=sizeLine
  rw[zK,qL,vd,wM];omega
 have hj:sIx items.size items.size hi<=items.size:=CJ _ _ (zj _) hi;obtain⟨os,hos,hcs,hds⟩:=id hs;have hTs:s.TypeIs (.ref sl) "slice":=⟨os,hos,hcs⟩;unfold getItem;try with_reducible refine jb ?_
 first | refine za (zr ?_) | skip
 refine za (wpAny_sequenceKey ht.typeIs (by decide) ?_)
 refine za (jn (name:=Str.ofString "__getitem__") ht.typeIs jC
  (jx jC ht.typeIs entry_tuple_getitem ?_ (args_tuple_getitem _ _)))
 show wpAny _ _ (Builtin.Tuple.tupleItemsOf (.ref t) >>= _) _ _ s
 refine za (yd ht ?_);refine za (jZ hTs ?_);rw[zY (by decide)];refine za (de hs pl pu ?_);have hno:¬((((sIx items.size 0 lo:Nat):Int)==0&&(1:Int)==1&&(sIx items.size items.size hi-sIx items.size 0 lo)==items.size)=true):=by
  intro q;rw[zu,zu] at q;have q1:((sIx items.size 0 lo:Nat):Int)=0:=eq_of_beq q.1.1;have q2:sIx items.size items.size hi-sIx items.size 0 lo=items.size:=eq_of_beq q.2;exact hw ⟨by omega,by omega⟩
 show wpAny _ _ (if (((sIx items.size 0 lo:Nat):Int)==0&&(1:Int)==1&&(sIx items.size items.size hi-sIx items.size 0 lo)==items.size)=true then _ else _) _ _ s
 rw[kO hno,WC];first
  | exact za (m:=Builtin.Tuple.tupleExact _) (jm (zr ⟨_,rfl,zr h⟩) htake)
  | exact za (m:=Builtin.Tuple.tupleExact _) (jm (za (zr (zr ⟨_,rfl,zr h⟩))) htake)
  | exact za (za (m:=Builtin.Tuple.tupleExact _) (jm (zr (zr ⟨_,rfl,zr h⟩)) htake))
  | exact za (za (m:=Builtin.Tuple.tupleExact _) (jm (zr ⟨_,rfl,zr h⟩) htake))
end
end HT
namespace L2
open PySem PySem.Spec PyProof.Rows
abbrev TO:=St->Hp->(Option Int->Hp->Prop)->Prop
def PO(X:Cx)(e:Option Expr)(t:TO):Prop:=
 ∀(pins:List (Addr×Obj)) (s:Shared) (σ:St) (H:Hp) (Q:Option Int->Hp->Prop),Inv X pins σ H s->t σ H Q->
  wpAny (model X.prog X.w) X.A (evalPart e X.env) (λu s'=>∃o H',Inv X pins σ H' s'/\IsPart u o/\Q o H') X.xe s
def Y0:TO:=λ_ H Q=>Q none H
def DF(t:TE):TO:=λσ H Q=>t σ H λx H1=>∃i,x=.int i/\Q (some i) H1
section
variable{X:Cx}{e:Expr}{te:TE}{lo hi:Option Expr}{tl th:TO}{pos p2:Pos}
def Y5:PO X none Y0:=by
 intro pins s σ H Q I h;rw[evalPart_none];exact zr ⟨none,H,I,.none,h⟩
def XW(h:PE X e te):PO X (some e) (DF te):=by
 intro pins s σ H Q I hw;rw[evalPart_some];refine kA (h pins s σ H _ I hw) λu s1 ⟨x,H1,I1,r1,q1⟩=>?_
 obtain⟨i,rfl,q⟩:=q1;obtain⟨t,rfl⟩:=r1;exact⟨some i,H1,I1,.int i t,q⟩
def WJ(X:Cx)(r:V->Option Int->Option Int->Hp->VK->Prop):Prop:=
 ∀(pins:List (Addr×Obj)) (s:Shared) (σ:St) (H:Hp) (x:V) (v vl vu:Value) (lo hi:Option Int) (sl:Addr) (Q:VK),Inv X pins σ H s->RelV x v->s.heap.IsSliceOf sl vl vu .none->IsPart vl lo->IsPart vu hi->r x lo hi H Q->
  ∃T id,typeLookup (.type T) "__getitem__" = pure (some (.builtin id))/\s.TypeIs v T/\wpAny (model X.prog X.w) X.A (getItem v (.ref sl)) (EP X pins σ Q) X.xe s
def Gd(r:V->Option Int->Option Int->Hp->VK->Prop)(te:TE)(tl th:TO):TE:=λσ H Q=>te σ H λx H1=>tl σ H1 λl H2=>th σ H2 λu H3=>r x l u H3 Q
def VV{r:V->Option Int->Option Int->Hp->VK->Prop}(hr:WJ X r)(he:PE X e te)(hl:PO X lo tl)(hu:PO X hi th):PE X (.Subscript e (.Slice lo hi none p2) pos) (Gd r te tl th):=by
 intro pins s σ H Q I h;refine Subscript_ (kA (he pins s σ H _ I h) λv s1 ⟨x,H1,I1,r1,q1⟩=>?_);refine wpAny_Slice (kA (hl pins s1 σ H1 _ I1 q1) λvl s2 ⟨l,H2,I2,pl,q2⟩=>kA (hu pins s2 σ H2 _ I2 q2) λvu s3 ⟨u,H3,I3,pu,q3⟩=>?_);rw[evalPart_none];refine zr ?_;have I4:Inv X pins σ H3 { s3 with heap:=s3.heap.push { cls:=.type "slice",data:=.fields #[vl,vu,.none] } }:=I3.kept (t':=s3.toks) λb ob q=>zf _ q
 obtain⟨T,id,hT,ht,hg⟩:=hr pins { s3 with heap:=s3.heap.push { cls:=.type "slice",data:=.fields #[vl,vu,.none] } } σ H3 x v vl vu l u s3.heap.objs.size Q I4 r1 (Heap.IsSliceOf.new ..) pl pu q3;show wpAny (model X.prog X.w) X.A (subscriptTail e (.Slice lo hi none p2) v (.ref s3.heap.objs.size)) (EP X pins σ Q) X.xe { s3 with heap:=s3.heap.push { cls:=.type "slice",data:=.fields #[vl,vu,.none] } }
 exact tail_any (ops:=[.ref s3.heap.objs.size,v]) ht hT hg (by with_unfolding_all rfl)
def cy(xs:List V)(lo hi:Option Int):List V:=(xs.drop (HT.sIx xs.length 0 lo)).take (HT.sIx xs.length xs.length hi-HT.sIx xs.length 0 lo)
def iV(xs:List V)(lo hi:Option Int):(cy xs lo hi).length<=xs.length:=by
 unfold cy;rw[qL,vd];omega
def FA(K:PySem.W.Frag):V->Option Int->Option Int->Hp->VK->Prop:=λx lo hi H Q=>∃a xs,x=.ref a/\SqT K H a xs /\
 ¬(HT.sIx xs.length 0 lo=0/\HT.sIx xs.length xs.length hi=xs.length)/\∀p,H p=none->Q (.ref p) (upd H p (.tup (cy xs lo hi)))
def U0:WJ X (FA X.K):=by
 intro pins s σ H x v vl vu lo hi sl Q I rx hs pl pu h;obtain⟨a,xs,rfl,hx,hw,q⟩:=h;cases rx;obtain⟨its,r,ht,hz⟩:=I.tuple hx;have hlen:its.toArray.size=xs.length:=by rw[zK];exact r.length.symm
 refine⟨"tuple",_,jC.lookup,ht.typeIs,?_⟩;refine HT.getItem_tuple_cut ht hs pl pu (by rw[hlen];exact hw) ?_ (by rw[hlen];exact hz);rw[hlen];refine⟨.ref s.heap.objs.size,_,I.laid (t':=s.toks) (o:=.tup (cy xs lo hi)) (λb ob q=>zf _ q) (zj _) ?_,rfl,q _ (I.hok.fresh (zj _))⟩;exact⟨zR (iV xs lo hi) hz,_,(r.drop (HT.sIx xs.length 0 lo)).take (HT.sIx xs.length xs.length hi-HT.sIx xs.length 0 lo),IsTup.new _ _,.new _ _⟩
def Dv(K:PySem.W.Frag):R2:=λx y H Q=>∃a b xs ys,x=.ref a/\y=.ref b/\SqT K H a xs/\SqT K H b ys/\xs≠[]/\xs.length+ys.length<=sizeLine /\
 (ys=[]->Q (.ref a) H)/\(ys≠[]->∀p,H p=none->Q (.ref p) (upd H p (.tup (xs++ys))))
def Vals.nil_iff{xs:List V}{us:List Value}(r:Vals xs us):us=[]↔xs=[]:=by
 cases r with
 | nil=>simp
 | cons _ _=>simp
def YS:qh X (binaryOp .Add) (Dv X.K):=by
 intro pins s σ H x y v u Q I rx ry h;obtain⟨a,b,xs,ys,rfl,rfl,ha,hb,hx,hz,q1,q2⟩:=h;cases rx;cases ry;obtain⟨its,r1,p1,_⟩:=I.tuple ha;obtain⟨its2,r2,p2,_⟩:=I.tuple hb;refine HT.cat_tup p1 p2 (λz=>hx (r1.nil_iff.mp z)) (λz=>⟨.ref a,H,I,rfl,q1 (r2.nil_iff.mp z)⟩) (λz=>?_) (by rw[<-r1.length,<-r2.length];exact hz);refine⟨.ref s.heap.objs.size,_,I.laid (t':=s.toks) (o:=.tup (xs++ys)) (λb ob q=>zf _ q) (zj _) ?_,rfl,q2 (λw=>z (r2.nil_iff.mpr w)) _ (I.hok.fresh (zj _))⟩;exact⟨by rw[zN];exact hz,_,r1.append r2,IsTup.new _ _,.new _ _⟩
end
end L2
namespace L2
open PySem PySem.Spec PyProof.Rows
def xB(n:Nat)(i:Int):Option Nat:=if 0<=i then (if i<n then some i.toNat else none) else if -(n:Int)<=i then some (i+n).toNat else none
def atI{α:Type}(xs:List α)(i:Int):Option α:=(xB xs.length i).bind λj=>xs[j]?
def Zv{n:Nat}{i:Int}{j:Nat}(h:xB n i=some j):seqIndex? i n=some j/\j<n/\-(n:Int)<=i/\i<n:=by
 unfold xB at h;by_cases h0:0<=i
 .rw[zY h0] at h
  by_cases h1:i<n
  .rw[zY h1] at h
   have e:i.toNat=j:=kh h;exact⟨by rw[seqIndex_of h0 h1,e],by omega,by omega,h1⟩
  .rw[kO h1] at h;cases h
 .rw[kO h0] at h
  by_cases h1:-(n:Int)<=i
  .rw[zY h1] at h
   have e:(i+n).toNat=j:=kh h;exact⟨by rw[seqIndex_neg ∅ h1,e],by omega,h1,by omega⟩
  .rw[kO h1] at h;cases h
def m8{α:Type}{xs:List α}{i:Int}{v:α}(h:atI xs i=some v):∃j,seqIndex? i xs.length=some j/\xs[j]?=some v/\j<xs.length/\-(xs.length:Int)<=i/\i<xs.length:=by
 unfold atI at h;cases e:xB xs.length i with
 | none=>rw[e] at h;cases h
 | some j=>
  rw[e] at h;obtain⟨h1,h2,h3,h4⟩:=Zv e;exact⟨j,h1,h,h2,h3,h4⟩
def tO{α:Type}{xs:List α}{j:Nat}{v:α}(h:xs[j]?=some v):atI xs (j:Int)=some v:=by
 have hj:j<xs.length:=(zT.mp h).1;have e:xB xs.length (j:Int)=some j:=by
  unfold xB;rw[zY ∅,zY ∅];simp
 unfold atI;rw[e];exact h
def Wo{α:Type}(xs:List α)(v:α):atI (xs++[v]) (-1)=some v:=by
 have hl:(xs++[v]).length=xs.length+1:=by simp
 have e:xB (xs++[v]).length (-1)=some xs.length:=by
  unfold xB;rw[hl,kO (by decide),zY ∅];congr 1
  omega
 unfold atI;rw[e];show(xs++[v])[xs.length]?=some v
 simp
def uU(b:Expr):Prop:=∀o i,subscripted b false o i=operate [o,i] (getItem o i)
def si(X:Cx)(r:R2):Prop:=
 ∀(value slice:Expr) (pins:List (Addr×Obj)) (s:Shared) (σ:St) (H:Hp) (x y:V) (v u:Value) (Q:VK),Inv X pins σ H s->RelV x v->RelV y u->r x y H Q->
  subscripted slice false v u=operate [v,u] (getItem v u)->wpAny (model X.prog X.w) X.A (subscriptTail value slice v u) (EP X pins σ Q) X.xe s
def Ff(X:Cx)(id:String)(r:V->List V->Hp->VK->Prop):Prop:=
 ∀(pins:List (Addr×Obj)) (s:Shared) (σ:St) (H:Hp) (x:V) (xs:List V) (v:Value) (us:List Value) (Q:VK),Inv X pins σ H s->RelV x v->Vals xs us->r x xs H Q->
  wpAny (model X.prog X.w) X.A (call (.builtin id) (v::us)) (EP X pins σ Q) X.xe s
section
variable{X:Cx}{a b:Expr}{ta tb:TE}{pos:Pos}
def Kh{r:R2}(hr:si X r)(ha:PE X a ta)(hb:PE X b tb)(hs:uU b):PE X (.Subscript a b pos) (JT r ta tb):=by
 intro pins s σ H Q I h;exact Subscript_ (Wj ha hb I h λv u s2 x y H2 I2 rx ry q=>hr a b pins s2 σ H2 x y v u Q I2 rx ry q (hs _ _))
def Fp(K:PySem.W.Frag):R2:=λx y H Q=>∃p xs i v,x=.ref p/\y=.int i/\SqL K H p xs/\atI xs i=some v/\Q v H
def FE(K:PySem.W.Frag):R2:=λx y H Q=>∃p xs i v,x=.ref p/\y=.int i/\SqT K H p xs/\atI xs i=some v/\Q v H
def FC:R2:=λx y H Q=>∃z i c,x=.str z/\y=.int i/\z.length<=sizeLine/\atI z.cps.toList i=some c/\Q (.str ⟨#[c]⟩) H
def Xp:si X (Fp X.K):=by
 intro value slice pins s σ H x y v u Q I rx ry h hs;obtain⟨p,xs,i,z,rfl,rfl,hq,he,q⟩:=h;cases rx;obtain⟨t,rfl⟩:=ry;obtain⟨its,r,pl,hz⟩:=I.list hq;obtain⟨j,h1,h2,h3,h4,h5⟩:=m8 he;obtain⟨w,ew,rw'⟩:=r.get h2;have hl:=r.length;have hn:=gP;have fin:EP X pins σ Q w s:=⟨z,H,I,rw',q⟩;by_cases h0:0<=i
 .have hj:i.toNat=j:=by
   rw[seqIndex_of h0 h5] at h1;exact kh h1
  exact item_listR pl.isList h0 ∅ (by rw[hj];simpa using ew) fin hs
 .have hj:(i+(its.toArray.size:Int)).toNat=j:=by
   rw[seqIndex_neg ∅ h4] at h1;rw[zK,<-hl];exact kh h1
  exact subscriptTail_builtinR (x:=w) pl.isList.typeIs slot_list_getitem.lookup
   (wpAny_getItem_list_neg (Q:=λr s'=>r=w/\EP X pins σ Q r s') pl.isList ∅ (by rw[zK]<;>omega) ∅ (by rw[hj];simpa using ew) ⟨rfl,fin⟩) hs
def rh:si X (FE X.K):=by
 intro value slice pins s σ H x y v u Q I rx ry h hs;obtain⟨p,xs,i,z,rfl,rfl,hq,he,q⟩:=h;cases rx;obtain⟨t,rfl⟩:=ry;obtain⟨its,r,pl,hz⟩:=I.tuple hq;obtain⟨j,h1,h2,h3,h4,h5⟩:=m8 he;obtain⟨w,ew,rw'⟩:=r.get h2;have hl:=r.length;have hn:=gP;have fin:EP X pins σ Q w s:=⟨z,H,I,rw',q⟩;exact subscriptTail_builtinR (x:=w) pl.typeIs jC.lookup
  (getItem_tuple (j:=j) (Q:=λr s'=>r=w/\EP X pins σ Q r s') pl ∅ ∅ (by rw[zK,<-hl];exact h1) (by simpa using ew) ⟨rfl,fin⟩) hs
def Bv:si X FC:=by
 intro value slice pins s σ H x y v u Q I rx ry h hs;obtain⟨z,i,c,rfl,rfl,hz,he,q⟩:=h;obtain⟨t,rfl⟩:=rx;obtain⟨t',rfl⟩:=ry;obtain⟨j,h1,h2,h3,h4,h5⟩:=m8 he;have hl:z.cps.toList.length=z.length:=by simp[Str.length]
 rw[hl] at h1 h4 h5;have hn:=gP
 exact tail_any (typeIs_str s z t) slot_str_getitem.lookup (getItem_str (c:=c) (by
  have e1:decide (i < -(2 ^ 63:Int))=false:=jG ∅;have e2:decide (i>=2 ^ 63)=false:=jG ∅
  rw[e1,e2,Bool.or_false]) (by rw[h1];simpa using h2) ⟨.str ⟨#[c]⟩,H,I.tok _,⟨_,rfl⟩,q⟩) hs
def Kq(its:List Value)(n j:Nat)(u:Value):Obj.mapSeq (·.setIfInBounds j u) { cls:=.type "list",data:=.seq its.toArray n }={ cls:=.type "list",data:=.seq (its.set j u).toArray n }:=by
 simp[Obj.mapSeq]
theorem Inv.lst{pins:List (Addr×Obj)}{σ:St}{H:Hp}{s:Shared}{p:Addr}{xs:List V}(I:Inv X pins σ H s)(h:H p=some (.lst xs)) :
  ∃(its:List Value) (n:Nat),Vals xs its/\s.heap.get? p=some { cls:=.type "list",data:=.seq its.toArray n }/\xs.length<=sizeLine:=by
 obtain⟨z,its,n,r,e⟩:=I.hok p _ h;exact⟨its,n,r,e,z⟩
def Inv.lstUpd{pins:List (Addr×Obj)}{σ:St}{H:Hp}{s:Shared}{p:Addr}{xs ys:List V}{its its':List Value}{n n':Nat}{f:Obj->Obj}(I:Inv X pins σ H s)(h:H p=some (.lst xs))
  (ho:s.heap.get? p=some { cls:=.type "list",data:=.seq its.toArray n }) (hf:f { cls:=.type "list",data:=.seq its.toArray n }={ cls:=.type "list",data:=.seq its'.toArray n' }) (r:Vals ys its') (hz:ys.length<=sizeLine) (t:Nat) :
  Inv X pins σ (upd H p (.lst ys)) { s with heap:=s.heap.update p f,toks:=t }:=by
 have e:(s.heap.update p f).get? p=some { cls:=.type "list",data:=.seq its'.toArray n' }:=by
  rw[jL f ho (by rw[hf]<;>rfl),hf]
 refine I.write (x:=p) (e:=p) (by rw[h];trivial) (.inl rfl) (λb u hb q=>(qC _ _ (kY hb)).trans q) ⟨_,e⟩ ?_;exact⟨hz,its',n',r,e⟩
def Du:V->V->V->Hp->(Hp->Prop)->Prop:=λo i v H Q=>∃p xs k j,o=.ref p/\i=.int k/\H p=some (.lst xs)/\xB xs.length k=some j/\Q (upd H p (.lst (xs.set j v)))
def set_list:VP X Du:=by
 intro pins s σ H o i v ov iv u Q I ro ri rv h;obtain⟨p,xs,k,j,rfl,rfl,hp,hj,q⟩:=h;cases ro;obtain⟨t,rfl⟩:=ri;obtain⟨its,n,r,ho,hz⟩:=I.lst hp;obtain⟨h1,h2,h3,h4⟩:=Zv hj;have hl:=r.length;have hn:=gP;have I':Inv X pins σ (upd H p (.lst (xs.set j v))) { s with heap:=s.heap.update p (Obj.mapSeq (·.setIfInBounds j u)) }:=
  I.lstUpd hp ho (Kq its n j u) (r.set rv j) (by rw[kZ];exact hz) s.toks
 by_cases h0:0<=k
 .have hk:k.toNat=j:=by
   rw[seqIndex_of h0 h4] at h1;exact kh h1
  exact PySem.W.ki_setAt ho h0 ∅ (by rw[zK,<-hl];exact h4) (by rw[hk];exact⟨_,I',q⟩)
 .have hk:(k+(its.toArray.size:Int)).toNat=j:=by
   rw[seqIndex_neg ∅ h3] at h1;rw[zK,<-hl];exact kh h1
  exact PySem.W.ki_setBack ho ∅ (by rw[zK,<-hl];exact h3) ∅ (by rw[hk];exact⟨_,I',q⟩)
def sD(lo hi:Option Int)(n:Nat):(sliceBounds lo hi none n).1=((HT.sIx n 0 lo:Nat):Int)/\(sliceBounds lo hi none n).2.1=((HT.sIx n n hi:Nat):Int)/\(sliceBounds lo hi none n).2.2=1:=by
 refine⟨?_,?_,rfl⟩
 .cases lo with
  | none=>simp[sliceBounds,HT.sIx]
  | some i=>
   simp only[sliceBounds,HT.sIx,Option.getD_none,show(1:Int)>0 by decide,kE];by_cases h:i<0
   .simp only[h,kE]<;>omega
   .simp only[h,jj]<;>omega
 .cases hi with
  | none=>simp[sliceBounds,HT.sIx]
  | some i=>
   simp only[sliceBounds,HT.sIx,Option.getD_none,show(1:Int)>0 by decide,kE];by_cases h:i<0
   .simp only[h,kE]<;>omega
   .simp only[h,jj]<;>omega
theorem oJ(its:List Value)(lo hi:Option Int):slicePick its.toArray lo hi none=((its.drop (HT.sIx its.length 0 lo)).take (HT.sIx its.length its.length hi-HT.sIx its.length 0 lo)).toArray:=by
 obtain⟨h1,h2,h3⟩:=sD lo hi its.toArray.size;unfold slicePick;rw[h1,h2,h3];simp only[sliceRange_one,pick_run,zK]<;>rfl
def FY(K:PySem.W.Frag):V->Option Int->Option Int->Hp->VK->Prop:=λx lo hi H Q=>∃a xs,x=.ref a/\SqL K H a xs/\∀p,H p=none->Q (.ref p) (upd H p (.lst (cy xs lo hi)))
def Xg:WJ X (FY X.K):=by
 intro pins s σ H x v vl vu lo hi sl Q I rx hs pl pu h;obtain⟨a,xs,rfl,hx,q⟩:=h;cases rx;obtain⟨its,r,ht,hz⟩:=I.list hx;have hlen:=r.length;refine⟨"list",_,slot_list_getitem.lookup,ht.isList.typeIs,?_⟩;refine wpAny_getItem_list_slice ht.isList hs pl pu .none (by simp) ?_ (by rw[zK]<;>omega);rw[oJ,<-hlen];refine⟨.ref s.heap.objs.size,_,I.laid (t':=s.toks) (o:=.lst (cy xs lo hi)) (λb ob q=>zf _ q) (zj _) ?_,rfl,q _ (I.hok.fresh (zj _))⟩;exact⟨zR (iV xs lo hi) hz,_,0,(r.drop (HT.sIx xs.length 0 lo)).take (HT.sIx xs.length xs.length hi-HT.sIx xs.length 0 lo),zQ _ rfl⟩
def il:yB X (.builtin "len") (λxs H Q=>∃p ys,xs=[.ref p]/\(SqL X.K H p ys\/SqT X.K H p ys)/\Q (.int ys.length) H):=by
 intro pins s σ H xs us Q I r h;obtain⟨p,ys,rfl,hq,q⟩:=h;obtain⟨u,rfl,rx⟩:=vals1 r;cases rx;have hn:=gP;rcases hq with hq | hq
 .obtain⟨its,r',pl,hz⟩:=I.list hq
  have hlen:=r'.length;exact Calls.call_len_list pl.isList (by simp only[zK]<;>omega) ⟨.int ys.length,H,I.tok _,⟨s.toks+1,by rw[zK,hlen]⟩,q⟩
 .obtain⟨its,r',pl,hz⟩:=I.tuple hq
  have hlen:=r'.length;exact len_tuple pl (by simp only[zK]<;>omega) ⟨.int ys.length,H,I.tok _,⟨s.toks+1,by rw[zK,hlen]⟩,q⟩
def sA:yB X (.type "list") (λxs H Q=>∃p ys,xs=[.ref p]/\(SqL X.K H p ys\/SqT X.K H p ys)/\∀l,H l=none->Q (.ref l) (upd H l (.lst ys))):=by
 intro pins s σ H xs us Q I r h;obtain⟨p,ys,rfl,hq,q⟩:=h;obtain⟨u,rfl,rx⟩:=vals1 r;cases rx;have fin:∀(its:List Value),Vals ys its->ys.length<=sizeLine->∀(h':Heap) (c':Nat),(∀b o',s.heap.get? b=some o'->h'.get? b=some o')->
   h'.get? s.heap.objs.size=some { cls:=.type "list",dict:=none,data:=.seq its.toArray c',slots:=#[] }->EP X pins σ Q (.ref s.heap.objs.size) { s with heap:=h' }:=λits r' hz h' c' kp e=>
  ⟨.ref s.heap.objs.size,_,I.laid (t':=s.toks) kp (zj _) (show ObjOk X.prog X.w _ h' _ (.lst ys) from ⟨hz,its,c',r',e⟩),rfl,q _ (I.hok.fresh (zj _))⟩
 rcases hq with hq | hq
 .obtain⟨its,r',pl,hz⟩:=I.list hq
  have hlen:=r'.length;obtain⟨o,ho,hc,n,hd⟩:=pl.isList;exact call_list_seq p (.inl rfl) ho hc hd (λh' c' kp e=>fin its r' hz h' c' kp e) (by simp only[zK]<;>omega)
 .obtain⟨its,r',pl,hz⟩:=I.tuple hq
  have hlen:=r'.length;obtain⟨o,ho,hc,n,hd⟩:=pl;exact call_list_seq p (.inr rfl) ho hc hd (λh' c' kp e=>fin its r' hz h' c' kp e) (by simp only[zK]<;>omega)
def gI:yB X (.type "tuple") (λxs H Q=>∃p ys,xs=[.ref p]/\((SqL X.K H p ys/\∀l,H l=none->Q (.ref l) (upd H l (.tup ys)))\/(SqT X.K H p ys/\Q (.ref p) H))):=by
 intro pins s σ H xs us Q I r h;obtain⟨p,ys,rfl,h⟩:=h;obtain⟨u,rfl,rx⟩:=vals1 r;cases rx;rcases h with ⟨hq,q⟩ | ⟨hq,q⟩
 .obtain⟨its,r',pl,hz⟩:=I.list hq
  have hlen:=r'.length;refine call_tuple_list pl.isList (λh' kp=>?_) (by simp only[zK]<;>omega);have I1:Inv X pins σ H { s with heap:=h' }:=I.kept (t':=s.toks) kp;have I2:Inv X pins σ (upd H h'.objs.size (.tup ys)) { s with heap:=h'.push { cls:=.type "tuple",data:=.seq its.toArray } }:=
   I1.laid (t':=s.toks) (λb o e=>zf _ e) (zj _) (show ObjOk X.prog X.w _ _ _ (.tup ys) from ⟨hz,its,r',IsTup.new _ _,.new _ _⟩)
  exact⟨.ref h'.objs.size,_,I2,rfl,q _ (I1.hok.fresh (zj _))⟩
 .obtain⟨its,r',pl,hz⟩:=I.tuple hq
  exact call_tuple_same pl ⟨.ref p,H,I,rfl,q⟩
def B9(K:PySem.W.Frag)(T:String)(x:V)(H:Hp):Prop:=match x with
 | .str _=>T="str"
 | .int _=>T="int"
 | .ref p=>(T="list" /\ ∃xs,SqL K H p xs)\/(T="tuple" /\ ∃o,K.lookup p=some o/\o.cls=.type "tuple" /\ o.dict=none) \/
   (T="dict" /\ ((∃kvs,H p=some (.dK kvs))\/∃kvs,H p=some (.dT kvs)))\/(T="set" /\ ∃S n,H p=some (.set S n))
 | _=>False
def JJ{pins:List (Addr×Obj)}{σ:St}{H:Hp}{s:Shared}{T:String}{x:V}{v:Value}(I:Inv X pins σ H s)(r:RelV x v)(ty:B9 X.K T x H) :
  s.TypeIs v T/\∀a,v=.ref a->∃ob,s.heap.get? a=some ob/\ob.dict=none:=by
 cases x with
 | str z=>
  obtain⟨t,rfl⟩:=r;cases (show T="str" from ty);exact⟨typeIs_str s z t,λ_ e=>nomatch e⟩
 | int i=>
  obtain⟨t,rfl⟩:=r;cases (show T="int" from ty);exact⟨yw s i t,λ_ e=>nomatch e⟩
 | ref p=>
  cases r;rcases ty with ⟨rfl,xs,hq⟩ | ⟨rfl,o,hk,hc,hd⟩ | ⟨rfl,hk⟩ | ⟨rfl,S,n,hk⟩
  .obtain⟨its,_,pl,_⟩:=I.list hq
   refine⟨pl.isList.typeIs,λa e=>?_⟩;cases e;obtain⟨o,n,e,c,hd,_⟩:=pl;exact⟨o,e,hd⟩
  .refine⟨⟨o,I.kIn p o hk,hc⟩,λa e=>?_⟩
   cases e;exact⟨o,I.kIn _ o hk,hd⟩
  .have z:∃o,s.heap.get? p=some o/\o.ExactDict:=by
    rcases hk with ⟨kvs,hk⟩ | ⟨kvs,hk⟩
    .obtain⟨_,_,_,_,o,_,_,e,ex,_⟩:=I.hok p _ hk
     exact⟨o,e,ex⟩
    .obtain⟨_,_,_,_,o,_,_,e,ex,_⟩:=I.hok p _ hk
     exact⟨o,e,ex⟩
   obtain⟨o,e,ex⟩:=z;refine⟨⟨o,e,ex.1⟩,λa e2=>?_⟩;cases e2;exact⟨o,e,ex.2.1⟩
  .obtain⟨o,_,_,_,e,ex,_⟩:=I.hok p _ hk
   refine⟨⟨o,e,ex.1⟩,λa e2=>?_⟩;cases e2;exact⟨o,e,ex.2.1⟩
 | _=>exact False.elim ty
def Cf(K:PySem.W.Frag)(T:String)(r:V->List V->Hp->VK->Prop)(to:TE):TE:=λσ H Q=>to σ H λx H1=>B9 K T x H1/\r x [] H1 Q
def Fe(K:PySem.W.Frag)(T:String)(r:V->List V->Hp->VK->Prop)(to:TE)(t:TA):TE:=λσ H Q=>to σ H λx H1=>B9 K T x H1/\t σ H1 λxs H2=>r x xs H2 Q
variable{o e:Expr}{es:List Expr}{to:TE}{t:TA}{name:Str}{apos cpos:Pos}{T id:String}{r:V->List V->Hp->VK->Prop}
def Bd(pa:PlainAttrs T)(slot:Slot T name id)(hty:typeOf (.builtin id)=pure (.type "method_descriptor"))(hm:Ff X id r)(ho:PE X o to)
  (hbase:attributeBase o name X.env (eval o X.env)=eval o X.env:=by rfl) (hline:(apos.endLine==cpos.line)=true:=by rfl):PE X (.Call (.Attribute o name apos) [] [] cpos) (Cf X.K T r to):=by
 intro pins s σ H Q I h;refine wpAny_Call_method0_late hbase hline (kA (ho pins s σ H _ I h) λv s1 ⟨x,H1,I1,r1,ty,q1⟩=>?_);obtain⟨h1,h2⟩:=JJ I1 r1 ty;exact⟨T,id,pa,slot,hty,h1,h2,wL rfl (PySem.evalArgs_none (hm pins s1 σ H1 x [] v [] Q I1 r1 .nil q1))⟩
def Yv(pa:PlainAttrs T)(slot:Slot T name id)(hty:typeOf (.builtin id)=pure (.type "method_descriptor"))(hm:Ff X id r)(ho:PE X o to)(ha:PA X (e::es) t)
  (hbase:attributeBase o name X.env (eval o X.env)=eval o X.env:=by rfl)
  (hfew:((backTo cpos (starEach (e::es) X.env)).all (λx=>!x.1)&&(backToKw cpos (keywordEach [] X.env)).all (λx=>x.1.isSome)
   && decide ((e::es).length+([]:List Keyword).length+(if ([]:List Keyword).isEmpty then 0 else 1)<30))=true:=by rfl)
  (hline:(apos.endLine==cpos.line)=true:=by rfl) (hs:starEach (e::es) X.env=(false,eval e X.env)::starEach es X.env:=by rfl) (hplain:(backTo cpos (starEach es X.env)).any (·.1)=false:=by rfl) :
  PE X (.Call (.Attribute o name apos) (e::es) [] cpos) (Fe X.K T r to t):=by
 intro pins s σ H Q I h;refine wpAny_Call_method_late hbase hfew hline rfl (kA (ho pins s σ H _ I h) λv s1 ⟨x,H1,I1,r1,ty,q1⟩=>?_);obtain⟨h1,h2⟩:=JJ I1 r1 ty;refine⟨T,id,pa,slot,hty,h1,h2,?_⟩;have hA:=ha cpos pins s1 σ H1 _ I1 q1;rw[hs] at hA ⊢;refine wL (by show(false||(backTo cpos (starEach es X.env)).any (·.1))=false;rw[hplain]<;>rfl) (Calls.evalArgs_plain ?_);exact kA hA λus s2 ⟨vs,H2,I2,r2,q2⟩=>hm pins s2 σ H2 x vs v us Q I2 r1 r2 q2
end
end L2
namespace L2
open PySem PySem.Spec PyProof.Rows
def Jx(X:Cx)(id:String)(r:V->List V->Hp->VK->Prop):Prop:=
 ∀(pins:List (Addr×Obj)) (s:Shared) (σ:St) (H:Hp) (x:V) (xs:List V) (v:Value) (us:List Value) (Q:VK),Inv X pins σ H s->RelV x v->Vals xs us->r x xs H Q->
  wpAny (model X.prog X.w) X.A (call (.builtin id) (v::us)) (EP X pins σ Q) X.xe s
def Vals.one:∀{x:V} {us:List Value},Vals [x] us->∃u,us=[u]/\RelV x u
 | _,_,.cons r .nil=>⟨_,rfl,r⟩
theorem Vals.zero:∀{us:List Value},Vals [] us->us=[]
 | _,.nil=>rfl
theorem Vals.dropLast{xs:List V}{us:List Value}(h:Vals xs us):Vals xs.dropLast us.dropLast:=by
 induction h with
 | nil=>exact .nil
 | cons r t ih=>
  cases t with
  | nil=>exact .nil
  | cons q t'=>exact .cons r ih
theorem Vals.rep{xs:List V}{us:List Value}(h:Vals xs us):∀k:Nat,Vals (List.replicate k xs).flatten (List.replicate k us).flatten
 | 0=>.nil
 | k+1=>by
  rw[jV,jV,qz,qz];exact Vals.append h (Vals.rep h k)
theorem ZU{α:Type}(l:List α):l.eraseIdx (l.length-1)=l.dropLast:=by
 induction l with
 | nil=>rfl
 | cons a r ih=>
  cases r with
  | nil=>rfl
  | cons b r=>
   have e:(a::b::r).length-1=((b::r).length-1)+1:=by
    have h1:(a::b::r).length=r.length+2:=rfl;have h2:(b::r).length=r.length+1:=rfl;omega
   rw[e,List.eraseIdx_cons_succ,ih];all_goals rfl
theorem foldl_rep(its:List Value):∀(k:Nat) (acc:List Value),
  List.foldl (λx1 x2=>x1++x2) acc.toArray (List.replicate k its.toArray)=(acc++(List.replicate k its).flatten).toArray
 | 0,acc=>by simp
 | k+1,acc=>by
  have e:acc.toArray++its.toArray=(acc++its).toArray:=by simp
  have e2:(acc++its)++(List.replicate k its).flatten=acc++(List.replicate (k+1) its).flatten:=by
   rw[jV,qz,kj]
  rw[<-e2,<-foldl_rep its k (acc++its),<-e,jV,jX]
section
variable{X:Cx}{pins:List (Addr×Obj)}{σ:St}{H:Hp}{s:Shared}{l b:Addr}{xs ys zs:List V}
def Inv.lset{its its':List Value}{n:Nat}{f:Array Value->Array Value}{t':Nat}(I:Inv X pins σ H s)(hH:H l=some (.lst xs))
  (e:s.heap.get? l=some { cls:=.type "list",data:=.seq its.toArray n }) (hf:f its.toArray=its'.toArray) (hv:Vals ys its') (hz:ys.length<=sizeLine) :
  Inv X pins σ (upd H l (.lst ys)) { s with heap:=s.heap.update l (Obj.mapSeq f),toks:=t' }:=by
 have q:=PySem.IsL.update e f;rw[hf] at q;refine I.write (x:=l) (e:=l) (by rw[hH];exact trivial) (.inl rfl) (λb' u hb hu=>(qC s.heap (Obj.mapSeq f) (kY hb)).trans hu) ⟨_,q⟩ ?_;exact⟨hz,its',_,hv,q⟩
def Inv.lnew{its:List Value}{t':Nat}(I:Inv X pins σ H s)(hv:Vals ys its)(hz:ys.length<=sizeLine) :
  Inv X pins σ (upd H s.heap.objs.size (.lst ys)) { s with heap:=s.heap.push { cls:=.type "list",data:=.seq its.toArray },toks:=t' }:=
 I.laid (λ_ _ q=>zf _ q) (zj _) ⟨hz,its,0,hv,zQ _ rfl⟩
theorem Inv.fresh(I:Inv X pins σ H s):H s.heap.objs.size=none:=I.hok.fresh (zj _)
def Inv.lstM(I:Inv X pins σ H s)(hH:H l=some (.lst xs)):xs.length<=sizeLine/\∃(its:List Value) (n:Nat),Vals xs its/\xs.length=its.length/\s.heap.get? l=some { cls:=.type "list",data:=.seq its.toArray n }:=by
 obtain⟨z,its,n,r,e⟩:=I.hok l _ hH;exact⟨z,its,n,r,r.length,e⟩
def VH{n:Nat}(h:n<=sizeLine):Builtin.List.listTooLong n=false:=by
 unfold Builtin.List.listTooLong;exact jG ∅
end
section
variable{X:Cx}
def X2:V->List V->Hp->VK->Prop:=λx vs H Q=>∃l xs y,x=.ref l/\vs=[y]/\H l=some (.lst xs)/\xs.length<sizeLine/\Q .non (upd H l (.lst (xs++[y])))
def nX:Jx X "list.append" X2:=by
 intro pins s σ H x vs v us Q I rx rv h;obtain⟨l,xs,y,rfl,rfl,hH,hz,q⟩:=h;cases rx;obtain⟨u,rfl,ru⟩:=rv.one;obtain⟨z,its,n,r,hl,e⟩:=I.lstM hH;refine vo F.slot_list_append ⟨_,e,rfl⟩ F.entry_list_append (F.args_list_append_2 _ _) (PySem.list_append l its.toArray n u (by rw[zK];omega)) ⟨e,?_⟩;refine⟨.non,_,I.lset (its':=its++[u]) hH e (by simp) (r.append (.cons ru .nil)) ?_,rfl,q⟩;rw[zN,List.length_singleton];omega
def FV:V->List V->Hp->VK->Prop:=λx vs H Q=>∃l xs y,x=.ref l/\vs=[]/\H l=some (.lst xs)/\xs[xs.length-1]?=some y/\Q y (upd H l (.lst xs.dropLast))
def CL:Jx X "list.pop" FV:=by
 intro pins s σ H x vs v us Q I rx rv h;obtain⟨l,xs,y,rfl,rfl,hH,hy,q⟩:=h;cases rx;have hus:=rv.zero;subst hus;obtain⟨z,its,n,r,hl,e⟩:=I.lstM hH;obtain⟨u,hu,ru⟩:=r.get hy;have hy':its.toArray[its.toArray.size-1]?=some u:=by
  show its.toArray[its.length-1]?=some u
  rw[<-Array.getElem?_toList,<-hl];exact hu
 refine vo F.slot_list_pop ⟨_,e,rfl⟩ F.entry_list_pop (F.args_list_pop_1 _) (MeetsSeq.list_pop_last l its.toArray n u hy' (by rw[zK];omega)) ⟨e,?_⟩;refine⟨y,_,I.lset (its':=its.dropLast) hH e ?_ r.dropLast ?_,ru,q⟩
 .show its.toArray.eraseIdxIfInBounds (its.toArray.size-1)=its.dropLast.toArray
  rw[zK,List.eraseIdxIfInBounds_toArray,ZU]
 .rw[List.length_dropLast]
  omega
def len_rep{α:Type}(xs:List α)(k:Nat):(List.replicate k xs).flatten.length=k*xs.length:=by
 induction k with
 | zero=>simp
 | succ k ih=>rw[jV,qz,zN,ih,Nat.succ_mul,q8]
end
end L2
namespace L2
open PySem PySem.Spec PyProof.Rows
section
variable{κ:Type}[DecidableEq κ]
def x5(kvs:List (κ×V))(k:κ):Option V:=(kvs.find? λkv=>decide (kv.1=k)).map (·.2)
def putK(kvs:List (κ×V))(k:κ)(v:V):List (κ×V):=
 if (kvs.any λkv=>decide (kv.1=k))=true then kvs.map (λkv=>if kv.1=k then (kv.1,v) else kv) else kvs++[(k,v)]
def lg{p:κ×V}{r:List (κ×V)}{k:κ}(e:p.1=k):x5 (p::r) k=some p.2:=by simp[x5,jB,e]
def lu{p:κ×V}{r:List (κ×V)}{k:κ}(e:¬p.1=k):x5 (p::r) k=x5 r k:=by simp[x5,jB,e]
theorem pL(k:κ):∀kvs:List (κ×V),(kvs.any λkv=>decide (kv.1=k))=(x5 kvs k).isSome
 | []=>rfl
 | p::r=>by
  rw[vZ];by_cases e:p.1=k
  .simp only[lg e,qt e,Bool.true_or,vJ]
  .rw[lu e,jG e,Bool.false_or];exact pL k r
def ef(kvs:List (κ×V))(k:κ)(v:V):(putK kvs k v).length<=kvs.length+1:=by
 unfold putK;split
 .rw[zO];omega
 .rw[zN,zp,zV];omega
theorem RelO.isSome_eq{o:Option V}{u:Option Value}(r:RelO o u):o.isSome=u.isSome:=by
 cases o with
 | none=>cases u with
  | none=>rfl
  | some _=>exact(show False from r).elim
 | some _=>cases u with
  | none=>exact(show False from r).elim
  | some _=>rfl
theorem RelO.getD{o:Option V}{u:Option Value}{d:V}{d':Value}(r:RelO o u)(rd:RelV d d'):RelV (o.getD d) (u.getD d'):=by
 cases o with
 | none=>cases u with
  | none=>exact rd
  | some _=>exact(show False from r).elim
 | some _=>cases u with
  | none=>exact(show False from r).elim
  | some _=>exact r
def KV.val{kvs:List (κ×V)}{vs:List (κ×Value)}(r:KV kvs vs)(k:κ):RelO (x5 kvs k) (valueAt vs k):=by
 unfold KV at r;induction r with
 | nil=>exact True.intro
 | @cons p q ps qs h t ih=>
  obtain⟨h1,h2⟩:=h;by_cases e:p.1=k
  .have e':q.1=k:=h1.symm.trans e
   have b:valueAt (q::qs) k=some q.2:=by simp[valueAt,jB,e']
   rw[lg e,b];exact h2
  .have e':¬q.1=k:=λz=>e (h1.trans z)
   have b:valueAt (q::qs) k=valueAt qs k:=by simp[valueAt,jB,e']
   rw[lu e,b];exact ih
theorem KV.any{kvs:List (κ×V)}{vs:List (κ×Value)}(r:KV kvs vs)(k:κ):(kvs.any λkv=>decide (kv.1=k))=vs.any λkv=>decide (kv.1=k):=by
 unfold KV at r;induction r with
 | nil=>rfl
 | cons h t ih=>rw[vZ,vZ,ih,h.1]
def KV.repl{kvs:List (κ×V)}{vs:List (κ×Value)}(r:KV kvs vs)(k:κ){y:V}{u:Value}(ry:RelV y u) :
  KV (kvs.map λkv=>if kv.1=k then (kv.1,y) else kv) (vs.map λkv=>if kv.1=k then (kv.1,u) else kv):=by
 unfold KV at r ⊢;induction r with
 | nil=>exact .nil
 | @cons p q ps qs h t ih=>
  rw[zx,zx];refine .cons ?_ ih;obtain⟨h1,h2⟩:=h;by_cases e:p.1=k
  .rw[zY e,zY (h1.symm.trans e)];exact⟨h1,ry⟩
  .rw[kO e,kO (λz=>e (h1.trans z))];exact⟨h1,h2⟩
def KV.put{kvs:List (κ×V)}{vs:List (κ×Value)}(r:KV kvs vs)(k:κ){y:V}{u:Value}(ry:RelV y u):KV (putK kvs k y) (stored vs k u):=by
 unfold putK stored;rw[r.any k];by_cases e:(vs.any λkv=>decide (kv.1=k))=true
 .rw[zY e,zY e];exact r.repl k ry
 .rw[kO e,kO e];exact Paired.snoc r ⟨rfl,ry⟩
theorem KV.length{kvs:List (κ×V)}{vs:List (κ×Value)}(r:KV kvs vs):kvs.length=vs.length:=Paired.length r
end
def iJ{P:Program}{w:World}{k:Key}{u:Value}(r:RelV (kV k) u):(qr P w).is k u=true:=by
 cases k with
 | inl i=>obtain⟨t,e⟩:=(show ∃t,u=Value.int i t from r);subst e;exact tJ P w i t
 | inr x=>obtain⟨t,e⟩:=(show ∃t,u=Value.str x t from r);subst e;exact tw P w x t
theorem ou{P:Program}{w:World}:∀{ks:List Key} {us:List Value},Vals (ks.map kV) us->ItemsAre (qr P w) ks us
 | [],_,r=>by rw[jh] at r;cases r;exact .nil
 | k::ks,_,r=>by
  rw[zx] at r;cases r with
  | cons h t=>exact .cons (iJ h) (ou t)
abbrev KT(H:Hp):List (List Key×V)->List (List Key×Addr×Value)->Prop:=Paired λp q=>p.1=q.1/\H q.2.1=some (.tup (p.1.map kV))/\RelV p.2 q.2.2
def KT.val{H:Hp}{kvs:List (List Key×V)}{xs:List (List Key×Addr×Value)}(r:KT H kvs xs)(k:List Key):RelO (x5 kvs k) ((atKey xs k).map (·.2)):=by
 induction r with
 | nil=>exact True.intro
 | @cons p q ps qs h t ih=>
  obtain⟨h1,_,h2⟩:=h;by_cases e:p.1=k
  .have e':q.1=k:=h1.symm.trans e
   have b:atKey (q::qs) k=some q.2:=by simp[atKey,jB,e']
   rw[lg e,b];exact h2
  .have e':¬q.1=k:=λz=>e (h1.trans z)
   have b:atKey (q::qs) k=atKey qs k:=by simp[atKey,jB,e']
   rw[lu e,b];exact ih
def KT.repl{H:Hp}{kvs:List (List Key×V)}{xs:List (List Key×Addr×Value)}(r:KT H kvs xs)(k:List Key){y:V}{u:Value}(ry:RelV y u) :
  KT H (kvs.map λkv=>if kv.1=k then (kv.1,y) else kv) (xs.map (putAt k u)):=by
 induction r with
 | nil=>exact .nil
 | @cons p q ps qs h t ih=>
  rw[zx,zx];refine .cons ?_ ih;obtain⟨h1,h2,h3⟩:=h;unfold putAt;by_cases e:p.1=k
  .rw[zY e,zY (h1.symm.trans e)];exact⟨h1,h2,ry⟩
  .rw[kO e,kO (λz=>e (h1.trans z))];exact⟨h1,h2,h3⟩
def KT.put{H:Hp}{kvs:List (List Key×V)}{xs:List (List Key×Addr×Value)}(r:KT H kvs xs)(k:List Key){b:Addr}{y:V}{u:Value}(hb:H b=some (.tup (k.map kV)))(ry:RelV y u) :
  KT H (putK kvs k y) (storedH xs k b u):=by
 have e:(kvs.any λkv=>decide (kv.1=k))=(atKey xs k).isSome:=by
  rw[pL,(r.val k).isSome_eq,Option.isSome_map]
 unfold putK storedH;rw[e];by_cases q:(atKey xs k).isSome=true
 .rw[zY q,zY q];exact r.repl k ry
 .rw[kO q,kO q];exact Paired.snoc r ⟨rfl,hb,ry⟩
def KT.keeps{H H':Hp}{kvs:List (List Key×V)}{xs:List (List Key×Addr×Value)}(r:KT H kvs xs)(ht:∀b ys,H b=some (.tup ys)->H' b=some (.tup ys)):KT H' kvs xs:=
 Paired.mapP r λ_ _ z=>⟨z.1,ht _ _ z.2.1,z.2.2⟩
section
variable{P:Program}{w:World}{H:Hp}{h:Heap}{a:Addr}
def W6{u:HO}(ok:HOk P w H h)(e:Rd H a u):ObjOk P w H h a u:=e.ok ok
def gB{kvs:List (Key×V)}(ok:HOk P w H h)(e:Rd H a (.dK kvs)):kvs.length<=sizeLine/\(a==sysModules)=false/\∃vs,KV kvs vs/\h.DictOf (qr P w) a vs:=
 show ObjOk P w H h a (.dK kvs) from W6 ok e
def Fb{kvs:List (Key×V)}(ok:HOk P w H h)(e:H a=some (.dK kvs)):kvs.length<=sizeLine/\(a==sysModules)=false/\∃vs,KV kvs vs/\h.DictOf (qr P w) a vs:=gB ok (.inl e)
def lT{ks:List Key}(ok:HOk P w H h)(e:H a=some (.tup (ks.map kV))):(tupleKind (qr P w)).is h ks a:=by
 obtain⟨_,its,r,⟨o,h1,h2,n,h3⟩,_⟩:=(show ObjOk P w H h a (.tup (ks.map kV)) from ok a _ e);exact⟨o,its.toArray,n,h1,h2,h3,by simpa using ou r⟩
def mF{kvs:List (List Key×V)}(ok:HOk P w H h)(e:Rd H a (.dT kvs)):kvs.length<=sizeLine/\(a==sysModules)=false /\
  ∃xs,KT H kvs xs/\h.DictOfH (tupleKind (qr P w)) a xs:=by
 obtain⟨z,y,xs,r,o,es,ep,h1,h2,h3,h4,h5⟩:=(show ObjOk P w H h a (.dT kvs) from W6 ok e);refine⟨z,y,xs,r,o,es,ep,h1,h2,h3,h4,λx hx=>?_,h5⟩;have all:∀{l:List (List Key×V)} {m:List (List Key×Addr×Value)},KT H l m->∀x∈m,(tupleKind (qr P w)).is h x.1 x.2.1:=by
  intro l m q;induction q with
  | nil=>intro x hx;exact nomatch hx
  | @cons p q ps qs hq t ih=>
   intro x hx;rcases zb.mp hx with e | hx
   .subst e
    exact lT ok (by rw[<-hq.1];exact hq.2.1)
   .exact ih x hx
 exact all r x hx
def dE{kvs:List (List Key×V)}(ok:HOk P w H h)(e:H a=some (.dT kvs)):kvs.length<=sizeLine/\(a==sysModules)=false /\
  ∃xs,KT H kvs xs/\h.DictOfH (tupleKind (qr P w)) a xs:=mF ok (.inl e)
end
def sg(H:Hp)(a:Addr)(y:V)(r:Option V):Prop:=
 (∃kvs k,Rd H a (.dK kvs)/\y=kV k/\r=x5 kvs k)\/∃kvs k b,Rd H a (.dT kvs)/\y=.ref b/\H b=some (.tup (k.map kV))/\r=x5 kvs k
def F3(H:Hp)(a:Addr)(y v:V)(H':Hp):Prop:=
 (∃kvs k,H a=some (.dK kvs)/\y=kV k/\kvs.length<sizeLine/\H'=upd H a (.dK (putK kvs k v))) \/
 ∃kvs k b,H a=some (.dT kvs)/\y=.ref b/\H b=some (.tup (k.map kV))/\kvs.length<sizeLine/\H'=upd H a (.dT (putK kvs k v))
section
variable{X:Cx}{pins:List (Addr×Obj)}{σ:St}{H:Hp}{s:Shared}{a:Addr}{y v:V}{u r:Value}{o:Option V}{A:Around}{E:Value->Shared->Prop}
def Inv.big(I:Inv X pins σ H s):sysModules<s.heap.objs.size:=by
 have h:mainGlobals<s.heap.objs.size:=(I.mod.glob.keeps I.bk).lt;exact Nat.lt_trans (by decide) h
def JG{Q:Value->Shared->Prop}(hu:A.units+1<cLine)(I:Inv X pins σ H s)(g:sg H a y (some v))(ry:RelV y u)(h:∀w' s',Inv X pins σ H s'->RelV v w'->Q w' s') :
  wpAny (model X.prog X.w) A (getItem (.ref a) u) Q E s:=by
 rcases g with ⟨kvs,k,e,ey,l⟩ | ⟨kvs,k,b,e,ey,eb,l⟩
 .subst ey
  obtain⟨z,hd,vs,rel,dd⟩:=gB I.hok e;obtain⟨w',hw,rw'⟩:=RelO.some_of (v:=v) (o:=valueAt vs k) (by rw[l];exact rel.val k);exact wpAny_getItem_of (iJ ry) dd.mapOf hw (h w' _ (I.tok _) rw')
 .subst ey
  cases (show u=Value.ref b from ry);obtain⟨z,hd,xs,rel,dd⟩:=mF I.hok e;obtain⟨w',hw,rw'⟩:=RelO.some_of (v:=v) (o:=(atKey xs k).map (·.2)) (by rw[l];exact rel.val k);obtain⟨p,hp,hp2⟩:=zg.mp hw;refine wpAny_getItem_heap (yo hu) (lT I.hok eb) dd hp ?_;rw[hp2];exact h w' _ (I.tok _) rw'
def tS{h':Heap}{t':Nat}{ob:HO}(I:Inv X pins σ H s)(mu:nN (H a))(hs:Heap.SameBut a s.heap h')(he:∃q,h'.get? a=some q)(new:ObjOk X.prog X.w (upd H a ob) h' a ob) :
  Inv X pins σ (upd H a ob) { s with heap:=h',toks:=t' }:=
 I.write (x:=a) (e:=a) mu (.inl rfl) (λb q hb z=>(hs.2 b hb).trans z) he new
def lK{P:Program}{w:World}{H':Hp}{h':Heap}{kvs:List (Key×V)}{vs:List (Key×Value)}(z:kvs.length<=sizeLine)(hd:(a==sysModules)=false)(rel:KV kvs vs)(dd:h'.DictOf (qr P w) a vs) :
  ObjOk P w H' h' a (.dK kvs):=⟨z,hd,vs,rel,dd⟩
def Jj{H':Hp}{Q:Unit->Shared->Prop}(hu:A.units+1<cLine)(I:Inv X pins σ H s)(g:F3 H a y v H')(ry:RelV y u)(rv:RelV v r)(h:∀s',Inv X pins σ H' s'->Q () s') :
  wpAny (model X.prog X.w) A (setItem (.ref a) u r) Q E s:=by
 rcases g with ⟨kvs,k,e,ey,l,eH⟩ | ⟨kvs,k,b,e,ey,eb,l,eH⟩
 .subst ey eH
  obtain⟨z,hd,vs,rel,dd⟩:=Fb I.hok e;have hz:vs.length<=sizeLine:=by rw[<-rel.length];exact z
  have hl:(putK kvs k v).length<=sizeLine:=by have:=ef kvs k v;omega
  refine wpAny_setItem_pairs (hsz:=hz) (iJ ry) dd λh' dd' hs=>h _ ?_
  have he:∃q,h'.get? a=some q:=let ⟨q,_,_,hq,_⟩:=dd';⟨q,hq⟩;exact tS I (by rw[e];exact True.intro) hs he (lK hl hd (rel.put k rv) dd')
 .subst ey eH
  cases (show u=Value.ref b from ry);obtain⟨z,hd,xs,rel,dd⟩:=dE I.hok e;have hz:xs.length<=sizeLine:=by rw[<-Paired.length rel];exact z
  have hl:(putK kvs k v).length<=sizeLine:=by have:=ef kvs k v;omega
  refine wpAny_setItem_heap (hsz:=hz) (yo hu) (lT I.hok eb) dd λh' dd' hs=>h _ ?_
  obtain⟨q,es,ep,hq,h2,h3,h4,_,h5⟩:=dd';refine tS I (by rw[e];exact True.intro) hs ⟨q,hq⟩ ⟨hl,hd,_,(rel.put k eb rv).keeps λc ys ec=>?_,q,es,ep,hq,h2,h3,h4,h5⟩;rw[kM (D3 ec e (λz=>nomatch z))];exact ec
end
def tK{X:Cx}{pins:List (Addr×Obj)}{σ:St}{H:Hp}{s:Shared}{a:Addr}{y:V}{o:Option V}(I:Inv X pins σ H s)(g:sg H a y o):s.TypeIs (.ref a) "dict":=by
 rcases g with ⟨kvs,k,e,_,_⟩ | ⟨kvs,k,b,e,_,_,_⟩
 .obtain⟨_,_,vs,_,dd⟩:=gB I.hok e
  exact dd.typeIs
 .obtain⟨_,_,xs,_,dd⟩:=mF I.hok e
  exact dd.typeIs
def Wu{P:Program}{w:World}{H:Hp}(h:Heap)(hb:sysModules<h.objs.size):ObjOk P w H (h.push { cls:=.type "dict",data:=.dict #[] }) h.objs.size (.dK []):=
 ⟨qO _,jr.mpr (kY (zW hb)),[],.nil,yU h⟩
def Bo:TE:=λ_ H Q=>∀p,H p=none->Q (.ref p) (upd H p (.dK []))
section
variable{X:Cx}{pos:Pos}
def VX:PE X (.Dict [] [] pos) Bo:=λpins s σ H Q I h=>
 wpAny_Dict_empty ⟨.ref s.heap.objs.size,_,I.laid (a:=s.heap.objs.size) (o:=.dK []) (t':=s.toks) (λ_ _ q=>zf _ q) (zj _) (Wu s.heap I.big),rfl,h _ (I.hok.fresh (zj _))⟩
end
def uk(kvs more:List (Key×V)):List (Key×V):=more.foldl (λacc kv=>putK acc kv.1 kv.2) kvs
def KV.merge:∀{more:List (Key×V)} {rs:List (Key×Value)} {kvs:List (Key×V)} {vs:List (Key×Value)},KV more rs->KV kvs vs->KV (uk kvs more) (merged vs rs):=by
 intro more rs kvs vs r;unfold KV at r;induction r generalizing kvs vs with
 | nil=>intro q;exact q
 | @cons p q ps qs h t ih=>
  intro r0;have e:KV (putK kvs p.1 p.2) (stored vs q.1 q.2):=by
   have:=r0.put p.1 h.2;rw[<-h.1];exact this
  exact ih e
theorem aS:∀(more kvs:List (Key×V)),(uk kvs more).length<=kvs.length+more.length
 | [],kvs=>by show kvs.length<=kvs.length+0;omega
 | p::r,kvs=>by
  have h1:=aS r (putK kvs p.1 p.2);have h2:=ef kvs p.1 p.2;show(uk (putK kvs p.1 p.2) r).length<=_
  rw[zp];omega
structure M2(X:Cx)(o:Expr)(m:Str)(apos:Pos)(e f:Expr)(cpos:Pos):Prop where
 base:attributeBase o m X.env (eval o X.env)=eval o X.env
 few:((backTo cpos (starEach [e,f] X.env)).all (λx=>!x.1)&&(backToKw cpos (keywordEach [] X.env)).all (λx=>x.1.isSome)
  && decide (([e,f]:List Expr).length+([]:List Keyword).length+(if ([]:List Keyword).isEmpty then 0 else 1)<30))=true
 line:(apos.endLine==cpos.line)=true
 trees:backTo cpos (starEach [e,f] X.env)=[(false,eval e X.env),(false,eval f X.env)]
def Fg(H:Hp)(a:Addr):Prop:=(∃kvs,Rd H a (.dK kvs))\/∃kvs,Rd H a (.dT kvs)
def Bh{X:Cx}{pins:List (Addr×Obj)}{σ:St}{H:Hp}{s:Shared}{a:Addr}(I:Inv X pins σ H s)(d:Fg H a) :
  s.TypeIs (.ref a) "dict" /\ (∀b,Value.ref a=.ref b->∃ob,s.heap.get? b=some ob/\ob.dict=none)/\(a==sysModules)=false:=by
 rcases d with ⟨kvs,e⟩ | ⟨kvs,e⟩
 .obtain⟨_,hd,vs,_,dd⟩:=gB I.hok e
  refine⟨dd.typeIs,λb q=>?_,hd⟩;cases q;obtain⟨ob,_,_,h1,h2,_⟩:=dd;exact⟨ob,h1,h2.2.1⟩
 .obtain⟨_,hd,xs,_,dd⟩:=mF I.hok e
  refine⟨dd.typeIs,λb q=>?_,hd⟩;cases q;obtain⟨ob,_,_,h1,h2,_⟩:=dd;exact⟨ob,h1,h2.2.1⟩
section
variable{X:Cx}{pins:List (Addr×Obj)}{σ:St}{H:Hp}{s:Shared}{a:Addr}{y d:V}{u r:Value}{o:Option V}{A:Around}{E:Value->Shared->Prop}
def CW{Q:Value->Shared->Prop}(hu:A.units+1<cLine)(I:Inv X pins σ H s)(g:sg H a y o)(ry:RelV y u)(rd:RelV d r)(h:∀w' s',Inv X pins σ H s'->RelV (o.getD d) w'->Q w' s') :
  wpAny (model X.prog X.w) A (call (.builtin "dict.get") [.ref a,u,r]) Q E s:=by
 rcases g with ⟨kvs,k,e,ey,l⟩ | ⟨kvs,k,b,e,ey,eb,l⟩
 .subst ey
  obtain⟨z,hd,vs,rel,dd⟩:=gB I.hok e;refine call_meetsIn wj dd.typeIs yL (yH _ _ _) (meets_dict_get_default (qr X.prog X.w) a (iJ ry) hd r) ⟨_,dd.mapOf,h _ _ (I.tok _) ?_⟩;rw[l];exact(rel.val k).getD rd
 .subst ey
  cases (show u=Value.ref b from ry);obtain⟨z,hd,xs,rel,dd⟩:=mF I.hok e;refine call_meetsIn wj dd.typeIs yL (yH _ _ _) (meetsH_dict_get_default (tupleKind (qr X.prog X.w)) a b hd r) ⟨yo hu,k,xs,lT I.hok eb,dd,h _ _ (I.tok _) ?_⟩;rw[l];exact(rel.val k).getD rd
end
def UE(td ty tx:TE):TE:=λσ H Q=>td σ H λx H1=>∃a,x=.ref a/\Fg H1 a/\ty σ H1 λy H2=>tx σ H2 λz H3=>∃o,sg H3 a y o/\Q (o.getD z) H3
section
variable{X:Cx}{o e f:Expr}{apos cpos:Pos}{td ty tx:TE}
def WF(hu:X.A.units+1<cLine)(ho:PE X o td)(he:PE X e ty)(hf:PE X f tx)(m:M2 X o "get" apos e f cpos):PE X (.Call (.Attribute o "get" apos) [e,f] [] cpos) (UE td ty tx):=by
 intro pins s σ H Q I h;refine wpAny_Call_method m.base m.few m.line PySem.F.plainAttrs_dict wj PySem.F.type_dict_get (kA (ho pins s σ H _ I h) λu s1 ⟨x,H1,I1,rx,a,ex,d,q1⟩=>?_);subst ex;obtain rfl:u=Value.ref a:=rx;obtain⟨t1,t2,_⟩:=Bh I1 d;refine⟨t1,t2,?_⟩;rw[m.trees]
 refine wL rfl (Calls.evalArgs_plain (qF (kA (he pins s1 σ H1 _ I1 q1) λiv s2 ⟨y,H2,I2,ry,q2⟩=>
  qF (kA (hf pins s2 σ H2 _ I2 q2) λfv s3 ⟨z,H3,I3,rz,ov,g,q3⟩=>vp ?_))))
 exact CW hu I3 g ry rz λw' s4 I4 rw'=>⟨_,H3,I4,rw',q3⟩
end
section
variable{X:Cx}{pins:List (Addr×Obj)}{σ:St}{H:Hp}{s:Shared}{a:Addr}{kvs:List (Key×V)}{A:Around}{E:Value->Shared->Prop}
def sF{Q:Value->Shared->Prop}(I:Inv X pins σ H s)(e:Rd H a (.dK kvs))(h:∀p s',H p=none->Inv X pins σ (upd H p (.dK kvs)) s'->Q (.ref p) s'):wpAny (model X.prog X.w) A (call (.type "dict") [.ref a]) Q E s:=by
 obtain⟨z,hd,vs,rel,dd⟩:=gB I.hok e;refine kt_call_dict hd dd (by rw[<-rel.length];exact z) λh' dd' hs=>?_
 refine h _ _ (I.hok.fresh (zj _)) (I.laid (a:=s.heap.objs.size) (o:=.dK kvs) (t':=s.toks) (λb q hq=>?_) (zj _) (lK z (jr.mpr (kY (zW I.big))) rel dd'));exact(hs.2 b (zW (zA hq))).trans (zf _ hq)
end
end L2
namespace Att
open PySem PySem.W PySem.Calls PyProof.Rows
def lW{P:Params}{h:Heap}:∀(ns:List Int) (vs:List Value),WellAll P h vs (ns.map WData.int)->IntsAre vs ns:=by
 intro ns;induction ns with
 | nil=>
  intro vs w;rw[jh] at w;cases w;exact .nil
 | cons n ns ih=>
  intro vs w;rw[zx] at w;cases w with
  | cons a b=>
   cases a;exact .cons _ _ (ih _ b)
def J8{l:OpenLaw}{n:Nat}(hn:l.most=some n){P:Params}{h:Heap}{args:List WData}{vals:List Value}
  (hpre:l.row.toRowW.claim.pre args=true) (hwl:WellAll P h vals args) :
  ∃a vs ns,vals=[Value.ref a]/\args=[WData.list (ns.map WData.int)]/\h.get? a=some { cls:=.type "list",data:=.seq vs.toArray }/\IntsAre vs ns/\ns.length<=n:=by
 have hsh:WShape.hasAll [] args [.list .int]=true:=(pre_splitW hpre).1;have hc:l.pre.holds [] { args:=args }=true:=(pre_splitW hpre).2;obtain⟨d,r,rfl,h1,h2⟩:=hasAllW_cons hsh;obtain rfl:=hasAllW_nil h2;obtain⟨xs,rfl,h3⟩:=hasW_list h1;obtain⟨ns,rfl⟩:=items_int h3;have hlen:ns.length<=n:=by
  unfold OpenLaw.pre at hc;have h4:(WTm.not (.lt (.lit (.int (n:Int))) (.len (.arg 0)))).holds [] { args:=[.list (ns.map .int)] }=true:=by
   have h4:=(holds_andW hc).1;rw[hn] at h4;exact h4
  have h5:=condW_of h4 (w_not (w_lt w_lit (w_len_list (w_arg rfl))));rw[zO] at h5;refine Nat.le_of_not_lt λq=>?_
  have q':(n:Int)<((ns.length:Nat):Int):=by omega
  first
   | (rw[qt q'] at h5;exact absurd h5 (by decide))
   | (simp at h5;omega)
 cases hwl with
 | cons w1 w2=>
  cases w2;cases w1 with
  | list ho hall=>exact⟨_,_,ns,rfl,rfl,ho,lW ns _ hall,hlen⟩
theorem JZ(l:OpenLaw)(args:List WData):l.row.toRowW.claim.post args (.bool true) args=true:=
 postW_of (r:=l.row.toRowW) (X:=(true==true))
  (show WShape.has [] (.bool true) .bool=true by first | rfl | decide | simp[WShape.has,WShape.arms,WShape.armsAll])
  (show(WTm.eq .res (.lit (.bool true))).value [] { args:=args,res:=some (.bool true),after:=args }=some (.bool (true==true)) from w_eq_bool (w_res rfl) w_lit) rfl
def attach_call{l:OpenLaw}{n:Nat}{q:Program}{loose:List Str}{XP:(Str->Option Value)->Heap->Prop}{YP:World->Heap->Prop}{d:DefRec}
  (hn:l.most=some n) (hdf:d.params.defaults=[])
  (call:∀(w:World) (s₀ s₁:Shared) (mg mb:Str->Option Value) (fa:Addr) (o:Obj) (pm cd doc:Value) (a:Addr) (vs:List Value) (ns:List Int),
   Ground q loose [] XP w s₀ mg mb s₁.heap->YP w s₁.heap->
   s₁.heap.get? fa=some o->o.data=.func (docDef d.name d.params d.body d.scope pm cd doc)->s₁.heap.CodeRec cd d.name->mg d.name=some (.ref fa)->
   s₁.heap.get? a=some { cls:=.type "list",data:=.seq vs.toArray }->IntsAre vs ns->ns.length<=n->s₁.gens = #[]->
   codeAny (model l.prog w) callerA (.call (.ref fa) ⟨[.ref a],[]⟩) (λr s'=>r=.ok (.ret (.bool true))/\OldK s₁.heap s'.heap/\s'.os=s₁.os/\AllBare s'.gens) s₁) :
  WalkO q loose XP YP l.row.toRowW d [] (λf vs=>PySem.call f vs):=by
 intro w s₀ s₁ mg mb G Y fa o pm cd doc dV kV ho hd hcd hD hmg hg args vals as hpre hlay hrd hwl hlo;obtain rfl:dV=.none:=Dflts.none hD hdf;obtain rfl:kV=.none:=Dflts.noKw hD;obtain⟨a,vs,ns,rfl,rfl,hobj,hints,hlen⟩:=J8 hn hpre hwl;refine enter_call (yE (call w s₀ s₁ mg mb fa o pm cd doc a vs ns G Y ho (fd_plain hd) hcd hmg hobj hints hlen hg) λr s' hq=>?_);obtain⟨rfl,h2,h3,h4⟩:=hq;exact⟨.inl ⟨.bool true,.bool true,[],rfl,λ_=>rfl,.bool true,JZ l _,λ_=>⟨List.Pairwise.nil,λ_ hm=>(nomatch hm)⟩⟩,h2,h3,h4⟩
end Att
namespace L2
open PySem PySem.Spec PyProof.Rows
theorem ox:∀{vs:List Value} {ns:List Int},IntsAre vs ns->Vals (ns.map V.int) vs
 | _,_,.nil=>.nil
 | _,_,.cons n t h=>.cons ⟨t,rfl⟩ (ox h)
def Only(H:Hp):Prop:=∀b,H b=none\/∃o xs,H b=some (.frz o (.lst xs))
def Wi{P:Program}{w:World}{K:PySem.W.Frag}{mg mb:Str->Option Value}{CX:gT}{k:Nat}{fa a:Addr}{fd:FuncData}{x:Str}{sp:Sp}{s₁:Shared}{vs:List Value}{ns:List Int}
  (KX:K.In s₁.heap) (hns:s₁.heap.Ns mainGlobals mg) (hb:s₁.heap.Ns builtinsNs mb) (hbb:∀x:Str,x≠"__name__"->mb x=bootBuiltins x) (hlim:s₁.heap.NoLimit) (hg:s₁.gens = #[])
  (ha:s₁.heap.get? a=some { cls:=.type "list",data:=.seq vs.toArray }) (hi:IntsAre vs ns) (hl:ns.length<=sizeLine) (hr:Room k callerA)
  (F:∀base:Heap,K.In base->base.Ns mainGlobals mg->FnOk P w K mg base CX k fa fd [x] sp) (hbind:∀(s:Shared) (u:Value),BindsTo s fd ⟨[u],[]⟩ [(x,u)])
  (hsp:∀H:Hp,Only H->SqL K H a (ns.map V.int)->sp [.ref a] H (λv _=>v=.bl true) λ_ _ _=>False)
  (hCX:∀H e s',CX [] H s₁ (λ_ _ _=>False) e s'->False) :
  codeAny (model P w) callerA (.call (.ref fa) ⟨[.ref a],[]⟩) (λr s'=>r=.ok (.ret (.bool true))/\OldK s₁.heap s'.heap/\s'.os=s₁.os/\AllBare s'.gens) s₁:=by
 have rv:=ox hi;have lenV:=hi.length;have core:∀H:Hp,Only H->SqL K H a (ns.map V.int)->HOk P w H s₁.heap->(∀b,H b≠none->b=a)->(H a≠none->K.lookup a=none)->
   codeAny (model P w) callerA (.call (.ref fa) ⟨[.ref a],[]⟩) (λr s'=>r=.ok (.ret (.bool true))/\OldK s₁.heap s'.heap/\s'.os=s₁.os/\AllBare s'.gens) s₁:=by
  intro H hO hS hok hA hK;have base_of:∀{b:Addr} {o:Obj},s₁.heap.get? b=some o->H b=none->(f6 s₁.heap H).get? b=some o:=λe n=>Vo e n
  have noA:∀{b:Addr} {o:Obj} {es:Array DictEntry} {ep:Nat},s₁.heap.get? b=some o->o.data=.dict es ep->H b=none:=λ{b o es ep} e d=>by
   cases q:H b with
   | none=>rfl
   | some u=>
    have e':b=a:=hA b (by rw[q];simp);subst e';rw[ha] at e;cases e;have d':Data.seq vs.toArray _=Data.dict es ep:=d;cases d'
  have nsK:∀{b:Addr} {m:Str->Option Value},s₁.heap.Ns b m->(f6 s₁.heap H).Ns b m:=λ{b m} ⟨o,es,ep,e,d,r⟩=>⟨o,es,ep,base_of e (noA e d),d,r⟩
  have hKb:K.In (f6 s₁.heap H):=λb o e=>base_of (KX b o e) (by
   cases q:H b with
   | none=>rfl
   | some u=>
    have e':b=a:=hA b (by rw[q];simp);subst e'
    rw[hK (by rw[q];simp)] at e;cases e)
  have hM:Mod K mg (f6 s₁.heap H):=⟨hKb,nsK hns,⟨mb,nsK hb,hbb⟩,let ⟨mc,h1,h2⟩:=hlim;⟨mc,nsK h1,h2⟩⟩;have e0:Env0 P w K mg (f6 s₁.heap H) callerA [] s₁ H:=⟨rfl,hM,λb o e=>Y2 e,Nat.le_of_eq (Qz _ _),trivial,λb hb=>absurd (show b∈([]:List Addr) from hb) (by simp),hok,.of_eq hg⟩;refine yE ((F _ hKb (nsK hns)).run callerA [] s₁ H ⟨[.ref a],[]⟩ [.ref a] [.ref a] _ _ hr e0 (hbind s₁ (.ref a)) (.cons rfl .nil) (hsp H hO hS)) λr s' h=>?_
  cases r with
  | error e=>exact(hCX H e s' h).elim
  | ok fl=>
   cases fl with
   | next=>exact False.elim h
   | brk=>exact False.elim h
   | cont=>exact False.elim h
   | ret u=>
    obtain⟨v,H',os,bare,un,hok',r',q⟩:=h;have q':v=.bl true:=q;subst q';obtain rfl:u=Value.bool true:=r';refine⟨rfl,OldK.of_keep λb o e=>?_,os,bare⟩;cases q:H b with
    | none=>exact un.keep b o e q (by intro z;exact absurd (show b∈([]:List Addr) from z) (by simp)) (by simp)
    | some u=>
     rcases hO b with z | ⟨ob,xs,z⟩
     .rw[q] at z;cases z
     .have z2:=un.frzs b ob _ z
      obtain⟨e1,_⟩:=hok b _ z;obtain⟨e2,_⟩:=hok' b _ z2;rw[e] at e1;cases e1;exact e2
 cases hk:K.lookup a with
 | some o=>
  have e:=KX a o hk;rw[ha] at e;cases e;refine core (λ_=>none) (λ_=>.inl rfl) (.inr ⟨_,vs.toArray,_,hk,rfl,rfl,rfl,by rw[zK,lenV];exact hl,by simpa using rv⟩) (λb u z=>by have z':(none:Option HO)=some u:=z;cases z') (λb z=>absurd rfl z) λz=>absurd rfl z
 | none=>
  refine core (λb=>if b=a then some (.frz { cls:=.type "list",data:=.seq vs.toArray } (.lst (ns.map V.int))) else none) (λb=>?_) (.inl (.inr ⟨{ cls:=.type "list",data:=.seq vs.toArray },zY rfl⟩)) (λb u z=>?_) (λb z=>?_) λ_=>hk
  .by_cases hb:b=a
   .exact .inr ⟨_,_,zY hb⟩
   .exact .inl (kO hb)
  .by_cases hb:b=a
   .have z':=(zY hb).symm.trans z
    cases z';subst hb;exact⟨ha,by rw[zO];exact hl,vs,_,rv,ha⟩
   .have z':=(kO hb).symm.trans z
    cases z'
  .by_cases hb:b=a
   .exact hb
   .exact absurd (kO hb) z
end L2
namespace L2
open PySem PySem.Spec PyProof.Rows
end L2
namespace L2
open PySem PySem.Spec PyProof.Rows
def va(s:Stmt):Arguments:=match s with
 | .FunctionDef _ a _ _ _ _ _ _ _ _=>a
 | _=>{ posonlyargs:=[],args:=[],vararg:=none,kwonlyargs:=[],kw_defaults:=[],kwarg:=none,defaults:=[] }
def kS(s:Stmt):List Stmt:=match s with
 | .FunctionDef _ _ b _ _ _ _ _ _ _=>b
 | _=>[]
def kB(s:Stmt):Scope:=match s with
 | .FunctionDef _ _ _ _ _ _ sc _ _ _=>sc
 | _=>{ kind:=.function,names:=[],isGenerator:=false,isCoroutine:=false }
abbrev uc:gT:=λ_ _ _ _ _ _=>False
abbrev E0:XK:=λ_ _ _=>False
def iq{X:Cx}:ae uc X E0:=λ_ _ _ _ _ _ _ h=>h.elim
structure Fun(K:PySem.W.Frag)(x qual:Str)(st:Stmt)(f:Addr)(fd:FuncData):Prop where
 ex:∃(oc:Value) (od:Option Addr) (kV doc pm:Value) (an:Option Addr) (cdv ct:Value) (osl:Array (Option Value)),
  fd=PySem.W.fnOf x qual (va st) (kS st) (kB st) .none kV doc pm an cdv ct/\K.lookup f=some ⟨oc,od,.func fd,osl⟩/\PySem.W.codeIn K cdv qual=true
 kp:PySem.W.keepIn K (.ref f)=true
section
variable{P:Program}{w:World}{K:PySem.W.Frag}{mg:Str->Option Value}{base:Heap}
def Fun.ok{x qual:Str}{st:Stmt}{f:Addr}{fd:FuncData}{N ps:List Str}{k:Nat}{sp:Sp}(F:Fun K x qual st f fd)(S:FnScope N ps (kB st))(len:∀vs H Q E,sp vs H Q E->vs.length=ps.length)
  (hbody:∀(cdv:Value) (A:Around) (outer:List Env) (s:Shared) (H:Hp) (vs:List V) (Q:VK) (E:XK),Room k (A.deeper (envOfC qual (kB st) s.heap.objs.size f cdv))->sp vs H Q E->
   ∃t,PSs (gW uc P w K mg base N qual (kB st) f cdv A outer s H E).nox (kS st) t/\t { nx:=λ_ H'=>Q .non H',rt:=Q } (start N vs) H):FnOk P w K mg base uc (k+1) f fd ps sp:=by
 obtain⟨oc,od,kV,doc,pm,an,cdv,ct,osl,rfl,lk,hcd⟩:=F.ex;refine DL lk hcd S len λA outer s H vs Q E hr hsp=>?_
 obtain⟨t,h,q⟩:=hbody cdv A outer s H vs Q E hr hsp;exact⟨t,h.nox,q⟩
def Fun.binds{x qual:Str}{st:Stmt}{f:Addr}{fd:FuncData}{ps:List Str}(F:Fun K x qual st f fd)
  (h:∀(kV doc pm:Value) (an:Option Addr) (cdv ct:Value) (us:List Value),us.length=ps.length->bindArgs (PySem.W.fnOf x qual (va st) (kS st) (kB st) .none kV doc pm an cdv ct) ⟨us,[]⟩=pure (ps.zip us)):Binds K fd ps []:=by
 obtain⟨oc,od,kV,doc,pm,an,cdv,ct,osl,rfl,lk,hcd⟩:=F.ex;exact .all (h kV doc pm an cdv ct)
def B0{x qual:Str}{st:Stmt}{f:Addr}{oc:Value}{od an:Option Addr}{osl:Array (Option Value)}{kV doc pm cdv ct:Value}(l:K.lookup f=some ⟨oc,od,.func (PySem.W.fnOf x qual (va st) (kS st) (kB st) .none kV doc pm an cdv ct),osl⟩)
  (c:PySem.W.codeIn K cdv qual=true) (k:PySem.W.keepIn K (.ref f)=true):Fun K x qual st f (PySem.W.fnOf x qual (va st) (kS st) (kB st) .none kV doc pm an cdv ct):=⟨⟨oc,od,kV,doc,pm,an,cdv,ct,osl,rfl,l,c⟩,k⟩
end
end L2
end
set_option bootstrap.genMatcherCode false
set_option genSizeOf false
set_option genSizeOfSpec false
namespace L2
open PySem PySem.W PyProof.Rows
section
variable{prog:Program}{w:World}{A:Around}{E:Value->Shared->Prop}
theorem nY{items:Array Value}(hh:A.handled=none)(hne:t≠it):∀(n i:Nat) (s:Shared) (Q:List Value->Shared->Prop),s.heap.IsListIter it t i->s.heap.IsList t items->i+n<=items.size->
  (∀h' tk,h'.IsListIter it t (i+n)->h'.IsList t items->(∀b o,b≠it->s.heap.get? b=some o->h'.get? b=some o)->Q ((items.toList.drop i).take n) { s with heap:=h',toks:=tk })->wpAny (model prog w) A (draw (.ref it) n) Q E s
 | 0,i,s,Q,hit,ht,_,hQ=>by
  show wpAny _ _ (pure []) Q E s
  exact zr (by simpa using hQ s.heap s.toks hit ht λ_ _ _ e=>e)
 | n+1,i,s,Q,hit,ht,hle,hQ=>by
  have hlt:i<items.size:=by omega
  show wpAny _ _ (pyNext (.ref it) >>= _) Q E s
  refine za ((xq hh it t hne items).item i s _ _ hlt ⟨hit,ht⟩ λv h1 tk hv st k1=>?_);rw[show items[i]?=some items[i] by simp[hlt]] at hv;cases hv;refine za (jb (nY hh hne n (i+1) _ _ st.1 st.2 ∅ λh2 tk2 a1 a2 a3=>zr ?_));have hd:items.toList.drop i=items[i]::items.toList.drop (i+1):=by simp[qJ,hlt]
  have:=hQ h2 tk2 (by rw[show i+(n+1)=i+1+n by omega];exact a1) a2 λb o ne e=>a3 b o ne (k1 b o (by simpa using ne) e)
  rw[hd,List.take_succ_cons] at this;exact this
def tu{s:Shared}{items:Array Value}{targets:List (Bool×(Value->Sem Unit))}(hh:A.handled=none)(ht:s.heap.IsList t items)
  (hn:targets.length=items.size) (hstar:targets.findIdx? (·.1)=none)
  (h:∀h' tk,(∀b o,s.heap.get? b=some o->h'.get? b=some o)->wpAny (model prog w) A (assignInOrder (targets.map (·.2)) items.toList) Q E { s with heap:=h',toks:=tk }) :
  wpAny (model prog w) A (unpack (.ref t) targets) Q E s:=by
 have hlt:t<s.heap.objs.size:=by obtain⟨o,ho,_⟩:=ht;exact zA ho
 unfold unpack;rw[hn,hstar];refine za (jb ?_);unfold unpackItems notIterableAtAll;refine za (za (vO ht.typeIs PySem.slot_list_iter.lookup (zr ?_)));simp only[jE,jj];refine za (jb (vh ht ?_));refine za (jb (nY hh (zW hlt) items.size 0 _ _ ⟨_,zQ _ rfl,rfl,rfl⟩ (ht.push _) ∅ λh1 tk hit1 ht1 k1=>?_));have hall:List.take items.size (List.drop 0 items.toList)=items.toList:=by
  rw[wG];exact yM (by simp)
 rw[hall,kO (by simp)];refine za (jb ((xq hh s.heap.objs.size t (zW hlt) items).done _ _ _ ⟨by simpa using hit1,ht1⟩ λh2 tk2 k2=>?_));simp only[Option.isSome_none,jE,jj];refine zr (h h2 tk2 λb o e=>?_);have ne:=zW (zA e);exact k2 b o (by simpa using ne) (k1 b o ne (zf _ e))
end
variable{X:Cx}{pos:Pos}
def Fq(K:PySem.W.Frag)(n:Nat)(t:oA):TG:=λv σ H Q=>∃a xs,v=.ref a/\SqL K H a xs/\xs.length=n/\t xs σ H Q
def U9(hc:X.calm=true)(h:PGs X es t)
  (hn:(assignEach es X.env).length=n) (hst:(assignEach es X.env).findIdx? (·.1)=none):PG X (.Tuple es k pos) (Fq X.K n t):=by
 intro pins s σ H v u Q I r hw;obtain⟨a,xs,e1,hq,hl,hw⟩:=hw;subst e1;cases r;obtain⟨its,rv,⟨o,m,g1,g2,g3,g4⟩,hz⟩:=I.list hq;rw[assign_Tuple];refine za (yh (tu (items:=its.toArray) (I.ok.hd hc) ⟨o,g1,g2,m,g4⟩ (by simp[hn,<-hl,rv.length]) hst λh' tk hx=>?_));have I1:Inv X pins σ H { s with heap:=h',toks:=tk }:=I.kept (t':=tk) λb o e=>hx b o e
 exact h pins _ σ H xs _ Q I1 (by simpa using rv) hw
end L2
namespace ML
open PySem PySem.Spec PyProof.Rows L2
inductive W where
 | non | bl (b:Bool) | int (i:Int) | str (x:Str) | tup (l:List W) | fls (l:List W) | ref (n:Nat) | fdc (l:List (Key×W)) | fn (a:Addr)
 deriving Inhabited
inductive MO where
 | lst (l:List W) | dic (l:List (Key×W)) | ins (c:Nat) (fs:List (Str×W)) | tdc (ks:List (List Str))
structure Cl where
 c:Nat->Addr
 P:Program
 w:World
noncomputable def FS(P:Program)(w:World)(a:Addr)(xs:List (List Str×Addr×Value)):Heap->Prop:=λh=>∃o es ep,h.get? a=some o/\o.ExactDict/\o.data=.dict es ep/\es.toList=xs.map (entryOfKey (tupleKind (strKind P w)))
abbrev MH:=List MO
abbrev M(α:Type):=MH->Option (α×MH)
abbrev En:=List (Option W)
abbrev ME:=En->M W
abbrev MT:=En->M Bool
noncomputable def bnd{α β:Type}(m:M α)(f:α->M β):M β:=λh=>match m h with
 | some (a,h')=>f a h'
 | none=>none
def V7{α β:Type}{m:M α}{f:α->M β}{h h':MH}{a:α}(e:m h=some (a,h')):bnd m f h=f a h':=by unfold bnd;rw[e]
def ka{α β:Type}{m:M α}{f:α->M β}{h:MH}{r:β×MH}(e:bnd m f h=some r):∃a h',m h=some (a,h')/\f a h'=some r:=by
 unfold bnd at e;split at e
 .rename_i a h' e'
  exact⟨a,h',e',e⟩
 .cases e
noncomputable def SqF(K:PySem.W.Frag)(μ:List Addr)(H:Hp)(a:Addr)(vs:List V):Prop:=(Rd H a (.lst vs)/\a∉μ) \/
 ∃(o:Obj) (its:Array Value) (n:Nat),K.lookup a=some o/\o.cls=.type "list" /\ o.dict=none/\o.data=.seq its n/\its.size<=sizeLine/\Vals vs its.toList
def SqF.sq{K:PySem.W.Frag}{μ:List Addr}{H:Hp}(h:SqF K μ H a vs):SqL K H a vs:=h.elim (λh=>.inl h.1) .inr
noncomputable def SqD(μ:List Addr)(H:Hp)(a:Addr)(l:List (Key×V)):Prop:=Rd H a (.dK l)/\a∉μ
section rel
variable(K:PySem.W.Frag)(cl:Cl)(μ:List Addr)(H:Hp)
mutual
inductive RW:W->V->Prop
 | non:RW .non .non
 | bl (b:Bool):RW (.bl b) (.bl b)
 | int (i:Int):RW (.int i) (.int i)
 | str (x:Str):RW (.str x) (.str x)
 | tup {a:Addr} {vs:List V} {l:List W}:SqT K H a vs->RWs l vs->RW (.tup l) (.ref a)
 | ref {n:Nat} {a:Addr}:μ[n]?=some a->RW (.ref n) (.ref a)
 | fls {a:Addr} {vs:List V} {l:List W}:SqF K μ H a vs->RWs l vs->RW (.fls l) (.ref a)
 | fdc {a:Addr} {l:List (Key×W)} {l':List (Key×V)} {ws:List W} {vs:List V}:SqD μ H a l'->l.map (·.1)=l'.map (·.1)->ws=l.map (·.2)->vs=l'.map (·.2)->RWs ws vs->RW (.fdc l) (.ref a)
 | fn {a:Addr}:RW (.fn a) (.ref a)
inductive RWs:List W->List V->Prop
 | nil:RWs [] []
 | cons {w:W} {v:V} {l:List W} {vs:List V}:RW w v->RWs l vs->RWs (w::l) (v::vs)
end
noncomputable def RKs{κ:Type}(l:List (κ×W))(l':List (κ×V)):Prop:=l.map (·.1)=l'.map (·.1)/\RWs K μ H (l.map (·.2)) (l'.map (·.2))
noncomputable def OR(a:Addr):MO->Prop
 | .lst l=>∃vs,H a=some (.lst vs)/\RWs K μ H l vs
 | .dic l=>∃l',H a=some (.dK l')/\RKs K μ H l l'
 | .ins c fs=>∃dx fs',H a=some (.ins (cl.c c) dx fs')/\RKs K μ H fs fs'
 | .tdc ks=>∃xs:List (List Str×Addr×Value),H a=some (.ext (FS cl.P cl.w a xs))/\xs.map (·.1)=ks/\ks.Nodup/\(a==sysModules)=false/\RWs K μ H (ks.map λk=>.tup (k.map .str)) (xs.map λx=>.ref x.2.1)
structure HR(h:MH):Prop where
 len:μ.length=h.length
 nd:μ.Nodup
 ob:∀(n:Nat) (a:Addr) (o:MO),μ[n]?=some a->h[n]?=some o->OR K cl μ H a o
structure ER(ρ:En)(σ:L2.St):Prop where
 len:ρ.length=σ.length
 at_:∀(i:Nat) (w:W),ρ[i]?=some (some w)->∃v,σ[i]?=some (some v)/\RW K μ H w v
end rel
structure Ext(μ:List Addr)(H:Hp)(μ':List Addr)(H':Hp):Prop where
 pre:μ<+:μ'
 fr:∀b o,H b=some o->b∉μ->H' b=some o/\b∉μ'
section
variable{K:PySem.W.Frag}{cl:Cl}{μ μ' μ'':List Addr}{H H' H'':Hp}{h h':MH}
def Ext.refl:Ext μ H μ H:=⟨zP _,λ_ _ e n=>⟨e,n⟩⟩
theorem Ext.trans(a:Ext μ H μ' H')(b:Ext μ' H' μ'' H''):Ext μ H μ'' H'':=
 ⟨a.pre.trans b.pre,λc o e n=>let ⟨e1,n1⟩:=a.fr c o e n;b.fr c o e1 n1⟩
def Ext.get(a:Ext μ H μ' H'){n:Nat}(e:μ[n]?=some x):μ'[n]?=some x:=by
 obtain⟨r,rfl⟩:=a.pre;rw[zy (zT.mp e).1];exact e
theorem OR.some(q:OR K cl μ H a o):∃u,H a=some u/\nN (some u):=by
 cases o with
 | lst l=>obtain⟨vs,q,_⟩:=q;exact⟨_,q,trivial⟩
 | dic l=>obtain⟨l',q,_⟩:=q;exact⟨_,q,trivial⟩
 | ins c fs=>obtain⟨dx,fs',q,_⟩:=q;exact⟨_,q,trivial⟩
 | tdc ks=>obtain⟨xs,q,_⟩:=q;exact⟨_,q,trivial⟩
def HR.mem_some(R:HR K cl μ H h)(hm:a∈μ):∃u,H a=some u/\nN (some u):=by
 obtain⟨n,hn⟩:=jA.mp hm;have hl:n<h.length:=by rw[<-R.len];exact(zT.mp hn).1
 exact(R.ob n a h[n] hn (zB hl)).some
def HR.fresh(R:HR K cl μ H h)(e:H a=none):a∉μ:=λhm=>by
 obtain⟨u,q,_⟩:=R.mem_some hm;rw[e] at q;cases q
def HR.notours(R:HR K cl μ H h)(e:H a=some u)(n:¬nN (some u)):a∉μ:=λhm=>by
 obtain⟨u',q,m⟩:=R.mem_some hm;rw[e] at q;cases q;exact n m
def HR.notup(R:HR K cl μ H h)(e:Rd H a (.tup xs)):a∉μ:=by
 rcases e with e | ⟨o,e⟩
 .exact R.notours e λz=>z
 .exact R.notours e λz=>z
def SqF.ext(E:Ext μ H μ' H')(e:SqF K μ H a vs):SqF K μ' H' a vs:=by
 rcases e with ⟨e | ⟨o,e⟩,n⟩ | e
 .exact .inl ⟨.inl (E.fr _ _ e n).1,(E.fr _ _ e n).2⟩
 .exact .inl ⟨.inr ⟨o,(E.fr _ _ e n).1⟩,(E.fr _ _ e n).2⟩
 .exact .inr e
def SqD.ext(E:Ext μ H μ' H')(e:SqD μ H a l):SqD μ' H' a l:=by
 obtain⟨e | ⟨o,e⟩,n⟩:=e
 .exact⟨.inl (E.fr _ _ e n).1,(E.fr _ _ e n).2⟩
 .exact⟨.inr ⟨o,(E.fr _ _ e n).1⟩,(E.fr _ _ e n).2⟩
def SqT.ext(R:HR K cl μ H h)(E:Ext μ H μ' H')(e:SqT K H a xs):SqT K H' a xs:=by
 rcases e with e | e
 .have n:=R.notup e
  rcases e with e | ⟨o,e⟩
  .exact .inl (.inl (E.fr _ _ e n).1)
  .exact .inl (.inr ⟨o,(E.fr _ _ e n).1⟩)
 .exact .inr e
mutual
theorem RW.ext(R:HR K cl μ H h)(E:Ext μ H μ' H'):∀{w:W} {v:V},RW K μ H w v->RW K μ' H' w v
 | _,_,.non=>.non
 | _,_,.bl b=>.bl b
 | _,_,.int i=>.int i
 | _,_,.str x=>.str x
 | _,_,.tup s r=>.tup (SqT.ext R E s) (RWs.ext R E r)
 | _,_,.ref e=>.ref (E.get e)
 | _,_,.fls s r=>.fls (SqF.ext E s) (RWs.ext R E r)
 | _,_,.fdc s k e1 e2 r=>.fdc (SqD.ext E s) k e1 e2 (RWs.ext R E r)
 | _,_,.fn=>.fn
theorem RWs.ext(R:HR K cl μ H h)(E:Ext μ H μ' H'):∀{l:List W} {vs:List V},RWs K μ H l vs->RWs K μ' H' l vs
 | _,_,.nil=>.nil
 | _,_,.cons r t=>.cons (RW.ext R E r) (RWs.ext R E t)
end
theorem ER.ext(R:HR K cl μ H h)(E:Ext μ H μ' H')(e:ER K μ H ρ σ):ER K μ' H' ρ σ:=
 ⟨e.len,λi w q=>let ⟨v,q1,r⟩:=e.at_ i w q;⟨v,q1,r.ext R E⟩⟩
theorem RWs.length:∀{l:List W} {vs:List V},RWs K μ H l vs->l.length=vs.length
 | _,_,.nil=>rfl
 | _,_,.cons _ t=>jR (· + 1) (RWs.length t)
theorem RWs.get:∀{l:List W} {vs:List V} {i:Nat} {w:W},RWs K μ H l vs->l[i]?=some w->∃v,vs[i]?=some v/\RW K μ H w v
 | _,_,_,_,.nil,e=>by simp at e
 | _,_,0,_,.cons r _,e=>by simp at e;subst e;exact⟨_,rfl,r⟩
 | _,_,i+1,w,.cons _ t,e=>by
  obtain⟨v,h1,h2⟩:=RWs.get (i:=i) (w:=w) t (by simpa using e);exact⟨v,by simpa using h1,h2⟩
theorem RWs.append:∀{l l':List W} {vs vs':List V},RWs K μ H l vs->RWs K μ H l' vs'->RWs K μ H (l++l') (vs++vs')
 | _,_,_,_,.nil,s=>s
 | _,_,_,_,.cons r t,s=>.cons r (RWs.append t s)
theorem RWs.take:∀{l:List W} {vs:List V} (n:Nat),RWs K μ H l vs->RWs K μ H (l.take n) (vs.take n)
 | _,_,0,_=>.nil
 | _,_,_+1,.nil=>.nil
 | _,_,n+1,.cons r t=>.cons r (RWs.take n t)
theorem RWs.drop:∀{l:List W} {vs:List V} (n:Nat),RWs K μ H l vs->RWs K μ H (l.drop n) (vs.drop n)
 | _,_,0,r=>r
 | _,_,_+1,.nil=>.nil
 | _,_,n+1,.cons _ t=>RWs.drop n t
theorem RWs.set(r:RW K μ H w v):∀{l:List W} {vs:List V} (i:Nat),RWs K μ H l vs->RWs K μ H (l.set i w) (vs.set i v)
 | _,_,_,.nil=>.nil
 | _,_,0,.cons _ t=>.cons r t
 | _,_,i+1,.cons q t=>.cons q (RWs.set r i t)
theorem RWs.dropLast:∀{l:List W} {vs:List V},RWs K μ H l vs->RWs K μ H l.dropLast vs.dropLast
 | _,_,.nil=>.nil
 | _,_,.cons _ .nil=>.nil
 | _,_,.cons r (.cons r2 t)=>.cons r (RWs.dropLast (.cons r2 t))
theorem RWs.rep(r:RWs K μ H l vs):∀k:Nat,RWs K μ H (List.replicate k l).flatten (List.replicate k vs).flatten
 | 0=>.nil
 | k+1=>by
  rw[jV,jV,qz,qz];exact r.append (RWs.rep r k)
theorem RWs.ints:∀ns:List Int,RWs K μ H (ns.map W.int) (ns.map V.int)
 | []=>.nil
 | n::r=>.cons (.int n) (RWs.ints r)
theorem OR.ext(R:HR K cl μ H h)(E:Ext μ H μ' H')(e:H' a=H a)(q:OR K cl μ H a o):OR K cl μ' H' a o:=by
 cases o with
 | lst l=>obtain⟨vs,q,r⟩:=q;exact⟨vs,e.trans q,r.ext R E⟩
 | dic l=>obtain⟨l',q,k,r⟩:=q;exact⟨l',e.trans q,k,r.ext R E⟩
 | ins c fs=>obtain⟨dx,fs',q,k,r⟩:=q;exact⟨dx,fs',e.trans q,k,r.ext R E⟩
 | tdc ks=>obtain⟨xs,q,k1,k2,k3,r⟩:=q;exact⟨xs,e.trans q,k1,k2,k3,r.ext R E⟩
def Ext.new(hp:H p=none):Ext μ H (μ++[p]) (upd H p u):=
 ⟨jl _ _,λb o e n=>by
  have ne:b≠p:=qA e hp
  exact⟨by rw[kM ne];exact e,by simp[n,ne]⟩⟩
def Ext.side(hp:H p=none):Ext μ H μ (upd H p u):=
 ⟨zP _,λb o e n=>⟨by rw[kM (qA e hp)];exact e,n⟩⟩
theorem HR.side(R:HR K cl μ H h)(hp:H p=none):HR K cl μ (upd H p u) h:=
 have hm:=R.fresh hp;⟨R.len,R.nd,λn a o e1 e2=>OR.ext R (Ext.side hp) (kM (by rintro rfl;exact hm (ju e1))) (R.ob n a o e1 e2)⟩
theorem HR.new(R:HR K cl μ H h)(hp:H p=none)(q:OR K cl (μ++[p]) (upd H p u) p o):HR K cl (μ++[p]) (upd H p u) (h++[o]):=by
 have hm:=R.fresh hp;refine⟨by simp[R.len],?_,λn a o' e1 e2=>?_⟩
 .rw[wZ]
  exact⟨R.nd,by simp,by simp;exactλa ha=>by rintro rfl;exact hm ha⟩
 .by_cases hn:n<μ.length
  .rw[zy hn] at e1
   rw[zy (by rw[<-R.len];exact hn)] at e2;exact OR.ext R (Ext.new hp) (kM (by rintro rfl;exact hm (ju e1))) (R.ob n a o' e1 e2)
  .rw[zG ∅] at e1
   rw[zG (by rw[<-R.len];omega)] at e2;rw[R.len] at e1;have:n-h.length=0:=by
    by_cases z:n-h.length=0
    .exact z
    .rw[jP (by simp;omega)] at e1;cases e1
   rw[this] at e1 e2;simp at e1 e2;subst e1;subst e2;exact q
def Ext.put{n:Nat}{a:Addr}(hn:μ[n]?=some a):Ext μ H μ (upd H a u):=
 ⟨zP _,λb o e m=>⟨by rw[kM (by rintro rfl;exact m (ju hn))];exact e,m⟩⟩
theorem HR.put{n:Nat}{a:Addr}(R:HR K cl μ H h)(hn:μ[n]?=some a)(q:OR K cl μ (upd H a u) a o):HR K cl μ (upd H a u) (h.set n o):=by
 refine⟨by simp[R.len],R.nd,λm b o' e1 e2=>?_⟩;by_cases hm:m=n
 .subst hm
  rw[hn] at e1;cases e1;rw[zH (by rw[<-R.len];exact(zT.mp hn).1)] at e2;cases e2;exact q
 .rw[zF (kY hm)] at e2
  have ne:b≠a:=by
   rintro rfl;obtain⟨h1,e1'⟩:=zT.mp e1;obtain⟨h2,e2'⟩:=zT.mp hn;exact hm ((vf R.nd).mp (e1'.trans e2'.symm))
  exact OR.ext R (Ext.put hn) (kM ne) (R.ob m b o' e1 e2)
end
noncomputable def KQ(K:PySem.W.Frag)(cl:Cl)(μ:List Addr)(H:Hp)(h':MH)(w:W)(Q:VK):Prop:=
 ∀μ' H' v,Ext μ H μ' H'->HR K cl μ' H' h'->RW K μ' H' w v->Q v H'
inductive tM(K:PySem.W.Frag)(cl:Cl)(m:ME)(σ:L2.St)(H:Hp)(Q:VK):Prop
 | mk (μ:List Addr) (h:MH) (ρ:En) (w:W) (h':MH) (p0:HR K cl μ H h) (p1:ER K μ H ρ σ) (p2:m ρ h=some (w,h')) (p3:KQ K cl μ H h' w Q):tM K cl m σ H Q
inductive tMT(K:PySem.W.Frag)(cl:Cl)(m:MT)(σ:L2.St)(H:Hp)(Q:Bool->Hp->Prop):Prop
 | mk (μ:List Addr) (h:MH) (ρ:En) (b:Bool) (h':MH) (p0:HR K cl μ H h) (p1:ER K μ H ρ σ) (p2:m ρ h=some (b,h')) (p3:∀μ' H',Ext μ H μ' H'->HR K cl μ' H' h'->Q b H'):tMT K cl m σ H Q
abbrev SE(X:Cx)(cl:Cl)(e:Expr)(m:ME):Prop:=PE X e (tM X.K cl m)
abbrev ST(X:Cx)(cl:Cl)(e:Expr)(m:MT):Prop:=PT X e (tMT X.K cl m)
def PE.wk(h:PE X e t)(w:∀σ H Q,t' σ H Q->t σ H Q):PE X e t':=λpins s σ H Q I q=>h pins s σ H Q I (w σ H Q q)
def PT.wk(h:PT X e t)(w:∀σ H Q,t' σ H Q->t σ H Q):PT X e t':=λpins s σ H Q I q=>h pins s σ H Q I (w σ H Q q)
def PA.wk(h:PA X e t)(w:∀σ H Q,t' σ H Q->t σ H Q):PA X e t':=λpos pins s σ H Q I q=>h pos pins s σ H Q I (w σ H Q q)
def PS.wk(h:PS X e t)(w:∀D σ H,t' D σ H->t D σ H):PS X e t':=λpins s σ H D I q=>h pins s σ H D I (w D σ H q)
def PSs.wk(h:PSs X e t)(w:∀D σ H,t' D σ H->t D σ H):PSs X e t':=λpins s σ H D I q=>h pins s σ H D I (w D σ H q)
noncomputable def ze(i:Nat):ME:=λρ h=>match ρ[i]? with
 | some (some w)=>some (w,h)
 | _=>none
noncomputable def eC(w:W):ME:=λ_ h=>some (w,h)
noncomputable def zi(f:W->W->M W)(a b:ME):ME:=λρ=>bnd (a ρ) λx=>bnd (b ρ) λy=>f x y
noncomputable def ug(f:W->M W)(a:ME):ME:=λρ=>bnd (a ρ) f
noncomputable def ky:List ME->En->M (List W)
 | [],_=>λh=>some ([],h)
 | m::r,ρ=>bnd (m ρ) λx=>bnd (ky r ρ) λxs h=>some (x::xs,h)
noncomputable def zh(f:List W->M W)(as:List ME):ME:=λρ=>bnd (ky as ρ) f
noncomputable def rH(w:W):M Bool:=λh=>match w with
 | .bl b=>some (b,h)
 | _=>none
noncomputable def ke(a:ME):MT:=λρ=>bnd (a ρ) rH
noncomputable def dQ(a b:MT):MT:=λρ=>bnd (a ρ) λx=>if x=true then b ρ else λh=>some (false,h)
noncomputable def hZ(a b:MT):MT:=λρ=>bnd (a ρ) λx=>if x=true then (λh=>some (true,h)) else b ρ
noncomputable def iG(a:MT):MT:=λρ=>bnd (a ρ) λx h=>some (!x,h)
noncomputable def ZG(t:MT)(a b:ME):ME:=λρ=>bnd (t ρ) λc=>if c=true then a ρ else b ρ
noncomputable def xk(f g:W->W->M W)(a b c:ME):ME:=λρ=>bnd (a ρ) λx=>bnd (b ρ) λy=>bnd (f x y) λz=>bnd (rH z) λk=>if k=true then bnd (c ρ) λu=>g y u else λh=>some (.bl false,h)
inductive rM(K:PySem.W.Frag)(cl:Cl)(f:W->W->M W)(x:V)(y:V)(H:Hp)(Q:VK):Prop
 | mk (μ:List Addr) (h:MH) (wx:W) (wy:W) (w:W) (h':MH) (p0:HR K cl μ H h) (p1:RW K μ H wx x) (p2:RW K μ H wy y) (p3:f wx wy h=some (w,h')) (p4:KQ K cl μ H h' w Q):rM K cl f x y H Q
inductive rM1(K:PySem.W.Frag)(cl:Cl)(f:W->M W)(x:V)(H:Hp)(Q:VK):Prop
 | mk (μ:List Addr) (h:MH) (wx:W) (w:W) (h':MH) (p0:HR K cl μ H h) (p1:RW K μ H wx x) (p2:f wx h=some (w,h')) (p3:KQ K cl μ H h' w Q):rM1 K cl f x H Q
inductive rMs(K:PySem.W.Frag)(cl:Cl)(f:List W->M W)(xs:List V)(H:Hp)(Q:VK):Prop
 | mk (μ:List Addr) (h:MH) (ws:List W) (w:W) (h':MH) (p0:HR K cl μ H h) (p1:RWs K μ H ws xs) (p2:f ws h=some (w,h')) (p3:KQ K cl μ H h' w Q):rMs K cl f xs H Q
inductive tMA(K:PySem.W.Frag)(cl:Cl)(ms:List ME)(σ:L2.St)(H:Hp)(Q:List V->Hp->Prop):Prop
 | mk (μ:List Addr) (h:MH) (ρ:En) (ws:List W) (h':MH) (p0:HR K cl μ H h) (p1:ER K μ H ρ σ) (p2:ky ms ρ h=some (ws,h')) (p3:∀μ' H' vs,Ext μ H μ' H'->HR K cl μ' H' h'->RWs K μ' H' ws vs->Q vs H'):tMA K cl ms σ H Q
abbrev SA(X:Cx)(cl:Cl)(es:List Expr)(ms:List ME):Prop:=PA X es (tMA X.K cl ms)
section
variable{X:Cx}{cl:Cl}{a b c:Expr}{ma mb mc:ME}{pos:Pos}{μ μ':List Addr}{H H':Hp}{h h':MH}
def KQ.pure{w:W}{v:V}{Q:VK}{K:PySem.W.Frag}(k:KQ K cl μ H h w Q)(R:HR K cl μ H h)(r:RW K μ H w v):Q v H:=k μ H v .refl R r
def KQ.ext{w:W}{Q:VK}{K:PySem.W.Frag}(E:Ext μ H μ' H')(k:KQ K cl μ H h w Q):KQ K cl μ' H' h w Q:=λμ2 H2 v E2 R2 r2=>k μ2 H2 v (E.trans E2) R2 r2
def Bm(i:Nat)(hN:X.N[i]?=some x:=by rfl)(hv:QB X.env.scope x:=by first | exact Or.inl rfl | exact Or.inr (Or.inl rfl) | exact Or.inr (Or.inr rfl))
  (hd:(x==("__debug__":Str))=false:=by decide) (hcd:(x==("__classdict__":Str))=false:=by decide):SE X cl (.Name x pos) (ze i):=
 PE.wk (Uz (i:=i) hN hv hd hcd) λσ H Q q0=>by
  obtain⟨μ,h,ρ,w,h',R,er,e,k⟩:=q0;unfold ze at e;split at e
  .rename_i w' q
   cases e;obtain⟨v,q1,r⟩:=er.at_ i _ q;exact⟨v,q1,k.pure R r⟩
  .cases e
def rF{w:W}{v:V}(he:PE X a (tC v))(r:∀μ H,RW X.K μ H w v):SE X cl a (eC w):=
 PE.wk he λσ H Q q0=>by
  obtain⟨μ,h,ρ,w',h',R,er,e,k⟩:=q0;cases e;exact k.pure R (r μ H)
def UX{i:Int}{j}:SE X cl (.Constant (.int i) j pos) (eC (.int i)):=rF UU λ_ _=>.int i
def Dq{i:Bool}{j}:SE X cl (.Constant (.bool i) j pos) (eC (.bl i)):=rF DC λ_ _=>.bl i
def BK{j}:SE X cl (.Constant .none j pos) (eC .non):=rF Bk λ_ _=>.non
def CO{i:Str}{j}:SE X cl (.Constant (.str i) j pos) (eC (.str i)):=rF U1 λ_ _=>.str i
def Uv(hm:X.mg x=some u)(r:RelV v u)(rw:∀μ H,RW X.K μ H w v)(hg:Gl X x:=by rfl)(hd:(x==("__debug__":Str))=false:=by decide):SE X cl (.Name x pos) (eC w):=
 rF (Zh hg hm r hd) rw
def cf{K:PySem.W.Frag}{f:W->W->M W}(q:tM K cl (zi f ma mb) σ H Q):JT (rM K cl f) (tM K cl ma) (tM K cl mb) σ H Q:=by
 obtain⟨μ,h,ρ,w,h',R,er,e,k⟩:=q;obtain⟨x,h1,e1,e⟩:=ka e;obtain⟨y,h2,e2,e3⟩:=ka e;exact⟨μ,h,ρ,x,h1,R,er,e1,λμ1 H1 vx E1 R1 rx=>⟨μ1,h1,ρ,y,h2,R1,er.ext R E1,e2,λμ2 H2 vy E2 R2 ry=>⟨μ2,h2,x,y,w,h',R2,rx.ext R1 E2,ry,e3,k.ext (E1.trans E2)⟩⟩⟩
def DQ{f:W->W->M W}(ho:qh X (binaryOp op) (rM X.K cl f))(ha:SE X cl a ma)(hb:SE X cl b mb):SE X cl (.BinOp a op b pos) (zi f ma mb):=
 PE.wk (DD ho ha hb) λσ H Q q=>cf q
def CQ{f:W->W->M W}(ho:qh X (compareOp op) (rM X.K cl f))(ha:SE X cl a ma)(hb:SE X cl b mb)(hm:behindInMarks op b=false:=by first | exact nomark _ | rfl):SE X cl (.Compare a [op] [b] pos) (zi f ma mb):=
 PE.wk (X1 ho ha hb hm) λσ H Q q=>cf q
def DW{f:W->M W}(ho:JW X (unaryOp op) (rM1 X.K cl f))(ha:SE X cl a ma):SE X cl (.UnaryOp op a pos) (ug f ma):=
 PE.wk (Ds ho ha) λσ H Q q0=>by
  obtain⟨μ,h,ρ,w,h',R,er,e,k⟩:=q0;obtain⟨x,h1,e1,e⟩:=ka e;exact⟨μ,h,ρ,x,h1,R,er,e1,λμ1 H1 vx E1 R1 rx=>⟨μ1,h1,x,w,h',R1,rx,e,k.ext E1⟩⟩
theorem RW.bl_of{K:PySem.W.Frag}{k:Bool}(r:RW K μ H (.bl k) v):v=.bl k:=by cases r;rfl
def QC{w:W}{b:Bool}(e:rH w h=some (b,h')):w=.bl b/\h=h':=by
 unfold rH at e;split at e
 .cases e;exact⟨rfl,rfl⟩
 .cases e
def hU{K:PySem.W.Frag}{σ:L2.St}(q:tMT K cl (ke ma) σ H Q):tM K cl ma σ H λx H1=>∃c,x=.bl c/\Q c H1:=by
 obtain⟨μ,h,ρ,b,h',R,er,e,k⟩:=q;obtain⟨x,h1,e1,e⟩:=ka e;obtain⟨rfl,rfl⟩:=QC e;exact⟨μ,h,ρ,_,h1,R,er,e1,λμ1 H1 vx E1 R1 rx=>⟨b,rx.bl_of,k μ1 H1 E1 R1⟩⟩
def U4(ha:SE X cl a ma)(he:∀whole,isTrue a X.env whole=(do let v <-whole;standAt a.pos;holding [v] (truthy v)):=by intro _;rfl):ST X cl a (ke ma):=
 PT.wk (UM ha he) λσ H Q q=>hU q
def UA{f:W->W->M W}(ho:qh X (compareOp op) (rM X.K cl f))(ha:SE X cl a ma)(hb:SE X cl b mb)(hm:behindInMarks op b=false:=by first | exact nomark _ | rfl):ST X cl (.Compare a [op] [b] pos) (ke (zi f ma mb)):=
 PT.wk (Xn ho ha hb hm) λσ H Q q=>by
  obtain⟨μ,h,ρ,w,h',R,er,e,k⟩:=hU q;exact cf ⟨μ,h,ρ,w,h',R,er,e,k⟩
def lQ{K:PySem.W.Frag}{f g:W->W->M W}(q:tM K cl (xk f g ma mb mc) σ H Q):sj (rM K cl f) (rM K cl g) (tM K cl ma) (tM K cl mb) (tM K cl mc) σ H Q:=by
 obtain⟨μ,h,ρ,w,h',R,er,e,k⟩:=q;obtain⟨x,h1,e1,e⟩:=ka e;obtain⟨y,h2,e2,e⟩:=ka e;obtain⟨z,h3,e3,e⟩:=ka e;obtain⟨c,h4,e4,e⟩:=ka e;obtain⟨rfl,rfl⟩:=QC e4;refine⟨μ,h,ρ,x,h1,R,er,e1,λμ1 H1 vx E1 R1 rx=>⟨μ1,h1,ρ,y,h2,R1,er.ext R E1,e2,λμ2 H2 vy E2 R2 ry=>⟨μ2,h2,x,y,_,h3,R2,rx.ext R1 E2,ry,e3,λμ3 H3 vz E3 R3 rz=>⟨c,rz.bl_of,?_⟩⟩⟩⟩;cases c with
 | true=>
  rw[zY rfl] at e ⊢;obtain⟨u,h5,e5,e6⟩:=ka e;exact⟨μ3,h3,ρ,u,h5,R3,((er.ext R E1).ext R1 E2).ext R2 E3,e5,λμ4 H4 vu E4 R4 ru=>⟨μ4,h5,y,u,w,h',R4,(ry.ext R2 E3).ext R3 E4,ru,e6,k.ext (E1.trans (E2.trans (E3.trans E4)))⟩⟩
 | false=>
  rw[kO zZ] at e ⊢;cases e;exact k μ3 H3 _ (E1.trans (E2.trans E3)) R3 (.bl false)
def V5{f:W->W->M W}(ho:qh X (compareOp op) (rM X.K cl f))(ho':qh X (compareOp op') (rM X.K cl g))(ha:SE X cl a ma)(hb:SE X cl b mb)(hc:SE X cl c mc)
  (hm:lastMarks [op,op'] [b,c]=false:=by with_unfolding_all rfl):SE X cl (.Compare a [op,op'] [b,c] pos) (xk f g ma mb mc):=
 PE.wk (VW ho ho' ha hb hc hm) λσ H Q q=>lQ q
def QU{f:W->W->M W}(ho:qh X (compareOp op) (rM X.K cl f))(ho':qh X (compareOp op') (rM X.K cl g))(ha:SE X cl a ma)(hb:SE X cl b mb)(hc:SE X cl c mc)
  (hm:lastMarks [op,op'] [b,c]=false:=by with_unfolding_all rfl):ST X cl (.Compare a [op,op'] [b,c] pos) (ke (xk f g ma mb mc)):=
 PT.wk (Vb ho ho' ha hb hc hm) λσ H Q q=>by
  obtain⟨μ,h,ρ,w,h',R,er,e,k⟩:=hU q;exact lQ ⟨μ,h,ρ,w,h',R,er,e,k⟩
abbrev SW(X:Cx)(cl:Cl)(e:Expr)(m:MT):Prop:=PW X e (tMT X.K cl m)
def PW.wk(h:PW X e t)(w:∀σ H Q,t' σ H Q->t σ H Q):PW X e t':=λwh pins s σ H Q I q=>h wh pins s σ H Q I (w σ H Q q)
variable{ta tb:MT}{rest:List Expr}
def XZ(ha:ST X cl a ta):SW X cl (.BoolOp .And [a] pos) ta:=pw_and1 ha
def CY(ha:ST X cl a ta):SW X cl (.BoolOp .Or [a] pos) ta:=pw_or1 ha
def B4(ha:ST X cl a ta)(hb:SW X cl (.BoolOp .And (b::rest) pos) tb):SW X cl (.BoolOp .And (a::b::rest) pos) (dQ ta tb):=
 PW.wk (pw_and ha hb) λσ H Q q0=>by
  obtain⟨μ,h,ρ,w,h',R,er,e,k⟩:=q0;obtain⟨x,h1,e1,e⟩:=ka e;refine⟨μ,h,ρ,x,h1,R,er,e1,λμ1 H1 E1 R1=>?_⟩;cases x with
  | true=>rw[zY rfl] at e ⊢;exact⟨μ1,h1,ρ,w,h',R1,er.ext R E1,e,λμ2 H2 E2 R2=>k μ2 H2 (E1.trans E2) R2⟩
  | false=>rw[kO zZ] at e ⊢;cases e;exact k μ1 H1 E1 R1
def Fc(ha:ST X cl a ta)(hb:SW X cl (.BoolOp .Or (b::rest) pos) tb):SW X cl (.BoolOp .Or (a::b::rest) pos) (hZ ta tb):=
 PW.wk (pw_or ha hb) λσ H Q q0=>by
  obtain⟨μ,h,ρ,w,h',R,er,e,k⟩:=q0;obtain⟨x,h1,e1,e⟩:=ka e;refine⟨μ,h,ρ,x,h1,R,er,e1,λμ1 H1 E1 R1=>?_⟩;cases x with
  | false=>rw[kO zZ] at e ⊢;exact⟨μ1,h1,ρ,w,h',R1,er.ext R E1,e,λμ2 H2 E2 R2=>k μ2 H2 (E1.trans E2) R2⟩
  | true=>rw[zY rfl] at e ⊢;cases e;exact k μ1 H1 E1 R1
def YI(h:SW X cl a ta):ST X cl a ta:=h.pt
def CF(ha:ST X cl a ta):ST X cl (.UnaryOp .Not a pos) (iG ta):=
 PT.wk (BO ha) λσ H Q q0=>by
  obtain⟨μ,h,ρ,w,h',R,er,e,k⟩:=q0;obtain⟨x,h1,e1,e⟩:=ka e;cases e;exact⟨μ,h,ρ,x,_,R,er,e1,λμ1 H1 E1 R1=>k μ1 H1 E1 R1⟩
def DM(ht:ST X cl t ta)(ha:SE X cl a ma)(hb:SE X cl b mb):SE X cl (.IfExp t a b pos) (ZG ta ma mb):=
 PE.wk (Ws ht ha hb) λσ H Q q0=>by
  obtain⟨μ,h,ρ,w,h',R,er,e,k⟩:=q0;obtain⟨x,h1,e1,e⟩:=ka e;refine⟨μ,h,ρ,x,h1,R,er,e1,λμ1 H1 E1 R1=>?_⟩;cases x with
  | true=>rw[zY rfl] at e ⊢;exact⟨μ1,h1,ρ,w,h',R1,er.ext R E1,e,k.ext E1⟩
  | false=>rw[kO zZ] at e ⊢;exact⟨μ1,h1,ρ,w,h',R1,er.ext R E1,e,k.ext E1⟩
variable{es:List Expr}{ms:List ME}{e:Expr}{m:ME}
def gX:SA X cl [] []:=PA.wk K6 λσ H Q q0=>by
 obtain⟨μ,h,ρ,ws,h',R,er,e,k⟩:=q0;cases e;exact k μ H [] .refl R .nil
def uW(ha:SE X cl e m)(hr:SA X cl es ms)(hs:starEach (e::es) X.env=(false,eval e X.env)::starEach es X.env:=by rfl):SA X cl (e::es) (m::ms):=
 PA.wk (nk ha hr hs) λσ H Q q0=>by
  obtain⟨μ,h,ρ,ws,h',R,er,e,k⟩:=q0;obtain⟨x,h1,e1,e⟩:=ka e;obtain⟨xs,h2,e2,e⟩:=ka e;cases e;exact⟨μ,h,ρ,x,h1,R,er,e1,λμ1 H1 vx E1 R1 rx=>⟨μ1,h1,ρ,xs,_,R1,er.ext R E1,e2,λμ2 H2 vs E2 R2 rs=>k μ2 H2 _ (E1.trans E2) R2 (.cons (rx.ext R1 E2) rs)⟩⟩
noncomputable def cap:Nat:=16000000
def um:cap<=sizeLine:=by decide
noncomputable def zv:List W->M W:=λws h=>if ws.length<=cap then some (.tup ws,h) else none
noncomputable def j2:List W->M W:=λws h=>if ws.length<=cap then some (.fls ws,h) else none
noncomputable def xW:List W->M W:=λws h=>if ws.length<=cap then some (.ref h.length,h++[.lst ws]) else none
theorem KQ.tup{K:PySem.W.Frag}{ws:List W}{xs:List V}{Q:VK}{p:Addr}(k:KQ K cl μ H h (.tup ws) Q)(R:HR K cl μ H h)(rs:RWs K μ H ws xs)(hp:H p=none):Q (.ref p) (upd H p (.tup xs)):=
 k μ _ _ (.side hp) (R.side hp) (.tup (SqT.of qk) (rs.ext R (.side hp)))
theorem KQ.lst{K:PySem.W.Frag}{ws:List W}{xs:List V}(k:KQ K cl μ H (h++[.lst ws]) (.ref h.length) Q)(R:HR K cl μ H h)(rs:RWs K μ H ws xs)(hp:H p=none):Q (.ref p) (upd H p (.lst xs)):=
 k (μ++[p]) _ _ (.new hp) (R.new hp ⟨xs,qk,rs.ext R (.new hp)⟩) (.ref (by rw[<-R.len];simp))
theorem KQ.fls{K:PySem.W.Frag}{ws:List W}{xs:List V}{Q:VK}{p:Addr}(k:KQ K cl μ H h (.fls ws) Q)(R:HR K cl μ H h)(rs:RWs K μ H ws xs)(hp:H p=none):Q (.ref p) (upd H p (.lst xs)):=
 k μ _ _ (.side hp) (R.side hp) (.fls (.inl ⟨.inl qk,R.fresh hp⟩) (rs.ext R (.side hp)))
def Bi{x1}(hs:SA X cl es ms):SE X cl (.Tuple es x1 pos) (zh zv ms):=
 PE.wk (BX hs) λσ H Q q0=>by
  obtain⟨μ,h,ρ,w,h',R,er,e,k⟩:=q0;obtain⟨ws,h1,e1,e⟩:=ka e;refine⟨μ,h,ρ,ws,h1,R,er,e1,λμ1 H1 vs E1 R1 rs=>?_⟩;unfold zv at e;split at e
  .rename_i hl
   cases e;exact⟨zR (by rw[<-rs.length];exact hl) um,λp hp=>(k.ext E1).tup R1 rs hp⟩
  .cases e
def By(hs:SA X cl es ms):SE X cl (.List es pos) (zh j2 ms):=
 PE.wk (J4 hs) λσ H Q q0=>by
  obtain⟨μ,h,ρ,w,h',R,er,e,k⟩:=q0;obtain⟨ws,h1,e1,e⟩:=ka e;refine⟨μ,h,ρ,ws,h1,R,er,e1,λμ1 H1 vs E1 R1 rs=>?_⟩;unfold j2 at e;split at e
  .rename_i hl
   cases e;exact⟨zR (by rw[<-rs.length];exact hl) um,λp hp=>(k.ext E1).fls R1 rs hp⟩
  .cases e
def BM(hs:SA X cl es ms):SE X cl (.List es pos) (zh xW ms):=
 PE.wk (J4 hs) λσ H Q q0=>by
  obtain⟨μ,h,ρ,w,h',R,er,e,k⟩:=q0;obtain⟨ws,h1,e1,e⟩:=ka e;refine⟨μ,h,ρ,ws,h1,R,er,e1,λμ1 H1 vs E1 R1 rs=>?_⟩;unfold xW at e;split at e
  .rename_i hl
   cases e;exact⟨zR (by rw[<-rs.length];exact hl) um,λp hp=>(k.ext E1).lst R1 rs hp⟩
  .cases e
end
noncomputable def xp(K:PySem.W.Frag)(cl:Cl)(f:List W->M W):Sp:=λvs H Q _=>rMs K cl f vs H Q
mutual
noncomputable def low(m:Nat):W->Bool
 | .tup l=>lows m l
 | .fls l=>lows m l
 | .ref n=>decide (n<m)
 | .fdc l=>nq m l
 | _=>true
noncomputable def nq(m:Nat):List (Key×W)->Bool
 | []=>true
 | (_,w)::r=>low m w&&nq m r
noncomputable def lows(m:Nat):List W->Bool
 | []=>true
 | w::r=>low m w&&lows m r
end
open Classical in
noncomputable def gc(f:List W->M W):List W->M W:=λws h=>match f ws h with
 | some (w,h')=>if h<+:h'/\w≠.non then (if low h.length w=true then some (w,h) else match w with
   | .ref n=>match h'[n]? with
    | some (.lst l)=>if lows h.length l=true then some (.fls l,h) else some (w,h')
    | _=>some (w,h')
   | _=>some (w,h')) else some (w,h')
 | none=>none
def xD{f:List W->M W}{h:MH}(e:f ws h=some (w,h'))(p:low h.length w=true)(q:h<+:h')(n:w≠.non\/h'=h:=by first | exact .inr rfl | exact .inl nofun):gc f ws h=some (w,h):=by
 unfold gc;rw[e];by_cases z:w=.non
 .have:=n.resolve_left (λy=>y z)
  subst this;simp only[z,ne_eq,not_true_eq_false,and_false,jj]
 .have c:h<+:h'/\w≠.non:=⟨q,z⟩
  simp only;rw[zY c,zY p]
def UV{f:List W->M W}{h h':MH}(e:f ws h=some (.ref n,h'))(q:h<+:h')(hn:h.length<=n)(o:h'[n]?=some (.lst l))(p:lows h.length l=true):gc f ws h=some (.fls l,h):=by
 unfold gc;rw[e];have b:low h.length (.ref n)=false:=by unfold low;simp;omega
 have c:h<+:h'/\W.ref n≠.non:=⟨q,nofun⟩;simp only;rw[zY c];simp only[b,kE,o,p,jE,jj]
theorem m6(m:Nat):∀l:List (Key×W),nq m l=lows m (l.map (·.2))
 | []=>by unfold nq lows;rfl
 | (k,w)::r=>by unfold nq;rw[m6 m r];simp only[zx];conv=>rhs;unfold lows
section
variable{K:PySem.W.Frag}{cl:Cl}{μ μ':List Addr}{H H':Hp}
mutual
theorem RW.low:∀{w:W} {v:V},RW K μ H w v->ML.low μ.length w=true
 | _,_,.non=>by unfold ML.low;rfl
 | _,_,.bl b=>by unfold ML.low;rfl
 | _,_,.int i=>by unfold ML.low;rfl
 | _,_,.str x=>by unfold ML.low;rfl
 | _,_,.tup s r=>by unfold ML.low;exact RWs.low r
 | _,_,.fls s r=>by unfold ML.low;exact RWs.low r
 | _,_,.fdc s k e1 e2 r=>by unfold ML.low;rw[m6,<-e1];exact RWs.low r
 | _,_,.fn=>by unfold ML.low;rfl
 | _,_,.ref e=>by unfold ML.low;simpa using (zT.mp e).1
theorem RWs.low:∀{l:List W} {vs:List V},RWs K μ H l vs->lows μ.length l=true
 | _,_,.nil=>by unfold lows;rfl
 | _,_,.cons r t=>by unfold lows;rw[RW.low r,RWs.low t];rfl
end
mutual
theorem RW.cut(pre:μ<+:μ'):∀{w:W} {v:V},ML.low μ.length w=true->RW K μ' H w v->RW K μ H w v
 | _,_,_,.non=>.non
 | _,_,_,.bl b=>.bl b
 | _,_,_,.int i=>.int i
 | _,_,_,.str x=>.str x
 | .tup l,_,p,.tup s r=>.tup s (RWs.cut pre (by unfold ML.low at p;exact p) r)
 | .fls l,_,p,.fls s r=>.fls (s.elim (λz=>.inl ⟨z.1,λq=>z.2 (pre.subset q)⟩) .inr) (RWs.cut pre (by unfold ML.low at p;exact p) r)
 | .fdc l,_,p,.fdc s k e1 e2 r=>.fdc ⟨s.1,λq=>s.2 (pre.subset q)⟩ k e1 e2 (RWs.cut pre (by unfold ML.low at p;rw[m6,<-e1] at p;exact p) r)
 | .fn _,_,_,.fn=>.fn
 | .ref n,_,p,.ref e=>by
  have p':n<μ.length:=by unfold ML.low at p;simpa using p
  obtain⟨t,rfl⟩:=pre;rw[zy p'] at e;exact .ref e
theorem RWs.cut(pre:μ<+:μ'):∀{l:List W} {vs:List V},lows μ.length l=true->RWs K μ' H l vs->RWs K μ H l vs
 | _,_,_,.nil=>.nil
 | w::l,_,p,.cons r t=>by
  have p':ML.low μ.length w=true/\lows μ.length l=true:=by unfold lows at p;simpa using p
  exact .cons (RW.cut pre p'.1 r) (RWs.cut pre p'.2 t)
end
theorem HR.cut(R:HR K cl μ H h)(E:Ext μ H μ' H')(R':HR K cl μ' H' h')(p:h<+:h'):HR K cl μ H' h:=by
 obtain⟨t,rfl⟩:=p;refine⟨R.len,R.nd,λn a o e1 e2=>?_⟩;have q:=R.ob n a o e1 e2;have q':=R'.ob n a o (E.get e1) (by rw[zy (zT.mp e2).1];exact e2);cases o with
 | lst l=>obtain⟨vs0,_,r0⟩:=q;obtain⟨vs,z,r⟩:=q';exact⟨vs,z,RWs.cut E.pre r0.low r⟩
 | dic l=>obtain⟨l0,_,_,r0⟩:=q;obtain⟨l',z,k,r⟩:=q';exact⟨l',z,k,RWs.cut E.pre r0.low r⟩
 | ins c fs=>obtain⟨_,fs0,_,_,r0⟩:=q;obtain⟨dx,fs',z,k,r⟩:=q';exact⟨dx,fs',z,k,RWs.cut E.pre r0.low r⟩
 | tdc ks=>obtain⟨_,_,_,_,_,r0⟩:=q;obtain⟨xs,z,k1,k2,k3,r⟩:=q';exact⟨xs,z,k1,k2,k3,RWs.cut E.pre r0.low r⟩
def Dm{f:List W->M W}(q:xp K cl (gc f) vs H Q E):xp K cl f vs H Q E:=by
 obtain⟨μ,h,ws,w,h',R,rs,e,k⟩:=q;unfold gc at e;split at e
 .rename_i w1 h1 e1
  have plain:∀{w h'},some (w1,h1)=some (w,h')->KQ K cl μ H h' w Q->xp K cl f vs H Q E:=λq k=>by cases q;exact⟨μ,h,ws,_,_,R,rs,e1,k⟩
  split at e
  .rename_i c
   replace c:=c.1
   have cut:∀{μ' H'},Ext μ H μ' H'->Ext μ H μ H':=λE'=>⟨zP _,λb o e n=>⟨(E'.fr b o e n).1,n⟩⟩
   split at e
   .rename_i p
    cases e;refine⟨μ,h,ws,_,h1,R,rs,e1,λμ' H' v E' R' r'=>?_⟩;exact k μ H' v (cut E') (R.cut E' R' c) (RW.cut E'.pre (by rw[R.len];exact p) r')
   .rename_i p
    split at e
    .rename_i n
     split at e
     .rename_i l ho
      split at e
      .rename_i pl
       cases e;refine⟨μ,h,ws,_,h1,R,rs,e1,λμ' H' v E' R' r'=>?_⟩;cases r' with
       | @ref _ a hm=>
        obtain⟨vs',hv,rv⟩:=R'.ob n a _ hm ho;refine k μ H' _ (cut E') (R.cut E' R' c) (.fls (.inl ⟨.inl hv,λz=>?_⟩) (RWs.cut E'.pre (by rw[R.len];exact pl) rv));obtain⟨m,hmm⟩:=jA.mp z;have h2:=E'.get hmm;have hlt:m<μ.length:=(zT.mp hmm).1;obtain⟨z1,z2⟩:=zT.mp h2;obtain⟨z3,z4⟩:=zT.mp hm;have:m=n:=(vf R'.nd).mp (z2.trans z4.symm);subst this;refine p ?_;unfold low;rw[R.len] at hlt;simpa using hlt
      .exact plain e k
     .exact plain e k
    .exact plain e k
  .exact plain e k
 .cases e
end
section
variable{X:Cx}{cl:Cl}{k:Nat}{f:Addr}{fd:FuncData}{ps:List Str}{x:Str}{p pos:Pos}{e:Expr}{es:List Expr}{g:List W->M W}{m:ME}{ms:List ME}
def dy{K:PySem.W.Frag}{f:List W->M W}{σ:L2.St}{H:Hp}(q:tM K cl (zh f ms) σ H Q):tMA K cl ms σ H λvs H1=>rMs K cl f vs H1 Q:=by
 obtain⟨μ,h,ρ,w,h',R,er,e,k⟩:=q;obtain⟨ws,h1,e1,e⟩:=ka e;exact⟨μ,h,ρ,ws,h1,R,er,e1,λμ1 H1 vs E1 R1 rs=>⟨μ1,h1,ws,w,h',R1,rs,e,k.ext E1⟩⟩
def YE(F:FnOk X.prog X.w X.K X.mg X.base uc k f fd ps (xp X.K cl g))(hr:Room k X.A)(hm:X.mg x=some (.ref f))(hk:PySem.W.keepIn X.K (.ref f)=true)(hb:Binds X.K fd ps [])
  (ha:SA X cl (e::es) ms) (hg:Gl X x:=by rfl) (hdb:(x==("__debug__":Str))=false:=by decide) (hst:starEach (e::es) X.env=(false,eval e X.env)::starEach es X.env:=by rfl) (hpl:(backTo pos (starEach es X.env)).any (·.1)=false:=by rfl):SE X cl (.Call (.Name x p) (e::es) [] pos) (zh g ms):=
 PE.wk (Xe F hr hg hm hk hb .nil iq ha hdb hst hpl) λσ H Q q=>by
  obtain⟨μ,h,ρ,ws,h1,R,er,e1,k1⟩:=dy q;exact⟨μ,h,ρ,ws,h1,R,er,e1,λμ1 H1 vs E1 R1 rs=>by show xp X.K cl g (vs++[]) H1 Q E0;rw[z9];exact k1 μ1 H1 vs E1 R1 rs⟩
def VE(F:FnOk X.prog X.w X.K X.mg X.base uc k f fd ps (xp X.K cl g))(hr:Room k X.A)(hm:X.mg x=some (.ref f))(hk:PySem.W.keepIn X.K (.ref f)=true)(hb:Binds X.K fd ps [])
  (hg:Gl X x:=by rfl) (hdb:(x==("__debug__":Str))=false:=by decide):SE X cl (.Call (.Name x p) [] [] pos) (zh g []):=
 PE.wk (Wl F hr hg hm hk hb .nil iq hdb) λσ H Q q=>by
  obtain⟨μ,h,ρ,ws,h1,R,er,e1,k1⟩:=dy q;cases e1;exact k1 μ H [] .refl R .nil
def Vc{id:String}(hc:yB X (.builtin id) (rMs X.K cl g))(hm:X.mg x=none)(hv:bootBuiltins x=some (.builtin id))(ha:SA X cl (e::es) ms)(hg:Gl X x:=by rfl)(hn:x≠"__name__":=by decide)(hdb:(x==("__debug__":Str))=false:=by decide)(hst:starEach (e::es) X.env=(false,eval e X.env)::starEach es X.env:=by rfl)(hpl:(backTo pos (starEach es X.env)).any (·.1)=false:=by rfl) :
  SE X cl (.Call (.Name x p) (e::es) [] pos) (zh g ms):=
 PE.wk (rJ hc hg hm hv ha hn hdb hst hpl) λσ H Q q=>dy q
def JL{id:String}(hc:yB X (.type id) (rMs X.K cl g))(hm:X.mg x=none)(hv:bootBuiltins x=some (.type id))(ha:SA X cl (e::es) ms)(hg:Gl X x:=by rfl)(hn:x≠"__name__":=by decide)(hdb:(x==("__debug__":Str))=false:=by decide)(hst:starEach (e::es) X.env=(false,eval e X.env)::starEach es X.env:=by rfl)(hpl:(backTo pos (starEach es X.env)).any (·.1)=false:=by rfl) :
  SE X cl (.Call (.Name x p) (e::es) [] pos) (zh g ms):=
 PE.wk (K9 hc hg hm hv ha hn hdb hst hpl) λσ H Q q=>dy q
end
inductive Fl where
 | nx (ρ:En) | ret (w:W) | bk (ρ:En) | ct (ρ:En)
abbrev MS:=En->MH->Option (Fl×MH)
abbrev MG:=W->En->M En
noncomputable def KF(K:PySem.W.Frag)(cl:Cl)(μ:List Addr)(H:Hp)(h':MH)(fl:Fl)(D:Ends):Prop:=∀μ' H',Ext μ H μ' H'->HR K cl μ' H' h'->match fl with
 | .nx ρ=>∀σ,ER K μ' H' ρ σ->D.nx σ H'
 | .ret w=>∀v,RW K μ' H' w v->D.rt v H'
 | .bk ρ=>∀σ,ER K μ' H' ρ σ->D.bk σ H'
 | .ct ρ=>∀σ,ER K μ' H' ρ σ->D.ct σ H'
inductive tMS(K:PySem.W.Frag)(cl:Cl)(m:MS)(D:Ends)(σ:L2.St)(H:Hp):Prop
 | mk (μ:List Addr) (h:MH) (ρ:En) (fl:Fl) (h':MH) (p0:HR K cl μ H h) (p1:ER K μ H ρ σ) (p2:m ρ h=some (fl,h')) (p3:KF K cl μ H h' fl D):tMS K cl m D σ H
abbrev SS(X:Cx)(cl:Cl)(st:Stmt)(m:MS):Prop:=PS X st (tMS X.K cl m)
abbrev SB(X:Cx)(cl:Cl)(st:List Stmt)(m:MS):Prop:=PSs X st (tMS X.K cl m)
inductive tMG(K:PySem.W.Frag)(cl:Cl)(g:MG)(v:V)(σ:L2.St)(H:Hp)(Q:L2.St->Hp->Prop):Prop
 | mk (μ:List Addr) (h:MH) (ρ:En) (w:W) (ρ':En) (h':MH) (p0:HR K cl μ H h) (p1:ER K μ H ρ σ) (p2:RW K μ H w v) (p3:g w ρ h=some (ρ',h')) (p4:∀μ' H' σ',Ext μ H μ' H'->HR K cl μ' H' h'->ER K μ' H' ρ' σ'->Q σ' H'):tMG K cl g v σ H Q
abbrev SG(X:Cx)(cl:Cl)(e:Expr)(g:MG):Prop:=PG X e (tMG X.K cl g)
def PG.wk(h:PG X e t)(w:∀v σ H Q,t' v σ H Q->t v σ H Q):PG X e t':=λpins s σ H v u Q I r q=>h pins s σ H v u Q I r (w v σ H Q q)
def KF.ext{K:PySem.W.Frag}{cl:Cl}{μ μ':List Addr}{H H':Hp}{D:Ends}(E:Ext μ H μ' H')(k:KF K cl μ H h fl D):KF K cl μ' H' h fl D:=λμ2 H2 E2 R2=>k μ2 H2 (E.trans E2) R2
theorem KF.nx{K:PySem.W.Frag}{cl:Cl}{μ:List Addr}{H:Hp}{D:Ends}(k:KF K cl μ H h (.nx ρ) D)(R:HR K cl μ H h)(er:ER K μ H ρ σ):D.nx σ H:=k μ H .refl R σ er
noncomputable def kN:MS:=λρ h=>some (.nx ρ,h)
noncomputable def zo(a b:MS):MS:=λρ h=>match a ρ h with
 | some (.nx ρ',h')=>b ρ' h'
 | r=>r
noncomputable def kr(m:ME):MS:=λρ h=>match m ρ h with
 | some (_,h')=>some (.nx ρ,h')
 | none=>none
noncomputable def ku(m:ME):MS:=λρ h=>match m ρ h with
 | some (w,h')=>some (.ret w,h')
 | none=>none
noncomputable def k8(t:MT)(a b:MS):MS:=λρ h=>match t ρ h with
 | some (c,h')=>if c=true then a ρ h' else b ρ h'
 | none=>none
noncomputable def zD(m:ME)(g:MG):MS:=λρ h=>match m ρ h with
 | some (w,h')=>match g w ρ h' with
  | some (ρ',h2)=>some (.nx ρ',h2)
  | none=>none
 | none=>none
noncomputable def zC(i:Nat):MG:=λw ρ h=>if i<ρ.length then some (ρ.set i (some w),h) else none
noncomputable def eK:List MG->List W->En->M En
 | [],[]=>λρ h=>some (ρ,h)
 | g::gs,w::ws=>λρ=>bnd (g w ρ) λρ'=>eK gs ws ρ'
 | _,_=>λ_ _=>none
noncomputable def bX(gs:List MG):MG:=λw=>match w with
 | .tup ws=>eK gs ws
 | .fls ws=>eK gs ws
 | _=>λ_ _=>none
section
variable{X:Cx}{cl:Cl}{st:Stmt}{rest:List Stmt}{a b:MS}{e:Expr}{m:ME}{pos:Pos}
theorem ER.set{K:PySem.W.Frag}{μ:List Addr}{H:Hp}{ρ:En}{σ:L2.St}{i:Nat}(er:ER K μ H ρ σ)(hi:i<ρ.length)(r:RW K μ H w v):ER K μ H (ρ.set i (some w)) (σ.set i (some v)):=by
 refine⟨by simp[er.len],λj w' e=>?_⟩;by_cases hj:j=i
 .subst hj
  rw[zH hi] at e;cases e;exact⟨v,by rw[zH (by rw[<-er.len];exact hi)],r⟩
 .rw[zF (kY hj)] at e
  obtain⟨v',e',r'⟩:=er.at_ j w' e;exact⟨v',by rw[zF (kY hj)];exact e',r'⟩
def CB:SB X cl [] kN:=PSs.wk Xz λD σ H q0=>by
 obtain⟨μ,h,ρ,fl,h',R,er,e,k⟩:=q0;cases e;exact k.nx R er
def U8(h1:SS X cl st a):SB X cl [st] a:=Uw h1
def Uj(h1:SS X cl st a)(h2:SB X cl rest b):SB X cl (st::rest) (zo a b):=PSs.wk (Wg h1 h2) λD σ H q0=>by
 obtain⟨μ,h,ρ,fl,h',R,er,e,k⟩:=q0;unfold zo at e;split at e
 .rename_i ρ1 h1 e1
  exact⟨μ,h,ρ,_,h1,R,er,e1,λμ1 H1 E1 R1 σ1 er1=>⟨μ1,h1,ρ1,fl,h',R1,er1,e,k.ext E1⟩⟩
 .rename_i r hr
  refine⟨μ,h,ρ,fl,h',R,er,e,λμ1 H1 E1 R1=>?_⟩;have k1:=k μ1 H1 E1 R1;cases fl with
  | nx ρ1=>exact absurd e (hr ρ1 h')
  | ret w=>exact k1
  | bk ρ1=>exact k1
  | ct ρ1=>exact k1
def XB:SS X cl (.Pass pos) kN:=PS.wk XQ λD σ H q0=>by
 obtain⟨μ,h,ρ,fl,h',R,er,e,k⟩:=q0;cases e;exact k.nx R er
def Uo(he:SE X cl e m)(hs:swapsWith e none pos.line X.env=pure false:=by rfl):SS X cl (.Expr e pos) (kr m):=PS.wk (XY he hs) λD σ H q0=>by
 obtain⟨μ,h,ρ,fl,h',R,er,e,k⟩:=q0;unfold kr at e;split at e
 .rename_i w h1 e1
  cases e;exact⟨μ,h,ρ,w,_,R,er,e1,λμ1 H1 v E1 R1 _=>k μ1 H1 E1 R1 σ (er.ext R E1)⟩
 .cases e
def U5(he:SE X cl e m):SS X cl (.Return (some e) pos) (ku m):=PS.wk (UP he) λD σ H q0=>by
 obtain⟨μ,h,ρ,fl,h',R,er,e,k⟩:=q0;unfold ku at e;split at e
 .rename_i w h1 e1
  cases e;exact⟨μ,h,ρ,w,_,R,er,e1,λμ1 H1 v E1 R1 r=>k μ1 H1 E1 R1 v r⟩
 .cases e
def Di{c:Expr}(hc:ST X cl c t)(ha:SB X cl sa a)(hb:SB X cl sb b):SS X cl (.If c sa sb pos) (k8 t a b):=PS.wk (Dj hc ha hb) λD σ H q0=>by
 obtain⟨μ,h,ρ,fl,h',R,er,e,k⟩:=q0;unfold k8 at e;split at e
 .rename_i c h1 e1
  refine⟨μ,h,ρ,c,h1,R,er,e1,λμ1 H1 E1 R1=>?_⟩;cases c with
  | true=>rw[zY rfl] at e ⊢;exact⟨μ1,h1,ρ,fl,h',R1,er.ext R E1,e,k.ext E1⟩
  | false=>rw[kO zZ] at e ⊢;exact⟨μ1,h1,ρ,fl,h',R1,er.ext R E1,e,k.ext E1⟩
 .cases e
def ZM(i:Nat)(hN:X.N.Nodup)(hi:X.N[i]?=some x:=by rfl)(hx:Loc X.env.scope x:=by first | exact Or.inl rfl | exact Or.inr rfl)(hf:X.fn x=true\/X.env.scope.names.lookup x=some .local:=by first | exact .inl rfl | exact .inr rfl | assumption):SG X cl (.Name x pos) (zC i):=
 PG.wk (X7 (i:=i) hN hi hx hf) λv σ H Q q0=>by
  obtain⟨μ,h,ρ,w,ρ',h',R,er,r,e,k⟩:=q0;unfold zC at e;split at e
  .rename_i hi
   cases e;exact k μ H _ .refl R (er.set hi r)
  .cases e
inductive tMGs(K:PySem.W.Frag)(cl:Cl)(gs:List MG)(vs:List V)(σ:L2.St)(H:Hp)(Q:L2.St->Hp->Prop):Prop
 | mk (μ:List Addr) (h:MH) (ρ:En) (ws:List W) (ρ':En) (h':MH) (p0:HR K cl μ H h) (p1:ER K μ H ρ σ) (p2:RWs K μ H ws vs) (p3:eK gs ws ρ h=some (ρ',h')) (p4:∀μ' H' σ',Ext μ H μ' H'->HR K cl μ' H' h'->ER K μ' H' ρ' σ'->Q σ' H'):tMGs K cl gs vs σ H Q
abbrev Jr(X:Cx)(cl:Cl)(es:List Expr)(gs:List MG):Prop:=PGs X es (tMGs X.K cl gs)
def PGs.wk(h:PGs X es t)(w:∀v σ H Q,t' v σ H Q->t v σ H Q):PGs X es t':=λpins s σ H v u Q I r q=>h pins s σ H v u Q I r (w v σ H Q q)
def YX:Jr X cl [] []:=PGs.wk YN λvs σ H Q q0=>by
 obtain⟨μ,h,ρ,ws,ρ',h',R,er,rs,e,k⟩:=q0;cases rs with
 | nil=>cases e;exact⟨rfl,k μ H _ .refl R er⟩
 | cons r t=>cases e
def VS(h1:SG X cl e g)(h2:Jr X cl es gs)
  (hs:(assignEach (e::es) X.env).map (·.2)=assign e X.env::(assignEach es X.env).map (·.2):=by rfl):Jr X cl (e::es) (g::gs):=PGs.wk (WD h1 h2 hs) λvs σ H Q q0=>by
 obtain⟨μ,h,ρ,ws,ρ',h',R,er,rs,e,k⟩:=q0;cases rs with
 | nil=>cases e
 | cons r t=>
  obtain⟨ρ1,h1,e1,e2⟩:=ka e;exact⟨_,_,rfl,μ,h,ρ,_,ρ1,h1,R,er,r,e1,λμ1 H1 σ1 E1 R1 er1=>⟨μ1,h1,ρ1,_,ρ',h',R1,er1,t.ext R E1,e2,λμ2 H2 σ2 E2 R2 er2=>k μ2 H2 σ2 (E1.trans E2) R2 er2⟩⟩
def pz:∀{gs:List MG} {l:List W} {ρ:En} {h:MH},eK gs l ρ h=some (ρ',h')->gs.length=l.length:=by
 intro gs;induction gs with
 | nil=>intro l ρ h e;cases l with | nil=>rfl | cons=>cases e
 | cons g gs ih=>
  intro l ρ h e;cases l with
  | nil=>cases e
  | cons w l=>
   obtain⟨ρ1,h1,e1,e2⟩:=ka e;simp only[zp];rw[ih e2]
def PG.or(h1:PG X e t1)(h2:PG X e t2)(k:∀v σ H Q,t v σ H Q->t1 v σ H Q\/t2 v σ H Q):PG X e t:=λpins s σ H v u Q I r q=>(k v σ H Q q).elim (h1 pins s σ H v u Q I r) (h2 pins s σ H v u Q I r)
def UB{gs:List MG}(hc:X.calm=true)(hg:Jr X cl es gs)
  (hl:(assignEach es X.env).length=gs.length:=by rfl) (hst:(assignEach es X.env).findIdx? (·.1)=none:=by rfl):SG X cl (.Tuple es n pos) (bX gs):=PG.or (Bj hc hg hl hst) (U9 hc hg hl hst) λv σ H Q q0=>by
 obtain⟨μ,h,ρ,w,ρ',h',R,er,r,e,k⟩:=q0;cases r with
 | @tup a vs l s rs=>
  have e':eK gs l ρ h=some (ρ',h'):=e;exact .inl ⟨a,vs,rfl,s,by rw[<-rs.length];exact(pz e').symm,μ,h,ρ,l,ρ',h',R,er,rs,e',k⟩
 | @fls a vs l s rs=>
  have e':eK gs l ρ h=some (ρ',h'):=e;exact .inr ⟨a,vs,rfl,s.sq,by rw[<-rs.length];exact(pz e').symm,μ,h,ρ,l,ρ',h',R,er,rs,e',k⟩
 | _=>cases e
def QD(he:SE X cl e m)(hg:SG X cl tg g)(hs:swapsWithSole [tg] e pos.line X.env=pure false:=by rfl)(hw:swappedStores [tg] e X.env=pure none:=by rfl)
  (h1:(assignEach [tg] X.env).map (·.2)=[assign tg X.env]:=by rfl):SS X cl (.Assign [tg] e pos) (zD m g):=PS.wk (Cz he hg hs hw h1) λD σ H q0=>by
 obtain⟨μ,h,ρ,fl,h',R,er,e,k⟩:=q0;unfold zD at e;split at e
 .rename_i w h1 e1
  split at e
  .rename_i ρ2 h2 e2
   cases e;exact⟨μ,h,ρ,w,h1,R,er,e1,λμ1 H1 v E1 R1 r=>⟨μ1,h1,ρ,w,ρ2,_,R1,er.ext R E1,r,e2,λμ2 H2 σ2 E2 R2 er2=>k μ2 H2 (E1.trans E2) R2 σ2 er2⟩⟩
  .cases e
 .cases e
def Cr(i:Nat)(hN:X.N.Nodup)(he:SE X cl e m)(hi:X.N[i]?=some x:=by rfl)(hx:Loc X.env.scope x:=by first | exact Or.inl rfl | exact Or.inr rfl)(hs:swapsWith e (some (.Name x pos')) pos.line X.env=pure false:=by rfl)
  (hf:X.fn x=true\/X.env.scope.names.lookup x=some .local:=by first | exact .inl rfl | exact .inr rfl | assumption):SS X cl (.Assign [.Name x pos'] e pos) (zD m (zC i)):=PS.wk (B7 (i:=i) hN hi hx he hs hf) λD σ H q0=>by
 obtain⟨μ,h,ρ,fl,h',R,er,e,k⟩:=q0;unfold zD at e;split at e
 .rename_i w h1 e1
  split at e
  .rename_i ρ2 h2 e2
   cases e;refine⟨μ,h,ρ,w,h1,R,er,e1,λμ1 H1 v E1 R1 r=>?_⟩;unfold zC at e2;split at e2
   .rename_i hi
    cases e2;exact k μ1 H1 E1 R1 _ ((er.ext R E1).set hi r)
   .cases e2
  .cases e
 .cases e
end
noncomputable def qo(c:MT)(b:MS):Nat->MS
 | 0=>λ_ _=>none
 | n+1=>λρ h=>match c ρ h with
  | some (true,h1)=>match b ρ h1 with
   | some (.nx ρ2,h2)=>qo c b n ρ2 h2
   | some (.ct ρ2,h2)=>qo c b n ρ2 h2
   | some (.bk ρ2,h2)=>some (.nx ρ2,h2)
   | some (.ret w,h2)=>some (.ret w,h2)
   | none=>none
  | some (false,h1)=>some (.nx ρ,h1)
  | none=>none
theorem u3{c:MT}:∀{n:Nat} {ρ:En} {h:MH} {r:Fl×MH},qo c b n ρ h=some r->∀k,qo c b (n+k) ρ h=some r
 | 0,_,_,_,e,_=>by cases e
 | n+1,ρ,h,r,e,k=>by
  rw[show n+1+k=(n+k)+1 by omega];unfold qo at e ⊢;cases e1:c ρ h with
  | none=>rw[e1] at e;cases e
  | some p=>
   obtain⟨t,h1⟩:=p;rw[e1] at e;cases t with
   | false=>exact e
   | true=>
    simp only at e ⊢;cases e2:b ρ h1 with
    | none=>rw[e2] at e;cases e
    | some q=>
     obtain⟨fl,h2⟩:=q;rw[e2] at e;cases fl with
     | nx ρ2=>exact u3 (n:=n) e k
     | ct ρ2=>exact u3 (n:=n) e k
     | bk ρ2=>exact e
     | ret w=>exact e
open Classical in
noncomputable def ul(c:MT)(b:MS):MS:=λρ h=>if q:∃n r,qo c b n ρ h=some r then some q.choose_spec.choose else none
def ah{c:MT}(e:qo c b n ρ h=some r):ul c b ρ h=some r:=by
 unfold ul;have q:∃n r,qo c b n ρ h=some r:=⟨n,r,e⟩;rw[dif_pos q];have e1:=q.choose_spec.choose_spec;have e2:=u3 e1 n;have e3:=u3 e q.choose;rw[q8] at e3;rw[e2] at e3;exact e3
def JD{c:MT}(e:ul c b ρ h=some r):∃n,qo c b n ρ h=some r:=by
 unfold ul at e;split at e
 .rename_i q
  have e1:=q.choose_spec.choose_spec;cases e;exact⟨_,e1⟩
 .cases e
section
variable{X:Cx}{cl:Cl}{pos:Pos}
def Vd{c:Expr}(hc:ST X cl c t)(hb:SB X cl body b)(hp:PassesOwn (model X.prog X.w) X.A X.env X.xe:=by exact wR):SS X cl (.While c body [] pos) (ul t b):=PS.wk (Wp hp hc hb) λD σ H q0=>by
 obtain⟨μ,h,ρ,fl,h',R,er,e,k⟩:=q0;obtain⟨n0,e⟩:=JD e;refine⟨λn σ H=>∃μ h ρ fl h',HR X.K cl μ H h/\ER X.K μ H ρ σ/\qo t b n ρ h=some (fl,h')/\KF X.K cl μ H h' fl D,⟨n0,μ,h,ρ,fl,h',R,er,e,k⟩,?_⟩;rintro n σ H ⟨μ,h,ρ,fl,h',R,er,e,k⟩;cases n with
 | zero=>cases e
 | succ n=>
  unfold qo at e;cases e1:t ρ h with
  | none=>rw[e1] at e;cases e
  | some p=>
   obtain⟨c,h1⟩:=p;rw[e1] at e;refine⟨μ,h,ρ,c,h1,R,er,e1,λμ1 H1 E1 R1=>?_⟩;cases c with
   | false=>
    rw[kO zZ];cases e;exact k μ1 H1 E1 R1 σ (er.ext R E1)
   | true=>
    rw[zY rfl];refine⟨λσ' H'=>∃μ h ρ fl h',HR X.K cl μ H' h/\ER X.K μ H' ρ σ'/\qo t b n ρ h=some (fl,h')/\KF X.K cl μ H' h' fl D,λσ' H' q=>⟨n,jT n,q⟩,?_⟩;simp only at e;cases e2:b ρ h1 with
    | none=>rw[e2] at e;cases e
    | some q=>
     obtain⟨f2,h2⟩:=q;rw[e2] at e;refine⟨μ1,h1,ρ,f2,h2,R1,er.ext R E1,e2,λμ2 H2 E2 R2=>?_⟩;cases f2 with
     | nx ρ2=>exactλσ2 er2=>⟨μ2,h2,ρ2,fl,h',R2,er2,e,k.ext (E1.trans E2)⟩
     | ct ρ2=>exactλσ2 er2=>⟨μ2,h2,ρ2,fl,h',R2,er2,e,k.ext (E1.trans E2)⟩
     | bk ρ2=>cases e;exactλσ2 er2=>k μ2 H2 (E1.trans E2) R2 σ2 er2
     | ret w=>cases e;exactλv rv=>k μ2 H2 (E1.trans E2) R2 v rv
end
inductive Src where
 | items (l:List W) | live (n:Nat)
noncomputable def xN(s:Src)(i:Nat)(h:MH):Option (Option W):=match s with
 | .items l=>some l[i]?
 | .live n=>match h[n]? with
  | some (.lst l)=>some l[i]?
  | _=>none
noncomputable def JR(K:PySem.W.Frag)(cl:Cl)(J:It)(s:Src)(μ:List Addr)(H:Hp):Prop:=∀μ2 H2 h2,Ext μ H μ2 H2->HR K cl μ2 H2 h2->∀i,
 (∀w,xN s i h2=some (some w)->J.go i H2/\∀x H3,J.yld i H2 x H3->Ext μ2 H2 μ2 H3/\HR K cl μ2 H3 h2/\RW K μ2 H3 w x)/\(xN s i h2=some none->J.stop i H2)
abbrev MI:=En->M Src
inductive tMI(K:PySem.W.Frag)(cl:Cl)(m:MI)(σ:L2.St)(H:Hp)(R:It->Hp->Prop):Prop
 | mk (μ:List Addr) (h:MH) (ρ:En) (src:Src) (h':MH) (p0:HR K cl μ H h) (p1:ER K μ H ρ σ) (p2:m ρ h=some (src,h')) (p3:∀μ' H' J,Ext μ H μ' H'->HR K cl μ' H' h'->JR K cl J src μ' H'->R J H'):tMI K cl m σ H R
abbrev SI(X:Cx)(cl:Cl)(tg e:Expr)(m:MI):Prop:=PI X tg e (tMI X.K cl m)
def PI.wk(h:PI X tg e t)(w:∀σ H Q,t' σ H Q->t σ H Q):PI X tg e t':=λpins s σ H Q I q=>h pins s σ H Q I (w σ H Q q)
def JR.ext{K:PySem.W.Frag}{cl:Cl}{J:It}{H:Hp}(E:Ext μ H μ' H')(j:JR K cl J s μ H):JR K cl J s μ' H':=λμ2 H2 h2 E2=>j μ2 H2 h2 (E.trans E2)
noncomputable def uT(s:Src)(g:MG)(b:MS):Nat->Nat->MS
 | 0,_=>λ_ _=>none
 | k+1,i=>λρ h=>match xN s i h with
  | some (some w)=>match g w ρ h with
   | some (ρ1,h1)=>match b ρ1 h1 with
    | some (.nx ρ2,h2)=>uT s g b k (i+1) ρ2 h2
    | some (.ct ρ2,h2)=>uT s g b k (i+1) ρ2 h2
    | some (.bk ρ2,h2)=>some (.nx ρ2,h2)
    | some (.ret w,h2)=>some (.ret w,h2)
    | none=>none
   | none=>none
  | some none=>some (.nx ρ,h)
  | none=>none
noncomputable def forL(g:MG)(b:MS):List W->MS
 | []=>λρ h=>some (.nx ρ,h)
 | w::r=>λρ h=>match g w ρ h with
  | some (ρ1,h1)=>match b ρ1 h1 with
   | some (.nx ρ2,h2)=>forL g b r ρ2 h2
   | some (.ct ρ2,h2)=>forL g b r ρ2 h2
   | some (.bk ρ2,h2)=>some (.nx ρ2,h2)
   | some (.ret w,h2)=>some (.ret w,h2)
   | none=>none
  | none=>none
theorem gp(l:List W):∀(k i:Nat) (ρ:En) (h:MH),l.length+1<=i+k->i<=l.length->uT (.items l) g b k i ρ h=forL g b (l.drop i) ρ h
 | 0,i,ρ,h,hk,hi=>by omega
 | k+1,i,ρ,h,hk,hi=>by
  by_cases hl:i<l.length
  .rw[qJ hl]
   unfold uT forL;simp only[xN,zB hl];cases e1:g l[i] ρ h with
   | none=>rfl
   | some p=>
    obtain⟨ρ1,h1⟩:=p;simp only;cases e2:b ρ1 h1 with
    | none=>rfl
    | some q=>
     obtain⟨fl,h2⟩:=q;cases fl with
     | nx ρ2=>exact gp l k (i+1) ρ2 h2 ∅ hl
     | ct ρ2=>exact gp l k (i+1) ρ2 h2 ∅ hl
     | bk ρ2=>rfl
     | ret w=>rfl
  .have hi':i=l.length:=by omega
   subst hi';rw[yg];unfold uT forL;simp[xN]
noncomputable def fq(s:Src)(h:MH):Nat:=match s with
 | .items l=>l.length
 | .live n=>match h[n]? with
  | some (.lst l)=>l.length
  | _=>0
noncomputable def xR(mi:MI)(g:MG)(b:MS):MS:=λρ h=>match mi ρ h with
 | some (.items l,h1)=>forL g b l ρ h1
 | some (.live n,h1)=>uT (.live n) g b (fq (.live n) h1+1) 0 ρ h1
 | none=>none
section
variable{X:Cx}{cl:Cl}{pos:Pos}
def rZ{K:PySem.W.Frag}{J:It}{src:Src}{g:MG}{b:MS}{D:Ends}{σ:L2.St}{H:Hp}(R:HR K cl μ H h)(er:ER K μ H ρ σ)(j:JR K cl J src μ H)(e:uT src g b k0 0 ρ h=some (fl,h'))
  (k:KF K cl μ H h' fl D):∃W:Nat->Nat->L2.St->Hp->Prop,(∃m,W 0 m σ H)/\∀i m σ H,W i m σ H->
   (J.stop i H/\D.nx σ H)\/(J.go i H/\∃N:L2.St->Hp->Prop,(∀σ' H',N σ' H'->∃m',m'<m/\W (i+1) m' σ' H')/\∀x H',J.yld i H x H'->tMG K cl g x σ H' λσ2 H2=>tMS K cl b { D with nx:=N,ct:=N,bk:=D.nx } σ2 H2):=by
 refine⟨λi m σ H=>∃μ h ρ fl h',HR K cl μ H h/\ER K μ H ρ σ/\JR K cl J src μ H/\uT src g b m i ρ h=some (fl,h')/\KF K cl μ H h' fl D,⟨k0,μ,h,ρ,fl,h',R,er,j,e,k⟩,?_⟩;rintro i m σ H ⟨μ,h,ρ,fl,h',R,er,j,e,k⟩;cases m with
 | zero=>cases e
 | succ m=>
  unfold uT at e;obtain⟨jg,js⟩:=j μ H h .refl R i;cases es:xN src i h with
  | none=>rw[es] at e;cases e
  | some o=>
   rw[es] at e;cases o with
   | none=>
    cases e;exact .inl ⟨js es,k.nx R er⟩
   | some w=>
    obtain⟨go,yl⟩:=jg w es;simp only at e;cases e1:g w ρ h with
    | none=>rw[e1] at e;cases e
    | some p=>
     obtain⟨ρ1,h1⟩:=p;rw[e1] at e;simp only at e;cases e2:b ρ1 h1 with
     | none=>rw[e2] at e;cases e
     | some q=>
      obtain⟨f2,h2⟩:=q;rw[e2] at e;refine .inr ⟨go,λσ' H'=>∃μ h ρ fl h',HR K cl μ H' h/\ER K μ H' ρ σ'/\JR K cl J src μ H'/\uT src g b m (i+1) ρ h=some (fl,h')/\KF K cl μ H' h' fl D,λσ' H' q=>⟨m,jT m,q⟩,λx H1 y1=>?_⟩;obtain⟨E1,R1,rx⟩:=yl x H1 y1;refine⟨μ,h,ρ,w,ρ1,h1,R1,er.ext R E1,rx,e1,λμ2 H2 σ2 E2 R2 er2=>⟨μ2,h1,ρ1,f2,h2,R2,er2,e2,λμ3 H3 E3 R3=>?_⟩⟩;have E:=E1.trans (E2.trans E3);cases f2 with
      | nx ρ2=>exactλσ3 er3=>⟨μ3,h2,ρ2,fl,h',R3,er3,j.ext E,e,k.ext E⟩
      | ct ρ2=>exactλσ3 er3=>⟨μ3,h2,ρ2,fl,h',R3,er3,j.ext E,e,k.ext E⟩
      | bk ρ2=>cases e;exactλσ3 er3=>k μ3 H3 E R3 σ3 er3
      | ret w=>cases e;exactλv rv=>k μ3 H3 E R3 v rv
def Ux(hc:X.calm=true)(hi:SI X cl tg iter mi)(hg:SG X cl tg g)(hb:SB X cl body b)
  (hs:∀x,foldedSetIterable iter X.env x=pure x:=by intro _;rfl) (hp:PassesOwn (model X.prog X.w) X.A X.env X.xe:=by exact wR):SS X cl (.For tg iter body [] pos) (xR mi g b):=PS.wk (CS hp hc hi hg hb hs) λD σ H q0=>by
 obtain⟨μ,h,ρ,fl,h',R,er,e,k⟩:=q0;unfold xR at e;split at e
 .rename_i l h1 e1
  refine⟨μ,h,ρ,.items l,h1,R,er,e1,λμ1 H1 J E1 R1 j=>?_⟩;have q:=gp (g:=g) (b:=b) l (l.length+1) 0 ρ h1 ∅ ∅;rw[wG,e] at q;exact rZ R1 (er.ext R E1) j q (k.ext E1)
 .rename_i n h1 e1
  exact⟨μ,h,ρ,.live n,h1,R,er,e1,λμ1 H1 J E1 R1 j=>rZ R1 (er.ext R E1) j e (k.ext E1)⟩
 .cases e
end
noncomputable def kd(np k:Nat)(b:MS):List W->M W:=λws h=>if ws.length=np then (match b (ws.map some++List.replicate k none) h with
 | some (.ret w,h')=>some (w,h')
 | some (.nx _,h')=>some (.non,h')
 | _=>none) else none
section
variable{P:Program}{w:World}{K:PySem.W.Frag}{mg:Str->Option Value}{base:Heap}{cl:Cl}
def sE{H:Hp}{N:List Str}{ws:List W}{vs:List V}(rs:RWs K μ H ws vs)(hk:N.length-vs.length=k):ER K μ H (ws.map some++List.replicate k none) (L2.start N vs):=by
 subst hk;unfold L2.start;refine⟨by simp[rs.length],λi w e=>?_⟩;by_cases hi:i<ws.length
 .rw[zy (by simpa using hi),je] at e
  cases e1:ws[i]? with
  | none=>rw[e1] at e;cases e
  | some w'=>
   rw[e1] at e;cases e;obtain⟨v,e2,r⟩:=rs.get e1;exact⟨v,by rw[zy (by rw[zO,<-rs.length];exact hi),je,e2];rfl,r⟩
 .rw[zG (by simpa using hi),qi] at e
  split at e<;>cases e
def Dn{x qual:Str}{st:Stmt}{f:Addr}{fd:FuncData}{N ps:List Str}{np:Nat}(F:Fun K x qual st f fd)(S:FnScope N ps (kB st))(hnp:ps.length=np)(hns:N.length-np=ns)
  (hb:∀(cdv:Value) (A:Around) (outer:List Env) (s:Shared) (H:Hp) (E:XK),Room k (A.deeper (envOfC qual (kB st) s.heap.objs.size f cdv))->
   SB (gW uc P w K mg base N qual (kB st) f cdv A outer s H E).nox cl (kS st) b):FnOk P w K mg base uc (k+1) f fd ps (xp K cl (gc (kd np ns b))):=by
 have len:∀vs H Q E,xp K cl (kd np ns b) vs H Q E->vs.length=ps.length:=by
  rintro vs H Q E ⟨μ,h,ws,w,h',R,rs,e,k⟩;unfold kd at e;split at e
  .rename_i hl
   rw[hnp,<-hl,rs.length]
  .cases e
 refine FnOk.imp (sp:=xp K cl (kd np ns b)) (F.ok S len λcdv A outer s H vs Q E hr hsp=>⟨_,hb cdv A outer s H E hr,?_⟩) λvs H Q E q=>Dm (E:=E) q
 have hlen:=len _ _ _ _ hsp;obtain⟨μ,h,ws,w,h',R,rs,e,k⟩:=hsp;unfold kd at e;split at e
 .rename_i hl
  split at e
  .rename_i w1 h1 e1
   cases e;exact⟨μ,h,_,_,_,R,sE rs (by rw[hlen,hnp];exact hns),e1,λμ1 H1 E1 R1 v rv=>k μ1 H1 v E1 R1 rv⟩
  .rename_i ρ1 h1 e1
   cases e;exact⟨μ,h,_,_,_,R,sE rs (by rw[hlen,hnp];exact hns),e1,λμ1 H1 E1 R1 σ1 _=>k μ1 H1 .non E1 R1 .non⟩
  .cases e
 .cases e
end
noncomputable def getL(h:MH):W->Option (List W)
 | .fls l=>some l
 | .ref n=>match h[n]? with
  | some (.lst l)=>some l
  | _=>none
 | _=>none
section
variable{K:PySem.W.Frag}{cl:Cl}{μ:List Addr}{H:Hp}{h:MH}
def xb(R:HR K cl μ H h)(r:RW K μ H w v)(e:getL h w=some l):∃a vs,v=.ref a/\SqL K H a vs/\RWs K μ H l vs:=by
 cases r with
 | @fls a vs l' s rs=>cases e;exact⟨a,vs,rfl,s.sq,rs⟩
 | @ref n a hn=>
  simp only[getL] at e;split at e
  .rename_i l' ho
   cases e;obtain⟨vs,hv,rs⟩:=R.ob n a _ hn ho;exact⟨a,vs,rfl,SqL.of hv,rs⟩
  .cases e
 | _=>cases e
theorem RW.int_of{i:Int}(r:RW K μ H (.int i) v):v=.int i:=by cases r;rfl
theorem RW.str_of{i:Str}(r:RW K μ H (.str i) v):v=.str i:=by cases r;rfl
def RW.tup_of(r:RW K μ H (.tup l) v):∃a vs,v=.ref a/\SqT K H a vs/\RWs K μ H l vs:=by cases r with | @tup a vs l s rs=>exact⟨a,vs,rfl,s,rs⟩
end
noncomputable def kU(x y:W):Option W:=match x,y with
 | .int i,.int j=>some (.int (i+j))
 | .tup l,.tup l'=>if l.length+l'.length<=cap then some (.tup (l++l')) else none
 | _,_=>none
noncomputable def addW(x y:W):M W:=λh=>match kU x y with
 | some w=>some (w,h)
 | none=>match getL h x,getL h y with
  | some l,some l'=>if l.length+l'.length<=cap then some (.fls (l++l'),h) else none
  | _,_=>none
section
variable{prog:Program}{w:World}{A:Around}{E:Value->Shared->Prop}{s:Shared}
def QQ{vs ws:List Value}(ht:s.heap.IsList t vs.toArray)(hb:s.heap.IsList b ws.toArray)
  (h2:Q (.ref s.heap.objs.size) { s with heap:=s.heap.push { cls:=.type "list",data:=.seq (vs++ws).toArray } })
  (hsz:vs.length+ws.length<=sizeLine):wpAny (model prog w) A (binaryOp .Add (.ref t) (.ref b)) Q E s:=by
 obtain⟨⟨cls,dd,data,sl⟩,ho,hc,n,hd⟩:=id ht;obtain⟨⟨cls2,dd2,data2,sl2⟩,ho2,hc2,n2,hd2⟩:=id hb;simp only at hc hd hc2 hd2;subst hc hd hc2 hd2;have e:vs.toArray++ws.toArray=(vs++ws).toArray:=by simp
 refine yD ⟨_,ho,rfl⟩ ⟨_,ho2,rfl⟩ noFill_list_add seq_list_add PySem.F.slot_list_add PySem.F.entry_list_add (PySem.F.args_list_add_2 _ _)
  (list_addW t b vs.toArray ws.toArray n n2 dd dd2 sl sl2 (by rw[zK,zK];exact hsz)) ⟨ho,ho2,?_⟩
 rw[e];exact h2
def QJ{ws:List Value}(ht:IsTup s.heap t ([]:List Value).toArray)(hb:IsTup s.heap b ws.toArray)(h1:Q (.ref b) s) :
  wpAny (model prog w) A (binaryOp .Add (.ref t) (.ref b)) Q E s:=by
 obtain⟨⟨cls,dd,data,sl⟩,ho,hc,n,hd⟩:=id ht;obtain⟨⟨cls2,dd2,data2,sl2⟩,ho2,hc2,n2,hd2⟩:=id hb;simp only at hc hd hc2 hd2;subst hc hd hc2 hd2;exact yD ⟨_,ho,rfl⟩ ⟨_,ho2,rfl⟩ yG seq_tuple_add wg vX (vU _ _)
  (tuple_addW0 t b _ ws.toArray n n2 dd dd2 sl sl2 rfl) ⟨ho,ho2,h1⟩
end
section
variable{X:Cx}{cl:Cl}
def Ua{P:List W->MH->W->MH->Prop}{H:Hp}{l l':List W}(I:Inv X pins σ H s)(rx:RelV x v)(ry:RelV y u)
  (R:HR X.K cl μ H h) (ax:RW X.K μ H wx x) (ay:RW X.K μ H wy y) (e1:getL h wx=some l) (e2:getL h wy=some l') (hl:l.length+l'.length<=cap)
  (k:∀p xs,H p=none->RWs X.K μ H (l++l') xs->Q (.ref p) (upd H p (.lst xs))):wpAny (model X.prog X.w) X.A (binaryOp .Add v u) (EP X pins σ Q) X.xe s:=by
 obtain⟨a,vs,rfl,sa,ra⟩:=xb R ax e1;obtain⟨b,vs',rfl,sb,rb⟩:=xb R ay e2;cases rx;cases ry;obtain⟨its,r1,p1,_⟩:=I.list sa;obtain⟨its2,r2,p2,_⟩:=I.list sb;have hz:vs.length+vs'.length<=sizeLine:=zR (by rw[<-ra.length,<-rb.length];exact hl) um;refine QQ p1.isList p2.isList ?_ (by rw[<-r1.length,<-r2.length];exact hz);exact⟨.ref _,_,I.lnew (t':=s.toks) (r1.append r2) (by rw[zN];exact hz),rfl,k _ _ I.fresh (ra.append rb)⟩
def Y3:qh X (binaryOp .Add) (rM X.K cl addW):=by
 rintro pins s σ H x y v u Q I rx ry ⟨μ,h,wx,wy,w,h',R,ax,ay,e,k⟩;unfold addW at e;split at e
 .rename_i w' e'
  cases e;unfold kU at e';split at e'
  .rename_i i j
   cases e';exact CZ pins s σ H x y v u Q I rx ry ⟨i,j,ax.int_of,ay.int_of,k.pure R (.int _)⟩
  .rename_i l l'
   split at e'
   .rename_i hl
    cases e';obtain⟨a,vs,rfl,sa,ra⟩:=ax.tup_of;obtain⟨b,vs',rfl,sb,rb⟩:=ay.tup_of;by_cases hv:vs=[]
    .subst hv
     cases ra;cases rx;cases ry;obtain⟨its,r1,p1,_⟩:=I.tuple sa;obtain⟨its2,r2,p2,_⟩:=I.tuple sb;cases r1;exact QJ p1 p2 ⟨.ref b,H,I,rfl,k.pure R (.tup sb rb)⟩
    .refine YS pins s σ H _ _ v u Q I rx ry ⟨a,b,vs,vs',rfl,rfl,sa,sb,hv,zR (by rw[<-ra.length,<-rb.length];exact hl) um,λz=>?_,λ_ p hp=>k.tup R (ra.append rb) hp⟩
     subst z;cases rb;rw[z9] at k;exact k.pure R (.tup sa ra)
   .cases e'
  .cases e'
 .split at e
  .rename_i l l' e1 e2
   split at e
   .rename_i hl
    cases e;exact Ua (P:=λ_ _ _ _=>True) I rx ry R ax ay e1 e2 hl λp xs hp rs=>k.fls R rs hp
   .cases e
  .cases e
end
noncomputable def xJ(x y:W):M W:=λh=>match x,y with
 | .int i,.int j=>some (.int (i-j),h)
 | _,_=>none
noncomputable def small(i:Int):Bool:=decide (-(2 ^ 64)<i/\i<2 ^ 64)
noncomputable def kC(x y:W):M W:=λh=>match x,y with
 | .int i,.int j=>if (small i||small j)=true then some (.int (i*j),h) else none
 | .tup l,.int j=>if 0<=j/\j<=1000/\l.length<=1000 then some (.tup (List.replicate j.toNat l).flatten,h) else none
 | .fls l,.int j=>if 0<=j/\j<=1000000/\l.length<=10 then some (.fls (List.replicate j.toNat l).flatten,h) else none
 | _,_=>none
noncomputable def yv(x y:W):M W:=λh=>match x,y with
 | .int i,.int j=>if 0<j then some (.int (i%j),h) else none
 | _,_=>none
noncomputable def uM(x y:W):M W:=λh=>match x,y with
 | .int i,.int j=>if 0<j/\j<1073741824 then some (.int (i/j),h) else none
 | _,_=>none
noncomputable def vE(p:Int->Int->Bool)(x y:W):M W:=λh=>match x,y with
 | .int i,.int j=>some (.bl (p i j),h)
 | _,_=>none
noncomputable def gU(x:W):M W:=λh=>match x with
 | .int i=>some (.int (-i),h)
 | _=>none
noncomputable def y0(b:Bool)(x y:W):M W:=λh=>match x,y with
 | .non,.non=>some (.bl b,h)
 | .tup _,.non=>some (.bl (!b),h)
 | .fls _,.non=>some (.bl (!b),h)
 | .int _,.non=>some (.bl (!b),h)
 | .str _,.non=>some (.bl (!b),h)
 | .bl _,.non=>some (.bl (!b),h)
 | .ref _,.non=>some (.bl (!b),h)
 | _,_=>none
section
variable{X:Cx}{cl:Cl}
def Xa:qh X (binaryOp .Sub) (rM X.K cl xJ):=by
 rintro pins s σ H x y v u Q I rx ry ⟨μ,h,wx,wy,w,h',R,ax,ay,e,k⟩;unfold xJ at e;split at e
 .cases e;exact Cc pins s σ H x y v u Q I rx ry ⟨_,_,ax.int_of,ay.int_of,k.pure R (.int _)⟩
 .cases e
def XM:qh X (binaryOp .Mod) (rM X.K cl yv):=by
 rintro pins s σ H x y v u Q I rx ry ⟨μ,h,wx,wy,w,h',R,ax,ay,e,k⟩;unfold yv at e;split at e
 .split at e
  .rename_i hj;cases e;exact Bu pins s σ H x y v u Q I rx ry ⟨_,_,ax.int_of,ay.int_of,hj,k.pure R (.int _)⟩
  .cases e
 .cases e
def Ui:qh X (binaryOp .FloorDiv) (rM X.K cl uM):=by
 rintro pins s σ H x y v u Q I rx ry ⟨μ,h,wx,wy,w,h',R,ax,ay,e,k⟩;unfold uM at e;split at e
 .split at e
  .rename_i hj;cases e;exact XD pins s σ H x y v u Q I rx ry ⟨_,_,ax.int_of,ay.int_of,hj,k.pure R (.int _)⟩
  .cases e
 .cases e
def nC(ho:qh X (compareOp op) (om λi j=>.bl (p i j))):qh X (compareOp op) (rM X.K cl (vE p)):=by
 rintro pins s σ H x y v u Q I rx ry ⟨μ,h,wx,wy,w,h',R,ax,ay,e,k⟩;unfold vE at e;split at e
 .cases e;exact ho pins s σ H x y v u Q I rx ry ⟨_,_,ax.int_of,ay.int_of,k.pure R (.bl _)⟩
 .cases e
def B2:qh X (compareOp .Lt) (rM X.K cl (vE λi j=>decide (i<j))):=nC DS
def BQ:qh X (compareOp .LtE) (rM X.K cl (vE λi j=>decide (i<=j))):=nC DA
def Cj:qh X (compareOp .Gt) (rM X.K cl (vE λi j=>decide (j<i))):=nC DY
def YF:JW X (unaryOp .USub) (rM1 X.K cl gU):=by
 rintro pins s σ H x v Q I rx ⟨μ,h,wx,w,h',R,ax,e,k⟩;unfold gU at e;split at e
 .cases e;exact Bg pins s σ H x v Q I rx ⟨_,ax.int_of,k.pure R (.int _)⟩
 .cases e
def lV{K:PySem.W.Frag}{μ:List Addr}{H:Hp}{h h':MH}(ax:RW K μ H wx x)(ay:RW K μ H wy y)(e:y0 b wx wy h=some (w,h')):h=h'/\y=.non/\w=.bl (if b then decide (x=.non) else !decide (x=.non)):=by
 unfold y0 at e;split at e<;>first | (cases e;cases ax;cases ay;refine⟨rfl,rfl,?_⟩;cases b<;>simp) | cases e
def Br:qh X (compareOp .Is) (rM X.K cl (y0 true)):=by
 rintro pins s σ H x y v u Q I rx ry ⟨μ,h,wx,wy,w,h',R,ax,ay,e,k⟩;obtain⟨rfl,hy,rfl⟩:=lV ax ay e;exact Bl pins s σ H x y v u Q I rx ry ⟨hy,k.pure R (.bl _)⟩
def Jf:qh X (compareOp .IsNot) (rM X.K cl (y0 false)):=by
 rintro pins s σ H x y v u Q I rx ry ⟨μ,h,wx,wy,w,h',R,ax,ay,e,k⟩;obtain⟨rfl,hy,rfl⟩:=lV ax ay e;exact Ud pins s σ H x y v u Q I rx ry ⟨hy,k.pure R (.bl _)⟩
end
noncomputable def kT(ws:List W):M W:=λh=>match ws with
 | [.tup l]=>some (.int l.length,h)
 | [w]=>match getL h w with
  | some l=>some (.int l.length,h)
  | none=>none
 | _=>none
noncomputable def zw(x y:W):M W:=λh=>match x,y with
 | .tup l,.int i=>match atI l i with
  | some w=>some (w,h)
  | none=>none
 | .str z,.int i=>if z.length<=cap then (match atI z.cps.toList i with
  | some c=>some (.str ⟨#[c]⟩,h)
  | none=>none) else none
 | x,.int i=>match getL h x with
  | some l=>match atI l i with
   | some w=>some (w,h)
   | none=>none
  | none=>none
 | _,_=>none
noncomputable def cutW(l:List W)(lo hi:Option Int):List W:=(l.drop (HT.sIx l.length 0 lo)).take (HT.sIx l.length l.length hi-HT.sIx l.length 0 lo)
theorem RWs.atI{K:PySem.W.Frag}{μ:List Addr}{H:Hp}{l:List W}{i:Int}(rs:RWs K μ H l vs)(e:L2.atI l i=some w):∃v,L2.atI vs i=some v/\RW K μ H w v:=by
 unfold L2.atI at e ⊢;rw[<-rs.length];cases q:xB l.length i with
 | none=>rw[q] at e;cases e
 | some j=>
  rw[q] at e;exact rs.get e
theorem RWs.cutW{K:PySem.W.Frag}{μ:List Addr}{H:Hp}(rs:RWs K μ H l vs)(lo hi:Option Int):RWs K μ H (cutW l lo hi) (cy vs lo hi):=by
 unfold ML.cutW cy;rw[<-rs.length];exact(rs.drop _).take _
section
variable{X:Cx}{cl:Cl}{a b:Expr}{ma mb:ME}{pos:Pos}
def QE:yB X (.builtin "len") (rMs X.K cl kT):=by
 rintro pins s σ H xs us Q I rs ⟨μ,h,ws,w,h',R,ax,e,k⟩;unfold kT at e;split at e
 .rename_i l
  cases e;cases ax with | cons r t=>cases t with | nil=>
   obtain⟨a,vs,rfl,sa,ra⟩:=r.tup_of;exact il pins s σ H _ us Q I rs ⟨a,vs,rfl,.inr sa,by rw[<-ra.length];exact k.pure R (.int _)⟩
 .split at e
  .rename_i l el
   cases e;cases ax with | cons r t=>cases t with | nil=>
    obtain⟨a,vs,rfl,sa,ra⟩:=xb R r el;exact il pins s σ H _ us Q I rs ⟨a,vs,rfl,.inl sa,by rw[<-ra.length];exact k.pure R (.int _)⟩
  .cases e
 .cases e
def F7:si X (rM X.K cl zw):=by
 rintro value slice pins s σ H x y v u Q I rx ry ⟨μ,h,wx,wy,w,h',R,ax,ay,e,k⟩ hs;unfold zw at e;split at e
 .rename_i l i
  split at e
  .rename_i w' e'
   cases e;obtain⟨a,vs,rfl,sa,ra⟩:=ax.tup_of;obtain⟨v',ev,rv⟩:=ra.atI e';exact rh value slice pins s σ H _ y v u Q I rx ry ⟨a,vs,i,v',rfl,ay.int_of,sa,ev,k.pure R rv⟩ hs
  .cases e
 .rename_i z i
  split at e
  .rename_i hl
   split at e
   .rename_i c e'
    cases e;exact Bv value slice pins s σ H _ y v u Q I rx ry ⟨z,i,c,ax.str_of,ay.int_of,zR hl um,e',k.pure R (.str _)⟩ hs
   .cases e
  .cases e
 .rename_i i hn1 hn2
  split at e
  .rename_i l el
   split at e
   .rename_i w' e'
    cases e;obtain⟨a,vs,rfl,sa,ra⟩:=xb R ax el;obtain⟨v',ev,rv⟩:=ra.atI e';exact Xp value slice pins s σ H _ y v u Q I rx ry ⟨a,vs,i,v',rfl,ay.int_of,sa,ev,k.pure R rv⟩ hs
   .cases e
  .cases e
 .cases e
def D8(ha:SE X cl a ma)(hb:SE X cl b mb)(hs:uU b:=by exactλ_ _=>rfl):SE X cl (.Subscript a b pos) (zi zw ma mb):=
 PE.wk (Kh F7 ha hb hs) λσ H Q q=>cf q
end
section
variable{prog:Program}{w:World}{A:Around}{E:Value->Shared->Prop}{s:Shared}
open HT in
def gL{t sl:Addr}{items:Array Value}{vl vu:Value}{lo hi:Option Int}{Q:Value->Shared->Prop}(ht:IsTup s.heap t items)(hs:s.heap.IsSliceOf sl vl vu .none)(pl:IsPart vl lo)(pu:IsPart vu hi)
  (hw:sIx items.size 0 lo=0/\sIx items.size items.size hi=items.size) (h:Q (.ref t) s):wpAny (model prog w) A (getItem (.ref t) (.ref sl)) Q E s:=by
 obtain⟨os,hos,hcs,hds⟩:=id hs;have hTs:s.TypeIs (.ref sl) "slice":=⟨os,hos,hcs⟩;unfold getItem;try with_reducible refine jb ?_
 first | refine za (zr ?_) | skip
 refine za (wpAny_sequenceKey ht.typeIs (by decide) ?_)
 refine za (jn (name:=Str.ofString "__getitem__") ht.typeIs jC
  (jx jC ht.typeIs entry_tuple_getitem ?_ (args_tuple_getitem _ _)))
 show wpAny _ _ (Builtin.Tuple.tupleItemsOf (.ref t) >>= _) _ _ s
 refine za (yd ht ?_);refine za (jZ hTs ?_);rw[zY (by decide)];refine za (de hs pl pu ?_);have hno:((((sIx items.size 0 lo:Nat):Int)==0&&(1:Int)==1&&(sIx items.size items.size hi-sIx items.size 0 lo)==items.size)=true):=by
  rw[hw.1,hw.2];simp
 show wpAny _ _ (if (((sIx items.size 0 lo:Nat):Int)==0&&(1:Int)==1&&(sIx items.size items.size hi-sIx items.size 0 lo)==items.size)=true then _ else _) _ _ s
 rw[zY hno];unfold Builtin.Tuple.tupleIsExact;refine za (za (jZ ht.typeIs (zr ?_)));rw[zY (by decide)];first
  | exact za (qx (zr ⟨_,rfl,zr h⟩))
  | exact za (qx (za (zr (zr ⟨_,rfl,zr h⟩))))
  | exact za (za (qx (zr ⟨_,rfl,zr h⟩)))
end
noncomputable def gS(x:W)(lo hi:Option Int):M W:=λh=>match x with
 | .tup l=>some (.tup (cutW l lo hi),h)
 | x=>match getL h x with
  | some l=>some (.fls (cutW l lo hi),h)
  | none=>none
noncomputable def bp(m:Option ME):En->M (Option Int):=λρ=>match m with
 | none=>λh=>some (none,h)
 | some m=>bnd (m ρ) λw h=>match w with
  | .int i=>some (some i,h)
  | _=>none
noncomputable def ba(a:ME)(lo hi:Option ME):ME:=λρ=>bnd (a ρ) λx=>bnd (bp lo ρ) λl=>bnd (bp hi ρ) λu=>gS x l u
section
variable{X:Cx}{cl:Cl}{a:Expr}{ma:ME}{pos p2:Pos}
inductive tMO(K:PySem.W.Frag)(cl:Cl)(m:Option ME)(σ:L2.St)(H:Hp)(Q:Option Int->Hp->Prop):Prop
 | mk (μ:List Addr) (h:MH) (ρ:En) (o:Option Int) (h':MH) (p0:HR K cl μ H h) (p1:ER K μ H ρ σ) (p2:bp m ρ h=some (o,h')) (p3:∀μ' H',Ext μ H μ' H'->HR K cl μ' H' h'->Q o H'):tMO K cl m σ H Q
abbrev SO(X:Cx)(cl:Cl)(e:Option Expr)(m:Option ME):Prop:=PO X e (tMO X.K cl m)
def PO.wk(h:PO X e t)(w:∀σ H Q,t' σ H Q->t σ H Q):PO X e t':=λpins s σ H Q I q=>h pins s σ H Q I (w σ H Q q)
def XN:SO X cl none none:=PO.wk Y5 λσ H Q q0=>by
 obtain⟨μ,h,ρ,o,h',R,er,e,k⟩:=q0;cases e;exact k μ H .refl R
def YU(ha:SE X cl a ma):SO X cl (some a) (some ma):=PO.wk (XW ha) λσ H Q q0=>by
 obtain⟨μ,h,ρ,o,h',R,er,e,k⟩:=q0;obtain⟨x,h1,e1,e⟩:=ka e;split at e
 .rename_i i
  cases e;exact⟨μ,h,ρ,_,_,R,er,e1,λμ1 H1 v E1 R1 r=>⟨i,r.int_of,k μ1 H1 E1 R1⟩⟩
 .cases e
def Xk{pins:List (Addr×Obj)}{s:Shared}{σ:L2.St}{H:Hp}{a:Addr}{v vl vu:Value}{lo hi:Option Int}{sl:Addr}{Q:VK}{xs:List V}(I:Inv X pins σ H s)(rx:RelV (.ref a) v)(hs:s.heap.IsSliceOf sl vl vu .none)(pl:IsPart vl lo)(pu:IsPart vu hi)
  (hx:SqT X.K H a xs) (q1:cy xs lo hi=xs->Q (.ref a) H) (q2:∀p,H p=none->Q (.ref p) (upd H p (.tup (cy xs lo hi)))) :
  ∃T id,typeLookup (.type T) "__getitem__" = pure (some (.builtin id))/\s.TypeIs v T/\wpAny (model X.prog X.w) X.A (getItem v (.ref sl)) (EP X pins σ Q) X.xe s:=by
 by_cases hw:HT.sIx xs.length 0 lo=0/\HT.sIx xs.length xs.length hi=xs.length
 .cases rx
  obtain⟨its,r,ht,hz⟩:=I.tuple hx;have hlen:its.toArray.size=xs.length:=by rw[zK];exact r.length.symm
  refine⟨"tuple",_,jC.lookup,ht.typeIs,?_⟩;refine gL ht hs pl pu (by rw[hlen];exact hw) ⟨.ref a,H,I,rfl,q1 ?_⟩;unfold cy;rw[hw.1,hw.2];simp
 .exact U0 pins s σ H _ v vl vu lo hi sl Q I rx hs pl pu ⟨a,xs,rfl,hx,hw,q2⟩
def D4{lo hi:Option Expr}(ha:SE X cl a ma)(hl:SO X cl lo ml)(hh:SO X cl hi mh):SE X cl (.Subscript a (.Slice lo hi none p2) pos) (ba ma ml mh):=by
 have hr:WJ X (λx lo hi H Q=>∃μ h wx w h',HR X.K cl μ H h/\RW X.K μ H wx x/\gS wx lo hi h=some (w,h')/\KQ X.K cl μ H h' w Q):=by
  rintro pins s σ H x v vl vu lo hi sl Q I rx hs pl pu ⟨μ,h,wx,w,h',R,ax,e,k⟩;unfold gS at e;split at e
  .rename_i l
   cases e;obtain⟨a,vs,rfl,sa,ra⟩:=ax.tup_of;refine Xk I rx hs pl pu sa (λz=>k.pure R (.tup sa ?_)) λp hp=>k.tup R (ra.cutW lo hi) hp
   have q:=ra.cutW lo hi;rw[z] at q;exact q
  .split at e
   .rename_i l el
    cases e;obtain⟨a,vs,rfl,sa,ra⟩:=xb R ax el;exact Xg pins s σ H _ v vl vu lo hi sl Q I rx hs pl pu ⟨a,vs,rfl,sa,λp hp=>k.fls R (ra.cutW lo hi) hp⟩
   .cases e
 refine PE.wk (VV hr ha hl hh) λσ H Q ⟨μ,h,ρ,w,h',R,er,e,k⟩=>?_
 obtain⟨x,h1,e1,e⟩:=ka e;obtain⟨l,h2,e2,e⟩:=ka e;obtain⟨u,h3,e3,e⟩:=ka e
 exact⟨μ,h,ρ,x,h1,R,er,e1,λμ1 H1 vx E1 R1 rx=>⟨μ1,h1,ρ,l,h2,R1,er.ext R E1,e2,λμ2 H2 E2 R2=>⟨μ2,h2,ρ,u,h3,R2,(er.ext R E1).ext R1 E2,e3,λμ3 H3 E3 R3=>
  ⟨μ3,h3,x,w,h',R3,(rx.ext R1 E2).ext R2 E3,e,k.ext (E1.trans (E2.trans E3))⟩⟩⟩⟩
end
def lj:fillsNumberSlot (.type "tuple") "mul" = pure false:=
 PySem.fillsNumberSlot_seq (id:="tuple.__mul__") (r:=some (.builtin "tuple.__rmul__")) vG.lookup ⋯ F.slot_tuple_rmul.lookup ⋯
theorem rV:seqRepeat? (.type "tuple")=pure (some (.builtin "tuple.__mul__")):=by
 unfold seqRepeat?;rw[PySem.seqSlot_of (T:="tuple") (name:="__mul__") (id:="tuple.__mul__") vG.lookup ⋯,PySem.seqSlot_of (T:="tuple") (name:="__rmul__") (id:="tuple.__rmul__") F.slot_tuple_rmul.lookup ⋯];rfl
def eI(a:Int)(t:Tok)(l:Addr)(items:Array Value)(n:Nat)(dd:Option Addr)(sl:Array (Option Value)) :
  Meets (Builtin.«int.__rmul__» ⟨[.int a t,.ref l],[]⟩) (λ_ R s=>s.heap.get? l=some { cls:=.type "tuple",dict:=dd,data:=.seq items n,slots:=sl }/\R (.ok (.ret Value.notImplemented)) s):=
 .of_wp λprog w A R s h=>by obtain⟨hp,g,d,tk,os⟩:=s;obtain⟨hl,h⟩:=h;wp_walk;exact⟨_,rfl,h⟩
def KI(l:Addr)(items:Array Value)(n:Nat)(dd:Option Addr)(sl:Array (Option Value))(x:Int)(u:Tok)(hf:¬((decide (x < -2 ^ 63)||decide (x>=2 ^ 63))=true))(hc:(items.isEmpty||x==1)=true) :
  Meets (Builtin.«tuple.__mul__» ⟨[.ref l,.int x u],[]⟩) (λ_ R s=>s.heap.get? l=some { cls:=.type "tuple",dict:=dd,data:=.seq items n,slots:=sl }/\R (.ok (.ret (.ref l))) s):=
 .of_wp λprog w A R s h=>by
  obtain⟨hp,g,d,tk,os⟩:=s;obtain⟨hl,h⟩:=h;have f1:=vH;have ht:IsTup ({ heap:=hp,gens:=g,drawn:=d,toks:=tk,os:=os }:Shared).heap l items:=⟨_,hl,rfl,n,rfl⟩;wp_walk using wpAny_loadPart' hl
  rw[kO hf];try dsimp only
  refine za (yd ht ?_);try dsimp only
  rw[zY hc];unfold Builtin.Tuple.tupleIsExact;refine za (za (jZ ht.typeIs (zr ?_)));rw[zY (by decide)];exact za (qx (zr ⟨_,rfl,h⟩))
def ZX (l : Addr) (items : Array Value) (n : Nat) (dd : Option Addr) (sl : Array (Option Value)) (x : Int) (u : Tok) (hf : ¬ ((decide (x < -2 ^ 63) || decide (x >= 2 ^ 63)) = true)) (hc : ¬ (items.isEmpty || x == 1) = true) (h0 : ¬ (decide (x <= 0) || items.isEmpty) = true)
   (h1 : ¬ (items.size * x > (2 ^ 63 - 1) / 8)) (h2 : ¬ Builtin.Tuple.tupleTooMany (items.size * x) = true) (hz : sizeOk (Data.seq (List.foldl (λx1 x2 => x1 ++ x2) #[] (List.replicate x.toNat items)))) :
    Meets (Builtin.«tuple.__mul__» ⟨[.ref l, .int x u], []⟩) (λ_ R s => s.heap.get? l = some { cls := .type "tuple", dict := dd, data := .seq items n, slots := sl } /\
      R (.ok (.ret (.ref s.heap.objs.size))) { s with heap := s.heap.push { cls := Value.type "tuple", data := Data.seq (List.foldl (λx1 x2 => x1 ++ x2) #[] (List.replicate x.toNat items)) } }) :=
  .of_wp λprog w A R s h => by
    obtain ⟨hp, g, d, tk, os⟩ := s;obtain ⟨hl, h⟩ := h;have f1 := vH;have ht : IsTup ({ heap := hp, gens := g, drawn := d, toks := tk, os := os } : Shared).heap l items := ⟨_, hl, rfl, n, rfl⟩;wp_walk using wpAny_loadPart' hl
    rw [kO hf];try dsimp only
    refine za (yd ht ?_);try dsimp only
    rw [kO hc, kO h0, kO h1, kO h2];refine za (m := Builtin.Tuple.tupleExact _) (jm (zr ⟨_, rfl, h⟩) hz)
def KA(l:Addr)(items:Array Value)(n:Nat)(dd:Option Addr)(sl:Array (Option Value))(x:Int)(u:Tok)(hf:¬((decide (x < -2 ^ 63)||decide (x>=2 ^ 63))=true))(hc:¬(items.isEmpty||x==1)=true)(h0:(decide (x<=0)||items.isEmpty)=true) :
  Meets (Builtin.«tuple.__mul__» ⟨[.ref l,.int x u],[]⟩) (λ_ R s=>s.heap.get? l=some { cls:=.type "tuple",dict:=dd,data:=.seq items n,slots:=sl } /\
   R (.ok (.ret (.ref s.heap.objs.size))) { s with heap:=s.heap.push { cls:=Value.type "tuple",data:=Data.seq #[] } }):=
 .of_wp λprog w A R s h=>by
  obtain⟨hp,g,d,tk,os⟩:=s;obtain⟨hl,h⟩:=h;have f1:=vH;have ht:IsTup ({ heap:=hp,gens:=g,drawn:=d,toks:=tk,os:=os }:Shared).heap l items:=⟨_,hl,rfl,n,rfl⟩;wp_walk using wpAny_loadPart' hl
  rw[kO hf];try dsimp only
  refine za (yd ht ?_);try dsimp only
  rw[kO hc,zY h0];refine za (m:=Builtin.Tuple.tupleExact _) (jm (zr ⟨_,rfl,h⟩) (by show 0<=sizeLine;decide))
section
variable{X:Cx}{cl:Cl}
def Uk{H:Hp}{k:Int}{xs:List V}(I:Inv X pins σ H s)(rx:RelV (.ref a) v)(ry:RelV (.int k) u)(hx:SqT X.K H a xs)(h1:0<=k)(h2:k<=1000)(hz:xs.length<=1000)
  (q1:(List.replicate k.toNat xs).flatten=xs->Q (.ref a) H) (q2:∀p,H p=none->Q (.ref p) (upd H p (.tup (List.replicate k.toNat xs).flatten))):wpAny (model X.prog X.w) X.A (binaryOp .Mult v u) (EP X pins σ Q) X.xe s:=by
 cases rx;obtain⟨t,rfl⟩:=ry;obtain⟨its,r,ht,_⟩:=I.tuple hx;have hlen:=r.length;obtain⟨⟨cls,dd,data,sl⟩,e,hc,n,hd⟩:=id ht;simp only at hc hd;subst hc hd;have hsl:(sizeLine:Nat)=16777216:=vm;have hnew:List.foldl (λx1 x2=>x1++x2) #[] (List.replicate k.toNat its.toArray)=(List.replicate k.toNat its).flatten.toArray:=by
  have:=foldl_rep its k.toNat [];rw[kI] at this;exact this
 have hrl:k.toNat*its.length<=1000*1000:=Nat.mul_le_mul ∅ ∅;have hf:¬((decide (k < -2 ^ 63)||decide (k>=2 ^ 63))=true):=by
  simp only[Bool.or_eq_true,vP];omega
 have road:∀{R:Value->Shared->Prop},wpAny (model X.prog X.w) X.A (call (.builtin "tuple.__mul__") [.ref a,.int k t]) R X.xe s->wpAny (model X.prog X.w) X.A (binaryOp .Mult (.ref a) (.int k t)) R X.xe s:=λhcall=>
  xf (T:="tuple") (U:="int") (by decide) ⟨_,e,rfl⟩ (λs'=>yw s' k t) lj F.fills_int_mul wV rV F.slot_int_index.lookup
   (vo wV (yw s k t) F.entry_int_rmul (F.args_int_rmul_2 _ _) (eI k t a its.toArray n dd sl) ⟨e,rfl,⟨_,e,rfl⟩,hcall⟩)
 refine road ?_;by_cases c1:(its.toArray.isEmpty||k==1)=true
 .refine vo vG ⟨_,e,rfl⟩ yC (yu _ _) (KI a its.toArray n dd sl k t hf c1) ⟨e,.ref a,H,I,rfl,q1 ?_⟩
  rcases xn.mp c1 with c | c
  .have:its=[]:=by simpa using c
   subst this;cases r;simp
  .have:k=1:=by simpa using c
   subst this;simp
 .by_cases c2:(decide (k<=0)||its.toArray.isEmpty)=true
  .refine vo vG ⟨_,e,rfl⟩ yC (yu _ _) (KA a its.toArray n dd sl k t hf c1 c2) ⟨e,?_⟩
   have hk:k=0:=by
    have ne:its.toArray.isEmpty=false:=by
     cases z:its.toArray.isEmpty with
     | false=>rfl
     | true=>exact absurd (by rw[z];rfl) c1
    rw[ne,Bool.or_false] at c2;have:=qy c2;omega
   subst hk;exact⟨.ref _,_,I.laid (t':=s.toks) (o:=.tup (List.replicate (0:Int).toNat xs).flatten) (λb ob q=>zf _ q) (zj _) ⟨by simp,[],by simpa using Paired.nil,IsTup.new _ _,.new _ _⟩,rfl,q2 _ I.fresh⟩
  .refine vo vG ⟨_,e,rfl⟩ yC (yu _ _) (ZX a its.toArray n dd sl k t hf c1 c2 ?_ ?_ ?_) ⟨e,?_⟩
   .rw[zK]
    have:(its.length:Int)*k<=1000*1000:=by
     have:(its.length:Int)*k=((k.toNat*its.length:Nat):Int):=by
      rw[yR];push_cast;rw[xm h1]
     omega
    omega
   .rw[zK]
    unfold Builtin.Tuple.tupleTooMany;have:(its.length:Int)*k<=1000*1000:=by
     have:(its.length:Int)*k=((k.toNat*its.length:Nat):Int):=by
      rw[yR];push_cast;rw[xm h1]
     omega
    simp only[vP];omega
   .rw[hnew]
    show((List.replicate k.toNat its).flatten.toArray).size<=sizeLine
    rw[zK,len_rep];omega
   .rw[hnew]
    exact⟨.ref _,_,I.laid (t':=s.toks) (o:=.tup (List.replicate k.toNat xs).flatten) (λb ob q=>zf _ q) (zj _) ⟨by rw[len_rep,hlen];omega,_,r.rep k.toNat,IsTup.new _ _,.new _ _⟩,rfl,q2 _ I.fresh⟩
def Ut{H:Hp}{k:Int}{xs:List V}(I:Inv X pins σ H s)(rx:RelV (.ref a) v)(ry:RelV (.int k) u)(hx:SqL X.K H a xs)(h1:0<=k)(h2:k<=1000000)(hz:xs.length<=10)
  (q2:∀p,H p=none->Q (.ref p) (upd H p (.lst (List.replicate k.toNat xs).flatten))):wpAny (model X.prog X.w) X.A (binaryOp .Mult v u) (EP X pins σ Q) X.xe s:=by
 cases rx;obtain⟨t,rfl⟩:=ry;obtain⟨its,r,⟨o,n,e,hc,hd,hda⟩,_⟩:=I.list hx;obtain⟨cls,dd,data,sl⟩:=o;simp only at hc hd hda;subst hc hda;have hlen:=r.length;have hsl:(sizeLine:Nat)=16777216:=vm;have hrl:its.length*k.toNat<=10*1000000:=Nat.mul_le_mul ∅ ∅;have hfit:¬(!Builtin.List.listFitsIndex k)=true:=by simp[Builtin.List.listFitsIndex];omega
 have hcap:¬its.toArray.size*k.toNat>(2 ^ 63-1)/8:=by rw[zK];omega
 have hlong:¬Builtin.List.listTooLong (its.toArray.size*k.toNat)=true:=by rw[zK];simp[Builtin.List.listTooLong,sizeLine];omega
 have hnew:List.foldl (λx1 x2=>x1++x2) #[] (List.replicate (if its.toArray.isEmpty=true then 0 else k.toNat) its.toArray)=(List.replicate k.toNat its).flatten.toArray:=by
  have f0:∀m:Nat,List.foldl (λx1 x2=>x1++x2) #[] (List.replicate m its.toArray)=(List.replicate m its).flatten.toArray:=λm=>by
   have z:=foldl_rep its m [];rw[kI] at z;exact z
  rw[f0];cases its with
  | nil=>simp
  | cons c r'=>rw[kO (by simp)]
 refine xf (T:="list") (U:="int") (by decide) ⟨_,e,rfl⟩ (λs'=>yw s' k t) noFill_list_mul F.fills_int_mul wV repeat_list F.slot_int_index.lookup (vo wV (yw s k t) F.entry_int_rmul (F.args_int_rmul_2 _ _) (lm_int_rmul_list_any k t a its.toArray n dd sl) ⟨e,rfl,⟨_,e,rfl⟩,vo F.slot_list_mul ⟨_,e,rfl⟩ F.entry_list_mul (F.args_list_mul_2 _ _) (lm_list_mul_any a its.toArray n dd sl k t hfit hcap hlong) ⟨e,?_⟩⟩);rw[hnew];exact⟨.ref _,_,I.lnew (t':=s.toks) (r.rep k.toNat) (by rw[len_rep,hlen,yR];omega),rfl,q2 _ I.fresh⟩
def Y8:qh X (binaryOp .Mult) (rM X.K cl kC):=by
 rintro pins s σ H x y v u Q I rx ry ⟨μ,h,wx,wy,w,h',R,ax,ay,e,k⟩;unfold kC at e;split at e
 .rename_i i j
  split at e
  .rename_i hj
   cases e;refine Ce pins s σ H x y v u Q I rx ry ⟨_,_,ax.int_of,ay.int_of,?_,k.pure R (.int _)⟩;unfold small at hj;rw[Bool.or_eq_true,vP,vP] at hj;exact hj
  .cases e
 .rename_i l j
  split at e
  .rename_i hj
   cases e;obtain⟨a,vs,rfl,sa,ra⟩:=ax.tup_of;cases ay.int_of;refine Uk I rx ry sa hj.1 hj.2.1 (by rw[<-ra.length];exact hj.2.2) (λz=>k.pure R (.tup sa ?_)) λp hp=>k.tup R (ra.rep _) hp
   have q:=ra.rep j.toNat;rw[z] at q;exact q
  .cases e
 .rename_i l j
  split at e
  .rename_i hj
   cases e;obtain⟨a,vs,rfl,sa,ra⟩:=xb R ax (show getL _ (.fls l)=some l from rfl);cases ay.int_of;exact Ut I rx ry sa hj.1 hj.2.1 (by rw[<-ra.length];exact hj.2.2) λp hp=>k.fls R (ra.rep _) hp
  .cases e
 .cases e
end
noncomputable def ve{α β:Type}(f:α->Option β):List α->Option (List β)
 | []=>some []
 | x::r=>match f x,ve f r with
  | some y,some ys=>some (y::ys)
  | _,_=>none
noncomputable def kR:Nat->MH->W->Option PyData
 | 0,_,_=>none
 | _+1,_,.non=>some .none
 | _+1,_,.bl b=>some (.bool b)
 | _+1,_,.int i=>some (.int i)
 | _+1,_,.str x=>if PyData.strOk x then some (.str x) else none
 | n+1,h,.tup l=>(ve (kR n h) l).map .tuple
 | n+1,h,.fls l=>(ve (kR n h) l).map .list
 | n+1,h,.ref k=>match h[k]? with
  | some (.lst l)=>(ve (kR n h) l).map .list
  | _=>none
 | _+1,_,.fdc _=>none
 | _+1,_,.fn _=>none
section
variable{X:Cx}{cl:Cl}{pins:List (Addr×Obj)}{σ:L2.St}{μ:List Addr}{H:Hp}{s:Shared}{h:MH}
def uj(I:Inv X pins σ H s)(R:HR X.K cl μ H h):∀(n:Nat) {w:W} {x:V} {v:Value} {d:PyData},RW X.K μ H w x->RelV x v->kR n h w=some d->(∃as,Reads s.heap v d as)/\d.canLay0=true/\d.depth<=n:=by
 intro n;induction n with
 | zero=>intro w x v d _ _ e;cases e
 | succ n ih=>
  have all:∀{l:List W} {vs:List V} {us:List Value} {ds:List PyData},RWs X.K μ H l vs->Vals vs us->ve (kR n h) l=some ds->(∃as,ReadsAll s.heap us ds as)/\PyData.canLayAll0 ds=true/\PyData.depthAll ds<=n:=by
   intro l;induction l with
   | nil=>intro vs us ds r t e;cases r;cases t;cases e;exact⟨⟨_,.nil⟩,by unfold PyData.canLayAll0;rfl,by unfold PyData.depthAll;omega⟩
   | cons w l ihl=>
    intro vs us ds r t e;cases r with | cons r rs=>cases t with | cons t ts=>
    unfold ve at e;split at e
    .rename_i y ys e1 e2
     cases e;obtain⟨⟨as,h1⟩,h2,h3⟩:=ih r t e1;obtain⟨⟨bs,g1⟩,g2,g3⟩:=ihl rs ts e2;refine⟨⟨_,.cons h1 g1⟩,by unfold PyData.canLayAll0;rw[h2,g2];rfl,?_⟩;unfold PyData.depthAll;omega
    .cases e
  have lists:∀{l:List W} {a:Addr} {vs:List V} {d:PyData},SqL X.K H a vs->RWs X.K μ H l vs->(ve (kR n h) l).map PyData.list=some d->(∃as,Reads s.heap (.ref a) d as)/\d.canLay0=true/\d.depth<=n+1:=by
   intro l a vs d sq rs e;cases e1:ve (kR n h) l with
   | none=>rw[e1] at e;cases e
   | some ds=>
    rw[e1] at e;cases e;obtain⟨its,rv,⟨o,m,h1,h2,h3,h4⟩,_⟩:=I.list sq;obtain⟨⟨as,g1⟩,g2,g3⟩:=all rs rv e1;exact⟨⟨_,.list h1 h2 h4 (by simpa using g1)⟩,by unfold PyData.canLay0;exact g2,by unfold PyData.depth;omega⟩
  intro w x v d r t e;cases r with
  | non=>cases e;cases t;exact⟨⟨_,.none⟩,by unfold PyData.canLay0;rfl,by unfold PyData.depth;omega⟩
  | bl b=>cases e;cases t;exact⟨⟨_,.bool b⟩,by unfold PyData.canLay0;rfl,by unfold PyData.depth;omega⟩
  | int i=>cases e;obtain⟨tk,rfl⟩:=t;exact⟨⟨_,.int i tk⟩,by unfold PyData.canLay0;rfl,by unfold PyData.depth;omega⟩
  | str z=>
   simp only[kR] at e;split at e
   .rename_i ok
    cases e;obtain⟨tk,rfl⟩:=t;exact⟨⟨_,.str z tk⟩,by unfold PyData.canLay0;exact ok,by unfold PyData.depth;omega⟩
   .cases e
  | @tup a vs l sq rs=>
   simp only[kR] at e;cases t;cases e1:ve (kR n h) l with
   | none=>rw[e1] at e;cases e
   | some ds=>
    rw[e1] at e;cases e;obtain⟨its,rv,⟨o,h1,h2,m,h4⟩,_⟩:=I.tuple sq;obtain⟨⟨as,g1⟩,g2,g3⟩:=all rs rv e1;exact⟨⟨_,.tuple h1 h2 h4 (by simpa using g1)⟩,by unfold PyData.canLay0;exact g2,by unfold PyData.depth;omega⟩
  | @fls a vs l sq rs=>cases t;simp only[kR] at e;exact lists sq.sq rs e
  | fdc=>cases e
  | fn=>cases e
  | @ref k a hk=>
   cases t;simp only[kR] at e;split at e
   .rename_i l ho
    obtain⟨vs,hv,rs⟩:=R.ob k a _ hk ho;exact lists (SqL.of hv) rs e
   .cases e
end
section
variable{X:Cx}{cl:Cl}{pins:List (Addr×Obj)}{σ:L2.St}{μ:List Addr}{H:Hp}{s:Shared}{h:MH}
def tG(I:Inv X pins σ H s)(R:HR X.K cl μ H h)(n:Nat):∀{l:List W} {vs:List V} {us:List Value} {ds:List PyData},RWs X.K μ H l vs->Vals vs us->ve (kR n h) l=some ds->(∃as,ReadsAll s.heap us ds as)/\PyData.canLayAll0 ds=true:=by
 intro l;induction l with
 | nil=>intro vs us ds r t e;cases r;cases t;cases e;exact⟨⟨_,.nil⟩,by unfold PyData.canLayAll0;rfl⟩
 | cons w l ihl=>
  intro vs us ds r t e;cases r with | cons r rs=>cases t with | cons t ts=>
  unfold ve at e;split at e
  .rename_i y ys e1 e2
   cases e;obtain⟨⟨as,h1⟩,h2,h3⟩:=uj I R n r t e1;obtain⟨⟨bs,g1⟩,g2⟩:=ihl rs ts e2;exact⟨⟨_,.cons h1 g1⟩,by unfold PyData.canLayAll0;rw[h2,g2];rfl⟩
  .cases e
end
noncomputable def deep:Nat:=60
noncomputable def nP(x y:W):Option Bool:=match x,y with
 | .str a,.str b=>some (a==b)
 | .int a,.int b=>some (a==b)
 | .bl a,.bl b=>some (a==b)
 | _,_=>none
noncomputable def eqB(h:MH)(x y:W):Option Bool:=match nP x y with
 | some b=>some b
 | none=>match kR deep h x,kR deep h y with
  | some d,some e=>some (PyData.eqv d e)
  | _,_=>none
noncomputable def vn(neg:Bool)(x y:W):M W:=λh=>match eqB h x y with
 | some b=>some (.bl (if neg then !b else b),h)
 | none=>none
noncomputable def xT(h:MH):W->Option (List W)
 | .tup l=>some l
 | w=>getL h w
noncomputable def inB(h:MH)(x y:W):Option Bool:=match xT h y with
  | some l=>match kR deep h x,ve (kR deep h) l with
   | some d,some ds=>some (ds.any λe=>PyData.eqv e d)
   | _,_=>none
  | none=>none
noncomputable def u9(neg:Bool)(x y:W):M W:=λh=>match inB h x y with
 | some b=>some (.bl (if neg then !b else b),h)
 | none=>none
section
variable{X:Cx}{cl:Cl}
def JC(hu:X.A.units+64<cLine){H:Hp}(I:Inv X pins σ H s)(rx:RelV x v)(ry:RelV y u)
  (R:HR X.K cl μ H h) (ax:RW X.K μ H wx x) (ay:RW X.K μ H wy y) (e:eqB h wx wy=some b) :
  (Q (.bl b) H->wpAny (model X.prog X.w) X.A (compareOp .Eq v u) (EP X pins σ Q) X.xe s)/\(Q (.bl (!b)) H->wpAny (model X.prog X.w) X.A (compareOp .NotEq v u) (EP X pins σ Q) X.xe s):=by
 unfold eqB at e;split at e
 .rename_i b' e'
  cases e;unfold nP at e';split at e'
  .rename_i i j
   cases e';cases ax.str_of;cases ay.str_of;exact⟨λq=>ZO pins s σ H _ _ v u Q I rx ry ⟨rfl,by rw[iA];exact q⟩,λq=>ZS pins s σ H _ _ v u Q I rx ry ⟨rfl,by rw[iA];exact q⟩⟩
  .rename_i i j
   cases e';cases ax.int_of;cases ay.int_of;exact⟨λq=>ZO pins s σ H _ _ v u Q I rx ry ⟨rfl,by rw[iz];exact q⟩,λq=>ZS pins s σ H _ _ v u Q I rx ry ⟨rfl,by rw[iz];exact q⟩⟩
  .rename_i i j
   cases e';cases ax.bl_of;cases ay.bl_of;exact⟨λq=>ZO pins s σ H _ _ v u Q I rx ry ⟨rfl,by rw[mq];exact q⟩,λq=>ZS pins s σ H _ _ v u Q I rx ry ⟨rfl,by rw[mq];exact q⟩⟩
  .cases e'
 .split at e
  .rename_i d d' e1 e2
   cases e;obtain⟨⟨as,r1⟩,c1,d1⟩:=uj I R deep ax rx e1;obtain⟨⟨bs,r2⟩,c2,d2⟩:=uj I R deep ay ry e2;have hr:X.A.units+min d.depth d'.depth<cLine:=by
    have:min d.depth d'.depth<=d.depth:=Nat.min_le_left _ _;unfold deep at d1;omega
   exact⟨λq=>SeqAt.compareEq_reads r1 r2 c1 c2 hr ⟨.bl _,H,I,rfl,q⟩,λq=>SeqAt.compareNe_reads r1 r2 c1 c2 hr ⟨.bl _,H,I,rfl,q⟩⟩
  .cases e
def B1(hu:X.A.units+64<cLine):qh X (compareOp .Eq) (rM X.K cl (vn false)):=by
 rintro pins s σ H x y v u Q I rx ry ⟨μ,h,wx,wy,w,h',R,ax,ay,e,k⟩;unfold vn at e;split at e
 .rename_i b eb
  cases e;exact(JC hu I rx ry R ax ay eb).1 (k.pure R (.bl _))
 .cases e
def De(hu:X.A.units+64<cLine):qh X (compareOp .NotEq) (rM X.K cl (vn true)):=by
 rintro pins s σ H x y v u Q I rx ry ⟨μ,h,wx,wy,w,h',R,ax,ay,e,k⟩;unfold vn at e;split at e
 .rename_i b eb
  cases e;exact(JC hu I rx ry R ax ay eb).2 (k.pure R (.bl _))
 .cases e
def b6{K:PySem.W.Frag}{μ:List Addr}{H:Hp}{h:MH}(R:HR K cl μ H h)(r:RW K μ H w v)(e:xT h w=some l):∃a vs,v=.ref a/\(SqL K H a vs\/SqT K H a vs)/\RWs K μ H l vs:=by
 unfold xT at e;split at e
 .cases e
  obtain⟨a,vs,rfl,sa,ra⟩:=r.tup_of;exact⟨a,vs,rfl,.inr sa,ra⟩
 .obtain⟨a,vs,rfl,sa,ra⟩:=xb R r e
  exact⟨a,vs,rfl,.inl sa,ra⟩
def JB(hu:X.A.units+64<cLine){pins:List (Addr×Obj)}{s:Shared}{σ:L2.St}{H:Hp}{x y:V}{v u:Value}(I:Inv X pins σ H s)(rx:RelV x v)(ry:RelV y u)
  (R:HR X.K cl μ H h) (ax:RW X.K μ H wx x) (ay:RW X.K μ H wy y) (e:inB h wx wy=some b) :
  (Q (.bl b) H->wpAny (model X.prog X.w) X.A (compareOp .In v u) (EP X pins σ Q) X.xe s)/\(Q (.bl (!b)) H->wpAny (model X.prog X.w) X.A (compareOp .NotIn v u) (EP X pins σ Q) X.xe s):=by
 unfold inB at e;split at e
 .rename_i l el
  split at e
  .rename_i d ds e1 e2
   cases e;obtain⟨a,vs,rfl,sa,ra⟩:=b6 R ay el;cases ry;obtain⟨⟨as,r1⟩,c1,d1⟩:=uj I R deep ax rx e1;have big:kR (deep+1) h (.tup l)=some (.tuple ds):=by simp only[kR];rw[e2];rfl
   have big2:kR (deep+1) h (.fls l)=some (.list ds):=by simp only[kR];rw[e2];rfl
   have hr:X.A.units+1+min (PyData.depthAll ds) d.depth<cLine:=by
    have:min (PyData.depthAll ds) d.depth<=d.depth:=Nat.min_le_right _ _;unfold deep at d1;omega
   rcases sa with sa | sa
   .obtain⟨its,rv,⟨o,m,h1,h2,h3,h4⟩,_⟩:=I.list sa
    obtain⟨⟨as2,g1⟩,c2⟩:=tG I R deep ra rv e2;have r2:Reads s.heap (.ref a) (.list ds) _:=.list h1 h2 h4 (by simpa using g1);exact⟨λq=>SeqAt.in_list_reads r2 r1 c2 c1 hr ⟨.bl _,H,I,rfl,q⟩,λq=>SeqAt.notIn_list_reads r2 r1 c2 c1 hr ⟨.bl _,H,I,rfl,q⟩⟩
   .obtain⟨⟨bs,r2⟩,c2,_⟩:=uj I R (deep+1) (.tup sa ra) rfl big
    have c2':PyData.canLayAll0 ds=true:=by unfold PyData.canLay0 at c2;exact c2
    exact⟨λq=>SeqAt.in_tuple_reads r2 r1 c2' c1 hr ⟨.bl _,H,I,rfl,q⟩,λq=>SeqAt.notIn_tuple_reads r2 r1 c2' c1 hr ⟨.bl _,H,I,rfl,q⟩⟩
  .cases e
 .cases e
def UL(hu:X.A.units+64<cLine):qh X (compareOp .In) (rM X.K cl (u9 false)):=by
 rintro pins s σ H x y v u Q I rx ry ⟨μ,h,wx,wy,w,h',R,ax,ay,e,k⟩;unfold u9 at e;split at e
 .rename_i b eb
  cases e;exact(JB hu I rx ry R ax ay eb).1 (k.pure R (.bl _))
 .cases e
def Jt(hu:X.A.units+64<cLine):qh X (compareOp .NotIn) (rM X.K cl (u9 true)):=by
 rintro pins s σ H x y v u Q I rx ry ⟨μ,h,wx,wy,w,h',R,ax,ay,e,k⟩;unfold u9 at e;split at e
 .rename_i b eb
  cases e;exact(JB hu I rx ry R ax ay eb).2 (k.pure R (.bl _))
 .cases e
end
inductive Ty where
 | int | str | bool | tuple | list | dict
 deriving DecidableEq
noncomputable def Ty.name:Ty->String
 | .int=>"int" | .str=>"str" | .bool=>"bool" | .tuple=>"tuple" | .list=>"list" | .dict=>"dict"
noncomputable def iU(h:MH):W->Option Ty
 | .bl _=>some .bool
 | .int _=>some .int
 | .str _=>some .str
 | .tup _=>some .tuple
 | .fls _=>some .list
 | .ref n=>match h[n]? with
  | some (.lst _)=>some .list
  | some (.dic _)=>some .dict
  | _=>none
 | .fdc _=>some .dict
 | .fn _=>none
 | .non=>none
noncomputable def sY(T:Ty)(x:W)(h:MH):Option Bool:=match x with
 | .non=>some false
 | x=>match iU h x with
  | some t=>some (decide (t=T)||(decide (t=.bool)&&decide (T=.int)))
  | none=>none
noncomputable def isW(T:Ty)(x:W):M W:=λh=>match sY T x h with
 | some b=>some (.bl b,h)
 | none=>none
def Jp(K:PySem.W.Frag):∀(t T:Ty),PySem.W.kitOne K (.type t.name) (.type T.name)=some (decide (t=T)||(decide (t=.bool)&&decide (T=.int))):=by
 intro t T;cases t<;>cases T<;>kernel_rfl
def WB(K:PySem.W.Frag):∀(T:Ty),PySem.W.kitOne K (.type "NoneType") (.type T.name)=some false:=by
 intro T;cases T<;>kernel_rfl
section
variable{X:Cx}{cl:Cl}{a:Expr}{ma:ME}{pos p p2:Pos}
def Jg(T:Ty):yB X (.builtin "isinstance") (λxs H Q=>∃x,xs=[x,.ty T.name]/\rM1 X.K cl (isW T) x H Q):=by
 rintro pins s σ H xs us Q I rs ⟨x,rfl,μ,h,wx,w,h',R,ax,e,k⟩;obtain⟨u,u2,rfl,ru,ru2⟩:=vals2 rs;obtain rfl:u2=.type T.name:=ru2;unfold isW at e;split at e
 .rename_i b eb
  cases e;have q:Q (.bl b) H:=k.pure R (.bl _);have fin:∀tk,EP X pins σ Q (.bool b) { s with toks:=tk }:=λtk=>⟨.bl b,H,I.tok tk,rfl,q⟩
  have go:∀{t:Ty},iU h wx=some t->PySem.W.kitOne X.K (.type t.name) (.type T.name)=some b:=λ{t} e1=>by
   rw[Jp];unfold sY at eb;split at eb
   .cases e1
   .rw[e1] at eb;exact eb
  cases ax with
  | non=>
   cases eb;cases ru;exact jf PySem.W.kitx_none I.kIn True.intro (WB X.K T) (λz=>nomatch z) fin
  | bl y=>cases ru;exact jf PySem.W.kitx_bool I.kIn True.intro (go (t:=.bool) rfl) (λz=>nomatch z) fin
  | int i=>obtain⟨t,rfl⟩:=ru;exact jf PySem.W.kitx_int I.kIn True.intro (go (t:=.int) rfl) (λz=>nomatch z) fin
  | str y=>obtain⟨t,rfl⟩:=ru;exact jf PySem.W.kitx_str I.kIn True.intro (go (t:=.str) rfl) (λz=>nomatch z) fin
  | @tup a vs l sa ra=>
   cases ru;obtain⟨its,_,⟨o,h1,h2,_⟩,_⟩:=I.tuple sa;exact jf xr I.kIn ⟨o,h1,h2⟩ (go (t:=.tuple) rfl) (λz=>nomatch z) fin
  | @fls a vs l sa ra=>
   cases ru;obtain⟨its,_,⟨o,n,h1,h2,_⟩,_⟩:=I.list sa.sq;exact jf vR I.kIn ⟨o,h1,h2⟩ (go (t:=.list) rfl) (λz=>nomatch z) fin
  | @fdc a l l' ws vs sa kk e1 e2 ra=>
   cases ru;have g:=go (t:=.dict) rfl;obtain⟨_,_,vs',_,dd⟩:=gB I.hok sa.1;obtain⟨o,es,ep,h1,h2,_⟩:=dd;exact jf wY I.kIn ⟨o,h1,h2.1⟩ g (λz=>nomatch z) fin
  | @fn a=>
   simp only[sY,iU] at eb;cases eb
  | @ref n a hn=>
   cases ru;cases et:iU h (.ref n) with
   | none=>simp only[sY,et] at eb;cases eb
   | some t=>
    have g:=go et;simp only[iU] at et;split at et
    .rename_i l ho
     cases et;obtain⟨vs,hv,_⟩:=R.ob n a _ hn ho;obtain⟨its,_,⟨o,n,h1,h2,_⟩,_⟩:=I.list (SqL.of hv);exact jf vR I.kIn ⟨o,h1,h2⟩ g (λz=>nomatch z) fin
    .rename_i l ho
     cases et;obtain⟨l',hv,_⟩:=R.ob n a _ hn ho;exact Ju (x:=.ref a) I rfl (.dK hv) g fin
    .cases et
 .cases e
def BW(T:Ty)(ha:SE X cl a ma)(hi:X.mg "isinstance" = none)(ht:X.mg y=none)(hv:bootBuiltins y=some (.type T.name))(hg:Gl X "isinstance":=by rfl)(hg2:Gl X y:=by rfl)
  (hn:y≠"__name__":=by decide) (hdb:(y==("__debug__":Str))=false:=by decide)
  (hs1:starEach [a,.Name y p2] X.env=(false,eval a X.env)::starEach [.Name y p2] X.env:=by rfl) (hs2:starEach [.Name y p2] X.env=(false,eval (.Name y p2) X.env)::starEach [] X.env:=by rfl)
  (hpl:(backTo pos (starEach [.Name y p2] X.env)).any (·.1)=false:=by rfl):SE X cl (.Call (.Name "isinstance" p) [a,.Name y p2] [] pos) (ug (isW T) ma):=
 PE.wk (rJ (Jg (cl:=cl) T) hg hi PyProof.Rows.boot_isinstance (nk ha (nk (YW hg2 ht hv (show RelV (.ty T.name) (.type T.name) from rfl) hn hdb) K6 hs2) hs1) (by decide) (by decide) hs1 hpl) λσ H Q q0=>by
  obtain⟨μ,h,ρ,w,h',R,er,e,k⟩:=q0;obtain⟨x,h1,e1,e⟩:=ka e;exact⟨μ,h,ρ,x,h1,R,er,e1,λμ1 H1 vx E1 R1 rx=>⟨vx,rfl,μ1,h1,x,w,h',R1,rx,e,k.ext E1⟩⟩
noncomputable def mU(ws:List W):M W:=λh=>match ws with
 | [.int i]=>some (.int i,h)
 | [.bl b]=>some (.int (if b then 1 else 0),h)
 | [.str x]=>match PySem.intText? x with
  | some n=>if x.length<=640 then some (.int n,h) else none
  | none=>none
 | _=>none
noncomputable def ue(ws:List W):M W:=λh=>match ws with
 | [.tup l]=>some (.tup l,h)
 | [w]=>match getL h w with
  | some l=>some (.tup l,h)
  | none=>none
 | _=>none
noncomputable def gu(ws:List W):M W:=λh=>match ws with
 | [w]=>match xT h w with
  | some l=>some (.fls l,h)
  | none=>none
 | _=>none
def Jm:yB X (.type "int") (rMs X.K cl mU):=by
 rintro pins s σ H xs us Q I rs ⟨μ,h,ws,w,h',R,ax,e,k⟩;unfold mU at e;split at e
 .cases e
  cases ax with | cons r t=>cases t with | nil=>
   cases r.int_of;exact nL pins s σ H _ us Q I rs (.inl ⟨_,rfl,k.pure R (.int _)⟩)
 .cases e
  cases ax with | cons r t=>cases t with | nil=>
   cases r.bl_of;exact nL pins s σ H _ us Q I rs (.inr ⟨_,rfl,k.pure R (.int _)⟩)
 .split at e
  .rename_i hn
   split at e
   .rename_i hl
    cases e;cases ax with | cons r t=>cases t with | nil=>
     cases r.str_of;cases rs with | cons r1 r2=>
     cases r2;obtain⟨t,rfl⟩:=r1;exact PySem.W.KIN.call_text hn hl ⟨.int _,H,I.tok _,⟨_,rfl⟩,k.pure R (.int _)⟩
   .cases e
  .cases e
 .cases e
def tD:yB X (.type "tuple") (rMs X.K cl ue):=by
 rintro pins s σ H xs us Q I rs ⟨μ,h,ws,w,h',R,ax,e,k⟩;unfold ue at e;split at e
 .rename_i l
  cases e;cases ax with | cons r t=>cases t with | nil=>
   obtain⟨a,vs,rfl,sa,ra⟩:=r.tup_of;exact gI pins s σ H _ us Q I rs ⟨a,vs,rfl,.inr ⟨sa,k.pure R (.tup sa ra)⟩⟩
 .split at e
  .rename_i l el
   cases e;cases ax with | cons r t=>cases t with | nil=>
    obtain⟨a,vs,rfl,sa,ra⟩:=xb R r el;exact gI pins s σ H _ us Q I rs ⟨a,vs,rfl,.inl ⟨sa,λp hp=>k.tup R ra hp⟩⟩
  .cases e
 .cases e
def Kx:yB X (.type "list") (rMs X.K cl gu):=by
 rintro pins s σ H xs us Q I rs ⟨μ,h,ws,w,h',R,ax,e,k⟩;unfold gu at e;split at e
 .split at e
  .rename_i l el
   cases e;cases ax with | cons r t=>cases t with | nil=>
    obtain⟨a,vs,rfl,sa,ra⟩:=b6 R r el;exact sA pins s σ H _ us Q I rs ⟨a,vs,rfl,sa,λp hp=>k.fls R ra hp⟩
  .cases e
 .cases e
end
noncomputable def qf(x:W)(ws:List W):M W:=λh=>match x,ws with
 | .ref n,[y]=>match h[n]? with
  | some (.lst l)=>if l.length<cap then some (.non,h.set n (.lst (l++[y]))) else none
  | _=>none
 | _,_=>none
noncomputable def uP(x:W)(ws:List W):M W:=λh=>match x,ws with
 | .ref n,[y]=>match h[n]?,xT h y with
  | some (.lst l),some l'=>if l.length+l'.length<=cap then some (.non,h.set n (.lst (l++l'))) else none
  | _,_=>none
 | _,_=>none
noncomputable def uI(x:W)(ws:List W):M W:=λh=>match x,ws with
 | .ref n,[]=>match h[n]? with
  | some (.lst l)=>match l[l.length-1]? with
   | some y=>some (y,h.set n (.lst l.dropLast))
   | none=>none
  | _=>none
 | _,_=>none
noncomputable def kD(f:W->List W->M W)(o:ME)(ms:List ME):ME:=λρ=>bnd (o ρ) λx h=>if (getL h x).isSome=true then bnd (ky ms ρ) (λws=>f x ws) h else none
section
variable{X:Cx}{cl:Cl}{o e:Expr}{es:List Expr}{mo:ME}{ms:List ME}{apos cpos:Pos}{f:W->List W->M W}
inductive rMm(K:PySem.W.Frag)(cl:Cl)(f:W->List W->M W)(x:V)(xs:List V)(H:Hp)(Q:VK):Prop
 | mk (μ:List Addr) (h:MH) (wx:W) (ws:List W) (w:W) (h':MH) (p0:HR K cl μ H h) (p1:RW K μ H wx x) (p2:RWs K μ H ws xs) (p3:f wx ws h=some (w,h')) (p4:KQ K cl μ H h' w Q):rMm K cl f x xs H Q
def nI{H:Hp}(q:tM X.K cl (kD f mo ms) σ H Q):Fe X.K "list" (rMm X.K cl f) (tM X.K cl mo) (tMA X.K cl ms) σ H Q:=by
 obtain⟨μ,h,ρ,w,h',R,er,e,k⟩:=q;obtain⟨x,h1,e1,e⟩:=ka e;split at e
 .rename_i hl
  obtain⟨ws,h2,e2,e⟩:=ka e;refine⟨μ,h,ρ,x,h1,R,er,e1,λμ1 H1 vx E1 R1 rx=>?_⟩;obtain⟨l,hl⟩:=j8.mp hl;obtain⟨a,vs,rfl,sa,ra⟩:=xb R1 rx hl;exact⟨.inl ⟨rfl,vs,sa⟩,μ1,h1,ρ,ws,h2,R1,er.ext R E1,e2,λμ2 H2 xs E2 R2 rs=>⟨μ2,h2,x,ws,w,h',R2,rx.ext R1 E2,rs,e,k.ext (E1.trans E2)⟩⟩
 .cases e
def Kk{H:Hp}(q:tM X.K cl (kD f mo []) σ H Q):Cf X.K "list" (rMm X.K cl f) (tM X.K cl mo) σ H Q:=by
 obtain⟨μ,h,ρ,w,h',R,er,e,k⟩:=q;obtain⟨x,h1,e1,e⟩:=ka e;split at e
 .rename_i hl
  obtain⟨ws,h2,e2,e⟩:=ka e;cases e2;refine⟨μ,h,ρ,x,h1,R,er,e1,λμ1 H1 vx E1 R1 rx=>?_⟩;obtain⟨l,hl⟩:=j8.mp hl;obtain⟨a,vs,rfl,sa,ra⟩:=xb R1 rx hl;exact⟨.inl ⟨rfl,vs,sa⟩,μ1,h1,x,[],w,h',R1,rx,.nil,e,k.ext E1⟩
 .cases e
theorem KQ.put{K:PySem.W.Frag}{μ:List Addr}{H:Hp}{h:MH}{n:Nat}{a:Addr}(k:KQ K cl μ H (h.set n (.lst l)) w Q)(R:HR K cl μ H h)(hn:μ[n]?=some a)(rs:RWs K μ H l vs)(r:RW K μ H w v):Q v (upd H a (.lst vs)):=
 k μ _ v (.put hn) (R.put hn ⟨vs,qk,rs.ext R (.put hn)⟩) (r.ext R (.put hn))
def ZY:Jx X "list.append" (rMm X.K cl qf):=by
 rintro pins s σ H x xs v us Q I rx rs ⟨μ,h,wx,ws,w,h',R,ax,as,e,k⟩;unfold qf at e;split at e
 .rename_i n y
  split at e
  .rename_i l ho
   split at e
   .rename_i hl
    cases e;cases ax with | @ref _ a hn=>
    cases as with | cons r t=>cases t with | nil=>
    obtain⟨vs,hv,rl⟩:=R.ob n a _ hn ho;exact nX pins s σ H _ _ v us Q I rx rs ⟨a,vs,_,rfl,rfl,hv,zL (by rw[<-rl.length];exact hl) um,k.put R hn (rl.append (.cons r .nil)) .non⟩
   .cases e
  .cases e
 .cases e
def XJ:Jx X "list.pop" (rMm X.K cl uI):=by
 rintro pins s σ H x xs v us Q I rx rs ⟨μ,h,wx,ws,w,h',R,ax,as,e,k⟩;unfold uI at e;split at e
 .rename_i n
  split at e
  .rename_i l ho
   split at e
   .rename_i y hy
    cases e;cases ax with | @ref _ a hn=>
    cases as;obtain⟨vs,hv,rl⟩:=R.ob n a _ hn ho;obtain⟨v',ev,rv⟩:=rl.get hy;exact CL pins s σ H _ _ v us Q I rx rs ⟨a,vs,v',rfl,rfl,hv,by rw[<-rl.length];exact ev,k.put R hn rl.dropLast rv⟩
   .cases e
  .cases e
 .cases e
def sJ(T:String)(hT:T="list" \/ T="tuple")(l:Addr)(items:Array Value)(n:Nat)(b:Addr)(items2:Array Value)(n2:Nat)(dd2:Option Addr)(sl2:Array (Option Value))(hc0:¬(!items.isEmpty&&Builtin.List.listTooLong (items.size+items2.size))=true)(hc1:items.size<=sizeLine)(hs2:items.size+items2.size<=sizeLine+1) :
  Meets (Builtin.«list.extend» ⟨[.ref l,.ref b],[]⟩) (λ_ R s=>s.heap.get? l=some { cls:=.type "list",dict:=none,data:=.seq items n,slots:=#[] }/\s.heap.get? b=some { cls:=.type T,dict:=dd2,data:=.seq items2 n2,slots:=sl2 }/\R (.ok (.ret Value.none)) { s with heap:=s.heap.update l (Obj.mapSeq λx=>x++items2),toks:=s.toks }):=by
 rcases hT with rfl | rfl
 .exact .of_wp λprog w A R s h=>by
   obtain⟨hp,g,d,tk,os⟩:=s;obtain⟨hl,hb,h⟩:=h;have f1:=vH;have f2:=xG;have f3:=AutoSeq1.sub_list_list;have f4:=AutoSeq1.sub_tuple_list;have f5:=AutoSeq1.sub_list_tuple;have hz':(items++items2).size<=sizeLine+1:=by rw[Array.size_append];exact hs2
   wp_walk using (vN hl rfl (hz:=hc1) (_hz':=hz')),wpAny_loadPart' hl,wpAny_loadPart' hb;exact⟨_,rfl,h⟩
 .exact .of_wp λprog w A R s h=>by
   obtain⟨hp,g,d,tk,os⟩:=s;obtain⟨hl,hb,h⟩:=h;have f1:=vH;have f2:=xG;have f3:=AutoSeq1.sub_list_list;have f4:=AutoSeq1.sub_tuple_list;have f5:=AutoSeq1.sub_list_tuple;have hz':(items++items2).size<=sizeLine+1:=by rw[Array.size_append];exact hs2
   wp_walk using (vN hl rfl (hz:=hc1) (_hz':=hz')),wpAny_loadPart' hl,wpAny_loadPart' hb;exact⟨_,rfl,h⟩
def Z7{H:Hp}{xs zs:List V}(I:Inv X pins σ H s)(rx:RelV (.ref l) v)(ru:RelV (.ref b) u)(hH:H l=some (.lst xs))(hB:SqL X.K H b zs\/SqT X.K H b zs)(hz:xs.length+zs.length<=sizeLine)
  (q:Q .non (upd H l (.lst (xs++zs)))):wpAny (model X.prog X.w) X.A (call (.builtin "list.extend") [v,u]) (EP X pins σ Q) X.xe s:=by
 cases rx;cases ru;obtain⟨z,its,n,r,hl,e⟩:=I.lstM hH;have go:∀{T:String} {its2:List Value} {n2:Nat} {dd2:Option Addr} {sl2:Array (Option Value)},(T="list" \/ T="tuple")->Vals zs its2->s.heap.get? b=some { cls:=.type T,dict:=dd2,data:=.seq its2.toArray n2,slots:=sl2 }->
   wpAny (model X.prog X.w) X.A (call (.builtin "list.extend") [.ref l,.ref b]) (EP X pins σ Q) X.xe s:=by
  intro T its2 n2 dd2 sl2 hT r2 e2;have hl2:=r2.length;have hsz:its.toArray.size+its2.toArray.size<=sizeLine:=by rw[zK,zK];omega
  have hlong:¬(!its.toArray.isEmpty&&Builtin.List.listTooLong (its.toArray.size+its2.toArray.size))=true:=by
   rw[VH hsz,Bool.and_false];exact zZ
  refine vo F.slot_list_extend ⟨_,e,rfl⟩ F.entry_list_extend (F.args_list_extend_2 _ _) (sJ T hT l its.toArray n b its2.toArray n2 dd2 sl2 hlong (by rw[zK];omega) ∅) ⟨e,e2,?_⟩;refine⟨.non,_,I.lset (its':=its++its2) hH e (by simp) (r.append r2) ?_,rfl,q⟩;rw[zN];omega
 rcases hB with hB | hB
 .obtain⟨its2,r2,⟨⟨c2,d2,dt2,sl2⟩,n2,h1,h2,h3,h4⟩,_⟩:=I.list hB
  simp only at h2 h4;subst h2 h4;exact go (.inl rfl) r2 h1
 .obtain⟨its2,r2,⟨⟨c2,d2,dt2,sl2⟩,h1,h2,n2,h4⟩,_⟩:=I.tuple hB
  simp only at h2 h4;subst h2 h4;exact go (.inr rfl) r2 h1
def KR:Jx X "list.extend" (rMm X.K cl uP):=by
 rintro pins s σ H x xs v us Q I rx rs ⟨μ,h,wx,ws,w,h',R,ax,as,e,k⟩;unfold uP at e;split at e
 .rename_i n y
  split at e
  .rename_i l l' ho el
   split at e
   .rename_i hl
    cases e;cases ax with | @ref _ a hn=>
    cases as with | cons r t=>cases t with | nil=>
    obtain⟨vs,hv,rl⟩:=R.ob n a _ hn ho;obtain⟨b,zs,rfl,sb,rb⟩:=b6 R r el;obtain⟨u,rfl,ru⟩:=rs.one;exact Z7 I rx ru hv sb (zR (by rw[<-rl.length,<-rb.length];exact hl) um) (k.put R hn (rl.append rb) .non)
   .cases e
  .cases e
 .cases e
def JA(ho:SE X cl o mo)(ha:SA X cl (e::es) ms)(hbase:attributeBase o "append" X.env (eval o X.env)=eval o X.env:=by rfl)
  (hfew:((backTo cpos (starEach (e::es) X.env)).all (λx=>!x.1)&&(backToKw cpos (keywordEach [] X.env)).all (λx=>x.1.isSome)
   && decide ((e::es).length+([]:List Keyword).length+(if ([]:List Keyword).isEmpty then 0 else 1)<30))=true:=by rfl)
  (hline:(apos.endLine==cpos.line)=true:=by rfl) (hs:starEach (e::es) X.env=(false,eval e X.env)::starEach es X.env:=by rfl) (hplain:(backTo cpos (starEach es X.env)).any (·.1)=false:=by rfl) :
  SE X cl (.Call (.Attribute o "append" apos) (e::es) [] cpos) (kD qf mo ms):=
 PE.wk (Yv vW PySem.F.slot_list_append PySem.F.type_list_append ZY ho ha hbase hfew hline hs hplain) λσ H Q q=>nI q
def Ji(ho:SE X cl o mo)(ha:SA X cl (e::es) ms)(hbase:attributeBase o "extend" X.env (eval o X.env)=eval o X.env:=by rfl)
  (hfew:((backTo cpos (starEach (e::es) X.env)).all (λx=>!x.1)&&(backToKw cpos (keywordEach [] X.env)).all (λx=>x.1.isSome)
   && decide ((e::es).length+([]:List Keyword).length+(if ([]:List Keyword).isEmpty then 0 else 1)<30))=true:=by rfl)
  (hline:(apos.endLine==cpos.line)=true:=by rfl) (hs:starEach (e::es) X.env=(false,eval e X.env)::starEach es X.env:=by rfl) (hplain:(backTo cpos (starEach es X.env)).any (·.1)=false:=by rfl) :
  SE X cl (.Call (.Attribute o "extend" apos) (e::es) [] cpos) (kD uP mo ms):=
 PE.wk (Yv vW PySem.F.slot_list_extend PySem.F.type_list_extend KR ho ha hbase hfew hline hs hplain) λσ H Q q=>nI q
def CD(ho:SE X cl o mo)(hbase:attributeBase o "pop" X.env (eval o X.env)=eval o X.env:=by rfl)(hline:(apos.endLine==cpos.line)=true:=by rfl) :
  SE X cl (.Call (.Attribute o "pop" apos) [] [] cpos) (kD uI mo []):=
 PE.wk (Bd vW PySem.F.slot_list_pop PySem.F.type_list_pop XJ ho hbase hline) λσ H Q q=>Kk q
end
noncomputable def srcOf(x:W):M Src:=λh=>match x with
 | .tup l=>some (.items l,h)
 | .fls l=>some (.items l,h)
 | .ref n=>match h[n]? with
  | some (.lst _)=>some (.live n,h)
  | _=>none
 | _=>none
noncomputable def qq(m:ME):MI:=λρ=>bnd (m ρ) srcOf
noncomputable def upto(n:Nat):List W:=(_root_.List.range n).map λ(i:Nat)=>W.int (i:Int)
noncomputable def aI(ws:List W):M Src:=λh=>match ws with
 | [.int j]=>if -(2 ^ 62)<=j/\j<2 ^ 62 then some (.items (upto j.toNat),h) else none
 | _=>none
noncomputable def vw(ms:List ME):MI:=λρ=>bnd (ky ms ρ) aI
section
variable{X:Cx}{cl:Cl}{tg e:Expr}{m:ME}{ms:List ME}{p pos:Pos}
def U7(hl:PE X e tl):PI X tg e (λσ H R=>tl σ H λx H1=>∃a,x=.ref a/\(((∃xs,SqL X.K H1 a xs)/\R (WX X.K a) H1)\/((∃xs,SqT X.K H1 a xs)/\R (Ct X.K a) H1))):=by
 intro pins s σ H R I h;refine kA (hl pins s σ H _ I h) λv s1 ⟨x,H1,I1,r1,q1⟩=>?_
 obtain⟨a,e,q1⟩:=q1;subst e;cases r1;rcases q1 with ⟨⟨xs,hq⟩,q⟩ | ⟨⟨xs,hq⟩,q⟩
 .obtain⟨its,rv,p,hz⟩:=I1.list hq
  refine vh p.isList ?_;refine⟨s1.heap.objs.size,[s1.heap.objs.size],_,_,H1,rfl,I1.kept (t':=s1.toks) λb o e=>zf _ e,Qc a _,⟨_,zQ _ rfl,rfl,rfl⟩,λb hb=>?_,q⟩;have e:b=s1.heap.objs.size:=by simpa using hb
  subst e;exact I1.fpOk (zj _) (I1.hok.fresh (zj _))
 .obtain⟨its,rv,p,hz⟩:=I1.tuple hq
  refine yj (show s1.heap.IsTuple a its.toArray from p) ?_;refine⟨s1.heap.objs.size,[s1.heap.objs.size],_,_,H1,rfl,I1.kept (t':=s1.toks) λb o e=>zf _ e,Z3 a _,⟨_,zQ _ rfl,rfl,rfl⟩,λb hb=>?_,q⟩;have e:b=s1.heap.objs.size:=by simpa using hb
  subst e;exact I1.fpOk (zj _) (I1.hok.fresh (zj _))
def UO{K:PySem.W.Frag}{μ:List Addr}{H:Hp}{h:MH}(R:HR K cl μ H h)(sa:SqT K H a vs)(ra:RWs K μ H l vs):JR K cl (Ct K a) (.items l) μ H:=by
 intro μ2 H2 h2 E2 R2 i;have sa2:=SqT.ext R E2 sa;have ra2:=ra.ext R E2;refine⟨λw ew=>?_,λes=>?_⟩
 .have ew':l[i]?=some w:=kh ew
  obtain⟨v,ev,rv⟩:=ra2.get ew';refine⟨⟨vs,v,sa2,ev⟩,λx H3 y=>?_⟩;obtain⟨rfl,y⟩:=y;have:=y vs sa2;rw[ev] at this;cases this;exact⟨.refl,R2,rv⟩
 .have es':l[i]?=none:=kh es
  exact⟨vs,sa2,by rw[<-ra.length];exact jN.mp es'⟩
def Be{K:PySem.W.Frag}{μ:List Addr}{H:Hp}{h:MH}(R:HR K cl μ H h)(sa:SqF K μ H a vs)(ra:RWs K μ H l vs):JR K cl (WX K a) (.items l) μ H:=by
 intro μ2 H2 h2 E2 R2 i;have sa2:=(SqF.ext E2 sa).sq;have ra2:=ra.ext R E2;refine⟨λw ew=>?_,λes=>?_⟩
 .have ew':l[i]?=some w:=kh ew
  obtain⟨v,ev,rv⟩:=ra2.get ew';refine⟨⟨vs,v,sa2,ev⟩,λx H3 y=>?_⟩;obtain⟨rfl,y⟩:=y;have:=y vs sa2;rw[ev] at this;cases this;exact⟨.refl,R2,rv⟩
 .have es':l[i]?=none:=kh es
  exact⟨vs,sa2,by rw[<-ra.length];exact jN.mp es'⟩
def XS{K:PySem.W.Frag}{μ:List Addr}{H:Hp}(hn:μ[n]?=some a):JR K cl (WX K a) (.live n) μ H:=by
 intro μ2 H2 h2 E2 R2 i;have hn2:=E2.get hn;refine⟨λw ew=>?_,λes=>?_⟩
 .unfold xN at ew
  dsimp only at ew;split at ew
  .rename_i l ho
   have ew':l[i]?=some w:=kh ew;obtain⟨vs,hv,ra⟩:=R2.ob n a _ hn2 ho;obtain⟨v,ev,rv⟩:=ra.get ew';refine⟨⟨vs,v,SqL.of hv,ev⟩,λx H3 y=>?_⟩;obtain⟨rfl,y⟩:=y;have:=y vs (SqL.of hv);rw[ev] at this;cases this;exact⟨.refl,R2,rv⟩
  .cases ew
 .unfold xN at es
  dsimp only at es;split at es
  .rename_i l ho
   have es':l[i]?=none:=kh es;obtain⟨vs,hv,ra⟩:=R2.ob n a _ hn2 ho;exact⟨vs,SqL.of hv,by rw[<-ra.length];exact jN.mp es'⟩
  .cases es
def BU(he:SE X cl e m):SI X cl tg e (qq m):=PI.wk (U7 he) λσ H Q q0=>by
 obtain⟨μ,h,ρ,src,h',R,er,e,k⟩:=q0;obtain⟨x,h1,e1,e⟩:=ka e;refine⟨μ,h,ρ,x,h1,R,er,e1,λμ1 H1 v E1 R1 r=>?_⟩;unfold srcOf at e;split at e
 .cases e
  obtain⟨a,vs,rfl,sa,ra⟩:=r.tup_of;exact⟨a,rfl,.inr ⟨⟨vs,sa⟩,k μ1 H1 _ E1 R1 (UO R1 sa ra)⟩⟩
 .cases e
  cases r with | @fls a vs l sa ra=>
  exact⟨a,rfl,.inl ⟨⟨vs,sa.sq⟩,k μ1 H1 _ E1 R1 (Be R1 sa ra)⟩⟩
 .rename_i n
  split at e
  .rename_i l ho
   cases e;cases r with | @ref _ a hn=>
   obtain⟨vs,hv,ra⟩:=R1.ob n a _ hn ho;exact⟨a,rfl,.inl ⟨⟨vs,SqL.of hv⟩,k μ1 H1 _ E1 R1 (XS hn)⟩⟩
  .cases e
 .cases e
def Ca{K:PySem.W.Frag}{μ:List Addr}{H:Hp}:JR K cl (Yd 0 n) (.items (upto n)) μ H:=by
 intro μ2 H2 h2 E2 R2 i;refine⟨λw ew=>?_,λes=>?_⟩
 .have ew':(upto n)[i]?=some w:=kh ew
  unfold upto at ew';rw[je] at ew';by_cases hi:i<n
  .rw[List.getElem?_range hi] at ew'
   cases ew';refine⟨hi,λx H3 y=>?_⟩;obtain⟨rfl,rfl⟩:=y;exact⟨.refl,R2,by rw[Int.zero_add];exact .int _⟩
  .rw[jP (by simpa using hi)] at ew'
   cases ew'
 .have es':(upto n)[i]?=none:=kh es
  have:=jN.mp es';unfold upto at this;rw[zO,qX] at this;exact this
def C6(hm:X.mg "range" = none)(ha:SA X cl [e] ms)(hg:Gl X "range":=by rfl)(hs:starEach [e] X.env=[(false,eval e X.env)]:=by rfl):SI X cl tg (.Call (.Name "range" p) [e] [] pos) (vw ms):=
 PI.wk (Qa hg hm ha hs) λσ H Q q0=>by
  obtain⟨μ,h,ρ,src,h',R,er,e,k⟩:=q0;obtain⟨ws,h1,e1,e⟩:=ka e;refine⟨μ,h,ρ,ws,h1,R,er,e1,λμ1 H1 vs E1 R1 rs=>?_⟩;unfold aI at e;split at e
  .rename_i j
   split at e
   .rename_i hj
    cases e;cases rs with | cons r t=>cases t with | nil=>
    cases r.int_of;exact⟨j,rfl,hj.1,hj.2,k μ1 H1 _ E1 R1 Ca⟩
   .cases e
  .cases e
end
noncomputable def hV(sc scope:Scope):Scope:={ scope with names:=scope.names.map λ(n,k)=>if (k==.free&&sc.kind==.function&&sc.names.lookup n==some .cell) then (n,.cell) else (n,k) }
noncomputable def g8(sc:Scope)(x:Str):Bool:=sc.names.lookup x==some .cell||sc.names.lookup x==some .free
noncomputable def uC(sc:Scope)(N:List Str)(scope:Scope)(N':List Str)(nl:Nat)(ks:List Nat):Bool:=
 scope.kind==.function&&scope.names.all (λy=>y.2 != .cell)&&scope.names.all (λy=>y.2 != .local||scope.names.lookup y.1==some .local)
 && N'.length==nl+ks.length&&scope.names.all (λy=>y.2 != .free||g8 sc y.1)
 && (List.range ks.length).all λj=>match ks[j]?,N'[nl+j]? with
  | some k,some x=>N[k]?==some x&&g8 sc x&&g8 (hV sc scope) x
  | _,_=>false
structure CompOk(sc:Scope)(N:List Str)(scope:Scope)(N':List Str)(nl:Nat)(ks:List Nat):Prop where
 kind:scope.kind=.function
 ncell:∀y∈scope.names,y.2≠.cell
 names:∀y∈scope.names,y.2=.local->scope.names.lookup y.1=some .local
 len:N'.length=nl+ks.length
 fall:∀y∈scope.names,y.2=.free->g8 sc y.1=true
 fr:∀j k,ks[j]?=some k->∃x,N[k]?=some x/\N'[nl+j]?=some x/\g8 sc x=true/\g8 (hV sc scope) x=true
def u6(h:uC sc N scope N' nl ks=true):CompOk sc N scope N' nl ks:=by
 unfold uC at h;simp only[zu] at h;obtain⟨⟨⟨⟨⟨h1,h2⟩,h3⟩,h4⟩,h5⟩,h6⟩:=h;refine⟨by simpa using h1,λy hy=>?_,λy hy e=>?_,by simpa using h4,λy hy e=>?_,λj k e=>?_⟩
 .have:=kW.mp h2 y hy;simpa using this
 .have:=kW.mp h3 y hy;simpa[e] using this
 .have:=kW.mp h5 y hy;simpa[e] using this
 .have hj:j<ks.length:=(zT.mp e).1
  have:=kW.mp h6 j (yz.mpr hj);rw[e] at this;cases e2:N'[nl+j]? with
  | none=>rw[e2] at this;simp at this
  | some x=>
   rw[e2] at this;simp only[zu] at this;exact⟨x,by simpa using this.1.1,rfl,this.1.2,this.2⟩
def gM{sc:Scope}(h:g8 sc x=true):sc.names.lookup x=some .cell\/sc.names.lookup x=some .free:=by
 unfold g8 at h;rcases xn.mp h with h | h
 .exact .inl (by simpa using h)
 .exact .inr (by simpa using h)
noncomputable def yi(X:Cx)(scope:Scope)(cs:List (Str×Addr))(C:Addr)(N:List Str)(s₀:Shared)(H₀:Hp)(ex:List Addr):Cx:=
 { X with N:=N,s₀:=s₀,H₀:=H₀,env:=compEnvC scope cs C X.env,outer:=X.stack,ex:=ex,fn:=λ_=>false,pn:=[],xe:=λ_ _=>False }
def ZQ{env:Env}(names:List (Str×NameKind))(h:∀y∈names,y.2=.free->∃c,env.cells.lookup y.1=some c):∀cs0:List (Str×Addr),(∀x c,cs0.lookup x=some c->env.cells.lookup x=some c)->
  ∃cs,(forIn names cs0 λ(x:Str×NameKind) (r:List (Str×Addr))=>if (x.2==NameKind.free)=true then do
    let a <-cellOf env x.1
    pure (ForInStep.yield ((x.1,a)::r)) else pure (ForInStep.yield r):Sem (List (Str×Addr)))=pure cs/\(∀x c,cs.lookup x=some c->env.cells.lookup x=some c)/\(∀y∈names,y.2=.free->∃c,cs.lookup y.1=some c)/\∀x c,cs0.lookup x=some c->∃c',cs.lookup x=some c':=by
 induction names with
 | nil=>intro cs0 h0;exact⟨cs0,by simp,h0,λy hy=>by simp at hy,λx c e=>⟨c,e⟩⟩
 | cons y r ih=>
  intro cs0 h0;have hr:∀z∈r,z.2=.free->∃c,env.cells.lookup z.1=some c:=λz hz=>h z (zJ _ hz)
  by_cases hy:(y.2==NameKind.free)=true
  .obtain⟨c,hc⟩:=h y zX (by simpa using hy)
   have h1:∀x c',((y.1,c)::cs0).lookup x=some c'->env.cells.lookup x=some c':=λx c' e=>by
    rw[kJ] at e;split at e
    .rename_i q
     have:x=y.1:=by simpa using q
     subst this;rw[<-e];exact hc
    .exact h0 x c' e
   obtain⟨cs,e1,e2,e3,e4⟩:=ih hr ((y.1,c)::cs0) h1;have hself:∃c',cs.lookup y.1=some c':=e4 y.1 c (by rw[kJ];simp);refine⟨cs,?_,e2,λz hz e=>?_,λx c' e=>?_⟩
   .rw[qT,zY hy]
    have:cellOf env y.1=pure c:=by unfold cellOf;rw[hc]
    rw[this];simp only[pure_bind];exact e1
   .rcases zb.mp hz with rfl | hz
    .exact hself
    .exact e3 z hz e
   .by_cases q:x=y.1
    .subst q;exact hself
    .refine e4 x c' ?_
     rw[kJ];have:(x==y.1)=false:=by simpa using q
     rw[this];exact e
  .obtain⟨cs,e1,e2,e3,e4⟩:=ih hr cs0 h0
   refine⟨cs,?_,e2,λz hz e=>?_,e4⟩
   .rw[qT,kO hy]
    simp only[pure_bind];exact e1
   .rcases zb.mp hz with rfl | hz
    .exact absurd (by simpa using e) hy
    .exact e3 z hz e
theorem oH{env:Env}{scope:Scope}(h:∀y∈scope.names,y.2=.free->∃c,env.cells.lookup y.1=some c) :
  ∃cs,closureFor scope env=pure cs/\(∀x c,cs.lookup x=some c->env.cells.lookup x=some c)/\(∀y∈scope.names,y.2=.free->∃c,cs.lookup y.1=some c):=by
 obtain⟨cs,e1,e2,e3,_⟩:=ZQ scope.names h [] (λx c e=>by simp at e);refine⟨cs,?_,e2,e3⟩
 have q:closureFor scope env=((forIn scope.names ([]:List (Str×Addr)) λ(x:Str×NameKind) (r:List (Str×Addr))=>if (x.2==NameKind.free)=true then do
    let a <-cellOf env x.1
    pure (ForInStep.yield ((x.1,a)::r)) else pure (ForInStep.yield r):Sem (List (Str×Addr))) >>= λcs=>pure cs):=rfl
 rw[q,e1];rfl
section
variable{X:Cx}{pins:List (Addr×Obj)}{σ:L2.St}{H:Hp}{s:Shared}
def sI{scope:Scope}(nc:∀y∈scope.names,y.2≠.cell)(h:g8 (hV sc scope) x=true):∃y∈scope.names,y.1=x/\y.2=.free:=by
 have go:∀l:List (Str×NameKind),(∀y∈l,y.2≠.cell)->∀k:NameKind,(k=.cell\/k=.free)->(l.map λ(n,k)=>if (k==NameKind.free&&sc.kind==ScopeKind.function&&sc.names.lookup n==some NameKind.cell) then (n,NameKind.cell) else (n,k)).lookup x=some k->∃y∈l,y.1=x/\y.2=.free:=by
  intro l;induction l with
  | nil=>intro _ k _ e;simp at e
  | cons y r ih=>
   obtain⟨n,k0⟩:=y;intro nc k hk e;rw[zx,kJ] at e;have fstq:(if (k0==NameKind.free&&sc.kind==ScopeKind.function&&sc.names.lookup n==some NameKind.cell)=true then (n,NameKind.cell) else (n,k0)).1=n:=by split<;>rfl
   by_cases q:x=n
   .refine⟨(n,k0),zX,q.symm,?_⟩
    have:(x==n)=true:=by simpa using q
    simp only[fstq,this] at e;split at e
    .rename_i c
     simp only[zu] at c;simpa using c.1.1
    .have e':k0=k:=by simpa using e
     rcases hk with rfl | rfl
     .exact absurd e' (nc (n,k0) zX)
     .exact e'
   .have:(x==n)=false:=by simpa using q
    simp only[fstq,this] at e;obtain⟨y,hy,e1,e2⟩:=ih (λy hy=>nc y (zJ _ hy)) k hk e;exact⟨y,zJ _ hy,e1,e2⟩
 rcases gM h with h | h
 .exact go scope.names nc _ (.inl rfl) h
 .exact go scope.names nc _ (.inr rfl) h
def UY{scope:Scope}{cs:List (Str×Addr)}(I:Inv X pins σ H s)(hsc:X.env.scope=sc)(ok:CompOk sc N scope N' nl ks)
  (hcs:∀x c,cs.lookup x=some c->X.env.cells.lookup x=some c) (hall:∀y∈scope.names,y.2=.free->∃c,cs.lookup y.1=some c) (hC:s.heap.objs.size<=C) (hex:∀b∈ex,uR X pins H b) (hob:∀b∈ex,b<s.heap.objs.size):(yi X scope cs C N' s H ex).Ok:=by
 subst hsc;refine⟨I.ok.mod,ok.kind,I.ok.glob,I.ok.blt,hC,λx y c h1 h2=>I.ok.inj x y c (hcs x c h1) (hcs y c h2),λx hx=>?_,λx c h=>?_,I.ok.hd,I.ok.frames,.inl rfl,λb hb=>?_,I.bs,zR I.ok.bsz I.sz,λb o e hb=>?_,λb hb z=>?_,I.stack,I.stkFree⟩
 .have hc:g8 (hV X.env.scope scope) x=true:=by
   unfold g8;rcases hx with hx | hx
   .rw[show(hV X.env.scope scope).names.lookup x=some .cell from hx];rfl
   .rw[show(hV X.env.scope scope).names.lookup x=some .free from hx];rfl
  obtain⟨y,hy,rfl,e⟩:=sI ok.ncell hc;exact hall y hy e
 .cases h
 .obtain⟨h0,h1,h2,h3,h4,h5⟩:=hex b hb
  exact⟨λz=>absurd (zL (hob b hb) (z▸hC)) (jD _),λx c e=>h4 x c (hcs x c e)⟩
 .obtain⟨h0,h1,h2,h3,h4,h5⟩:=hex b hb
  rcases h3 with h3 | h3
  .exact I.ok.noex b o e h3
  .exact absurd (zL (zA e) (zR I.ok.bsz h3)) (jD _)
 .obtain⟨h0,h1,h2,h3,h4,h5⟩:=hex b hb
  rcases zb.mp (I.stkSub b z) with e | e
  .exact h1 e
  .exact h2 e
end
section
variable{prog:Program}{w:World}{A:Around}{R:Result->Shared->Prop}{s:Shared}
noncomputable def ZF(ifs:List Expr)(env:Env):Sem Bool:=forIn ifs true λc r=>if r=true then do let ok <-isTrue c env (eval c env);pure (ForInStep.yield ok) else pure (ForInStep.yield r)
def sf(I:Nat->Shared->Prop)
  (turn:∀n s,I n s->wpAny (model prog w) A (pyNext it) (λr s₁=>match r with
   | none=>R (.ok .next) s₁
   | some v=>wpAny (model prog w) A (letOwnedTupleGo target it v) (λ_ s₁'=>wpAny (model prog w) A (assign target env v) (λ_ s₂=>
     wpAny (model prog w) A (ZF ifs env) (λok s₃=>
      if ok=true then wpAny (model prog w) A (eval elt env) (λx s₄=>
       wpAny (model prog w) A (call (.builtin "list.append") [acc,x]) (λ_ s₅=>∃m,m<n/\I m s₅) (λ_ _=>False) s₄) (λ_ _=>False) s₃
      else ∃m,m<n/\I m s₃) (λ_ _=>False) s₂) (λ_ _=>False) s₁') (λ_ _=>False) s₁) (λ_ _=>False) s)
  (n:Nat) (h:I n s) :
  codeAny (model prog w) A (.compLoop (.ListComp elt [⟨target,iter,ifs,0⟩] scope pos) 0 it acc env) R s:=by
 refine codeAny_loop rfl I (λn s hI=>?_) n h;show wpAny _ A ((compTurn (.ListComp elt [⟨target,iter,ifs,0⟩] scope pos) 0 it acc env).onRaise (λx=>do noteFrame x env;theTreesLotGoes x)) _ _ s
 refine wpAny_noted ?_;rw[compTurn_list];refine za (yh (za (qM (turn n s hI) (λr s₁ h₁=>?_) λ_ _ h'=>h'.elim)));cases r with
 | none=>exact zr h₁
 | some v=>
  refine za (qM h₁ (λ_ s₁' h₁'=>?_) λ_ _ h'=>h'.elim);refine za (qM h₁' (λ_ s₂ h₂=>za (qM h₂ (λok s₃ h₃=>?_) λ_ _ h'=>h'.elim)) λ_ _ h'=>h'.elim);cases ok with
  | false=>exact zr ⟨rfl,h₃⟩
  | true=>
   exact za (za (qM h₃ (λx s₄ h₄=>za (qM h₄ (λ_ s₅ h₅=>zr (zr ⟨rfl,h₅⟩)) λ_ _ h'=>h'.elim)) λ_ _ h'=>h'.elim))
end
noncomputable def ij(X:Cx)(cl:Cl)(ifs:List Expr)(t:MT):Prop:=∀(pins:List (Addr×Obj)) (s:Shared) (σ:L2.St) (H:Hp) (Q:Bool->Hp->Prop),Inv X pins σ H s->tMT X.K cl t σ H Q->wpAny (model X.prog X.w) X.A (ZF ifs X.env) (TP X pins σ Q) X.xe s
noncomputable def kL:MT:=λ_ h=>some (true,h)
section
variable{X:Cx}{cl:Cl}{c:Expr}{t:MT}
def YQ:ij X cl [] kL:=λpins s σ H Q I q0=>by
 obtain⟨μ,h,ρ,b,h',R,er,e,k⟩:=q0;cases e;exact wpAny_tests_nil ⟨H,I,k μ H .refl R⟩
def YJ(h:ST X cl c t):ij X cl [c] t:=λpins s σ H Q I q=>wpAny_tests_one (h pins s σ H Q I q)
end
noncomputable def blank(nl:Nat)(ρ:En):En:=List.replicate nl none++ρ.drop nl
noncomputable def xK(src:Src)(nl:Nat)(g:MG)(t:MT)(m:ME)(n0:Nat):Nat->Nat->En->MH->Option MH
 | 0,_,_,_=>none
 | k+1,i,ρ,h=>match xN src i h with
  | none=>none
  | some none=>some h
  | some (some w)=>match g w ρ h with
   | none=>none
   | some (ρ1,h1)=>match t ρ1 h1 with
    | none=>none
    | some (false,h2)=>xK src nl g t m n0 k (i+1) (blank nl ρ1) h2
    | some (true,h2)=>match m ρ1 h2 with
     | none=>none
     | some (y,h3)=>match h3[n0]? with
      | some (.lst acc)=>if acc.length<cap then xK src nl g t m n0 k (i+1) (blank nl ρ1) (h3.set n0 (.lst (acc++[y]))) else none
      | _=>none
noncomputable def vv(nl:Nat)(g:MG)(t:MT)(m:ME)(n0:Nat):List W->En->MH->Option MH
 | [],_,h=>some h
 | w::r,ρ,h=>match g w ρ h with
   | none=>none
   | some (ρ1,h1)=>match t ρ1 h1 with
    | none=>none
    | some (false,h2)=>vv nl g t m n0 r (blank nl ρ1) h2
    | some (true,h2)=>match m ρ1 h2 with
     | none=>none
     | some (y,h3)=>match h3[n0]? with
      | some (.lst acc)=>if acc.length<cap then vv nl g t m n0 r (blank nl ρ1) (h3.set n0 (.lst (acc++[y]))) else none
      | _=>none
theorem eB(l:List W):∀(k i:Nat) (ρ:En) (h:MH),l.length+1<=i+k->i<=l.length->xK (.items l) nl g t m n0 k i ρ h=vv nl g t m n0 (l.drop i) ρ h
 | 0,i,ρ,h,hk,hi=>by omega
 | k+1,i,ρ,h,hk,hi=>by
  by_cases hl:i<l.length
  .rw[qJ hl]
   unfold xK vv;simp only[xN,zB hl];cases e1:g l[i] ρ h with
   | none=>rfl
   | some p=>
    obtain⟨ρ1,h1⟩:=p;simp only;cases e2:t ρ1 h1 with
    | none=>rfl
    | some q=>
     obtain⟨b,h2⟩:=q;cases b with
     | false=>exact eB l k (i+1) _ h2 ∅ hl
     | true=>
      simp only;cases e3:m ρ1 h2 with
      | none=>rfl
      | some q3=>
       obtain⟨y,h3⟩:=q3;simp only;split
       .split
        .exact eB l k (i+1) _ _ ∅ hl
        .rfl
       .rfl
  .have hi':i=l.length:=by omega
   subst hi';rw[yg];unfold xK vv;simp[xN]
noncomputable def uY(mi:MI)(nl:Nat)(ks:List Nat)(g:MG)(t:MT)(m:ME):En->MH->Option (Nat×MH×MH):=λρ h=>match mi ρ h with
 | none=>none
 | some (.items l,h1)=>match vv nl g t m h1.length l (List.replicate nl none++ks.map λk=>(ρ[k]?).join) (h1++[.lst []]) with
  | some h2=>some (h1.length,h1,h2)
  | none=>none
 | some (.live n,h1)=>match xK (.live n) nl g t m h1.length (fq (.live n) h1+1) 0 (List.replicate nl none++ks.map λk=>(ρ[k]?).join) (h1++[.lst []]) with
  | some h2=>some (h1.length,h1,h2)
  | none=>none
noncomputable def xO(mi:MI)(nl:Nat)(ks:List Nat)(g:MG)(t:MT)(m:ME):ME:=λρ h=>match uY mi nl ks g t m ρ h with
 | some (n,_,h2)=>some (.ref n,h2)
 | none=>none
open Classical in
noncomputable def ja(mi:MI)(nl:Nat)(ks:List Nat)(g:MG)(t:MT)(m:ME):ME:=λρ h=>match uY mi nl ks g t m ρ h with
 | some (n,h1,h2)=>match h2[n]? with
  | some (.lst l)=>if h1<+:h2/\lows h1.length l=true then some (.fls l,h1) else none
  | _=>none
 | none=>none
theorem ER.blank{K:PySem.W.Frag}{μ:List Addr}{H:Hp}{ρ:En}(er:ER K μ H ρ σ)(hl:nl<=ρ.length):ER K μ H (ML.blank nl ρ) σ:=by
 unfold ML.blank;refine⟨by simp;rw[<-er.len];omega,λi w e=>?_⟩;by_cases hi:i<nl
 .rw[zy (by simpa using hi),qi] at e
  split at e<;>cases e
 .rw[zG (by simpa using hi),qw,List.getElem?_drop] at e
  exact er.at_ i w (by rw[<-e];congr 1;omega)
section
variable{X:Cx}{cl:Cl}{pins:List (Addr×Obj)}{σ:L2.St}
noncomputable def σC(nl:Nat)(ks:List Nat)(σ:L2.St):L2.St:=List.replicate nl none++ks.map λk=>(σ[k]?).join
noncomputable def ρC(nl:Nat)(ks:List Nat)(ρ:En):En:=List.replicate nl none++ks.map λk=>(ρ[k]?).join
def Gn{K:PySem.W.Frag}{μ:List Addr}{H:Hp}(er:ER K μ H ρ σ):ER K μ H (ρC nl ks ρ) (σC nl ks σ):=by
 unfold ρC σC;refine⟨by simp,λi w e=>?_⟩;by_cases hi:i<nl
 .rw[zy (by simpa using hi),qi] at e
  split at e<;>cases e
 .rw[zG (by simpa using hi),qw,je] at e
  rw[zG (by simpa using hi),qw,je];cases e1:ks[i-nl]? with
  | none=>rw[e1] at e;cases e
  | some k=>
   rw[e1] at e;have e2:(ρ[k]?).join=some w:=kh e;have e3:ρ[k]?=some (some w):=by
    cases q:ρ[k]? with
    | none=>rw[q] at e2;cases e2
    | some o=>rw[q] at e2;cases o with
     | none=>cases e2
     | some z=>cases e2;rfl
   obtain⟨v,ev,r⟩:=er.at_ k w e3;exact⟨v,by simp[ev],r⟩
def Jc{scope:Scope}{cs:List (Str×Addr)}{H:Hp}{s:Shared}{h₁:Heap}(I:Inv X pins σ H s)(hsc:X.env.scope=sc)(hN:X.N=N)(ok:CompOk sc N scope N' nl ks)
  (hcs:∀x c,cs.lookup x=some c->X.env.cells.lookup x=some c) (hall:∀y∈scope.names,y.2=.free->∃c,cs.lookup y.1=some c) (hex:∀b∈ex,uR X pins H b) (hob:∀b∈ex,b<s.heap.objs.size)
   (hns:h₁.Ns (s.heap.objs.size+1) m0) (old:∀b o,s.heap.get? b=some o->h₁.get? b=some o) (hD:h₁.get? s.heap.objs.size=some { cls:=.type "list",data:=.seq ([]:List Value).toArray }) :
  Inv (yi X scope cs (s.heap.objs.size+1) N' s H ex) [] (σC nl ks σ) (upd H s.heap.objs.size (.lst [])) { s with heap:=h₁,toks:=tk }:=by
 have hfr:H s.heap.objs.size=none:=I.hok.fresh (zj _);have ltD:∀{b:Addr} {o:Obj},s.heap.get? b=some o->b≠s.heap.objs.size:=λe=>zW (zA e)
 refine⟨UY I hsc ok hcs hall (vq _) hex hob,rfl,I.bare,Un.laid old (zj _) hfr,⟨m0,hns,λi x v e1 e2 e3=>?_⟩,λx c e=>?_,?_,λx c e=>?_,λp hp=>absurd (show p∈([]:List (Addr×Obj)) from hp) (by simp),I.hok.laid old (zj _) ⟨by simp,[],_,.nil,hD⟩,?_⟩
 .have e1':N'[i]?=some x:=e1
  unfold σC at e2;by_cases hi:i<nl
  .rw[zy (by simpa using hi),qi] at e2
   split at e2<;>cases e2
  .rw[zG (by simpa using hi),qw,je] at e2
   cases q1:ks[i-nl]? with
   | none=>rw[q1] at e2;cases e2
   | some k=>
    rw[q1] at e2;have q2:(σ[k]?).join=some v:=kh e2;have q3:σ[k]?=some (some v):=by
     cases q:σ[k]? with
     | none=>rw[q] at q2;cases q2
     | some o=>rw[q] at q2;cases o with
      | none=>cases q2
      | some z=>cases q2;rfl
    obtain⟨x',hx1,hx2,hx3,hx4⟩:=ok.fr (i-nl) k q1;have:x'=x:=by
     rw[show nl+(i-nl)=i by omega,e1'] at hx2;exact(kh hx2).symm
    subst this;subst hsc;obtain⟨m,hn,hl⟩:=I.loc;have vis:QB X.env.scope x':=by rcases gM hx3 with z | z;exact .inr (.inl z);exact .inr (.inr z)
    obtain⟨u,ru,lk⟩:=hl k x' v (by rw[hN];exact hx1) q3 vis;refine⟨u,ru,?_⟩;rcases lk with ⟨z,_⟩ | ⟨_,c,hc,ic⟩
    .rcases gM hx3 with y | y<;>(rw[show X.env.kindOf x'=X.env.scope.names.lookup x' from rfl,y] at z;cases z)
    .refine .inr ⟨gM hx4,?_⟩
     obtain⟨y,hy,rfl,hyf⟩:=sI ok.ncell hx4;obtain⟨c',hc'⟩:=hall y hy hyf;have:=hcs _ _ hc';rw[hc] at this;cases this;obtain⟨o,ho,hd⟩:=ic;exact⟨c,hc',o,old _ _ ho,hd⟩
 .obtain⟨v,o,ho,hd⟩:=I.cell x c (hcs x c e)
  exact⟨v,o,old _ _ ho,hd⟩
 .show(upd H s.heap.objs.size (.lst [])) (s.heap.objs.size+1)=none
  rw[kM (Nat.succ_ne_self _)];exact I.hok.fresh (vq _)
 .obtain⟨v,o,ho,hd⟩:=I.cell x c (hcs x c e)
  rw[kM (ltD ho)];exact I.freeC x c (hcs x c e)
 .show(σC nl ks σ).length=N'.length
  unfold σC;rw[ok.len];simp
def Qx{elt tg iter:Expr}{ifs:List Expr}{scope sc:Scope}{pos:Pos}{N N':List Str}{nl:Nat}{ks:List Nat}{cs:List (Str×Addr)}{J:It}{it:Addr}{fp:List Addr}{tn:Nat->Heap->Prop}{g:MG}{t:MT}{m:ME}{src:Src}{k0:Nat}
  {H2:Hp} {s2:Shared} {μ:List Addr} {h h':MH} {ρ:En} {RR:Value->Addr->Result->Shared->Prop} {E:Value->Shared->Prop}
  (hc:X.calm=true) (hsc:X.env.scope=sc) (hN:X.N=N) (ok:CompOk sc N scope N' nl ks)
  (hg:∀cs C s₀ H₀ ex,SG (yi X scope cs C N' s₀ H₀ ex) cl tg g) (ht:∀cs C s₀ H₀ ex,ij (yi X scope cs C N' s₀ H₀ ex) cl ifs t) (he:∀cs C s₀ H₀ ex,SE (yi X scope cs C N' s₀ H₀ ex) cl elt m)
  (I2:Inv X pins σ H2 s2) (T:Turn X.prog X.w X.K tg J fp it tn) (st2:tn 0 s2.heap) (f2:∀b∈fp,uR X pins H2 b)
  (hcs:∀x c,cs.lookup x=some c->X.env.cells.lookup x=some c) (hall:∀y∈scope.names,y.2=.free->∃c,cs.lookup y.1=some c)
  (R2:HR X.K cl μ H2 h) (er:ER X.K μ H2 ρ σ) (j:JR X.K cl J src μ H2) (e:xK src nl g t m h.length k0 0 (ρC nl ks ρ) (h++[.lst []])=some h')
  (hRR:∀D C s' H' μ' m',D≠C->s'.heap.Ns C m'->Inv X pins σ H' s'->H' C=none->s2.heap.objs.size<=C->Ext μ H2 μ' H'->HR X.K cl μ' H' h'->μ'[h.length]?=some D->RR (.ref D) C (.ok .next) s') :
  wpAny (model X.prog X.w) X.A (newList []) (λacc s₃=>wpAny (model X.prog X.w) X.A (newFunctionEnv scope X.env.globals cs [] X.env.qual none .none (some X.env)) (λcenv s₄=>
   codeAny (model X.prog X.w) X.A (.compStart (.ListComp elt [⟨tg,iter,ifs,0⟩] scope pos) 0 (.ref it) acc { cenv with scope:=relabel scope X.env }) (RR acc cenv.locals) s₄) E s₃) E s2:=by
 refine jm (wpAny_newFunctionEnv ok.ncell (by intro y hy;simp at hy) (λh₁ hns₁ hsb₁=>?_) ok.kind);dsimp only at hns₁ hsb₁ ⊢;generalize hP:s2.heap.push { cls:=.type "list",dict:=none,data:=.seq ([]:List Value).toArray }=P at hns₁ hsb₁ ⊢;have hC:P.objs.size=s2.heap.objs.size+1:=by rw[<-hP,j4]
 rw[hC] at hns₁ hsb₁ ⊢;have old:∀b o,s2.heap.get? b=some o->h₁.get? b=some o:=λb o e=>hsb₁.extBut b o (zW (vV (zA e))) (zf _ (hP▸zf _ e))
 have hD:h₁.get? s2.heap.objs.size=some { cls:=.type "list",data:=.seq ([]:List Value).toArray }:=hsb₁.extBut _ _ (zW (jT _)) (zf _ (hP▸zQ _ rfl));have hob:∀b∈fp,b<s2.heap.objs.size:=λb hb=>by
  obtain⟨o,ho,_⟩:=T.obj 0 _ st2 b hb;exact zA ho
 have fr2:H2 s2.heap.objs.size=none:=I2.hok.fresh (zj _);have I3:=Jc (X:=X) (tk:=s2.toks+([]:List (Str×Value)).length) I2 hsc hN ok hcs hall f2 hob hns₁ old hD;have st3:tn 0 h₁:=T.keep 0 _ _ st2 λb _ o e=>old b o e
 have fr3:∀b∈fp,(upd H2 s2.heap.objs.size (.lst [])) b=none:=λb hb=>by
  rw[kM (zW (hob b hb))];exact(f2 b hb).1
 have fpk:∀{H:Hp},(∀b∈fp,H b=none)->∀b∈fp,uR (yi X scope cs (s2.heap.objs.size+1) N' s2 H2 fp) [] H b:=λhn b hb=>by
  obtain⟨g0,g1,g2,g3,g4,g5⟩:=f2 b hb;refine⟨hn b hb,zW (vV (hob b hb)),λz=>?_,.inl hb,λx c e=>g4 x c (hcs x c e),λp hp=>absurd (show p∈([]:List (Addr×Obj)) from hp) (by simp)⟩;rcases zb.mp (I2.stkSub b z) with q | q
  .exact g1 q
  .exact g2 q
 have loop:∀s:Shared,s={ s2 with heap:=h₁,toks:=s2.toks+([]:List (Str×Value)).length }->
   codeAny (model X.prog X.w) X.A (.compLoop (.ListComp elt [⟨tg,iter,ifs,0⟩] scope pos) 0 (.ref it) (.ref s2.heap.objs.size) (compEnvC scope cs (s2.heap.objs.size+1) X.env)) (RR (.ref s2.heap.objs.size) (s2.heap.objs.size+1)) s:=by
  rintro s rfl
  refine sf (λn s=>∃i σ' H ρ' μ' hh,Inv (yi X scope cs (s2.heap.objs.size+1) N' s2 H2 fp) [] σ' H s/\tn i s.heap/\(∀b∈fp,H b=none)/\HR X.K cl μ' H hh/\ER X.K μ' H ρ' σ'/\Ext μ H2 μ' H/\nl<=ρ'.length/\μ'[h.length]?=some s2.heap.objs.size /\
   xK src nl g t m h.length n i ρ' hh=some h') ?_ k0 ?_
  .rintro n s ⟨i,σ',H,ρ',μ',hh,I,st,fr,R,er',E',hl,hm,e⟩
   cases n with
   | zero=>cases e
   | succ n=>
    unfold xK at e;obtain⟨jg,js⟩:=j μ' H hh E' R i;cases es:xN src i hh with
    | none=>rw[es] at e;cases e
    | some o=>
     rw[es] at e;cases o with
     | none=>
      cases e;refine kA (T.done (yi X scope cs (s2.heap.objs.size+1) N' s2 H2 fp) rfl rfl rfl hc i [] s σ' H _ I (fpk fr) st (js es)) λr s1 ⟨hr,I1⟩=>?_
      subst hr;obtain⟨m1,hn1,_⟩:=I1.loc;refine hRR _ _ s1 H μ' m1 (zW (jT _)) hn1 ?_ I1.free (vq _) E' R hm;exact I2.call' I1.os I1.base I1.hok I1.bare λb hb=>⟨(f2 b hb).2.2.2.1,(f2 b hb).2.1,(f2 b hb).2.2.2.2.1,(f2 b hb).2.2.2.2.2⟩
     | some w=>
      obtain⟨go,yl⟩:=jg w es;simp only at e;cases e1:g w ρ' hh with
      | none=>rw[e1] at e;cases e
      | some p=>
       obtain⟨ρ1,h1⟩:=p;rw[e1] at e;simp only at e;refine kA (T.item (yi X scope cs (s2.heap.objs.size+1) N' s2 H2 fp) rfl rfl rfl hc i [] s σ' H _ I (fpk fr) st go) λr s1 ⟨u,hr,q1⟩=>?_
       subst hr;refine kA q1 λ_ s5 ⟨x,H5,I5,r5,y5,st5,fr5⟩=>?_
       obtain⟨E5,R5,rx⟩:=yl x H5 y5;have I5':=I5.pinned (fpk fr5) (T.obj _ _ st5);refine kA (hg cs _ s2 H2 fp _ s5 σ' H5 x u (λσ6 H6=>∃μ6,Ext μ' H5 μ6 H6/\HR X.K cl μ6 H6 h1/\ER X.K μ6 H6 ρ1 σ6) I5' r5 ⟨μ',hh,ρ',w,ρ1,h1,R5,er'.ext R E5,rx,e1,λμ6 H6 σ6 E6 R6 er6=>⟨μ6,E6,R6,er6⟩⟩) λ_ s6 ⟨σ6,H6,I6,μ6,E6,R6,er6⟩=>?_
       have hl6:nl<=ρ1.length:=by
        rw[er6.len,I6.len];show nl<=N'.length
        rw[ok.len];omega
       have E06:Ext μ H2 μ6 H6:=E'.trans (E5.trans E6);have fin:∀{s9:Shared} {H9:Hp} {μ9:List Addr} {h9:MH},Inv (yi X scope cs (s2.heap.objs.size+1) N' s2 H2 fp) ([]++ib fp s5.heap) σ6 H9 s9->Ext μ6 H6 μ9 H9->HR X.K cl μ9 H9 h9->xK src nl g t m h.length n (i+1) (ML.blank nl ρ1) h9=some h'->
         ∃k,k<n+1/\∃i σ' H ρ' μ' hh,Inv (yi X scope cs (s2.heap.objs.size+1) N' s2 H2 fp) [] σ' H s9/\tn i s9.heap/\(∀b∈fp,H b=none)/\HR X.K cl μ' H hh/\ER X.K μ' H ρ' σ'/\Ext μ H2 μ' H/\nl<=ρ'.length/\μ'[h.length]?=some s2.heap.objs.size/\xK src nl g t m h.length k i ρ' hh=some h':=by
        intro s9 H9 μ9 h9 I9 E9 R9 e9;refine⟨n,jT n,i+1,σ6,H9,ML.blank nl ρ1,μ9,h9,I9.unpinned,T.keep _ _ _ st5 λb hb o e=>(I9.pin (b,o) (jc _ (jc _ (bt hb e)))).1,λb hb=>?_,R9,(er6.ext R6 E9).blank hl6,E06.trans E9,?_,E9.get (E6.get (E5.get hm)),e9⟩
        .obtain⟨o,e,d⟩:=T.obj _ _ st5 b hb
         exact(I9.pin (b,o) (jc _ (jc _ (bt hb e)))).2.1
        .unfold ML.blank;simp
       cases e2:t ρ1 h1 with
       | none=>rw[e2] at e;cases e
       | some p2=>
        obtain⟨bb,h2⟩:=p2;rw[e2] at e;refine kA (ht cs _ s2 H2 fp _ s6 σ6 H6 (λb' H7=>b'=bb/\∃μ7,Ext μ6 H6 μ7 H7/\HR X.K cl μ7 H7 h2) I6 ⟨μ6,h1,ρ1,bb,h2,R6,er6,e2,λμ7 H7 E7 R7=>⟨rfl,μ7,E7,R7⟩⟩) λb' s7 ⟨H7,I7,hb',μ7,E7,R7⟩=>?_
        subst hb';cases b' with
        | false=>
         rw[kO zZ];exact fin I7 E7 R7 e
        | true=>
         rw[zY rfl];simp only at e;cases e3:m ρ1 h2 with
         | none=>rw[e3] at e;cases e
         | some p3=>
          obtain⟨y,h3⟩:=p3;rw[e3] at e;simp only at e;refine kA (he cs _ s2 H2 fp _ s7 σ6 H7 (λv H8=>∃μ8,Ext μ7 H7 μ8 H8/\HR X.K cl μ8 H8 h3/\RW X.K μ8 H8 y v) I7 ⟨μ7,h2,ρ1,y,h3,R7,er6.ext R6 E7,e3,λμ8 H8 v E8 R8 r8=>⟨μ8,E8,R8,r8⟩⟩) λxv s8 ⟨v,H8,I8,rv,μ8,E8,R8,r8⟩=>?_
          split at e
          .rename_i acc ho
           split at e
           .rename_i hlt
            have hm8:μ8[h.length]?=some s2.heap.objs.size:=E8.get (E7.get (E6.get (E5.get hm)));obtain⟨vs,hv,ra⟩:=R8.ob _ _ _ hm8 ho;refine kA (nX (X:=yi X scope cs (s2.heap.objs.size+1) N' s2 H2 fp) _ s8 σ6 H8 (.ref s2.heap.objs.size) [v] (.ref s2.heap.objs.size) [xv] (λ_ H9=>H9=upd H8 s2.heap.objs.size (.lst (vs++[v]))) I8 rfl (.cons rv .nil) ⟨_,vs,v,rfl,rfl,hv,zL (by rw[<-ra.length];exact hlt) um,rfl⟩) λ_ s9 ⟨_,H9,I9,_,hH9⟩=>?_
            subst hH9;exact fin I9 (E7.trans (E8.trans (.put hm8))) (R8.put (o:=.lst (acc++[y])) hm8 ⟨vs++[v],qk,(ra.append (.cons r8 .nil)).ext R8 (.put hm8)⟩) e
           .cases e
          .cases e
  .have R3:HR X.K cl (μ++[s2.heap.objs.size]) (upd H2 s2.heap.objs.size (.lst [])) (h++[.lst []]):=R2.new fr2 ⟨[],qk,.nil⟩
   exact⟨0,σC nl ks σ,_,ρC nl ks ρ,_,_,I3,st3,fr3,R3,(Gn er).ext R2 (.new fr2),.new fr2,by unfold ρC;simp,by rw[<-R2.len];simp,e⟩
 exact codeAny_compStart_list (loop _ rfl) (T.self _ 0 _ _ _ st3 (loop _ rfl))
def lD{H:Hp}{h1:MH}
  (hc:X.calm=true) (hsc:X.env.scope=sc) (hN:X.N=N) (ok:CompOk sc N scope N' nl ks) (hi:SI X cl tg iter mi)
  (hg:∀cs C s₀ H₀ ex,SG (yi X scope cs C N' s₀ H₀ ex) cl tg g) (ht:∀cs C s₀ H₀ ex,ij (yi X scope cs C N' s₀ H₀ ex) cl ifs t) (he:∀cs C s₀ H₀ ex,SE (yi X scope cs C N' s₀ H₀ ex) cl elt m)
  (I:Inv X pins σ H s) (R:HR X.K cl μ H h) (er:ER X.K μ H ρ σ) (e:uY mi nl ks g t m ρ h=some (n0,h1,h2)) (hs:∀x,foldedSetIterable iter X.env x=pure x)
  (k:∀D C s' H' μ' m' s2 H1 μ1,D≠C->s'.heap.Ns C m'->Inv X pins σ H' s'->H' C=none->X.env.locals≠C->(∀x c,X.env.cells.lookup x=some c->c≠C)->(X.s₀.heap.objs.size<=C)->(∀p∈X.pn++pins,p.1≠C)->Inv X pins σ H1 s2->Ext μ H μ1 H1->HR X.K cl μ1 H1 h1->Ext μ1 H1 μ' H'->HR X.K cl μ' H' h2->h1.length=n0->μ'[n0]?=some D->
   compPost (model X.prog X.w) X.A X.xe use Q (.ref D) C (.ok .next) s') :
  wpAny (model X.prog X.w) X.A (comprehension (.ListComp elt [⟨tg,iter,ifs,0⟩] scope pos) scope X.env p2 (newList []) false (eval iter X.env) use) Q X.xe s:=by
 subst hsc;have hcell:∀y∈scope.names,y.2=.free->∃c,X.env.cells.lookup y.1=some c:=λy hy e=>I.ok.has y.1 (gM (ok.fall y hy e))
 obtain⟨cs,hclos,hcs,hall⟩:=oH hcell;have key:∀{src:Src} {k0:Nat},mi ρ h=some (src,h1)->xK src nl g t m h1.length k0 0 (ρC nl ks ρ) (h1++[.lst []])=some h2->n0=h1.length->
   wpAny (model X.prog X.w) X.A (comprehension (.ListComp elt [⟨tg,iter,ifs,0⟩] scope pos) scope X.env p2 (newList []) false (eval iter X.env) use) Q X.xe s:=by
  intro src k0 e1 e2 hn0;subst hn0;refine wpAny_comprehension_free (use:=use) rfl hs hclos ok.kind ok.names ?_;refine kA (hi pins s σ H (λJ H1=>∃μ1,Ext μ H μ1 H1/\HR X.K cl μ1 H1 h1/\JR X.K cl J src μ1 H1) I ⟨μ,h,ρ,src,h1,R,er,e1,λμ1 H1 J E1 R1 j=>⟨μ1,E1,R1,j⟩⟩) λv s1 q1=>kA q1 λitv s2 q2=>?_
  obtain⟨it,fp,tn,J,H2,rfl,I2,T,st2,f2,μ2,E2,R2,j⟩:=q2;refine Qx (RR:=λacc C=>compPost (model X.prog X.w) X.A X.xe use Q acc C) hc rfl hN ok hg ht he I2 T st2 f2 hcs hall R2 (er.ext R E2) j e2 ?_;intro D C s' H' μ' m' hDC hns I' hfC hC E' R' hm;refine k D C s' H' μ' m' s2 H2 μ2 hDC hns I' hfC (zW (zL I2.lt hC)) (λx c e z=>?_) (zR I2.sz hC) (λp hp z=>?_) I2 E2 R2 E' R' rfl hm
  .obtain⟨v,o,ho,_⟩:=I2.cell x c e
   exact absurd (zL (zA ho) (z▸hC)) (jD _)
  .exact absurd (zL (zA (I2.pin p hp).1) (z▸hC)) (jD _)
 unfold uY at e;split at e
 .cases e
 .rename_i l h1' e1
  split at e
  .rename_i h2' e2
   cases e;have q:=eB (nl:=nl) (g:=g) (t:=t) (m:=m) (n0:=h1.length) l (l.length+1) 0 (ρC nl ks ρ) (h1++[.lst []]) ∅ ∅;rw[wG] at q;exact key e1 (q.trans e2) rfl
  .cases e
 .rename_i n h1' e1
  split at e
  .rename_i h2' e2
   cases e;exact key e1 e2 rfl
  .cases e
def Vw(sc:Scope)(N N':List Str)(nl:Nat)(ks:List Nat)(hc:X.calm=true)(ok:uC sc N scope N' nl ks=true)(hi:SI X cl tg iter mi)
  (hg:∀cs C s₀ H₀ ex,SG (yi X scope cs C N' s₀ H₀ ex) cl tg g) (ht:∀cs C s₀ H₀ ex,ij (yi X scope cs C N' s₀ H₀ ex) cl ifs t) (he:∀cs C s₀ H₀ ex,SE (yi X scope cs C N' s₀ H₀ ex) cl elt m)
  (hsc:X.env.scope=sc:=by rfl) (hN:X.N=N:=by rfl) (hs:∀x,foldedSetIterable iter X.env x=pure x:=by intro _;rfl):SE X cl (.ListComp elt [⟨tg,iter,ifs,0⟩] scope pos) (xO mi nl ks g t m):=by
 rintro pins s σ H Q I ⟨μ,h,ρ,w,h',R,er,e,k⟩;unfold xO at e;split at e
 .rename_i n0 h1 h2 e1
  cases e;rw[eval_ListComp];refine lD (use:=none) hc hsc hN (u6 ok) hi hg ht he I R er e1 hs λD C s' H' μ' m' s2 H1 μ1 hDC hns I' hfC hL hcl hs0 hpn I2 E1 R1 E' R' hn hm=>?_
  exact⟨m',hns,λh'' hsb=>⟨.ref D,H',I'.turned (t':=s'.toks) (λb o hb e=>(hsb.2 b hb).trans e) hfC (kY hL) (.inr hs0) hcl hpn,rfl,k μ' H' _ (E1.trans E') R' (.ref hm)⟩⟩
 .cases e
def lX{K:PySem.W.Frag}{μ μ1 μ':List Addr}{H H1 H':Hp}{h1 h2:MH}{D:Addr}(k:KQ K cl μ H h1 (.fls l) Q)(E1:Ext μ H μ1 H1)(R1:HR K cl μ1 H1 h1)(E':Ext μ1 H1 μ' H')(R':HR K cl μ' H' h2)(hn:h1.length=n0)(hm:μ'[n0]?=some D)
  (ho:h2[n0]?=some (.lst l)) (pre:h1<+:h2) (lo:lows h1.length l=true):Q (.ref D) H':=by
 obtain⟨vs,hv,rv⟩:=R'.ob _ _ _ hm ho;have cut:Ext μ1 H1 μ1 H':=⟨zP _,λb o e n=>⟨(E'.fr b o e n).1,n⟩⟩;refine k μ1 H' _ (E1.trans cut) (R1.cut E' R' pre) (.fls (.inl ⟨.inl hv,λz=>?_⟩) (RWs.cut E'.pre (by rw[R1.len];exact lo) rv));obtain⟨q,hq⟩:=jA.mp z;have h3:=E'.get hq;have hlt:q<μ1.length:=(zT.mp hq).1;obtain⟨z1,z2⟩:=zT.mp h3;obtain⟨z3,z4⟩:=zT.mp hm;have:q=n0:=(vf R'.nd).mp (z2.trans z4.symm);subst this;rw[R1.len] at hlt;omega
def Uh(sc:Scope)(N N':List Str)(nl:Nat)(ks:List Nat)(hc:X.calm=true)(ok:uC sc N scope N' nl ks=true)(hi:SI X cl tg iter mi)
  (hg:∀cs C s₀ H₀ ex,SG (yi X scope cs C N' s₀ H₀ ex) cl tg g) (ht:∀cs C s₀ H₀ ex,ij (yi X scope cs C N' s₀ H₀ ex) cl ifs t) (he:∀cs C s₀ H₀ ex,SE (yi X scope cs C N' s₀ H₀ ex) cl elt m)
  (hsc:X.env.scope=sc:=by rfl) (hN:X.N=N:=by rfl) (hs:∀x,foldedSetIterable iter X.env x=pure x:=by intro _;rfl):SE X cl (.ListComp elt [⟨tg,iter,ifs,0⟩] scope pos) (ja mi nl ks g t m):=by
 rintro pins s σ H Q I ⟨μ,h,ρ,w,h',R,er,e,k⟩;unfold ja at e;split at e
 .rename_i n0 h1 h2 e1
  split at e
  .rename_i l ho
   split at e
   .rename_i c
    cases e;rw[eval_ListComp];refine lD (use:=none) hc hsc hN (u6 ok) hi hg ht he I R er e1 hs λD C s' H' μ' m' s2 H1 μ1 hDC hns I' hfC hL hcl hs0 hpn I2 E1 R1 E' R' hn hm=>?_
    exact⟨m',hns,λh'' hsb=>⟨.ref D,H',I'.turned (t':=s'.toks) (λb o hb e=>(hsb.2 b hb).trans e) hfC (kY hL) (.inr hs0) hcl hpn,rfl,lX k E1 R1 E' R' hn hm ho c.1 c.2⟩⟩
   .cases e
  .cases e
 .cases e
def me{spos:Pos}{H:Hp}{h1:MH}{i:Nat}{D:Ends}
  (hNd:X.N.Nodup) (hix:X.N[i]?=some x) (hx:X.env.kindOf x=some .local) (hsw:swapsWith (.ListComp elt [⟨tg,iter,ifs,0⟩] scope pos) (some (.Name x px)) spos.line X.env=pure true)
  (hc:X.calm=true) (hsc:X.env.scope=sc) (hN:X.N=N) (ok:CompOk sc N scope N' nl ks) (hi:SI X cl tg iter mi)
  (hg:∀cs C s₀ H₀ ex,SG (yi X scope cs C N' s₀ H₀ ex) cl tg g) (ht:∀cs C s₀ H₀ ex,ij (yi X scope cs C N' s₀ H₀ ex) cl ifs t) (he:∀cs C s₀ H₀ ex,SE (yi X scope cs C N' s₀ H₀ ex) cl elt m)
  (I:Inv X pins σ H s) (R:HR X.K cl μ H h) (er:ER X.K μ H ρ σ) (e:uY mi nl ks g t m ρ h=some (n0,h1,h2)) (hs:∀x,foldedSetIterable iter X.env x=pure x)
  (k:∀A H' μ' H1 μ1,Ext μ H μ1 H1->HR X.K cl μ1 H1 h1->Ext μ1 H1 μ' H'->HR X.K cl μ' H' h2->h1.length=n0->μ'[n0]?=some A->D.nx (σ.set i (some (.ref A))) H') :
  wpAny (model X.prog X.w) X.A (exec (.Assign [.Name x px] (.ListComp elt [⟨tg,iter,ifs,0⟩] scope pos) spos) X.env) (SP X pins D) X.xe s:=by
 rw[exec_Assign_Name_used _ _ _ _ hsw];refine za (yh (za ?_));show wpAny _ X.A (do let _ <-comprehension (.ListComp elt [⟨tg,iter,ifs,0⟩] scope pos) scope X.env _ (newList []) false (eval iter X.env) (some (assign (.Name x px) X.env))) _ _ s
 refine za (qM (lD (use:=some (assign (.Name x px) X.env)) (Q:=λ_ s'=>SP X pins D .next s') hc hsc hN ok hi hg ht he I R er e hs ?_) (λ_ s' hq=>zr (zr hq)) λ_ _ e=>e);intro A C s' H' μ' m' s2 H1 μ1 hDC hns I' hfC hL hcl hs0 hpn I2 E1 R1 E' R' hn hm;show wpAny _ X.A (assign (.Name x px) X.env (.ref A)) _ _ _
 refine wpAny_assign_Name (nE (v:=.ref A) I' hNd hix (.inl hx) rfl (λs'' I'' hsb=>?_) (.inr hx));obtain⟨a,sb,ha⟩:=hsb;have hCa:C≠a:=by
  rcases ha with rfl | ha
  .exact kY hL
  .exact λz=>hcl x a ha z.symm
 refine⟨m',hns.sameBut sb hCa,λh3 sb3=>⟨_,H',I''.turned (t':=s''.toks) (λb o hb e=>(sb3.2 b hb).trans e) hfC (kY hL) (.inr hs0) hcl hpn,k A H' μ' H1 μ1 E1 R1 E' R' hn hm⟩⟩
def Wm(i:Nat)(sc:Scope)(N N':List Str)(nl:Nat)(ks:List Nat){spos:Pos}(hNd:X.N.Nodup)(hc:X.calm=true)(ok:uC sc N scope N' nl ks=true)(hi:SI X cl tg iter mi)
  (hg:∀cs C s₀ H₀ ex,SG (yi X scope cs C N' s₀ H₀ ex) cl tg g) (ht:∀cs C s₀ H₀ ex,ij (yi X scope cs C N' s₀ H₀ ex) cl ifs t) (he:∀cs C s₀ H₀ ex,SE (yi X scope cs C N' s₀ H₀ ex) cl elt m)
  (hsc:X.env.scope=sc:=by rfl) (hN:X.N=N:=by rfl) (hs:∀x,foldedSetIterable iter X.env x=pure x:=by intro _;rfl) (hix:X.N[i]?=some x:=by rfl) (hx:X.env.kindOf x=some .local:=by rfl)
  (hsw:swapsWith (.ListComp elt [⟨tg,iter,ifs,0⟩] scope pos) (some (.Name x px)) spos.line X.env=pure true:=by rfl):SS X cl (.Assign [.Name x px] (.ListComp elt [⟨tg,iter,ifs,0⟩] scope pos) spos) (zD (xO mi nl ks g t m) (zC i)):=by
 rintro pins s σ H D I ⟨μ,h,ρ,fl,h',R,er,e,k⟩;unfold zD at e;split at e
 .rename_i w h2 e1
  split at e
  .rename_i ρ2 h3 e2
   cases e;unfold xO at e1;split at e1
   .rename_i n0 h1 h2' e0
    cases e1;unfold zC at e2;split at e2
    .rename_i hi'
     cases e2;exact me hNd hix hx hsw hc hsc hN (u6 ok) hi hg ht he I R er e0 hs λA H' μ' H1 μ1 E1 R1 E' R' hn hm=>k μ' H' (E1.trans E') R' _ ((er.ext R (E1.trans E')).set hi' (.ref hm))
    .cases e2
   .cases e1
  .cases e
 .cases e
def YA(i:Nat)(sc:Scope)(N N':List Str)(nl:Nat)(ks:List Nat){elt tg iter:Expr}{ifs:List Expr}{scope:Scope}{pos spos px:Pos}{x:Str}(hNd:X.N.Nodup)(hc:X.calm=true)(ok:uC sc N scope N' nl ks=true)(hi:SI X cl tg iter mi)
  (hg:∀cs C s₀ H₀ ex,SG (yi X scope cs C N' s₀ H₀ ex) cl tg g) (ht:∀cs C s₀ H₀ ex,ij (yi X scope cs C N' s₀ H₀ ex) cl ifs t) (he:∀cs C s₀ H₀ ex,SE (yi X scope cs C N' s₀ H₀ ex) cl elt m)
  (hsc:X.env.scope=sc:=by rfl) (hN:X.N=N:=by rfl) (hs:∀x,foldedSetIterable iter X.env x=pure x:=by intro _;rfl) (hix:X.N[i]?=some x:=by rfl) (hx:X.env.kindOf x=some .local:=by rfl)
  (hsw:swapsWith (.ListComp elt [⟨tg,iter,ifs,0⟩] scope pos) (some (.Name x px)) spos.line X.env=pure true:=by rfl):SS X cl (.Assign [.Name x px] (.ListComp elt [⟨tg,iter,ifs,0⟩] scope pos) spos) (zD (ja mi nl ks g t m) (zC i)):=by
 rintro pins s σ H D I ⟨μ,h,ρ,fl,h',R,er,e,k⟩;unfold zD at e;split at e
 .rename_i w h2 e1
  split at e
  .rename_i ρ2 h3 e2
   cases e;unfold ja at e1;split at e1
   .rename_i n0 h1 h2' e0
    split at e1
    .rename_i l ho
     split at e1
     .rename_i c
      cases e1;unfold zC at e2;split at e2
      .rename_i hi'
       cases e2;refine me hNd hix hx hsw hc hsc hN (u6 ok) hi hg ht he I R er e0 hs λA H' μ' H1 μ1 E1 R1 E' R' hn hm=>?_
       exact lX (Q:=λv H'=>D.nx (σ.set i (some v)) H') (λμ3 H3 v E3 R3 r3=>k μ3 H3 E3 R3 _ ((er.ext R E3).set hi' r3)) E1 R1 E' R' hn hm ho c.1 c.2
      .cases e2
     .cases e1
    .cases e1
   .cases e1
  .cases e
 .cases e
end
def Z4{X:Cx}{pins:List (Addr×Obj)}{σ:L2.St}{H:Hp}{s:Shared}{h':Heap}{t':Nat}{fp:List Addr}(I:Inv X pins σ H s)(k:∀b o,b∉fp->s.heap.get? b=some o->h'.get? b=some o)(hf:∀b∈fp,uR X pins H b) :
  Inv X pins σ H { s with heap:=h',toks:=t' }:=by
 have away:∀b u,H b=some u->b∉fp:=λb u e z=>by rw[(hf b z).1] at e;cases e
 refine I.step (g':=s.gens) (d':=s.drawn) (ch:=fp) (λb hb=>⟨(hf b hb).2.2.2.1,(hf b hb).2.1,(hf b hb).2.2.2.2.1,(hf b hb).2.2.2.2.2⟩) (λb o _ _ hc e _=>k b o hc e) (λb o _ _ hc e _=>⟨o.slots,k b o hc e⟩) (λ_ _ _ _ n=>n)
  (λb o hc e=>⟨o,k b o hc e⟩) (λ_ _ e=>e) (λ_ _ _ e=>e) (λb ps e=>⟨#[],by rw[e];simp⟩) (λm hm=>?_) (λb u e=>?_) I.bare
 .obtain⟨o,es,ep,ho,r⟩:=hm
  exact⟨o,es,ep,k _ o (λz=>(hf _ z).2.1 rfl) ho,r⟩
 .refine(I.hok b u e).stay (λc v hc q=>k c v ?_ q) (λ_ q=>q) λ_ _ q=>q
  rcases hc with z | z
  .rw[z];exact away b u e
  .exact away c _ z
structure vk(it a:Addr)(P:Nat->Heap->Prop)(C:Heap->List Value->Prop):Prop where
 keep:∀{i:Nat} {h h':Heap},P i h->(∀o,h.get? it=some o->h'.get? it=some o)->P i h'
 keepC:∀{h h':Heap} {l:List Value},C h l->(∀o,h.get? a=some o->h'.get? a=some o)->C h' l
 obj:∀{i:Nat} {h:Heap},P i h->∃o,h.get? it=some o/\∀v,o.data≠.cell v
 item:∀{prog:Program} {w:World} {A:Around} {E:Value->Shared->Prop} {s:Shared} {i:Nat} {l:List Value} {x:Value} {Q:Value->Shared->Prop},P i s.heap->C s.heap l->l[i]?=some x->
  (∀h',P (i+1) h'->Heap.SameBut it s.heap h'->Q x { s with heap:=h' })->wpAny (model prog w) A (Builtin.SmallTypes.nextOf (.ref it)) Q E s
 last:∀{prog:Program} {w:World} {A:Around} {E:Value->Shared->Prop} {s:Shared} {i:Nat} {l:List Value} {Q:Value->Shared->Prop},A.handled=none->P i s.heap->C s.heap l->l[i]?=none->
  (∀h' e,Heap.ExtBut it s.heap h'->(∃o,h'.get? e=some o/\o.cls=.type "StopIteration")->E (.ref e) { s with heap:=h' })->wpAny (model prog w) A (Builtin.SmallTypes.nextOf (.ref it)) Q E s
def WG(it a:Addr):vk it a (λi h=>h.IsListIter it a i) (λh l=>h.IsList a l.toArray) where
 keep:=λp k=>p.at λo e=>k o e
 keepC:=λp k=>p.at λo e=>k o e
 obj:=λ⟨o,e,_,d⟩=>⟨o,e,λv z=>by rw[d] at z;cases z⟩
 item:=λp c e q=>wpAny_nextOf_list_item p c (by simpa using e) q
 last:=λhh p c e q=>wpAny_nextOf_list_end hh p c (by simpa using e) q
section
variable{prog:Program}{w:World}{A:Around}{E:Value->Shared->Prop}{s:Shared}
def iQ{i:Nat}{items:Array Value}(hit:s.heap.IsTupleIter it t i)(ht:s.heap.IsTuple t items)(hx:items[i]?=some x)
  (hQ:∀h',h'.IsTupleIter it t (i+1)->Heap.SameBut it s.heap h'->Q x { s with heap:=h' }):wpAny (model prog w) A (Builtin.SmallTypes.nextOf (.ref it)) Q E s:=by
 obtain⟨oi,gi,ci,di⟩:=id hit;obtain⟨ot,gt,_,nt,dt⟩:=ht;unfold Builtin.SmallTypes.nextOf;refine za (jn (name:=Str.ofString "__next__") hit.typeIs qQ (jx qQ hit.typeIs yV ?_ (yO _)));show wpAny _ _ (field (.ref it) 0 >>= _) _ _ s;refine za (ji gi di (x:=.ref t) rfl ?_)
 show wpAny _ _ (if (Value.ref t==Value.none)=true then _ else _) _ _ s;rw[kO (show ¬((Value.ref t==Value.none)=true) from zZ)]
 show wpAny _ _ (field (.ref it) 1 >>= _) _ _ s;refine za (ji gi di (x:=.int i 0) rfl ?_)
 show wpAny _ _ (seqItems? (.ref t) >>= _) _ _ s;refine za (jF gt dt ?_)
 simp only[qe,hx];refine za (v8 gi di (by simp) (zr ⟨x,rfl,zr (hQ _ ?_ (qu ..))⟩));exact⟨_,jL _ gi (wU (qD di _)),(Obj.cls_mapFields ..).trans ci,by rw[qD di];simp[rawInt]⟩
def lB{i:Nat}{items:Array Value}(hh:A.handled=none)(hit:s.heap.IsTupleIter it t i)(ht:s.heap.IsTuple t items)(hx:items[i]?=none)
  (hE:∀h' e,Heap.ExtBut it s.heap h'->(∃o,h'.get? e=some o/\o.cls=.type "StopIteration")->E (.ref e) { s with heap:=h' }):wpAny (model prog w) A (Builtin.SmallTypes.nextOf (.ref it)) Q E s:=by
 obtain⟨oi,gi,ci,di⟩:=id hit;obtain⟨ot,gt,_,nt,dt⟩:=ht;unfold Builtin.SmallTypes.nextOf;refine za (jn (name:=Str.ofString "__next__") hit.typeIs qQ (jx qQ hit.typeIs yV ?_ (yO _)));show wpAny _ _ (field (.ref it) 0 >>= _) _ _ s;refine za (ji gi di (x:=.ref t) rfl ?_)
 show wpAny _ _ (if (Value.ref t==Value.none)=true then _ else _) _ _ s;rw[kO (show ¬((Value.ref t==Value.none)=true) from zZ)]
 show wpAny _ _ (field (.ref it) 1 >>= _) _ _ s;refine za (ji gi di (x:=.int i 0) rfl ?_)
 show wpAny _ _ (seqItems? (.ref t) >>= _) _ _ s;refine za (jF gt dt ?_)
 simp only[qe,hx];refine za (qx (za (v8 gi di (by simp) ?_)));show wpAny _ _ (newExc (.type "StopIteration") [] >>= _) _ _ _
 refine za ?_;simp only[newExc,newTuple];refine za (jm ?_ (by size_fits));refine za (m:=firstArgMember _ _) (jQ (a:=Value.none) (by first | rfl | (simp only[firstArgMember];rfl)) ?_);refine jm ?_ (by size_fits);simp only[raiseNew];refine za (wpAny_handled ?_);first | rw[show A.in1.handled=none from hh] | rw[hh]
 refine za (zr (wB ?_));exact hE _ _ (((qu ..).extBut.push _).push _) ⟨_,zQ _ rfl,rfl⟩
end
def Qp(it a:Addr):vk it a (λi h=>h.IsTupleIter it a i) (λh l=>h.IsTuple a l.toArray) where
 keep:=λp k=>p.at λo e=>k o e
 keepC:=λp k=>p.at λo e=>k o e
 obj:=λ⟨o,e,_,d⟩=>⟨o,e,λv z=>by rw[d] at z;cases z⟩
 item:=λp c e q=>iQ p c (by simpa using e) q
 last:=λhh p c e q=>lB hh p c (by simpa using e) q
structure ZApart(z TI TO i1 i2 a1 a2:Addr):Prop where
 nd:[z,TI,TO,i1,i2].Nodup
 f1:a1∉[z,TI,TO,i1,i2]
 f2:a2∉[z,TI,TO,i1,i2]
noncomputable def rG(z TI TO i1 i2:Addr)(P1 P2:Nat->Heap->Prop)(f0:Value)(k1 k2:Nat)(h:Heap):Prop:=IsZip h z TI TO f0/\IsPair h TI (.ref i1) (.ref i2)/\(∃a b,IsPair h TO a b)/\P1 k1 h/\P2 k2 h
section
variable{prog:Program}{w:World}{A:Around}{E:Value->Shared->Prop}{s:Shared}{z TI TO i1 i2 a1 a2:Addr}{P1 P2:Nat->Heap->Prop}{C1 C2:Heap->List Value->Prop}
def rD(S1:vk i1 a1 P1 C1)(S2:vk i2 a2 P2 C2)(D:ZApart z TI TO i1 i2 a1 a2){l1 l2:List Value}(st:rG z TI TO i1 i2 P1 P2 .none k k s.heap)(c1:C1 s.heap l1)(c2:C2 s.heap l2)(hx:l1[k]?=some x)(hy:l2[k]?=some y)
  (hQ:∀h',rG z TI TO i1 i2 P1 P2 (rawInt s.heap.objs.size) (k+1) (k+1) h'->h'.get? s.heap.objs.size=some { cls:=.type "tuple",data:=.seq #[x,y] }->(∀c o,c∉[z,TI,TO,i1,i2]->s.heap.get? c=some o->h'.get? c=some o)->Q (some (.ref s.heap.objs.size)) { s with heap:=h' }) :
  wpAny (model prog w) A (pyNext (.ref z)) Q E s:=by
 obtain⟨hz,hTI,⟨a,b,hTO⟩,p1,p2⟩:=st;have n:=D.nd;simp only[jz,zb,zc,zM,j0] at n;obtain⟨⟨n1,n2,n3,n4⟩,⟨n5,n6,n7⟩,⟨n8,n9⟩,n10,_⟩:=n;have g1:=D.f1;have g2:=D.f2;simp only[zb,zc,zM,j0] at g1 g2;obtain⟨g11,g12,g13,g14,g15⟩:=g1;obtain⟨g21,g22,g23,g24,g25⟩:=g2;have hT:s.TypeIs (.ref z) "zip":=⟨_,hz,rfl⟩;unfold pyNext;refine za (jY (jn (name:=Str.ofString "__next__") hT qp (jx qp hT wI ?_ (wA _))));show wpAny _ _ (field (.ref z) 2 >>= _) _ _ _;refine za (ji hz rfl (x:=.bool false) rfl ?_)
 show wpAny _ _ (field (.ref z) 3 >>= _) _ _ _;refine za (ji hz rfl (x:=.ref TI) rfl ?_)
 refine za (jF hTI rfl ?_);show wpAny _ _ (Builtin.SmallTypes.ownedTupleIsFree (.ref z) >>= _) _ _ _
 refine za ?_;unfold Builtin.SmallTypes.ownedTupleIsFree;refine za (ji hz rfl (x:=.none) rfl (zr ?_));simp only[kE];refine za (qx ?_);refine za (ji hz rfl (x:=.ref TO) rfl ?_);refine za (j6 hz (by simp) λh1 q1 e1=>?_);replace q1:IsZip h1 z TI TO .ellipsis:=q1;refine za ?_;simp only[List.zipIdx_cons,List.zipIdx_nil,qT,wF];refine za (za (ym ?_));show wpAny _ _ (Builtin.SmallTypes.nextOf (.ref i1) >>= _) _ _ _
 refine za (S1.item (S1.keep p1 λo e=>e1.extBut _ _ (kY n3) e) (S1.keepC c1 λo e=>e1.extBut _ _ g11 e) hx λh2 r1 e2=>zr ?_);have t2:IsPair h2 TO a b:=e2.extBut _ _ n8 (e1.extBut _ _ (kY n2) hTO);refine za (jF t2 rfl ?_);refine za (wX t2 λh3 t3 e3=>?_);replace t3:IsPair h3 TO x b:=t3
 refine za (yP (zr ?_));refine za (za (ym ?_));show wpAny _ _ (Builtin.SmallTypes.nextOf (.ref i2) >>= _) _ _ _
 refine za (S2.item (S2.keep p2 λo e=>e3.extBut _ _ (kY n9) (e2.extBut _ _ (kY n10) (e1.extBut _ _ (kY n4) e))) (S2.keepC c2 λo e=>e3.extBut _ _ g23 (e2.extBut _ _ g24 (e1.extBut _ _ g21 e))) hy λh4 r2 e4=>zr ?_);have t4:IsPair h4 TO x b:=e4.extBut _ _ n9 t3;refine za (jF t4 rfl ?_);refine za (wX t4 λh5 t5 e5=>?_);replace t5:IsPair h5 TO x y:=t5
 refine za (yP (zr (zr ?_)));refine za (jF t5 rfl ?_);refine za (wpAny_newTuple ?_);have sz:h5.objs.size=s.heap.objs.size:=by rw[e5.1,e4.1,e3.1,e2.1,e1.1]
 have all:∀c o,c∉[z,TI,TO,i1,i2]->s.heap.get? c=some o->h5.get? c=some o:=λc o hc e=>by
  simp only[zb,zc,zM,j0] at hc;exact e5.extBut _ _ hc.2.2.1 (e4.extBut _ _ hc.2.2.2.2 (e3.extBut _ _ hc.2.2.1 (e2.extBut _ _ hc.2.2.2.1 (e1.extBut _ _ hc.1 e))))
 have z5:IsZip h5 z TI TO .ellipsis:=e5.extBut _ _ n2 (e4.extBut _ _ n4 (e3.extBut _ _ n2 (e2.extBut _ _ n3 q1)));have ti5:IsPair h5 TI (.ref i1) (.ref i2):=e5.extBut _ _ n5 (e4.extBut _ _ n7 (e3.extBut _ _ n5 (e2.extBut _ _ n6 (e1.extBut _ _ (kY n1) hTI))));have u1:P1 (k+1) h5:=S1.keep r1 λo e=>e5.extBut _ _ (kY n8) (e4.extBut _ _ n10 (e3.extBut _ _ (kY n8) e))
 have u2:P2 (k+1) h5:=S2.keep r2 λo e=>e5.extBut _ _ (kY n9) e
 have zlt:z<h5.objs.size:=zA z5;show wpAny _ _ (Builtin.SmallTypes.ownedTupleHandOut (.ref z) (.ref h5.objs.size) >>= _) _ _ _
 refine za ?_;unfold Builtin.SmallTypes.ownedTupleHandOut;have z6:IsZip (h5.push { cls:=.type "tuple",data:=.seq #[x,y] }) z TI TO .ellipsis:=zf _ z5;refine za (j6 z6 (by simp) λh7 z7 e7=>?_);replace z7:IsZip h7 z TI TO (rawInt h5.objs.size):=z7;refine j6 z7 (by simp) λh8 z8 e8=>?_
 replace z8:IsZip h8 z TI TO (rawInt h5.objs.size):=z8
 have up:∀c o,c≠z->h5.get? c=some o->h8.get? c=some o:=λc o c1 e=>e8.extBut _ _ c1 (e7.extBut _ _ c1 (zf _ e))
 have t8:h8.get? h5.objs.size=some { cls:=.type "tuple",data:=.seq #[x,y] }:=e8.extBut _ _ (qg zlt) (e7.extBut _ _ (qg zlt) (zQ _ rfl));rw[sz] at z8 t8;refine zr ⟨_,rfl,zr ?_⟩;show Q (some (.ref h5.objs.size)) _
 rw[sz];exact hQ h8 ⟨z8,up _ _ (kY n1) ti5,⟨x,y,up _ _ (kY n2) t5⟩,S1.keep u1 λo e=>up _ o (kY n3) e,S2.keep u2 λo e=>up _ o (kY n4) e⟩ t8 λc o hc e=>up c o (λq=>hc (by simp[q])) (all c o hc e)
def sL(S1:vk i1 a1 P1 C1)(S2:vk i2 a2 P2 C2)(D:ZApart z TI TO i1 i2 a1 a2){l1 l2:List Value}(hh:A.handled=none)(st:rG z TI TO i1 i2 P1 P2 .none k k s.heap)(c1:C1 s.heap l1)(c2:C2 s.heap l2)(he:l1[k]?=none\/l2[k]?=none)
  (hQ:∀h',(∀c o,c∉[z,TI,TO,i1,i2]->s.heap.get? c=some o->h'.get? c=some o)->Q none { s with heap:=h' }):wpAny (model prog w) A (pyNext (.ref z)) Q E s:=by
 obtain⟨hz,hTI,⟨a,b,hTO⟩,p1,p2⟩:=st;have n:=D.nd;simp only[jz,zb,zc,zM,j0] at n;obtain⟨⟨n1,n2,n3,n4⟩,⟨n5,n6,n7⟩,⟨n8,n9⟩,n10,_⟩:=n;have g1:=D.f1;have g2:=D.f2;simp only[zb,zc,zM,j0] at g1 g2;obtain⟨g11,g12,g13,g14,g15⟩:=g1;obtain⟨g21,g22,g23,g24,g25⟩:=g2;have hT:s.TypeIs (.ref z) "zip":=⟨_,hz,rfl⟩;have stop:∀{h':Heap} {e:Addr},(∃o,h'.get? e=some o/\o.cls=.type "StopIteration")->(∀c o,c∉[z,TI,TO,i1,i2]->s.heap.get? c=some o->h'.get? c=some o)->
   wpAny (model prog w) A (isInstance (.ref e) (.type "StopIteration") >>= λx=>if x=true then pure none else throw (.ref e)) Q E { s with heap:=h' }:=λ{h' e} ⟨o,ho,hc⟩ kk=>
  za (jU (T:="StopIteration") (b:=true) ⟨o,ho,hc⟩ xg (zr (hQ _ kk)))
 unfold pyNext;refine za (jY (jn (name:=Str.ofString "__next__") hT qp (jx qp hT wI ?_ (wA _))));show wpAny _ _ (field (.ref z) 2 >>= _) _ _ _;refine za (ji hz rfl (x:=.bool false) rfl ?_)
 show wpAny _ _ (field (.ref z) 3 >>= _) _ _ _;refine za (ji hz rfl (x:=.ref TI) rfl ?_)
 refine za (jF hTI rfl ?_);show wpAny _ _ (Builtin.SmallTypes.ownedTupleIsFree (.ref z) >>= _) _ _ _
 refine za ?_;unfold Builtin.SmallTypes.ownedTupleIsFree;refine za (ji hz rfl (x:=.none) rfl (zr ?_));simp only[kE];refine za (qx ?_);refine za (ji hz rfl (x:=.ref TO) rfl ?_);refine za (j6 hz (by simp) λh1 q1 e1=>?_);replace q1:IsZip h1 z TI TO .ellipsis:=q1;refine za ?_;simp only[List.zipIdx_cons,List.zipIdx_nil,qT,wF];refine za (za (ym ?_));show wpAny _ _ (Builtin.SmallTypes.nextOf (.ref i1) >>= _) _ _ _
 have p1':=S1.keep (h':=h1) p1 λo e=>e1.extBut _ _ (kY n3) e
 have c1':=S1.keepC (h':=h1) c1 λo e=>e1.extBut _ _ g11 e
 cases hx:l1[k]? with
 | none=>
  refine za (S1.last hh p1' c1' hx λh2 e e2 ⟨oe,ge,ce⟩=>?_);have z2:IsZip h2 z TI TO .ellipsis:=e2 _ _ n3 q1;have ne:e≠z:=λq=>by subst q;rw[z2] at ge;cases ge;simp at ce
  refine j6 z2 (by simp) λh3 _ e3=>?_
  refine stop ⟨oe,e3.extBut _ _ ne ge,ce⟩ λc o hc g=>?_
  simp only[zb,zc,zM,j0] at hc;exact e3.extBut _ _ hc.1 (e2 _ _ hc.2.2.2.1 (e1.extBut _ _ hc.1 g))
 | some x=>
  have hy:l2[k]?=none:=by rcases he with h | h;rw[hx] at h;cases h;exact h
  refine za (S1.item p1' c1' hx λh2 r1 e2=>zr ?_);have t2:IsPair h2 TO a b:=e2.extBut _ _ n8 (e1.extBut _ _ (kY n2) hTO);refine za (jF t2 rfl ?_);refine za (wX t2 λh3 t3 e3=>?_);refine za (yP (zr ?_));refine za (za (ym ?_));show wpAny _ _ (Builtin.SmallTypes.nextOf (.ref i2) >>= _) _ _ _
  refine za (S2.last hh (S2.keep p2 λo e=>e3.extBut _ _ (kY n9) (e2.extBut _ _ (kY n10) (e1.extBut _ _ (kY n4) e))) (S2.keepC c2 λo e=>e3.extBut _ _ g23 (e2.extBut _ _ g24 (e1.extBut _ _ g21 e))) hy λh4 e e4 ⟨oe,ge,ce⟩=>?_);have z4:IsZip h4 z TI TO .ellipsis:=e4 _ _ n4 (e3.extBut _ _ n2 (e2.extBut _ _ n3 q1));have ne:e≠z:=λq=>by subst q;rw[z4] at ge;cases ge;simp at ce
  refine j6 z4 (by simp) λh5 _ e5=>?_
  refine stop ⟨oe,e5.extBut _ _ ne ge,ce⟩ λc o hc g=>?_
  simp only[zb,zc,zM,j0] at hc;exact e5.extBut _ _ hc.1 (e4 _ _ hc.2.2.2.2 (e3.extBut _ _ hc.2.2.1 (e2.extBut _ _ hc.2.2.2.1 (e1.extBut _ _ hc.1 g))))
end
noncomputable def pG(v:Value)(o:Obj)(C:Heap->Prop):Prop:=∀(prog:Program) (w:World) (A:Around) (E:Value->Shared->Prop) (s:Shared) (Q:Value->Shared->Prop),C s.heap->Q (.ref s.heap.objs.size) { s with heap:=s.heap.push o }->wpAny (model prog w) A (pyIter v) Q E s
def Vk(a:Addr)(l:List Value):pG (.ref a) { cls:=.type "list_iterator",data:=.fields #[.ref a,.int 0 0] } (λh=>h.IsList a l.toArray):=λ_ _ _ _ _ _ c q=>vh c q
def Jz(a:Addr)(l:List Value):pG (.ref a) { cls:=.type "tuple_iterator",data:=.fields #[.ref a,.int 0 0] } (λh=>h.IsTuple a l.toArray):=λ_ _ _ _ _ _ c q=>yj c q
section
variable{v1 v2:Value}{o1 o2:Obj}{C1 C2:Heap->Prop}
abbrev Yu(h:Heap)(o1:Obj):Heap:=h.push o1
abbrev W5(h:Heap)(o1 o2:Obj):Heap:=(Yu h o1).push o2
abbrev W8(h:Heap)(o1 o2:Obj):Heap:=(W5 h o1 o2).push { cls:=.type "tuple",data:=.seq #[.ref h.objs.size,.ref (Yu h o1).objs.size] }
abbrev W2(h:Heap)(o1 o2:Obj):Heap:=(W8 h o1 o2).push { cls:=.type "tuple",data:=.seq #[.none,.none] }
abbrev Zg(h:Heap)(o1 o2:Obj):Heap:=(W2 h o1 o2).push { cls:=.type "zip",data:=.fields #[.none,.bool false,.bool false,.ref (W5 h o1 o2).objs.size,.ref (W8 h o1 o2).objs.size] }
def Y9(r1:pG v1 o1 C1)(r2:pG v2 o2 C2) :
  Meets (Builtin.«zip.__new__» ⟨[.type "zip",v1,v2],[]⟩) (λ_ R s=>C1 s.heap/\C2 (s.heap.push o1)/\R (.ok (.ret (.ref (W2 s.heap o1 o2).objs.size))) { s with heap:=Zg s.heap o1 o2 }):=
 .of_wp λprog w A R s h=>by
  obtain⟨hp,g,d,tk,os⟩:=s;obtain⟨k1,k2,h⟩:=h;have hsub:=sub_zip;have q1:∀{A:Around} {E:Value->Shared->Prop} {Q:Value->Shared->Prop},Q (.ref hp.objs.size) ⟨hp.push o1,g,d,tk,os⟩->wpAny (model prog w) A (pyIter v1) Q E ⟨hp,g,d,tk,os⟩:=λq=>r1 prog w _ _ _ _ k1 q
  have q2:∀{A:Around} {E:Value->Shared->Prop} {Q:Value->Shared->Prop},Q (.ref (hp.push o1).objs.size) ⟨(hp.push o1).push o2,g,d,tk,os⟩->wpAny (model prog w) A (pyIter v2) Q E ⟨hp.push o1,g,d,tk,os⟩:=λq=>r2 prog w _ _ _ _ k2 q
  wp_walk using q1,q2
  exact⟨_,rfl,h⟩
end
section
variable{prog:Program}{w:World}{A:Around}{E:Value->Shared->Prop}{s:Shared}{v1 v2:Value}{o1 o2:Obj}{C1 C2:Heap->Prop}
def pQ(r1:pG v1 o1 C1)(r2:pG v2 o2 C2)(k1:C1 s.heap)(k2:C2 (s.heap.push o1))(hf1:o1.isFreed=false)(hf2:o2.isFreed=false)
  (h:∀h',IsZip h' (s.heap.objs.size+4) (s.heap.objs.size+2) (s.heap.objs.size+3) .none->IsPair h' (s.heap.objs.size+2) (.ref s.heap.objs.size) (.ref (s.heap.objs.size+1))->
   IsPair h' (s.heap.objs.size+3) .none .none->h'.get? s.heap.objs.size=some o1->h'.get? (s.heap.objs.size+1)=some o2->(∀c o,s.heap.get? c=some o->h'.get? c=some o)->Q (.ref (s.heap.objs.size+4)) { s with heap:=h' }) :
  wpAny (model prog w) A (call (.type "zip") [v1,v2]) Q E s:=by
 refine callType_new F.called_zip (by decide) (F.typeCall_zip_2 _ _) (F.newCall_zip_2 _ _) (λobj=>F.args_object_init_3 obj _ _) F.entry_zip_new (Y9 r1 r2) ⟨k1,k2,?_⟩;have y1:(Yu s.heap o1).objs.size=s.heap.objs.size+1:=j4 ..;have y2:(W5 s.heap o1 o2).objs.size=s.heap.objs.size+2:=by rw[j4,y1]
 have y3:(W8 s.heap o1 o2).objs.size=s.heap.objs.size+3:=by rw[j4,y2]
 have y4:(W2 s.heap o1 o2).objs.size=s.heap.objs.size+4:=by rw[j4,y3]
 have b5:(Zg s.heap o1 o2).get? (W2 s.heap o1 o2).objs.size=some _:=zQ _ rfl;have b4:(Zg s.heap o1 o2).get? (W8 s.heap o1 o2).objs.size=some _:=zf _ (zQ _ rfl);have b3:(Zg s.heap o1 o2).get? (W5 s.heap o1 o2).objs.size=some _:=zf _ (zf _ (zQ _ rfl));have b2:(Zg s.heap o1 o2).get? (Yu s.heap o1).objs.size=some _:=zf _ (zf _ (zf _ (zQ _ hf2)));have b1:(Zg s.heap o1 o2).get? s.heap.objs.size=some _:=zf _ (zf _ (zf _ (zf _ (zQ _ hf1))));show _/\_
 rw[y2,y3,y4] at b5;rw[y1,y2] at b3;rw[y3] at b4;rw[y1] at b2;rw[y4];exact⟨⟨_,b5,rfl⟩,h _ b5 b3 b4 b1 b2 λc o x=>zf _ (zf _ (zf _ (zf _ (zf _ x))))⟩
end
def mS{X:Cx}{pins:List (Addr×Obj)}{σ:L2.St}{H:Hp}{s:Shared}{h':Heap}{t':Nat}{fp:List Addr}{p:Addr}{o:HO}(I:Inv X pins σ H s)(k:∀b o,b∉fp->s.heap.get? b=some o->h'.get? b=some o)(hf:∀b∈fp,uR X pins H b)
  (hp:s.heap.objs.size<=p) (new:ObjOk X.prog X.w (upd H p o) h' p o):Inv X pins σ (upd H p o) { s with heap:=h',toks:=t' }:=by
 have hn:H p=none:=I.hok.fresh hp;have away:∀b u,H b=some u->b∉fp:=λb u e z=>by rw[(hf b z).1] at e;cases e
 have lt:∀b u,s.heap.get? b=some u->b≠p:=λb u e=>zW (zL (zA e) hp)
 refine I.step (g':=s.gens) (d':=s.drawn) (ch:=fp) (λb hb=>⟨(hf b hb).2.2.2.1,(hf b hb).2.1,(hf b hb).2.2.2.2.1,(hf b hb).2.2.2.2.2⟩) (λb o _ _ hc e _=>k b o hc e) (λb o _ _ hc e _=>⟨o.slots,k b o hc e⟩) (λb u _ e n=>by rw[kM (lt b u e)];exact n)
  (λb o hc e=>⟨o,k b o hc e⟩) (λb xs e=>by rw[kM (qA e hn)];exact e) (λb u v e=>by rw[kM (qA e hn)];exact e) (λb ps e=>⟨#[],by rw[kM (qA e hn),e];simp⟩) (λm hm=>?_) (λb u e=>?_) I.bare
 .obtain⟨o,es,ep,ho,r⟩:=hm
  exact⟨o,es,ep,k _ o (λz=>(hf _ z).2.1 rfl) ho,r⟩
 .by_cases hb:b=p
  .subst hb;rw[qk] at e;cases e;exact new
  .rw[kM hb] at e
   refine(I.hok b u e).stay (λc v hc q=>k c v ?_ q) (λc q=>by rw[kM (qA q hn)];exact q) λc xs q=>by rw[kM (qA q hn)];exact q
   rcases hc with z | z
   .rw[z];exact away b u e
   .exact away c _ z
noncomputable def gJ(K:PySem.W.Frag)(tp:Bool)(H:Hp)(a:Addr)(xs:List V):Prop:=if tp=true then SqT K H a xs else SqL K H a xs
noncomputable def KZ(tp:Bool)(a:Addr)(h:Heap)(l:List Value):Prop:=if tp=true then h.IsTuple a l.toArray else h.IsList a l.toArray
noncomputable def Yx(tp:Bool)(it a:Addr)(i:Nat)(h:Heap):Prop:=if tp=true then h.IsTupleIter it a i else h.IsListIter it a i
noncomputable def BN(tp:Bool)(a:Addr):Obj:=if tp=true then { cls:=.type "tuple_iterator",data:=.fields #[.ref a,.int 0 0] } else { cls:=.type "list_iterator",data:=.fields #[.ref a,.int 0 0] }
def xA(tp:Bool)(it a:Addr):vk it a (Yx tp it a) (KZ tp a):=by
 cases tp
 .exact WG it a
 .exact Qp it a
def oW(tp:Bool)(a:Addr)(l:List Value):pG (.ref a) (BN tp a) (λh=>KZ tp a h l):=by
 cases tp
 .exact Vk a l
 .exact Jz a l
theorem fz(tp:Bool)(a:Addr):(BN tp a).isFreed=false:=by cases tp<;>rfl
def iy{h:Heap}(e:h.get? it=some (BN tp a)):Yx tp it a 0 h:=by
 cases tp
 .exact⟨_,e,rfl,rfl⟩
 .exact⟨_,e,rfl,rfl⟩
section
variable{X:Cx}{pins:List (Addr×Obj)}{σ:L2.St}{H:Hp}{s:Shared}
def uA(I:Inv X pins σ H s)(h:gJ X.K tp H a xs):∃l,Vals xs l/\KZ tp a s.heap l:=by
 cases tp
 .obtain⟨its,r,p,_⟩:=I.list (show SqL X.K H a xs from h)
  exact⟨its,r,p.isList⟩
 .obtain⟨its,r,p,_⟩:=I.tuple (show SqT X.K H a xs from h)
  exact⟨its,r,p⟩
def t6(I:Inv X pins σ H s)(h:gJ X.K tp H a xs)(h':gJ X.K tp H a ys):xs=ys:=by
 cases tp
 .exact I.list_inj (show SqL X.K H a xs from h) h'
 .exact I.tuple_inj (show SqT X.K H a xs from h) h'
def fE(I:Inv X pins σ H s)(h:gJ X.K tp H a xs)(f:uR X pins H b):a≠b:=by
 have k:∀o,X.K.lookup a=some o->a≠b:=λo e z=>by
  subst z;have eb:X.base.get? a=some o:=I.mod.kin _ _ e;rcases f.2.2.2.1 with q | q
  .exact I.ok.noex _ _ eb q
  .exact absurd (zL (zA eb) (zR I.ok.bsz q)) (jD _)
 have r:∀u,Rd H a u->a≠b:=λu q=>by
  rcases q with q | ⟨o,q⟩<;>exact qA q f.1
 cases tp
 .rcases(show SqL X.K H a xs from h) with q | ⟨o,_,_,e,_⟩
  .exact r _ q
  .exact k o e
 .rcases(show SqT X.K H a xs from h) with q | ⟨o,_,_,e,_⟩
  .exact r _ q
  .exact k o e
end
noncomputable def Ge (K : PySem.W.Frag) (t1 t2 : Bool) (a1 a2 : Addr) : It :=
  ⟨λi H => ∃ xs ys x y, gJ K t1 H a1 xs /\ gJ K t2 H a2 ys /\ xs[i]? = some x /\ ys[i]? = some y,
   λi H v H' => ∃ p x y, H p = none /\ v = .ref p /\ H' = upd H p (.tup [x, y]) /\ (∀ xs, gJ K t1 H a1 xs -> xs[i]? = some x) /\ ∀ ys, gJ K t2 H a2 ys -> ys[i]? = some y,
   λi H => ∃ xs ys, gJ K t1 H a1 xs /\ gJ K t2 H a2 ys /\ (xs.length <= i \/ ys.length <= i)⟩
def V2{P:Program}{w:World}{K:PySem.W.Frag}{elts:List Expr}{n:Nat}{tpos:Pos}(t1 t2:Bool)(z TI TO i1 i2 a1 a2:Addr)(nd:[z,TI,TO,i1,i2].Nodup) :
  Turn P w K (.Tuple elts n tpos) (Ge K t1 t2 a1 a2) [z,TI,TO,i1,i2] z (λi h=>rG z TI TO i1 i2 (Yx t1 i1 a1) (Yx t2 i2 a2) .none i i h) where
 mem:=by simp
 obj:=λi h st b hb=>by
  obtain⟨hz,hTI,⟨a,b',hTO⟩,p1,p2⟩:=st;simp only[zb,zc,zM] at hb;rcases hb with rfl | rfl | rfl | rfl | rfl
  .exact⟨_,hz,λv q=>by cases q⟩
  .exact⟨_,hTI,λv q=>by cases q⟩
  .exact⟨_,hTO,λv q=>by cases q⟩
  .exact(xA t1 _ a1).obj p1
  .exact(xA t2 _ a2).obj p2
 keep:=λi h h' st k=>by
  obtain⟨hz,hTI,⟨a,b',hTO⟩,p1,p2⟩:=st;exact⟨k z (by simp) _ hz,k TI (by simp) _ hTI,⟨a,b',k TO (by simp) _ hTO⟩,(xA t1 i1 a1).keep p1 λo e=>k i1 (by simp) o e,(xA t2 i2 a2).keep p2 λo e=>k i2 (by simp) o e⟩
 item:=by
  intro X hP hw hK hc i pins s σ H E I hf st hg;subst hP hw hK;obtain⟨xs,ys,x,y,d1,d2,hx,hy⟩:=hg;obtain⟨l1,r1,c1⟩:=uA I d1;obtain⟨l2,r2,c2⟩:=uA I d2;obtain⟨u1,e1,ru1⟩:=r1.get hx;obtain⟨u2,e2,ru2⟩:=r2.get hy;have D:ZApart z TI TO i1 i2 a1 a2:=⟨nd,λq=>fE I d1 (hf _ q) rfl,λq=>fE I d2 (hf _ q) rfl⟩;refine rD (xA t1 i1 a1) (xA t2 i2 a2) D st c1 c2 e1 e2 λh' st' ht kp=>⟨_,rfl,?_⟩
  obtain⟨hz,hTI,⟨a,b',hTO⟩,p1,p2⟩:=st';have n:=nd;simp only[jz,zb,zc,zM,j0] at n;obtain⟨⟨n1,n2,n3,n4⟩,_⟩:=n;refine wpAny_letOwnedTupleGo_zip hz λh2 hz2 sb=>?_
  have zlt:z<s.heap.objs.size:=by obtain⟨q,_⟩:=st;exact zA q
  have ht2:h2.get? s.heap.objs.size=some { cls:=.type "tuple",data:=.seq #[u1,u2] }:=sb.extBut _ _ (qg zlt) ht;have I2:Inv X pins σ (upd H s.heap.objs.size (.tup [x,y])) { s with heap:=h2 }:=mS (t':=s.toks) (fp:=[z,TI,TO,i1,i2]) I (λb o hb e=>sb.extBut _ _ (λq=>hb (by simp[q])) (kp b o hb e)) hf (zj _)
   ⟨by show 2<=sizeLine;decide,[u1,u2],.cons ru1 (.cons ru2 .nil),⟨_,ht2,rfl,_,rfl⟩,⟨_,ht2,rfl⟩⟩
  refine⟨.ref s.heap.objs.size,_,I2,rfl,⟨_,x,y,I.hok.fresh (zj _),rfl,rfl,λxs' q=>by rw[t6 I q d1];exact hx,λys' q=>by rw[t6 I q d2];exact hy⟩,?_,λb hb=>?_⟩
  .exact⟨hz2,sb.extBut _ _ (kY n1) hTI,⟨a,b',sb.extBut _ _ (kY n2) hTO⟩,(xA t1 i1 a1).keep p1 λo e=>sb.extBut _ _ (kY n3) e,(xA t2 i2 a2).keep p2 λo e=>sb.extBut _ _ (kY n4) e⟩
  .obtain⟨o,ho,_⟩:∃o,s.heap.get? b=some o/\True:=by
    obtain⟨hz0,hTI0,⟨a0,b0,hTO0⟩,p10,p20⟩:=st;simp only[zb,zc,zM] at hb;rcases hb with rfl | rfl | rfl | rfl | rfl
    .exact⟨_,hz0,trivial⟩
    .exact⟨_,hTI0,trivial⟩
    .exact⟨_,hTO0,trivial⟩
    .obtain⟨o,q,_⟩:=(xA t1 _ a1).obj p10;exact⟨o,q,trivial⟩
    .obtain⟨o,q,_⟩:=(xA t2 _ a2).obj p20;exact⟨o,q,trivial⟩
   rw[kM (zW (zA ho))];exact(hf b hb).1
 done:=by
  intro X hP hw hK hc i pins s σ H E I hf st hg;subst hP hw hK;obtain⟨xs,ys,d1,d2,he⟩:=hg;obtain⟨l1,r1,c1⟩:=uA I d1;obtain⟨l2,r2,c2⟩:=uA I d2;have D:ZApart z TI TO i1 i2 a1 a2:=⟨nd,λq=>fE I d1 (hf _ q) rfl,λq=>fE I d2 (hf _ q) rfl⟩;refine sL (xA t1 i1 a1) (xA t2 i2 a2) D (I.ok.hd hc) st c1 c2 ?_ λh' kp=>⟨rfl,Z4 (t':=s.toks) I kp hf⟩
  rcases he with he | he
  .exact .inl (jP (by rw[<-r1.length];exact he))
  .exact .inr (jP (by rw[<-r2.length];exact he))
 self:=λ_ _ _ _ _ st h=>yF st.1 h
noncomputable def u0(h:MH)(w:W):Option (List W):=match w with
 | .tup l=>some l
 | .fls l=>some l
 | _=>none
noncomputable def sT(ws:List W):M Src:=λh=>match ws with
 | [x,y]=>match u0 h x,u0 h y with
  | some l,some l'=>some (.items ((l.zip l').map λp=>.tup [p.1,p.2]),h)
  | _,_=>none
 | _=>none
noncomputable def eu(ms:List ME):MI:=λρ=>bnd (ky ms ρ) sT
section
variable{X:Cx}{cl:Cl}{elts:List Expr}{n:Nat}{tpos p pos:Pos}{e1 e2:Expr}{ms:List ME}
def gz{K:PySem.W.Frag}{μ:List Addr}{H:Hp}{h:MH}(r:RW K μ H w v)(e:u0 h w=some l):∃tp a vs,v=.ref a/\RWs K μ H l vs/\gJ K tp H a vs/\(∀μ2 H2 h2,HR K cl μ H h->Ext μ H μ2 H2->HR K cl μ2 H2 h2->gJ K tp H2 a vs):=by
 unfold u0 at e;split at e
 .cases e
  obtain⟨a,vs,rfl,sa,ra⟩:=r.tup_of;exact⟨true,a,vs,rfl,ra,sa,λμ2 H2 h2 R E R2=>SqT.ext R E sa⟩
 .cases e
  cases r with | @fls a vs l sa ra=>
  exact⟨false,a,vs,rfl,ra,sa.sq,λμ2 H2 h2 R E R2=>(SqF.ext E sa).sq⟩
 .cases e
def UD(hm:X.mg "zip" = none)(ha:SA X cl [e1,e2] ms)(hg:Gl X "zip":=by rfl)(hst:starEach [e1,e2] X.env=(false,eval e1 X.env)::starEach [e2] X.env:=by rfl)(hpl:(backTo pos (starEach [e2] X.env)).any (·.1)=false:=by rfl) :
  SI X cl (.Tuple elts n tpos) (.Call (.Name "zip" p) [e1,e2] [] pos) (eu ms):=by
 rintro pins s σ H R I ⟨μ,h,ρ,src,h',R0,er,e,k⟩;obtain⟨ws,h1,e1',e⟩:=ka e;have hv:bootBuiltins "zip" = some (.type "zip"):=by decide +kernel
 refine jy (ud I hg hm hv ?_ (by decide) (by decide));refine jo (kA (ha pos pins s σ H (λvs H1=>∃μ1,Ext μ H μ1 H1/\HR X.K cl μ1 H1 h1/\RWs X.K μ1 H1 ws vs) I ⟨μ,h,ρ,ws,h1,R0,er,e1',λμ1 H1 vs E1 R1 rs=>⟨μ1,E1,R1,rs⟩⟩) λus s1 ⟨vs,H1,I1,r1,μ1,E1,R1,rs⟩=>?_) hst hpl;unfold sT at e;split at e
 .rename_i x y
  split at e
  .rename_i l l' q1 q2
   cases e;cases rs with | cons rx t=>cases t with | cons ry t=>cases t with | nil=>
   obtain⟨t1,a1,xs,rfl,ra1,d1,f1⟩:=gz (cl:=cl) rx q1;obtain⟨t2,a2,ys,rfl,ra2,d2,f2⟩:=gz (cl:=cl) ry q2;obtain⟨u1,u2,rfl,ru1,ru2⟩:=vals2 r1;cases ru1;cases ru2;obtain⟨l1,v1,c1⟩:=uA I1 d1;obtain⟨l2,v2,c2⟩:=uA I1 d2;refine pQ (oW t1 a1 l1) (oW t2 a2 l2) c1 ((xA t2 0 a2).keepC c2 λo e=>zf _ e) (fz t1 a1) (fz t2 a2) λh2 b5 b3 b4 b1 b2 kp=>?_
   refine yF b5 ?_;have nd:[s1.heap.objs.size+4,s1.heap.objs.size+2,s1.heap.objs.size+3,s1.heap.objs.size,s1.heap.objs.size+1].Nodup:=by
    simp only[jz,zb,zc,zM,j0,vL,and_true,not_false_eq_true];omega
   refine⟨_,_,_,_,H1,rfl,I1.kept (t':=s1.toks) kp,V2 t1 t2 _ _ _ _ _ a1 a2 nd,⟨b5,b3,⟨_,_,b4⟩,iy b1,iy b2⟩,λb hb=>?_,k μ1 H1 _ E1 R1 ?_⟩
   .have hge:s1.heap.objs.size<=b:=by
     simp only[zb,zc,zM] at hb;rcases hb with rfl | rfl | rfl | rfl | rfl<;>omega
    exact I1.fpOk hge (I1.hok.fresh hge)
   .intro μ2 H2 h3 E2 R2 i
    have d1':=f1 μ2 H2 h3 R1 E2 R2;have d2':=f2 μ2 H2 h3 R1 E2 R2;have ra1':=ra1.ext R1 E2;have ra2':=ra2.ext R1 E2;refine⟨λw ew=>?_,λes=>?_⟩
    .have ew':((l.zip l').map λp=>W.tup [p.1,p.2])[i]?=some w:=kh ew
     rw[je] at ew';cases ez:(l.zip l')[i]? with
     | none=>rw[ez] at ew';cases ew'
     | some pr=>
      rw[ez] at ew';cases ew';obtain⟨ea,eb⟩:=List.getElem?_zip_eq_some.mp ez;obtain⟨vx,evx,rvx⟩:=ra1'.get ea;obtain⟨vy,evy,rvy⟩:=ra2'.get eb;refine⟨⟨xs,ys,vx,vy,d1',d2',evx,evy⟩,λv H3 yl=>?_⟩;obtain⟨pp,x',y',hp,rfl,rfl,w1,w2⟩:=yl;have z1:=w1 xs d1';have z2:=w2 ys d2';rw[evx] at z1;rw[evy] at z2;cases z1;cases z2;exact⟨.side hp,R2.side hp,.tup (SqT.of qk) (.cons (rvx.ext R2 (.side hp)) (.cons (rvy.ext R2 (.side hp)) .nil))⟩
    .have es':((l.zip l').map λp=>W.tup [p.1,p.2])[i]?=none:=kh es
     have hl:=jN.mp es';rw[zO,qd] at hl;refine⟨xs,ys,d1',d2',?_⟩;rw[<-ra1.length,<-ra2.length];omega
  .cases e
 .cases e
end
noncomputable def intsOf:List W->Option (List Int)
 | []=>some []
 | .int b::r=>match intsOf r with
  | some l=>some (b::l)
  | none=>none
 | _=>none
noncomputable def uN:List Int->Int
 | []=>0
 | i::r=>i+uN r
noncomputable def eD(ws:List W):M W:=λh=>match ws with
 | [w]=>match xT h w with
  | some l=>match intsOf l with
   | some bs=>some (.int (uN bs),h)
   | none=>none
  | none=>none
 | _=>none
section
variable{K:PySem.W.Frag}{μ:List Addr}{H:Hp}
theorem gN:∀{l:List W} {vs:List V} {us:List Value} {bs:List Int},intsOf l=some bs->RWs K μ H l vs->Vals vs us->us.length=bs.length/\∀i u,us[i]?=some u->∃t,u=Value.int (bs.getD i 0) t
 | [],_,_,_,e,.nil,.nil=>by cases e;exact⟨rfl,λi u e=>by simp at e⟩
 | .int b::r,_,_,_,e,.cons rb rr,.cons tb tr=>by
  unfold intsOf at e;split at e
  .rename_i l e'
   cases e;cases rb;obtain⟨t,rfl⟩:=tb;obtain⟨h1,h2⟩:=gN e' rr tr;refine⟨by simp[h1],λi u e=>?_⟩;cases i with
   | zero=>simp at e;subst e;exact⟨t,rfl⟩
   | succ i=>simpa using h2 i u (by simpa using e)
  .cases e
 | .non::r,_,_,_,e,_,_=>by cases e
 | .bl _::r,_,_,_,e,_,_=>by cases e
 | .str _::r,_,_,_,e,_,_=>by cases e
 | .tup _::r,_,_,_,e,_,_=>by cases e
 | .fls _::r,_,_,_,e,_,_=>by cases e
 | .ref _::r,_,_,_,e,_,_=>by cases e
 | .fdc _::r,_,_,_,e,_,_=>by cases e
 | .fn _::r,_,_,_,e,_,_=>by cases e
end
def tq(a b:List Int):uN (a++b)=uN a+uN b:=by
 induction a with
 | nil=>simp[uN]
 | cons x r ih=>simp only[jk,uN,ih];omega
theorem preSum_eq(bs:List Int):∀n,n<=bs.length->preSum (λi=>bs.getD i 0) n=uN (bs.take n)
 | 0,_=>by simp[preSum,uN]
 | n+1,h=>by
  have ih:=preSum_eq bs n ∅;have:preSum (λi=>bs.getD i 0) (n+1)=preSum (λi=>bs.getD i 0) n+bs.getD n 0:=rfl;rw[this,ih,List.take_succ,tq];simp[zB (show n<bs.length by omega),uN]
section
variable{X:Cx}{cl:Cl}
def sN{s:Shared}{H:Hp}{A:Around}(I:Inv X pins σ H s)(sq:SqL X.K H a vs\/SqT X.K H a vs)(hh:A.handled=none)
  (k:∀(us:List Value) (it:Addr) (fp wr:List Addr) (St:Nat->Heap->Prop) (h1:Heap),Vals vs us->Walks X.prog X.w A it fp wr us.length (λi v=>us[i]?=some v) St->St 0 h1->(∀b∈fp,b<h1.objs.size)->
   (∀b∈wr,s.heap.objs.size<=b)->(∀b o,s.heap.get? b=some o->h1.get? b=some o)->R (.ref it) { s with heap:=h1 }) :
  wpAny (model X.prog X.w) A (pyIter (.ref a)) R E s:=by
 rcases sq with sq | sq
 .obtain⟨its,rv,p,hz⟩:=I.list sq
  refine vh p.isList ?_;have hlt:a<s.heap.objs.size:=by obtain⟨o,ho,_⟩:=p.isList;exact zA ho
  have W0:=xq (prog:=X.prog) (w:=X.w) hh s.heap.objs.size a (zW hlt) its.toArray;have W1:Walks X.prog X.w A s.heap.objs.size [s.heap.objs.size,a] [s.heap.objs.size] its.length (λi v=>its[i]?=some v) (λi h=>h.IsListIter s.heap.objs.size a i/\h.IsList a its.toArray):=by simpa using W0
  refine k its _ _ _ _ _ rv W1 ⟨⟨_,zQ _ rfl,rfl,rfl⟩,p.isList.at λo e=>zf _ e⟩ (λb hb=>?_) (λb hb=>?_) λb o e=>zf _ e
  .simp only[zb,zc,zM] at hb
   simp only[j4];rcases hb with rfl | rfl
   .exact jT _
   .exact vV hlt
  .simp only[zb,zc,zM] at hb
   rw[hb];exact zj _
 .obtain⟨its,rv,p,hz⟩:=I.tuple sq
  refine yj (show s.heap.IsTuple a its.toArray from p) ?_;have hlt:a<s.heap.objs.size:=by obtain⟨o,ho,_⟩:=id p;exact zA ho
  have p':s.heap.IsTuple a its.toArray:=p;have W0:=Walks.tuple (prog:=X.prog) (w:=X.w) hh s.heap.objs.size a (zW hlt) its.toArray;have W1:Walks X.prog X.w A s.heap.objs.size [s.heap.objs.size,a] [s.heap.objs.size] its.length (λi v=>its[i]?=some v) (λi h=>h.IsTupleIter s.heap.objs.size a i/\h.IsTuple a its.toArray):=by simpa using W0
  refine k its _ _ _ _ _ rv W1 ⟨⟨_,zQ _ rfl,rfl,rfl⟩,p'.at λo e=>zf _ e⟩ (λb hb=>?_) (λb hb=>?_) λb o e=>zf _ e
  .simp only[zb,zc,zM] at hb
   simp only[j4];rcases hb with rfl | rfl
   .exact jT _
   .exact vV hlt
  .simp only[zb,zc,zM] at hb
   rw[hb];exact zj _
def lR{pins:List (Addr×Obj)}{s:Shared}{σ:L2.St}{H:Hp}{h1 h2:Heap}{tk:Nat}{wr:List Addr}(I:Inv X pins σ H s)(k1:∀b o,s.heap.get? b=some o->h1.get? b=some o)(hw:∀b∈wr,s.heap.objs.size<=b)(k2:∀b o,b∉wr->h1.get? b=some o->h2.get? b=some o) :
  Inv X pins σ H { s with heap:=h2,toks:=tk }:=
 I.kept (t':=tk) λb o e=>k2 b o (λz=>absurd (zA e) (Nat.not_lt.mpr (hw b z))) (k1 b o e)
def QF(hc:X.calm=true):yB X (.builtin "sum") (rMs X.K cl eD):=by
 rintro pins s σ H xs us Q I rs ⟨μ,h,ws,w,h',R,ax,e,k⟩;unfold eD at e;split at e
 .split at e
  .rename_i l el
   split at e
   .rename_i bs eb
    cases e;cases ax with | cons r t=>cases t with | nil=>
    obtain⟨a,vs,rfl,sa,ra⟩:=b6 R r el;obtain⟨u,rfl,ru⟩:=rs.one;cases ru;have hh:=I.ok.hd hc;refine call_sum_walkG (sN (A:=X.A.in1) I sa hh λus it fp wr St h1 rv W hst hfp hwr k1=>?_);obtain⟨hl,hv⟩:=gN eb ra rv;refine⟨it,fp,wr,_,_,St,λi=>bs.getD i 0,rfl,W,hst,hfp,hv,λh2 tk t' k2=>?_⟩;rw[hl,preSum_eq bs _ (zj _),yf];exact⟨.int _,H,(show Inv X pins σ H { s with heap:=h2,toks:=tk } from lR I k1 hwr k2),⟨t',rfl⟩,k.pure R (.int _)⟩
   .cases e
  .cases e
 .cases e
def boot_sum:bootBuiltins "sum" = some (.builtin "sum"):=by decide +kernel
def YT:bootBuiltins "int" = some (.type Ty.int.name):=by decide +kernel
def oF:bootBuiltins "tuple" = some (.type Ty.tuple.name):=by decide +kernel
def Wz:bootBuiltins "list" = some (.type Ty.list.name):=by decide +kernel
def sC:bootBuiltins "dict" = some (.type Ty.dict.name):=by decide +kernel
end
noncomputable abbrev ie:W->W->M W:=vE λi j=>decide (i<j)
noncomputable abbrev gK:W->W->M W:=vE λi j=>decide (i<=j)
noncomputable abbrev WH:W->W->M W:=vE λi j=>decide (j<i)
noncomputable abbrev mO:W->W->M W:=λx y=>match x,y with | .int i,.int j=>λh=>some (.int (i+j),h) | _,_=>λ_=>none
structure Glob(K:PySem.W.Frag)(mg:Str->Option Value)(x:Str)(w:W):Prop where
 ex:∃(v:V) (u:Value),mg x=some u/\RelV v u/\∀μ H,RW K μ H w v
def Glob.se{X:Cx}(G:Glob X.K X.mg x w)(hg:Gl X x:=by rfl)(hd:(x==("__debug__":Str))=false:=by decide):SE X cl (.Name x pos) (eC w):=by
 obtain⟨v,u,hm,r,rw⟩:=G.ex;exact Uv hm r rw hg hd
mutual
inductive KW(K:PySem.W.Frag):W->Value->Prop
 | int {i:Int} {t:Tok}:KW K (.int i) (.int i t)
 | str {i:Str} {t:Tok}:KW K (.str i) (.str i t)
 | fn {a:Addr}:KW K (.fn a) (.ref a)
 | tup {a:Addr} {l:List W} {o:Obj} {its:Array Value} {n:Nat}:K.lookup a=some o->(o.cls=.type "tuple" /\ o.dict=none)->o.data=.seq its n->its.size<=sizeLine->KWs K l its.toList->KW K (.tup l) (.ref a)
inductive KWs(K:PySem.W.Frag):List W->List Value->Prop
 | nil:KWs K [] []
 | cons {w:W} {v:Value} {l:List W} {vs:List Value}:KW K w v->KWs K l vs->KWs K (w::l) (v::vs)
end
mutual
theorem KW.rw{K:PySem.W.Frag}:∀{w:W} {u:Value},KW K w u->∃v,RelV v u/\∀μ H,RW K μ H w v
 | _,_,.int (i:=i) (t:=t)=>⟨.int i,⟨t,rfl⟩,λ_ _=>.int _⟩
 | _,_,.str (i:=i) (t:=t)=>⟨.str i,⟨t,rfl⟩,λ_ _=>.str _⟩
 | _,_,.fn (a:=a)=>⟨.ref a,rfl,λ_ _=>.fn⟩
 | _,_,.tup (a:=a) e c d z r=>by
  obtain⟨vs,rv,rr⟩:=KWs.rw r;exact⟨.ref a,rfl,λμ H=>.tup (.inr ⟨_,_,_,e,c,d,z,rv⟩) (rr μ H)⟩
theorem KWs.rw{K:PySem.W.Frag}:∀{l:List W} {us:List Value},KWs K l us->∃vs,Vals vs us/\∀μ H,RWs K μ H l vs
 | _,_,.nil=>⟨[],.nil,λ_ _=>.nil⟩
 | _,_,.cons r t=>by
  obtain⟨v,r1,r2⟩:=KW.rw r;obtain⟨vs,t1,t2⟩:=KWs.rw t;exact⟨v::vs,.cons r1 t1,λμ H=>.cons (r2 μ H) (t2 μ H)⟩
end
def KW.glob{K:PySem.W.Frag}{mg:Str->Option Value}{x:Str}(hm:mg x=some u)(k:KW K w u):Glob K mg x w:=by
 obtain⟨v,r1,r2⟩:=k.rw;exact⟨v,u,hm,r1,r2⟩
inductive TabRel(K:PySem.W.Frag):List (Str×W)->List DictEntry->Prop
 | nil:TabRel K [] []
 | cons {k:Str} {t:Tok} {w:W} {hs:Int} {v:Value} {l:List (Str×W)} {es:List DictEntry} {e:DictEntry}:e.key=.str k t->KW K w e.val->TabRel K l es->TabRel K ((k,w)::l) (e::es)
structure TabOk(K:PySem.W.Frag)(P:Params)(mg:Str->Option Value)(x:Str)(l:List (Str×W)):Prop where
 ex:∃(a:Addr) (es:Array DictEntry) (n:Nat),mg x=some (.ref a)/\K.lookup a=some ⟨.type "dict",none,.dict es n,#[]⟩/\PySem.W.KeysLit P es.toList/\(a==sysModules)=false/\TabRel K l es.toList
theorem TabRel.find{K:PySem.W.Frag}:∀{l:List (Str×W)} {es:List DictEntry},TabRel K l es->match l.lookup k with
  | some w=>∃v,(es.find? λe=>Value.isStrOf k e.key).map (·.val)=some v/\KW K w v
  | none=>(es.find? λe=>Value.isStrOf k e.key).map (·.val)=none
 | _,_,.nil=>rfl
 | _,_,.cons (k:=k') (l:=l) (es:=es) (e:=e) hk r t=>by
  have ih:=TabRel.find (k:=k) t;rw[kJ];by_cases q:k=k'
  .subst q
   have e1:(k==k)=true:=by simp
   have e2:Value.isStrOf k e.key=true:=by rw[hk];simp[Value.isStrOf]
   simp only[e1,jB,e2];exact⟨_,rfl,r⟩
  .have e1:(k==k')=false:=by simpa using q
   have e2:Value.isStrOf k e.key=false:=by rw[hk];simp[Value.isStrOf];exactλz=>q z.symm
   simp only[e1,jB,e2];exact ih
noncomputable def cv(l:List (Str×W))(w:W):M W:=λh=>match w with
 | .str k=>match l.lookup k with
  | some v=>some (v,h)
  | none=>none
 | _=>none
section
variable{X:Cx}{cl:Cl}{a:Expr}{ma:ME}{x:Str}{l:List (Str×W)}{p pos:Pos}
def TabOk.at{s:Shared}{H:Hp}{es:Array DictEntry}(I:Inv X pins σ H s)(hl:X.K.lookup d=some ⟨.type "dict",none,.dict es n,#[]⟩)(hk:PySem.W.KeysLit X.w.params es.toList) :
  s.heap.MapOf (strKind X.prog X.w) d (λk=>findBy Value.isStrOf es k):=PySem.W.mapOf_K I.kIn hl hk
def nO(hu:X.A.units+64<cLine)(T:TabOk X.K X.w.params X.mg x l)(ha:SE X cl a ma)(hs:uU a:=by exactλ_ _=>rfl)(hg:Gl X x:=by rfl)(hd:(x==("__debug__":Str))=false:=by decide):SE X cl (.Subscript (.Name x p) a pos) (ug (cv l) ma):=by
 obtain⟨d,es,n,e1,e2,e3,e4,e5⟩:=T.ex;have hix:si X (λx y H Q=>∃k w,x=.ref d/\y=.str k/\l.lookup k=some w/\∀v,(∀μ H,RW X.K μ H w v)->Q v H):=by
  rintro value slice pins s σ H x y v u Q I rx ry ⟨k,w,rfl,rfl,el,q⟩ hs;cases rx;obtain⟨t,rfl⟩:=ry;have hm:=TabOk.at I e2 e3;have:=e5.find (k:=k);rw[el] at this;obtain⟨v0,ev,kw⟩:=this;obtain⟨v1,r1,r2⟩:=kw.rw;refine tail_any hm.typeIs slot_dict_getitem.lookup (wpAny_getItem_of (v:=v0) (strKind_is X.prog X.w k t) hm ?_ ⟨v1,H,I.tok _,r1,q v1 r2⟩) hs;unfold findBy;rw[<-wW];exact ev
 refine PE.wk (Kh hix (Zh hg e1 (show RelV (.ref d) (.ref d) from rfl) hd) ha hs) λσ H Q ⟨μ,h,ρ,w,h',R,er,e,k⟩=>?_
 obtain⟨y,h1,f1,e⟩:=ka e;refine⟨μ,h,ρ,y,h1,R,er,f1,λμ1 H1 vx E1 R1 rx=>?_⟩;unfold cv at e;split at e
 .split at e
  .rename_i k' w' el
   cases e;exact⟨_,_,rfl,rx.str_of,el,λv hv=>k μ1 H1 _ E1 R1 (hv μ1 H1)⟩
  .cases e
 .cases e
end
noncomputable def keyOf:W->Option Key
 | .int i=>some (.inl i)
 | .str x=>some (.inr x)
 | _=>none
noncomputable def wf(l:List (Key×W))(k:Key):Option W:=(l.find? λkv=>decide (kv.1=k)).map (·.2)
noncomputable def jv(l:List (Key×W))(k:Key)(v:W):List (Key×W):=
 if (l.any λkv=>decide (kv.1=k))=true then l.map (λkv=>if kv.1=k then (kv.1,v) else kv) else l++[(k,v)]
noncomputable def qE(l more:List (Key×W)):List (Key×W):=more.foldl (λacc kv=>jv acc kv.1 kv.2) l
noncomputable def xy(h:MH):W->Option (List (Key×W))
 | .fdc l=>some l
 | .ref n=>match h[n]? with
  | some (.dic l)=>some l
  | _=>none
 | _=>none
inductive PR(K:PySem.W.Frag)(μ:List Addr)(H:Hp):List (Key×W)->List (Key×V)->Prop
 | nil:PR K μ H [] []
 | cons {k:Key} {w:W} {v:V} {l:List (Key×W)} {l':List (Key×V)}:RW K μ H w v->PR K μ H l l'->PR K μ H ((k,w)::l) ((k,v)::l')
section
variable{K:PySem.W.Frag}{cl:Cl}{μ μ':List Addr}{H H':Hp}{h:MH}
theorem RKs.pr:∀{l:List (Key×W)} {l':List (Key×V)},RKs K μ H l l'->PR K μ H l l'
 | [],[],_=>.nil
 | [],_::_,⟨k,_⟩=>by simp at k
 | _::_,[],⟨k,_⟩=>by simp at k
 | (k1,w)::l,(k2,v)::l',⟨k,r⟩=>by
  simp only[zx,jK] at k;obtain⟨rfl,k⟩:=k;simp only[zx] at r;cases r with | cons r t=>exact .cons r (RKs.pr ⟨k,t⟩)
theorem PR.rk:∀{l:List (Key×W)} {l':List (Key×V)},PR K μ H l l'->RKs K μ H l l'
 | _,_,.nil=>⟨rfl,.nil⟩
 | _,_,.cons r t=>⟨by simp[t.rk.1],.cons r t.rk.2⟩
theorem PR.len:∀{l:List (Key×W)} {l':List (Key×V)},PR K μ H l l'->l.length=l'.length
 | _,_,.nil=>rfl
 | _,_,.cons _ t=>jR (· + 1) t.len
theorem PR.val:∀{l:List (Key×W)} {l':List (Key×V)},PR K μ H l l'->match wf l k with
  | some w=>∃v,x5 l' k=some v/\RW K μ H w v
  | none=>x5 l' k=none
 | _,_,.nil=>rfl
 | _,_,.cons (k:=k') (l:=l) (l':=l') (w:=w) (v:=v) r t=>by
  have ih:=PR.val (k:=k) t;by_cases q:k'=k
  .have e1:wf ((k',w)::l) k=some w:=by simp[wf,jB,q]
   rw[e1];exact⟨v,by simp[x5,jB,q],r⟩
  .have e1:wf ((k',w)::l) k=wf l k:=by simp[wf,jB,q]
   have e2:x5 ((k',v)::l') k=x5 l' k:=by simp[x5,jB,q]
   rw[e1,e2];exact ih
theorem PR.any:∀{l:List (Key×W)} {l':List (Key×V)},PR K μ H l l'->(l.any λkv=>decide (kv.1=k))=(l'.any λkv=>decide (kv.1=k))
 | _,_,.nil=>rfl
 | _,_,.cons _ t=>by simp only[vZ];rw[t.any]
theorem PR.map(r:RW K μ H w v):∀{l:List (Key×W)} {l':List (Key×V)},PR K μ H l l'->PR K μ H (l.map λkv=>if kv.1=k then (kv.1,w) else kv) (l'.map λkv=>if kv.1=k then (kv.1,v) else kv)
 | _,_,.nil=>.nil
 | _,_,.cons (k:=k') q t=>by
  simp only[zx];by_cases z:k'=k
  .simp only[z,kE];exact .cons r (t.map r)
  .simp only[z,jj];exact .cons q (t.map r)
theorem PR.app:∀{l m:List (Key×W)} {l' m':List (Key×V)},PR K μ H l l'->PR K μ H m m'->PR K μ H (l++m) (l'++m')
 | _,_,_,_,.nil,s=>s
 | _,_,_,_,.cons r t,s=>.cons r (t.app s)
def PR.put(p:PR K μ H l l')(r:RW K μ H w v):PR K μ H (jv l k w) (putK l' k v):=by
 unfold jv putK;rw[<-p.any (k:=k)];split
 .exact p.map r
 .exact p.app (.cons r .nil)
def PR.merge{more:List (Key×W)}(q:PR K μ H more more')(p:PR K μ H l l'):PR K μ H (qE l more) (uk l' more'):=by
 induction q generalizing l l' with
 | nil=>exact p
 | cons r t ih=>exact ih (p.put r)
theorem PR.ext(R:HR K cl μ H h)(E:Ext μ H μ' H'):∀{l:List (Key×W)} {l':List (Key×V)},PR K μ H l l'->PR K μ' H' l l'
 | _,_,.nil=>.nil
 | _,_,.cons r t=>.cons (r.ext R E) (t.ext R E)
def dk(R:HR K cl μ H h)(r:RW K μ H w v)(e:xy h w=some l):∃a l',v=.ref a/\Rd H a (.dK l')/\PR K μ H l l':=by
 cases r with
 | @fdc a l0 l' ws vs s kk e1 e2 rs=>cases e;subst e1;subst e2;exact⟨a,l',rfl,s.1,RKs.pr ⟨kk,rs⟩⟩
 | @ref n a hn=>
  simp only[xy] at e;split at e
  .rename_i l' ho
   cases e;obtain⟨l2,hv,rs⟩:=R.ob n a _ hn ho;exact⟨a,l2,rfl,.inl hv,RKs.pr rs⟩
  .cases e
 | _=>cases e
theorem ab(r:RW K μ H w v)(e:keyOf w=some k):v=kV k:=by
 cases r<;>cases e<;>rfl
theorem KQ.fdc{l:List (Key×W)}{l':List (Key×V)}{Q:VK}{p:Addr}(k:KQ K cl μ H h (.fdc l) Q)(R:HR K cl μ H h)(pr:PR K μ H l l')(hp:H p=none):Q (.ref p) (upd H p (.dK l')):=
 k μ _ _ (.side hp) (R.side hp) (.fdc ⟨.inl qk,R.fresh hp⟩ (pr.rk.1) rfl rfl ((pr.ext R (.side hp)).rk.2))
end
noncomputable def mm(md mk mv:ME):ME:=λρ=>bnd (md ρ) λx h=>if (xy h x).isSome=true then bnd (mk ρ) (λy=>bnd (mv ρ) λz h=>match xy h x,keyOf y with
  | some l,some k=>some ((wf l k).getD z,h)
  | _,_=>none) h else none
section
variable{X:Cx}{cl:Cl}{o a b:Expr}{mo ma mb:ME}{apos cpos pos:Pos}
def QN(hu:X.A.units+64<cLine)(ho:SE X cl o mo)(ha:SE X cl a ma)(hb:SE X cl b mb)(m:M2 X o "get" apos a b cpos:=by exact⟨rfl,rfl,rfl,rfl⟩):SE X cl (.Call (.Attribute o "get" apos) [a,b] [] cpos) (mm mo ma mb):=
 PE.wk (WF ∅ ho ha hb m) λσ H Q q0=>by
  obtain⟨μ,h,ρ,w,h',R,er,e,k⟩:=q0;obtain⟨x,h1,e1,e⟩:=ka e;split at e
  .rename_i hd
   obtain⟨y,h2,e2,e⟩:=ka e;obtain⟨z,h3,e3,e⟩:=ka e;refine⟨μ,h,ρ,x,h1,R,er,e1,λμ1 H1 vx E1 R1 rx=>?_⟩;obtain⟨l0,hd⟩:=j8.mp hd;obtain⟨d,l',rfl,rd,_⟩:=dk R1 rx hd;refine⟨d,rfl,.inl ⟨l',rd⟩,μ1,h1,ρ,y,h2,R1,er.ext R E1,e2,λμ2 H2 vy E2 R2 ry=>⟨μ2,h2,ρ,z,h3,R2,(er.ext R E1).ext R1 E2,e3,λμ3 H3 vz E3 R3 rz=>?_⟩⟩;split at e
   .rename_i l k' el ek
    cases e;obtain⟨d2,l2,ed,rd2,pr⟩:=dk R3 ((rx.ext R1 E2).ext R2 E3) el;cases ed;have hk:=ab ry ek;subst hk;refine⟨x5 l2 k',.inl ⟨l2,k',rd2,rfl,rfl⟩,?_⟩;have E:=E1.trans (E2.trans E3);have:=pr.val (k:=k');cases ev:wf l k' with
    | none=>rw[ev] at this k;rw[this];exact k μ3 H3 _ E R3 rz
    | some w0=>rw[ev] at this k;obtain⟨v0,e0,r0⟩:=this;rw[e0];exact k μ3 H3 _ E R3 r0
   .cases e
  .cases e
def Xc:SE X cl (.Dict [] [] pos) (eC (.fdc [])):=
 PE.wk VX λσ H Q q0=>by
  obtain⟨μ,h,ρ,w,h',R,er,e,k⟩:=q0;cases e;exactλp hp=>k.fdc R .nil hp
end
end ML
section
namespace ML
open PySem PySem.Spec PyProof.Rows L2
end ML
namespace ML
open PySem PySem.Spec PyProof.Rows L2
end ML
end
section
namespace ML
open PySem PySem.Spec PyProof.Rows L2
noncomputable def keysOf:List (W×W)->Option (List (Key×W))
 | []=>some []
 | (x,y)::r=>match keyOf x,keysOf r with
  | some k,some l=>some ((k,y)::l)
  | _,_=>none
noncomputable def pairsOf:List W->Option (List (W×W))
 | []=>some []
 | .tup [x,y]::r=>match pairsOf r with
  | some l=>some ((x,y)::l)
  | none=>none
 | _=>none
noncomputable def iM(ws:List W):M W:=λh=>match ws with
 | [w]=>match xy h w with
  | some l=>some (.fdc l,h)
  | none=>match getL h w with
   | some l=>match pairsOf l with
    | some ps=>match keysOf ps with
     | some ks=>if ks.length<=1000 then some (.fdc (qE [] ks),h) else none
     | none=>none
    | none=>none
   | none=>none
 | _=>none
end ML
end
namespace ML
open PySem PySem.Spec PyProof.Rows L2
def Zl{T:String}(h:T="list" \/ T="tuple" \/ T="zip"):typeLookup (.type T) "keys" = pure none:=by
 rcases h with rfl | rfl | rfl<;>(rw[ql,jH];kernel_rfl)
def Zq{T:String}(h:T="list" \/ T="tuple" \/ T="zip"):typeLookup (.type T) "__getattr__" = pure none:=by
 rcases h with rfl | rfl | rfl<;>(rw[ql,jH];kernel_rfl)
def c8:isSubtype (.type "AttributeError") (.type "AttributeError")=pure true:=by rw[v9];kernel_rfl
section
variable{prog:Program}{w:World}{A:Around}{E:Value->Shared->Prop}{s:Shared}
theorem Xf{name:Value}(he:s.heap.get? e=some { cls:=.type "AttributeError",data:=.fields #[v0,v1,v2,v3,v4,v5,rawInt 0,rawInt 0] })
  (hq:∀h' ob,Heap.ExtBut e s.heap h'->h'.get? e=some ob->ob.cls=.type "AttributeError"->Q () { s with heap:=h' }):wpAny (model prog w) A (noteAttr (.ref e) o name) Q E s:=by
 have hT:s.TypeIs (.ref e) "AttributeError":=⟨_,he,rfl⟩;unfold noteAttr;refine za ?_;unfold lacksNameAndObj;refine za (jU hT c8 ?_);simp only[Bool.not_true,jE,jj];refine za (wpAny_load he ?_);refine zr ?_;simp only[kE];refine za (qx (za (jZ hT ?_)));show wpAny _ _ (layMembers e 6 #[name,o]) _ _ s
 unfold layMembers;refine za (wpAny_load he ?_);refine wpAny_update he (hq _ _ (qu ..).extBut (jL _ he ?_) ?_)
 .rfl
 .rfl
def lM{α:Type}{o:Value}{x msg:Str}{Q:α->Shared->Prop}(hh:A.handled=none)(hm:msg.length<=sizeLine)
  (hq:∀h' tk' e,(∀b ob,s.heap.get? b=some ob->h'.get? b=some ob)->(∃ob,h'.get? e=some ob/\ob.cls=.type "AttributeError")->E (.ref e) { s with heap:=h',toks:=tk' }):wpAny (model prog w) A (raiseAttrError o x msg:Sem α) Q E s:=by
 unfold raiseAttrError;refine za (wpAny_mkStr (za ?_) hm);unfold newExc newTuple;refine za (jm ?_);refine za (m:=firstArgMember _ _) (jQ (a:=Value.none) (by first | rfl | kernel_rfl) ?_);refine jm ?_;refine za (wpAny_mkText (za ?_));refine Xf (zQ _ rfl) λh' ob hx ho hc=>?_
 unfold raiseNew;refine za (wpAny_handled ?_);rw[hh];first
  | refine wB ?_
  | refine za (zr (wB ?_))
 refine hq _ _ _ (λb ob' hb=>hx b ob' ?_ (zf _ (zf _ hb))) ⟨ob,ho,hc⟩;refine zW (zL (zA hb) ?_);simp
end
section
variable{prog:Program}{w:World}{A:Around}{E:Value->Shared->Prop}{h:Heap}{g:Array GenState}{d:Drawn}{t:Nat}{os:OsState}{a:Addr}{items:Array Value}{n:Nat}{sl:Array (Option Value)}{dd:Option Addr}
noncomputable def Z5(h:Heap)(g:Array GenState)(d:Drawn)(os:OsState)(E:Value->Shared->Prop):Prop:=∀h' tk' e,(∀b ob,h.get? b=some ob->h'.get? b=some ob)->(∃ob,h'.get? e=some ob/\ob.cls=.type "AttributeError")->E (.ref e) ⟨h',g,d,tk',os⟩
set_option maxHeartbeats 1000000 in
def KY(hh:A.handled=none)(hx:h.get? a=some { cls:=.type "list",dict:=none,data:=.seq items n,slots:=sl })(hq:Z5 h g d os E) :
  wpAny (model prog w) A (Builtin.«object.__getattribute__» ⟨[.ref a,.str "keys" tk],[]⟩) Q E ⟨h,g,d,t,os⟩:=by
 have hT:(⟨h,g,d,t,os⟩:Shared).TypeIs (.ref a) "list":=⟨_,hx,rfl⟩;have f4:=Zl (T:="list") (.inl rfl);repeat (any_goals (first | assumption | wp_step))
 refine lM hh ⋯ λh' tk' e k1 k2=>hq h' tk' e k1 k2
def sy(hh:A.handled=none)(hx:h.get? a=some { cls:=.type "list",dict:=none,data:=.seq items n,slots:=sl })(hq:Z5 h g d os E):wpAny (model prog w) A (getAttrBy (.ref a) (.str "keys" tk) false) Q E ⟨h,g,d,t,os⟩:=by
 have hT:(⟨h,g,d,t,os⟩:Shared).TypeIs (.ref a) "list":=⟨_,hx,rfl⟩;have f2:=wz.lookup;have f3:=wz.bind (.ref a);unfold getAttrBy;refine jb (za (jZ hT (za (jQ f2 ?_))));show wpAny _ _ (getAttrByItsOwn (.ref a) (.str "keys" tk) (.type "list") (.builtin "list.__getattribute__") false false) _ _ _
 unfold getAttrByItsOwn;refine za (zr ?_);refine za (jY ?_);refine jb ?_;show wpAny _ _ (boundAndCalled (.builtin "list.__getattribute__") (.ref a) (.str "keys" tk)) _ _ _
 unfold boundAndCalled;refine za (jQ f3 ?_);refine jx wz hT F.entry_list_ga ?_ (F.args_list_getattribute_2 _ _);refine KY hh hx λh' tk' e k1 k2=>?_
 obtain⟨ob,ho,hc⟩:=k2;have hTe:(⟨h',g,d,tk',os⟩:Shared).TypeIs (.ref e) "AttributeError":=⟨_,ho,hc⟩;show wpAny _ _ (getattributeRaised (.ref a) (.str "keys" tk) (.type "list") (.ref e) none false false) _ _ _
 unfold getattributeRaised;refine za (jU hTe c8 ?_);simp only[kE];refine za (jQ (show hookBehind (.type "list") none=pure none from Zq (.inl rfl)) ?_);show wpAny _ _ (attributeErrorLeaves (.ref a) (.str "keys" tk) (.ref e) false false) _ _ _
 unfold attributeErrorLeaves;simp only[Bool.not_false,kE];exact wB (hq h' tk' e k1 ⟨ob,ho,hc⟩)
def sS(hh:A.handled=none)(hx:h.get? a=some { cls:=.type "list",dict:=none,data:=.seq items n,slots:=sl })(hq:∀h' tk',(∀b ob,h.get? b=some ob->h'.get? b=some ob)->Q none ⟨h',g,d,tk',os⟩):wpAny (model prog w) A (getAttr? (.ref a) "keys") Q E ⟨h,g,d,t,os⟩:=by
 unfold getAttr? getAttrBy?;refine za (wpAny_mkText ?_);refine za (jY (sy hh hx λh' tk' e k1 k2=>?_));obtain⟨ob,ho,hc⟩:=k2;refine za (jU (T:="AttributeError") (b:=true) ⟨ob,ho,hc⟩ c8 ?_);exact zr (hq h' tk' k1)
end
def dr:entryFor table "dict.update.loop" = some Builtin.«dict.update.loop»:=entryFor_of_tree (by kernel_rfl)
def xE:plainId "dict.update.loop" = true:=by decide +kernel
section
variable{prog:Program}{w:World}{A:Around}{R:Result->Shared->Prop}{I D:Addr}{fp wr:List Addr}{n:Nat}{P:Nat->Value->Prop}{St:Nat->Heap->Prop}{h0:Heap}{us:List Value}{kvs:List (Key×Value)}
noncomputable def mL(knd:KeyKind prog w Key)(h:Heap)(us:List Value)(kvs:List (Key×Value)):Prop:=us.length=kvs.length/\∀(i:Nat) (u:Value) (kv:Key×Value),us[i]?=some u->kvs[i]?=some kv->∃T k,u=.ref T/\IsTup h T #[k,kv.2]/\knd.is kv.1 k=true
def Wq(knd:KeyKind prog w Key)(W:Walks prog w A.in1 I fp wr us.length (λi v=>us[i]?=some v) St)(hDf:D∉fp)(hD0:h0.get? D=none)(hw0:∀b∈wr,h0.get? b=none)(hp:mL knd h0 us kvs)(hz:kvs.length<=1000) :
  ∀(k i:Nat) (tk:Tok) (s:Shared),us.length-i=k->i<=us.length->St i s.heap->s.heap.DictOf knd D (merged [] (kvs.take i))->(∀b o,h0.get? b=some o->s.heap.get? b=some o)->
   (∀h' tk',h'.DictOf knd D (merged [] kvs)->(∀b o,h0.get? b=some o->h'.get? b=some o)->R (.ok (.ret .none)) { s with heap:=h',toks:=tk' })->
   codeAny (model prog w) A (.builtin "dict.update.loop" ⟨[.ref D,.ref I,.int i tk,.none],[]⟩) R s:=by
 have hDw:D∉wr:=λh=>hDf (W.sub _ h)
 intro k;induction k with
 | zero=>
  intro i tk s hk hi hst hd h0k hR;obtain rfl:i=us.length:=by omega
  refine vQ dr ?_;rw[qR xE _];show wpAny _ A.in1 (pyNext (.ref I) >>= _) _ _ s;refine za (W.done s _ _ hst λh' tk' kk=>?_)
  show wpAny _ A.in1 (Builtin.Dict.addKeywords D [] >>= _) _ _ _
  refine za (zr (zr (hR h' tk' ?_ λb o e=>kk b o (λz=>by rw[hw0 b z] at e;cases e) (h0k b o e))));rw[hp.1,yf] at hd;obtain⟨o,es,ep,ho,rest⟩:=hd;exact⟨o,es,ep,kk D o hDw ho,rest⟩
 | succ k ih=>
  intro i tk s hk hi hst hd h0k hR;have hlt:i<us.length:=by omega
  refine vQ dr ?_;rw[qR xE _];show wpAny _ A.in1 (pyNext (.ref I) >>= _) _ _ s;refine za (W.item i s _ _ hlt hst λv h' tk' hv hst' kk=>?_)
  have hkl:i<kvs.length:=by rw[<-hp.1];exact hlt
  obtain⟨T,key,rfl,hT,hk1⟩:=hp.2 i v kvs[i] hv (zB hkl);have keep:∀b o,h0.get? b=some o->h'.get? b=some o:=λb o e=>kk b o (λz=>by rw[hw0 b z] at e;cases e) (h0k b o e)
  have hT':IsTup h' T #[key,kvs[i].2]:=by obtain⟨o,ho,r⟩:=hT;exact⟨o,keep T o ho,r⟩
  have hd':h'.DictOf knd D (merged [] (kvs.take i)):=by obtain⟨o,es,ep,ho,rest⟩:=hd;exact⟨o,es,ep,kk D o hDw ho,rest⟩
  show wpAny _ A.in1 (holding [Value.ref T] _ >>= _) _ _ _
  refine za (jb (za (wpAny_tryCatch ?_)));unfold Builtin.Dict.pairItems;refine za (jZ hT'.typeIs ?_);rw[zY (by decide)];obtain⟨oT,hoT,hcT,nT,hdT⟩:=hT';refine za (jF hoT hdT (zr ?_));show wpAny _ _ (holding [key,kvs[i].2] (dictSet D key kvs[i].2)) _ _ _
  refine jb ?_;unfold dictSet;try with_reducible refine jb ?_
  refine za (knd.pyHash hk1 ?_);refine yZ (s:={ s with heap:=h',toks:=tk'+1 }) hk1 hd' (λh2 hd2 sb=>?_) (by have:=merged_length_le ([]:List (Key×Value)) (kvs.take i);rw[qL] at this;simp at this;exact zR (zR this ∅) (show 1000<=sizeLine by decide));refine zr ⟨qZ xE _,ih (i+1) _ _ ∅ hlt (W.frame _ _ _ hst' λb hb o e=>?_) ?_ (λb o e=>?_) λh3 tk3 hd3 k3=>?_⟩
  .rw[sb.2 b (λz:b=D=>hDf (by rw[<-z];exact hb))];exact e
  .rw[merged_take_succ [] kvs i kvs[i] (zB hkl)];exact hd2
  .rw[sb.2 b (λz:b=D=>by rw[z,hD0] at e;cases e)];exact keep b o e
  .exact hR h3 tk3 hd3 k3
end
section
variable{prog:Program}{w:World}{A:Around}{E:Value->Shared->Prop}{s:Shared}{us:List Value}{kvs:List (Key×Value)}{l:Addr}{n:Nat}{sl:Array (Option Value)}
def nh(knd:KeyKind prog w Key)(hh:A.handled=none)(hl:s.heap.get? l=some { cls:=.type "list",dict:=none,data:=.seq us.toArray n,slots:=sl })(hp:mL knd s.heap us kvs)(hz:kvs.length<=1000)
  (h:∀h' tk',h'.DictOf knd s.heap.objs.size (merged [] kvs)->(∀b o,s.heap.get? b=some o->h'.get? b=some o)->Q (.ref s.heap.objs.size) { s with heap:=h',toks:=tk' }):wpAny (model prog w) A (call (.type "dict") [.ref l]) Q E s:=by
 refine ye (Q₁:=λobj s₁=>obj=.ref s.heap.objs.size/\s₁={ s with heap:=s.heap.push { cls:=.type "dict",data:=.dict #[] } }) F.kt_called_dict (F.kt_typeCall_dict_1 _) F.entry_dict_init (kt_code_dict_new _ ⟨rfl,rfl⟩) ?_;rintro obj s₁ ⟨rfl,rfl⟩;have hnew:(s.heap.push { cls:=.type "dict",data:=.dict #[] }).DictOf knd s.heap.objs.size []:=yU s.heap;refine⟨hnew.typeIs,F.args_dict_init_2 _ _,?_⟩;unfold Builtin.«dict.__init__»;refine za ?_;unfold Builtin.Dict.selfAndRest;refine za (wpAny_notOrdered_dict hnew.typeIs ?_);show wpAny _ _ (pure (s.heap.objs.size,[Value.ref l])) _ _ _
 refine zr ?_;show wpAny _ _ (Builtin.Dict.updateFrom "dict.__init__" s.heap.objs.size (.ref l) [] .none) _ _ _
 unfold Builtin.Dict.updateFrom;have hl1:(s.heap.push { cls:=.type "dict",data:=.dict #[] }).get? l=some _:=zf _ hl;refine za (jZ (T:="list") ⟨_,hl1,rfl⟩ ?_);rw[zY (by decide)];have hh2:A.in1.in1.handled=none:=by simpa using hh
 refine za (sS hh2 hl1 λh1 tk1 k1=>?_);simp only[xu,kE];have hl2:=k1 _ _ hl1;have hL:h1.IsList l us.toArray:=⟨_,hl2,rfl,n,rfl⟩;refine za (qx ?_);refine za (vh hL ?_);have k0:∀b o,s.heap.get? b=some o->h1.get? b=some o:=λb o e=>k1 b o (zf _ e)
 have hDlt:s.heap.objs.size<h1.objs.size:=by obtain⟨o,es,ep,ho,_⟩:=hnew;exact zA (k1 _ _ ho)
 have hllt:l<s.heap.objs.size:=zA hl;have hd1:h1.DictOf knd s.heap.objs.size []:=by obtain⟨o,es,ep,ho,rest⟩:=hnew;exact⟨o,es,ep,k1 _ _ ho,rest⟩
 have hne:l≠h1.objs.size:=zW (Nat.lt_trans hllt hDlt);have W0:=xq (prog:=prog) (w:=w) (A:=A.in1.in1) (by simpa using hh) h1.objs.size l hne us.toArray;have W1:Walks prog w A.in1.in1 h1.objs.size [h1.objs.size,l] [h1.objs.size] us.length (λi v=>us[i]?=some v) (λi h=>h.IsListIter h1.objs.size l i/\h.IsList l us.toArray):=by simpa using W0
 refine zr ⟨qZ xE _,Wq (h0:=s.heap) knd W1 ?_ ?_ ?_ hp hz us.length 0 _ _ rfl (qO _) ⟨⟨_,zQ _ rfl,rfl,rfl⟩,hL.at λo e=>zf _ e⟩ ?_ (λb o e=>zf _ (k0 b o e)) λh' tk' hd' k'=>?_⟩
 .simp only[zb,zc,zM,j0]
  exact⟨zW hDlt,qg hllt⟩
 .exact vK (zj _)
 .intro b hb
  simp only[zb,zc,zM] at hb;rw[hb];exact vK (wu hDlt)
 .obtain⟨o,es,ep,ho,rest⟩:=hd1
  exact⟨o,es,ep,zf _ ho,rest⟩
 .exact⟨rfl,h h' tk' hd' k'⟩
end
end ML
namespace ML
open PySem PySem.Spec PyProof.Rows L2
section
variable{X:Cx}{cl:Cl}
theorem rN{K:PySem.W.Frag}{μ:List Addr}{H:Hp}:∀{l:List W} {vs:List V} {ps:List (W×W)} {ks:List (Key×W)},RWs K μ H l vs->pairsOf l=some ps->keysOf ps=some ks->
  ∃ks':List (Key×V),PR K μ H ks ks'/\vs.length=ks'.length/\∀(i:Nat) (v:V) (kv:Key×V),vs[i]?=some v->ks'[i]?=some kv->∃T,v=.ref T/\SqT K H T [kV kv.1,kv.2]
 | [],_,_,_,.nil,e1,e2=>by
  cases e1;cases e2;exact⟨[],.nil,rfl,λi v kv e=>by simp at e⟩
 | w::l,_,ps,ks,.cons (v:=v) r t,e1,e2=>by
  have hw:∃x y,w=.tup [x,y]:=by
   unfold pairsOf at e1;split at e1
   .rename_i hd;cases hd
   .rename_i x y r' hd;cases hd;exact⟨x,y,rfl⟩
   .cases e1
  obtain⟨x,y,rfl⟩:=hw;unfold pairsOf at e1;split at e1
  .rename_i l' e3
   cases e1;unfold keysOf at e2;split at e2
   .rename_i k lk e4 e5
    cases e2;obtain⟨ks',p,hl,hi⟩:=rN t e3 e5;obtain⟨T,vs2,rfl,sq,rr⟩:=r.tup_of;cases rr with | cons r1 rr=>cases rr with | @cons _ v2 _ _ r2 rr=>cases rr with | nil=>
    have:=ab r1 e4;subst this;refine⟨(k,v2)::ks',.cons r2 p,by simp[hl],λi v kv ev ek=>?_⟩;cases i with
    | zero=>simp at ev ek;subst ev;subst ek;exact⟨T,rfl,sq⟩
    | succ i=>exact hi i v kv (by simpa using ev) (by simpa using ek)
   .cases e2
  .cases e1
theorem pairs_at{s:Shared}{H:Hp}(I:Inv X pins σ H s):∀{vs:List V} {its:List Value} {ks':List (Key×V)},Vals vs its->vs.length=ks'.length->
  (∀(i:Nat) (v:V) (kv:Key×V),vs[i]?=some v->ks'[i]?=some kv->∃T,v=.ref T/\SqT X.K H T [kV kv.1,kv.2])->∃kvs,KV ks' kvs/\mL (qr X.prog X.w) s.heap its kvs
 | _,_,[],.nil,_,_=>⟨[],.nil,rfl,λi u kv e=>by simp at e⟩
 | _,_,_::_,.nil,hl,_=>by simp at hl
 | _,_,[],.cons _ _,hl,_=>by simp at hl
 | _,_,(k,v2)::ks',.cons (a:=v) (b:=u) r t,hl,hi=>by
  obtain⟨kvs,q1,q2,q3⟩:=pairs_at I t (by simpa using hl) λi v kv e1 e2=>hi (i+1) v kv (by simpa using e1) (by simpa using e2)
  obtain⟨T,rfl,sq⟩:=hi 0 v (k,v2) (by simp) (by simp);obtain⟨it2,rv,ht,_⟩:=I.tuple sq;obtain⟨u1,u2,rfl,ru1,ru2⟩:=vals2 rv;cases r;refine⟨(k,u2)::kvs,.cons ⟨rfl,ru2⟩ q1,by simp[q2],λi u kv e1 e2=>?_⟩;cases i with
  | zero=>simp at e1 e2;subst e1;subst e2;exact⟨T,u1,rfl,ht,iJ ru1⟩
  | succ i=>exact q3 i u kv (by simpa using e1) (by simpa using e2)
def Z0(hc:X.calm=true):yB X (.type "dict") (rMs X.K cl iM):=by
 rintro pins s σ H xs us Q I rs ⟨μ,h,ws,w,h',R,ax,e,k⟩;unfold iM at e;split at e
 .cases ax with | cons r t=>cases t with | nil=>
  obtain⟨u,rfl,ru⟩:=rs.one;split at e
  .rename_i l el
   cases e;obtain⟨a,l',rfl,rd,pr⟩:=dk R r el;cases ru;exact sF I rd λp s' hp I'=>⟨.ref p,_,I',rfl,k.fdc R pr hp⟩
  .split at e
   .rename_i l el
    split at e
    .rename_i ps ep
     split at e
     .rename_i ks ek
      split at e
      .rename_i hlen
       cases e;obtain⟨a,vs,rfl,sa,ra⟩:=xb R r el;cases ru;obtain⟨ks',pr,hl,hi⟩:=rN ra ep ek;obtain⟨its,rv,⟨⟨oc,od,odt,osl⟩,n,g1,g2,g3,g4⟩,_⟩:=I.list sa;simp only at g2 g3 g4;subst g2 g3 g4;obtain⟨kvs,q1,q2⟩:=pairs_at I rv hl hi;have hkl:ks'.length=kvs.length:=q1.length;refine nh (qr X.prog X.w) (I.ok.hd hc) g1 q2 (by rw[<-hkl,<-pr.len];exact hlen) λh2 tk dd kp=>?_
       have rel:KV (uk [] ks') (merged [] kvs):=q1.merge .nil;have hz:(uk [] ks').length<=sizeLine:=by
        have h1:=aS ks' [];rw[zV] at h1;rw[vm];have:=pr.len;omega
       exact⟨.ref _,_,I.laid (a:=s.heap.objs.size) (o:=.dK (uk [] ks')) (t':=tk) kp (zj _) (lK hz (jr.mpr (kY (zW I.big))) rel dd),rfl,k.fdc R (pr.merge .nil) (I.hok.fresh (zj _))⟩
      .cases e
     .cases e
    .cases e
   .cases e
 .cases e
end
end ML
section
namespace ML
open PySem PySem.Spec PyProof.Rows L2
def UJ{P:Program}{w:World}{K:PySem.W.Frag}{mg:Str->Option Value}{base:Heap}{cl:Cl}{x qual:Str}{st:Stmt}{f:Addr}{N ps:List Str}{np:Nat}(F:Fun K x qual st f fd)(hsc:kB st=sc)(hbd:kS st=bd)(S:FnScope N ps sc)(hnp:ps.length=np)(hns:N.length-np=ns)
  (hb:∀(cdv:Value) (A:Around) (outer:List Env) (s:Shared) (H:Hp) (E:XK),Room k (A.deeper (envOfC qual sc s.heap.objs.size f cdv))->
   SB (gW uc P w K mg base N qual sc f cdv A outer s H E).nox cl bd b):FnOk P w K mg base uc (k+1) f fd ps (xp K cl (gc (kd np ns b))):=by
 subst hsc hbd;exact Dn F S hnp hns hb
noncomputable def QM(sc:Scope)(x:Str):Bool:=match sc.names.lookup x with
 | some .local=>true
 | some .cell=>true
 | some .free=>true
 | _=>false
noncomputable def Kz(sc:Scope)(x:Str):Bool:=match sc.names.lookup x with
 | some .local=>true
 | some .cell=>true
 | _=>false
noncomputable def VQ(sc:Scope)(N:List Str)(i:Nat)(x:Str):Bool:=N[i]?==some x&&QM sc x && !(x==("__debug__":Str)) && !(x==("__classdict__":Str))
noncomputable def setB(sc:Scope)(N:List Str)(i:Nat)(x:Str):Bool:=N[i]?==some x&&Kz sc x
noncomputable def setC(sc:Scope)(N:List Str)(i:Nat)(x:Str):Bool:=N[i]?==some x&&sc.names.lookup x==some .local
noncomputable def xX(sc:Scope)(x:Str):Bool:=sc.names.lookup x==some .globalImplicit && !(x==("__debug__":Str)) && !(x==("__name__":Str))
section
variable{X:Cx}{cl:Cl}{x:Str}{pos pos' p:Pos}{sc:Scope}{N:List Str}{i:Nat}{e:Expr}{m:ME}
def YZ(h:QM sc x=true):QB sc x:=by
 unfold QM at h;split at h
 .rename_i q;exact .inl q
 .rename_i q;exact .inr (.inl q)
 .rename_i q;exact .inr (.inr q)
 .cases h
def mM(h:Kz sc x=true):Loc sc x:=by
 unfold Kz at h;split at h
 .rename_i q;exact .inl q
 .rename_i q;exact .inr q
 .cases h
def v_(h:VQ sc N i x=true)(hs:X.env.scope=sc:=by rfl)(hN:X.N=N:=by rfl):SE X cl (.Name x pos) (ze i):=by
 unfold VQ at h;simp only[zu,j7,qY] at h;exact Bm i (by rw[hN];exact h.1.1.1) (by rw[hs];exact YZ h.1.1.2) h.1.2 h.2
def g_(h:setB sc N i x=true)(hNd:N.Nodup)(hs:X.env.scope=sc:=by rfl)(hN:X.N=N:=by rfl)(hf:X.fn x=true:=by rfl):SG X cl (.Name x pos) (zC i):=by
 unfold setB at h;simp only[zu,j7] at h;exact ZM i (by rw[hN];exact hNd) (by rw[hN];exact h.1) (by rw[hs];exact mM h.2) (.inl hf)
def Gp(h:setC sc N i x=true)(hNd:N.Nodup)(hs:X.env.scope=sc:=by rfl)(hN:X.N=N:=by rfl):SG X cl (.Name x pos) (zC i):=by
 unfold setC at h;simp only[zu,j7] at h;exact ZM i (by rw[hN];exact hNd) (by rw[hN];exact h.1) (by rw[hs];exact .inl h.2) (.inr (by rw[hs];exact h.2))
def s_(h:setB sc N i x=true)(hNd:N.Nodup)(he:SE X cl e m)(hs:X.env.scope=sc:=by rfl)(hN:X.N=N:=by rfl)(hf:X.fn x=true:=by rfl)(hsw:swapsWith e (some (.Name x pos')) pos.line X.env=pure false:=by rfl):SS X cl (.Assign [.Name x pos'] e pos) (zD m (zC i)):=by
 unfold setB at h;simp only[zu,j7] at h;exact Cr i (by rw[hN];exact hNd) he (by rw[hN];exact h.1) (by rw[hs];exact mM h.2) hsw (.inl hf)
def jS(h:xX sc x=true)(hs:X.env.scope=sc):Gl X x/\(x==("__debug__":Str))=false/\x≠"__name__":=by
 unfold xX at h;simp only[zu,j7,qY] at h;refine⟨?_,h.1.2,λz=>?_⟩
 .show X.env.scope.names.lookup x=_
  rw[hs];exact h.1.1
 .have:=h.2;rw[z] at this;simp at this
variable{k:Nat}{f:Addr}{fd:FuncData}{ps:List Str}{es:List Expr}{g:List W->M W}{ms:List ME}{id:String}
def c_(h:xX sc x=true)(F:FnOk X.prog X.w X.K X.mg X.base uc k f fd ps (xp X.K cl g))(hr:Room k X.A)(hm:X.mg x=some (.ref f))(hk:PySem.W.keepIn X.K (.ref f)=true)(hb:Binds X.K fd ps [])
  (ha:SA X cl (e::es) ms) (hs:X.env.scope=sc:=by rfl) (hst:starEach (e::es) X.env=(false,eval e X.env)::starEach es X.env:=by rfl) (hpl:(backTo pos (starEach es X.env)).any (·.1)=false:=by rfl):SE X cl (.Call (.Name x p) (e::es) [] pos) (zh g ms):=
 YE F hr hm hk hb ha (jS h hs).1 (jS h hs).2.1 hst hpl
def Gb(h:xX sc x=true)(F:FnOk X.prog X.w X.K X.mg X.base uc k f fd ps (xp X.K cl g))(hr:Room k X.A)(hm:X.mg x=some (.ref f))(hk:PySem.W.keepIn X.K (.ref f)=true)(hb:Binds X.K fd ps [])
 (hs:X.env.scope=sc:=by rfl):SE X cl (.Call (.Name x p) [] [] pos) (zh g []):=VE F hr hm hk hb (jS h hs).1 (jS h hs).2.1
def US(h:xX sc x=true)(hc:yB X (.builtin id) (rMs X.K cl g))(hm:X.mg x=none)(hv:bootBuiltins x=some (.builtin id))(ha:SA X cl (e::es) ms)(hs:X.env.scope=sc:=by rfl)(hst:starEach (e::es) X.env=(false,eval e X.env)::starEach es X.env:=by rfl)(hpl:(backTo pos (starEach es X.env)).any (·.1)=false:=by rfl) :
 SE X cl (.Call (.Name x p) (e::es) [] pos) (zh g ms):=Vc hc hm hv ha (jS h hs).1 (jS h hs).2.2 (jS h hs).2.1 hst hpl
def K7(h:xX sc x=true)(hc:yB X (.type id) (rMs X.K cl g))(hm:X.mg x=none)(hv:bootBuiltins x=some (.type id))(ha:SA X cl (e::es) ms)(hs:X.env.scope=sc:=by rfl)(hst:starEach (e::es) X.env=(false,eval e X.env)::starEach es X.env:=by rfl)(hpl:(backTo pos (starEach es X.env)).any (·.1)=false:=by rfl) :
 SE X cl (.Call (.Name x p) (e::es) [] pos) (zh g ms):=JL hc hm hv ha (jS h hs).1 (jS h hs).2.2 (jS h hs).2.1 hst hpl
def Ga(h:xX sc x=true)(G:Glob X.K X.mg x w)(hs:X.env.scope=sc:=by rfl):SE X cl (.Name x pos) (eC w):=G.se (jS h hs).1 (jS h hs).2.1
def FQ(T:Ty)(h:xX sc "isinstance" = true)(h2:xX sc y=true)(ha:SE X cl a ma)(hi:X.mg "isinstance" = none)(ht:X.mg y=none)(hv:bootBuiltins y=some (.type T.name))(hs:X.env.scope=sc:=by rfl)
  (hs1:starEach [a,.Name y p2] X.env=(false,eval a X.env)::starEach [.Name y p2] X.env:=by rfl) (hs2:starEach [.Name y p2] X.env=(false,eval (.Name y p2) X.env)::starEach [] X.env:=by rfl)
  (hpl:(backTo pos (starEach [.Name y p2] X.env)).any (·.1)=false:=by rfl):SE X cl (.Call (.Name "isinstance" p) [a,.Name y p2] [] pos) (ug (isW T) ma):=
 BW T ha hi ht hv (jS h hs).1 (jS h2 hs).1 (jS h2 hs).2.2 (jS h2 hs).2.1 hs1 hs2 hpl
variable{a:Expr}{ma:ME}{l:List (Str×W)}
def F8(h:xX sc x=true)(hu:X.A.units+64<cLine)(T:TabOk X.K X.w.params X.mg x l)(ha:SE X cl a ma)(hs:X.env.scope=sc:=by rfl)(hp:uU a:=by exactλ_ _=>rfl):SE X cl (.Subscript (.Name x p) a pos) (ug (cv l) ma):=nO hu T ha hp (jS h hs).1 (jS h hs).2.1
def F1(h:xX sc "range" = true)(hm:X.mg "range" = none)(ha:SA X cl [e] ms)(hs:X.env.scope=sc:=by rfl)(hst:starEach [e] X.env=[(false,eval e X.env)]:=by rfl):SI X cl tg (.Call (.Name "range" p) [e] [] pos) (vw ms):=C6 hm ha (jS h hs).1 hst
def FU(h:xX sc "zip" = true)(hm:X.mg "zip" = none)(ha:SA X cl [e,e2] ms)(hs:X.env.scope=sc:=by rfl)(hst:starEach [e,e2] X.env=(false,eval e X.env)::starEach [e2] X.env:=by rfl)(hpl:(backTo pos (starEach [e2] X.env)).any (·.1)=false:=by rfl) :
 SI X cl (.Tuple elts n tpos) (.Call (.Name "zip" p) [e,e2] [] pos) (eu ms):=UD hm ha (jS h hs).1 hst hpl
end
end ML
namespace ML
open PySem PySem.Spec PyProof.Rows L2
section
variable{X:Cx}{cl:Cl}{a:Expr}{ma:ME}{x:Str}{l:List (Str×W)}{p pos:Pos}{sc:Scope}
end
end ML
end
namespace ML
open PySem PySem.Spec PyProof.Rows L2
noncomputable def pR(l:List Str):Bool:=decide l.Nodup
def Yb{l:List Str}(h:pR l=true:=by kernel_rfl):l.Nodup:=qy h
noncomputable def yn(x y:W):M W:=λh=>match xy h x,keyOf y with
 | some l,some k=>match wf l k with
  | some w=>some (w,h)
  | none=>none
 | _,_=>none
section
variable{X:Cx}{cl:Cl}{a b:Expr}{ma mb:ME}{pos:Pos}
def FX(hu:X.A.units+64<cLine):si X (rM X.K cl yn):=by
 rintro value slice pins s σ H x y v u Q I rx ry ⟨μ,h,wx,wy,w,h',R,ax,ay,e,k⟩ hs;unfold yn at e;split at e
 .rename_i l kk el ek
  split at e
  .rename_i w' ev
   cases e;obtain⟨d,l',rfl,rd,pr⟩:=dk R ax el;have hk:=ab ay ek;subst hk;have hv:=pr.val (k:=kk);rw[ev] at hv;obtain⟨v0,e0,r0⟩:=hv;have g:sg H d (kV kk) (some v0):=.inl ⟨l',kk,rd,rfl,e0.symm⟩;cases rx;exact tail_any (tK I g) PySem.F.slot_dict_getitem.lookup (JG ∅ I g ry λw' s3 I3 rw'=>⟨v0,H,I3,rw',k.pure R r0⟩) hs
  .cases e
 .cases e
def Bx(hu:X.A.units+64<cLine)(ha:SE X cl a ma)(hb:SE X cl b mb)(hs:uU b):SE X cl (.Subscript a b pos) (zi yn ma mb):=
 PE.wk (Kh (FX hu) ha hb hs) λσ H Q q=>cf q
end
noncomputable def eM(x y v:W):M W:=λh=>match x with
 | .ref n=>match h[n]? with
  | some (.dic l)=>match keyOf y with
   | some k=>if l.length<cap then some (.non,h.set n (.dic (jv l k v))) else none
   | none=>none
  | some (.lst l)=>match y with
   | .int i=>match xB l.length i with
    | some j=>some (.non,h.set n (.lst (l.set j v)))
    | none=>none
   | _=>none
  | _=>none
 | _=>none
noncomputable def aT(mo mi:ME):MG:=λv ρ=>bnd (mo ρ) λx=>bnd (mi ρ) λy=>bnd (eM x y v) λ_ h=>some (ρ,h)
section
variable{X:Cx}{cl:Cl}{o i:Expr}{mo mi:ME}{pos:Pos}
inductive rPut(K:PySem.W.Frag)(cl:Cl)(o:V)(i:V)(v:V)(H:Hp)(Q:Hp->Prop):Prop
 | mk (μ:List Addr) (h:MH) (wo:W) (wi:W) (wv:W) (w:W) (h':MH) (p0:HR K cl μ H h) (p1:RW K μ H wo o) (p2:RW K μ H wi i) (p3:RW K μ H wv v) (p4:eM wo wi wv h=some (w,h')) (p5:∀μ' H',Ext μ H μ' H'->HR K cl μ' H' h'->Q H'):rPut K cl o i v H Q
def Dz(hu:X.A.units+64<cLine):VP X (rPut X.K cl):=by
 rintro pins s σ H o i v ov iv u Q I ro ri rv ⟨μ,h,wo,wi,wv,w,h',R,ao,ai,av,e,k⟩;unfold eM at e;split at e
 .rename_i n
  cases ao with | @ref _ p hn=>
  split at e
  .rename_i l ho
   split at e
   .rename_i kk ek
    split at e
    .rename_i hl
     cases e;obtain⟨l',hp,rk⟩:=R.ob n p _ hn ho;have pr:=RKs.pr rk;have hk:=ab ai ek;subst hk;cases ro;have hl':l'.length<sizeLine:=by rw[<-pr.len];exact zL hl um
     refine qM (Jj ∅ I (.inl ⟨l',kk,hp,rfl,hl',rfl⟩) ri rv λs' I'=>?_) (λ_ _ z=>z) λ_ _ z=>z
     have E:Ext μ H μ (upd H p (.dK (putK l' kk v))):=Ext.put hn;exact⟨_,I',k μ _ E (R.put hn ⟨_,qk,((pr.put av).ext R E).rk⟩)⟩
    .cases e
   .cases e
  .rename_i l ho
   split at e
   .rename_i j
    split at e
    .rename_i j' ej
     cases e;obtain⟨vs,hp,rs⟩:=R.ob n p _ hn ho;have hi:=ai.int_of;subst hi;have E:Ext μ H μ (upd H p (.lst (vs.set j' v))):=Ext.put hn;refine set_list pins s σ H _ _ v ov iv u Q I ro ri rv ⟨p,vs,j,j',rfl,rfl,hp,by rw[<-rs.length];exact ej,k μ _ E (R.put hn ⟨_,qk,(RWs.set av _ rs).ext R E⟩)⟩
    .cases e
   .cases e
  .cases e
 .cases e
def Cg(hu:X.A.units+64<cLine)(ho:SE X cl o mo)(hi:SE X cl i mi)
  (ha:∀v,assign (.Subscript o i pos) X.env v=(do
   let ov <-holding [v] (eval o X.env)
   let iv <-holding [v,ov] (eval i X.env)
   standAt pos
   holding [v,ov,iv] (setItem ov iv v)
   release [v,ov,iv] []):=by intro _;rfl):SG X cl (.Subscript o i pos) (aT mo mi):=
 PG.wk (CK ho hi (Dz hu) ha) λv σ H Q q0=>by
  obtain⟨μ,h,ρ,w,ρ',h',R,er,rv,e,k⟩:=q0;obtain⟨x,h1,e1,e⟩:=ka e;obtain⟨y,h2,e2,e⟩:=ka e;obtain⟨z,h3,e3,e⟩:=ka e;cases e;refine⟨μ,h,ρ,x,h1,R,er,e1,λμ1 H1 vx E1 R1 rx=>⟨μ1,h1,ρ,y,h2,R1,er.ext R E1,e2,λμ2 H2 vy E2 R2 ry=>?_⟩⟩;refine⟨μ2,h2,x,y,w,z,_,R2,rx.ext R1 E2,ry,(rv.ext R E1).ext R1 E2,e3,λμ3 H3 E3 R3=>?_⟩;exact k μ3 H3 σ (E1.trans (E2.trans E3)) R3 (((er.ext R E1).ext R1 E2).ext R2 E3)
end
noncomputable def vc(fl:List (Nat×List Str))(c:Nat)(f:Str):Bool:=fl.any λp=>p.1==c&&p.2.any (· == f)
noncomputable def ee(K:PySem.W.Frag)(cl:Cl)(fl:List (Nat×List Str)):Prop:=∀c f,vc fl c f=true->Cls K (cl.c c)/\NoAttr K (cl.c c) f
noncomputable def xV(f:Str)(v:W):List (Str×W)->List (Str×W)
 | []=>[(f,v)]
 | (g,x)::r=>if g=f then (g,v)::r else (g,x)::xV f v r
noncomputable def xo(fl:List (Nat×List Str))(f:Str)(x:W):M W:=λh=>match x with
 | .ref n=>match h[n]? with
  | some (.ins c fs)=>if vc fl c f=true then (match fs.lookup f with
   | some w=>some (w,h)
   | none=>none) else none
  | _=>none
 | _=>none
noncomputable def gx(fl:List (Nat×List Str))(f:Str)(x v:W):M W:=λh=>match x with
 | .ref n=>match h[n]? with
  | some (.ins c fs)=>if vc fl c f=true then (if fs.length<1000 then some (.non,h.set n (.ins c (xV f v fs))) else none) else none
  | _=>none
 | _=>none
noncomputable def kG(fl:List (Nat×List Str))(f:Str)(mo:ME):ME:=λρ=>bnd (mo ρ) (xo fl f)
noncomputable def ub(fl:List (Nat×List Str))(f:Str)(mo:ME):MG:=λv ρ=>bnd (mo ρ) λx=>bnd (gx fl f x v) λ_ h=>some (ρ,h)
noncomputable def clsOf(x:W)(h:MH):Option Nat:=match x with
 | .ref n=>match h[n]? with
  | some (.ins c _)=>some c
  | _=>none
 | _=>none
noncomputable def l7(fl:List (Nat×List Str))(f:Str)(g:W->W->M W)(mo m:ME):MS:=λρ=>bnd (mo ρ) λx h0=>bnd (xo fl f x) (λv=>bnd (m ρ) λy=>bnd (g v y) λz h1=>if clsOf x h1=clsOf x h0 then bnd (gx fl f x z) (λ_ h=>some (.nx ρ,h)) h1 else none) h0
section
variable{K:PySem.W.Frag}{cl:Cl}{μ μ':List Addr}{H H':Hp}{h:MH}{f:Str}
theorem RKs.look:∀{fs:List (Str×W)} {fs':List (Str×V)},RKs K μ H fs fs'->fs.lookup f=some w->∃v,fs'.lookup f=some v/\RW K μ H w v
 | [],_,_,e=>by cases e
 | (g,x)::fs,[],r,e=>by have:=r.1;simp at this
 | (g,x)::fs,(g',x')::fs',r,e=>by
  obtain⟨r1,r2⟩:=r;simp only[zx,jK] at r1;obtain⟨rfl,r1⟩:=r1;cases r2 with | cons q t=>
  rw[kJ] at e ⊢;cases z:f==g with
  | true=>rw[z] at e;cases e;exact⟨_,rfl,q⟩
  | false=>rw[z] at e;exact RKs.look ⟨r1,t⟩ e
theorem RKs.miss:∀{fs:List (Str×W)} {fs':List (Str×V)},RKs K μ H fs fs'->fs.lookup f=none->fs'.lookup f=none
 | [],[],_,_=>rfl
 | [],_::_,r,_=>by have:=r.1;simp at this
 | (g,x)::fs,[],r,e=>by have:=r.1;simp at this
 | (g,x)::fs,(g',x')::fs',r,e=>by
  obtain⟨r1,r2⟩:=r;simp only[zx,jK] at r1;obtain⟨rfl,r1⟩:=r1;cases r2 with | cons q t=>
  rw[kJ] at e ⊢;cases z:f==g with
  | true=>rw[z] at e;cases e
  | false=>rw[z] at e;exact RKs.miss ⟨r1,t⟩ e
def RKs.len{fs:List (Str×W)}{fs':List (Str×V)}(r:RKs K μ H fs fs'):fs.length=fs'.length:=by
 have:=jR List.length r.1;simpa using this
theorem RKs.putF(q:RW K μ H w v):∀{fs:List (Str×W)} {fs':List (Str×V)},RKs K μ H fs fs'->RKs K μ H (xV f w fs) (L2.putF f v fs')
 | [],[],_=>⟨rfl,.cons q .nil⟩
 | [],_::_,r=>by have:=r.1;simp at this
 | (g,x)::fs,[],r=>by have:=r.1;simp at this
 | (g,x)::fs,(g',x')::fs',r=>by
  obtain⟨r1,r2⟩:=r;simp only[zx,jK] at r1;obtain⟨rfl,r1⟩:=r1;cases r2 with | cons p t=>
  unfold xV L2.putF;by_cases z:g=f
  .rw[zY z,zY z]
   exact⟨by simp[r1],.cons q t⟩
  .rw[kO z,kO z]
   have ih:=RKs.putF q (fs:=fs) (fs':=fs') ⟨r1,t⟩;exact⟨by simp[ih.1],.cons p ih.2⟩
theorem RKs.ext{κ:Type}(R:HR K cl μ H h)(E:Ext μ H μ' H'){fs:List (κ×W)}{fs':List (κ×V)}(r:RKs K μ H fs fs'):RKs K μ' H' fs fs':=⟨r.1,r.2.ext R E⟩
def Zf(C:ee K cl fl)(R:HR K cl μ H h)(r:RW K μ H x v)(e:xo fl f x h=some (w,h')):h'=h/\∃a c dx fs y,clsOf x h=some c/\v=.ref a/\H a=some (.ins (cl.c c) dx fs)/\Cls K (cl.c c)/\NoAttr K (cl.c c) f/\fs.lookup f=some y/\RW K μ H w y:=by
 unfold xo at e;split at e
 .rename_i n
  split at e
  .rename_i c fs ho
   split at e
   .rename_i hc
    split at e
    .rename_i w' ew
     cases e;cases r with | @ref _ a hn=>
     obtain⟨dx,fs',hH,rk⟩:=R.ob n a _ hn ho;obtain⟨y,ey,ry⟩:=rk.look ew;exact⟨rfl,a,c,dx,fs',y,by simp only[clsOf,ho],rfl,hH,(C c f hc).1,(C c f hc).2,ey,ry⟩
    .cases e
   .cases e
  .cases e
 .cases e
def Zk(C:ee K cl fl)(R:HR K cl μ H h)(r:RW K μ H x v)(ry:RW K μ H u y)(e:gx fl f x u h=some (w,h')):∃a c dx fs,clsOf x h=some c/\v=.ref a/\H a=some (.ins (cl.c c) dx fs)/\Cls K (cl.c c)/\NoAttr K (cl.c c) f/\fs.length<1000/\Ext μ H μ (upd H a (.ins (cl.c c) dx (L2.putF f y fs)))/\HR K cl μ (upd H a (.ins (cl.c c) dx (L2.putF f y fs))) h':=by
 unfold gx at e;split at e
 .rename_i n
  split at e
  .rename_i c fs ho
   split at e
   .rename_i hc
    split at e
    .rename_i hl
     cases e;cases r with | @ref _ a hn=>
     obtain⟨dx,fs',hH,rk⟩:=R.ob n a _ hn ho;have E:Ext μ H μ (upd H a (.ins (cl.c c) dx (L2.putF f y fs'))):=Ext.put hn;exact⟨a,c,dx,fs',by simp only[clsOf,ho],rfl,hH,(C c f hc).1,(C c f hc).2,by rw[<-rk.len];exact hl,E,R.put hn ⟨dx,_,qk,(RKs.putF ry rk).ext R E⟩⟩
    .cases e
   .cases e
  .cases e
 .cases e
end
section
variable{X:Cx}{cl:Cl}{o e:Expr}{mo m:ME}{pos pos':Pos}{f:Str}{fl:List (Nat×List Str)}
def Cp(C:ee X.K cl fl)(ho:SE X cl o mo)(hb:attributeBase o f X.env (eval o X.env)=eval o X.env):SE X cl (.Attribute o f pos) (kG fl f mo):=
 PE.wk (BD ho hb) λσ H Q q0=>by
  obtain⟨μ,h,ρ,w,h',R,er,e,k⟩:=q0;obtain⟨x,h1,e1,e⟩:=ka e;refine⟨μ,h,ρ,x,h1,R,er,e1,λμ1 H1 vx E1 R1 rx=>?_⟩;obtain⟨rfl,a,c,dx,fs,y,-,q1,q2,q3,q4,q5,q6⟩:=Zf C R1 rx e;exact⟨a,cl.c c,dx,fs,y,q1,q2,q3,q4,q5,k μ1 H1 _ E1 R1 q6⟩
def Uy(C:ee X.K cl fl)(he:SE X cl e m)(ho:SE X cl o mo)(hs:swapsWith e (some (.Attribute o f pos')) pos.line X.env=pure false):SS X cl (.Assign [.Attribute o f pos'] e pos) (zD m (ub fl f mo)):=
 PS.wk (UN ho he hs) λD σ H q0=>by
  obtain⟨μ,h,ρ,fl',h',R,er,e,k⟩:=q0;unfold zD at e;split at e
  .rename_i w h1 e1
   split at e
   .rename_i ρ2 h2 e2
    cases e;obtain⟨x,h3,e3,e2⟩:=ka e2;obtain⟨z,h4,e4,e2⟩:=ka e2;cases e2;refine⟨μ,h,ρ,w,h1,R,er,e1,λμ1 H1 vy E1 R1 ry=>⟨μ1,h1,ρ,x,h3,R1,er.ext R E1,e3,λμ2 H2 vx E2 R2 rx=>?_⟩⟩;obtain⟨a,c,dx,fs,-,q1,q2,q3,q4,q5,E3,R3⟩:=Zk C R2 rx (ry.ext R1 E2) e4;exact⟨a,cl.c c,dx,fs,q1,q2,q3,q4,q5,(k.ext (E1.trans (E2.trans E3))).nx R3 (((er.ext R E1).ext R1 E2).ext R2 E3)⟩
   .cases e
  .cases e
def JQ(C:ee X.K cl fl)(he:SE X cl e m)(ho:SE X cl o mo):SS X cl (.AugAssign (.Attribute o f pos') .Add e pos) (l7 fl f mO mo m):=
 PS.wk (JE ho he UI) λD σ H q0=>by
  obtain⟨μ,h,ρ,fl',h',R,er,e,k⟩:=q0;obtain⟨x,h1,e1,e⟩:=ka e;obtain⟨v,h2,e2,e⟩:=ka e;obtain⟨y,h3,e3,e⟩:=ka e;obtain⟨z,h4,e4,e⟩:=ka e;split at e
  .rename_i hcc
   obtain⟨u,h5,e5,e⟩:=ka e;cases e;refine⟨μ,h,ρ,x,h1,R,er,e1,λμ1 H1 vx E1 R1 rx=>?_⟩;obtain⟨rfl,a,c,dx,fs,v0,q0,q1,q2,q3,q4,q5,q6⟩:=Zf C R1 rx e2;refine⟨a,cl.c c,dx,fs,v0,q1,q2,q3,q4,q5,μ1,_,ρ,y,h3,R1,er.ext R E1,e3,λμ2 H2 vy E2 R2 ry=>?_⟩;unfold mO at e4;split at e4
   .rename_i i j _
    cases e4;obtain⟨a',c',dx',fs',p0,p1,p2,p3,p4,p5,E3,R3⟩:=Zk C R2 (rx.ext R1 E2) (RW.int (i+j)) e5;rw[p0,q0] at hcc;cases hcc;subst q1;cases p1;exact⟨i,j,q6.int_of,ry.int_of,dx',fs',p2,p5,(k.ext (E1.trans (E2.trans E3))).nx R3 (((er.ext R E1).ext R1 E2).ext R2 E3)⟩
   .cases e4
  .cases e
end
abbrev ng:=List ((Nat×Str)×(List W->M W))
noncomputable def kb(mt:ng)(m:Str)(mo:ME)(ms:List ME):ME:=λρ=>bnd (mo ρ) λx h=>match x with
 | .ref n=>match h[n]? with
  | some (.ins c fs)=>match fs.lookup m,mt.lookup (c,m) with
   | none,some g=>bnd (ky ms ρ) (λws=>g (x::ws)) h
   | _,_=>none
  | _=>none
 | _=>none
noncomputable def mI(P:Program)(w:World)(K:PySem.W.Frag)(mg:Str->Option Value)(base:Heap)(cl:Cl)(k:Nat)(c:Nat)(m:Str)(g:List W->M W):Prop:=
 ∃f fd ps,Cls K (cl.c c)/\Meth K (cl.c c) m f/\FnOk P w K mg base uc k f fd ps (xp K cl g)/\Binds K fd ps []
section
variable{X:Cx}{cl:Cl}{k:Nat}{o e:Expr}{es:List Expr}{mo:ME}{ms:List ME}{pos apos:Pos}{m:Str}{mt:ng}
theorem oq{args:List Expr}(hb:attributeBase o m env (eval o env)=eval o env)(hfew:((backTo pos (starEach args env)).all (λx=>!x.1)&&(backToKw pos (keywordEach [] env)).all (λx=>x.1.isSome)
   && decide (args.length+([]:List Keyword).length+(if ([]:List Keyword).isEmpty then 0 else 1)<30))=true) (hline:(apos.endLine==pos.line)=true):eval (.Call (.Attribute o m apos) args [] pos) env=(do
   let ov <-eval o env
   standAt apos.atName
   let (f,first) <-holding [ov] (getMethod ov m (do return (<-importBound o env).getD true))
   callWith pos f first (backTo pos (starEach args env)) (backToKw pos (keywordEach [] env))):=by
 have e1:eval (.Call (.Attribute o m apos) args [] pos) env=(do
   let ov <-attributeBase o m env (eval o env)
   standAt apos.atName
   methodCall o m apos pos env ov (args.length+([]:List Keyword).length) (backTo pos (starEach args env)) (backToKw pos (keywordEach [] env))):=by kernel_rfl
 rw[e1,hb];congr 1
 funext ov
 congr 1
 funext _
 unfold methodCall;have hk:backToKw pos (keywordEach [] env)=[]:=by kernel_rfl
 have hf:methodCallForm (args.length+([]:List Keyword).length) (backTo pos (starEach args env)) (backToKw pos (keywordEach [] env))=true:=by
  rw[hk] at hfew ⊢;exact hfew
 have hp:methodCallPos true o env apos pos=pure pos:=by
  unfold methodCallPos;rw[hline];rfl
 rw[hf];congr 1
 funext x
 obtain⟨f,first⟩:=x;show(methodCallPos true o env apos pos >>= λcallPos=>callWith callPos f first (backTo pos (starEach args env)) (backToKw pos (keywordEach [] env)))=_
 rw[hp];rfl
def rA{H:Hp}(MT:∀c g,mt.lookup (c,m)=some g->mI X.prog X.w X.K X.mg X.base cl k c m g)(q:tM X.K cl (kb mt m mo ms) σ H Q) :
  ∃c f fd ps g,Cls X.K (cl.c c)/\Meth X.K (cl.c c) m f/\FnOk X.prog X.w X.K X.mg X.base uc k f fd ps (xp X.K cl g)/\Binds X.K fd ps []/\Kn (cl.c c) m (xp X.K cl g) [] E0 (tM X.K cl mo) (tMA X.K cl ms) σ H Q:=by
 obtain⟨μ,h,ρ,w,h',R,er,e,kq⟩:=q;obtain⟨x,h1,e1,e⟩:=ka e;split at e
 .rename_i n
  split at e
  .rename_i c fs ho
   split at e
   .rename_i g hmiss hg
    obtain⟨f,fd,ps,c1,c2,F,B⟩:=MT c g hg;refine⟨c,f,fd,ps,g,c1,c2,F,B,μ,h,ρ,_,h1,R,er,e1,λμ1 H1 vx E1 R1 rx=>?_⟩;cases rx with | @ref _ a hn=>
    obtain⟨dx,fs',hH,rk⟩:=R1.ob n a _ hn ho;obtain⟨ws,h2,e2,e⟩:=ka e;refine⟨a,dx,fs',rfl,hH,rk.miss hmiss,μ1,h1,ρ,ws,h2,R1,er.ext R E1,e2,λμ2 H2 vs E2 R2 rs=>?_⟩;show xp X.K cl g (V.ref a::(vs++[])) H2 Q E0
    rw[z9];exact⟨μ2,h2,.ref n::ws,w,h',R2,.cons (.ref (E2.get hn)) rs,e,λμ3 H3 v E3 R3 rv=>kq μ3 H3 v (E1.trans (E2.trans E3)) R3 rv⟩
   .cases e
  .cases e
 .cases e
def Yy(MT:∀c g,mt.lookup (c,m)=some g->mI X.prog X.w X.K X.mg X.base cl k c m g)(hr:Room k X.A)(ho:SE X cl o mo)(ha:SA X cl (e::es) ms)(hb:attributeBase o m X.env (eval o X.env)=eval o X.env)
  (hfew:((backTo pos (starEach (e::es) X.env)).all (λx=>!x.1)&&(backToKw pos (keywordEach [] X.env)).all (λx=>x.1.isSome)&&decide ((e::es).length+([]:List Keyword).length+(if ([]:List Keyword).isEmpty then 0 else 1)<30))=true)
  (hline:(apos.endLine==pos.line)=true) (hst:starEach (e::es) X.env=(false,eval e X.env)::starEach es X.env) (hpl:(backTo pos (starEach es X.env)).any (·.1)=false):SE X cl (.Call (.Attribute o m apos) (e::es) [] pos) (kb mt m mo ms):=by
 intro pins s σ H Q I q;obtain⟨c,f,fd,ps,g,c1,c2,F,B,q⟩:=rA MT q;exact XR ho c1 c2 F hr B .nil iq ha hst hpl (oq hb hfew hline) pins s σ H Q I q
def V3(MT:∀c g,mt.lookup (c,m)=some g->mI X.prog X.w X.K X.mg X.base cl k c m g)(hr:Room k X.A)(ho:SE X cl o mo)(hb:attributeBase o m X.env (eval o X.env)=eval o X.env)
  (hline:(apos.endLine==pos.line)=true) (hfew:((backTo pos (starEach [] X.env)).all (λx=>!x.1)&&(backToKw pos (keywordEach [] X.env)).all (λx=>x.1.isSome)&&decide (([]:List Expr).length+([]:List Keyword).length+(if ([]:List Keyword).isEmpty then 0 else 1)<30))=true):SE X cl (.Call (.Attribute o m apos) [] [] pos) (kb mt m mo []):=by
 intro pins s σ H Q I q;obtain⟨c,f,fd,ps,g,c1,c2,F,B,a,b,d,x,h1,R,er,e1,k1⟩:=rA MT q;refine Vz ho c1 c2 F hr B .nil iq (oq hb hfew hline) pins s σ H Q I ⟨a,b,d,x,h1,R,er,e1,λμ1 H1 vx E1 R1 rx=>?_⟩;obtain⟨a',dx,fs,q1,q2,q3,μ2,h2,ρ2,ws,h3,R2,er2,e2,k2⟩:=k1 μ1 H1 vx E1 R1 rx;cases e2;exact⟨a',dx,fs,q1,q2,q3,k2 μ2 H1 [] .refl R2 .nil⟩
noncomputable def uq(c:Nat)(g:List W->M W)(ms:List ME):ME:=λρ=>bnd (ky ms ρ) λws h=>match g (.ref h.length::ws) (h++[.ins c []]) with
 | some (.non,h')=>if h.length<h'.length then some (.ref h.length,h') else none
 | _=>none
noncomputable def pM(P:Program)(w:World)(K:PySem.W.Frag)(mg:Str->Option Value)(base:Heap)(cl:Cl)(k:Nat)(x:Str)(c:Nat)(g:List W->M W):Prop:=
 ∃f fd ps,mg x=some (.ref (cl.c c))/\Mk K (cl.c c) f/\FnOk P w K mg base uc k f fd ps (xp K cl g)/\Binds K fd ps []
def VI{c:Nat}{H:Hp}(q:tM X.K cl (uq c g ms) σ H Q):Yq (cl.c c) (xp X.K cl g) [] E0 (tMA X.K cl ms) σ H Q:=by
 obtain⟨μ,h,ρ,w,h',R,er,e,kq⟩:=q;obtain⟨ws,h1,e1,e⟩:=ka e;refine⟨μ,h,ρ,ws,h1,R,er,e1,λμ1 H1 vs E1 R1 rs x dx hx hd hne=>?_⟩;show xp X.K cl g (V.ref x::(vs++[])) _ _ E0
 rw[z9];split at e
 .rename_i h2 e2
  split at e
  .rename_i hlt
   cases e;have hx':upd H1 dx (.own x) x=none:=by rw[kM (kY hne)];exact hx
   have Ea:Ext μ1 H1 μ1 (upd H1 dx (.own x)):=Ext.side hd;have Ra:=R1.side (u:=.own x) hd;have Eb:Ext μ1 (upd H1 dx (.own x)) (μ1++[x]) (upd (upd H1 dx (.own x)) x (.ins (cl.c c) dx [])):=Ext.new hx';have Rb:HR X.K cl (μ1++[x]) (upd (upd H1 dx (.own x)) x (.ins (cl.c c) dx [])) (h1++[.ins c []]):=Ra.new hx' ⟨dx,[],qk,rfl,.nil⟩;have hn:(μ1++[x])[h1.length]?=some x:=by rw[<-R1.len];simp
   refine⟨μ1++[x],_,.ref h1.length::ws,.non,_,Rb,.cons (.ref hn) ((rs.ext R1 Ea).ext Ra Eb),e2,λμ3 H3 v E3 R3 rv=>?_⟩;cases rv;exact⟨rfl,kq μ3 H3 _ (E1.trans (Ea.trans (Eb.trans E3))) R3 (.ref (E3.get hn))⟩
  .cases e
 .cases e
noncomputable def BE(P:Program)(w:World)(K:PySem.W.Frag)(mg:Str->Option Value)(base:Heap)(cl:Cl)(k:Nat)(x:Str)(c:Nat)(g:List W->M W):Prop:=(∀ws h,g ws h=none)\/∃j,j+1<=k/\pM P w K mg base cl j x c g
def Xl{c:Nat}(M:BE X.prog X.w X.K X.mg X.base cl k x c g)(hr:Room k X.A)(ha:SA X cl (e::es) ms)(hg:Gl X x)(hdb:(x==("__debug__":Str))=false)(hst:starEach (e::es) X.env=(false,eval e X.env)::starEach es X.env)(hpl:(backTo pos (starEach es X.env)).any (·.1)=false) :
  SE X cl (.Call (.Name x p) (e::es) [] pos) (uq c g ms):=by
 intro pins s σ H Q I q;rcases M with no | ⟨j,hj,f,fd,ps,hm,mk,F,B⟩
 .obtain⟨μ,h,ρ,w,h',R,er,e,kq⟩:=q
  obtain⟨ws,h1,e1,e⟩:=ka e;simp only[no] at e;cases e
 .exact YR mk F (hr.mono hj) hg hm B .nil iq ha hdb hst hpl pins s σ H Q I (VI q)
end
noncomputable def Kd(ws:List (Str×(List W->M W)))(ma:ME)(ms:List ME):ME:=λρ=>bnd (ma ρ) λx h=>match x with
 | .str k=>match ws.lookup k with
  | some g=>bnd (ky ms ρ) g h
  | none=>none
 | _=>none
noncomputable def Kl(P:Program)(w:World)(K:PySem.W.Frag)(mg:Str->Option Value)(base:Heap)(cl:Cl)(k:Nat)(x:Str)(ws:List (Str×(List W->M W))):Prop:=
 ∃l,TabOk K w.params mg x l/\∀y g,ws.lookup y=some g->∃f fd ps,l.lookup y=some (.fn f)/\FnOk P w K mg base uc k f fd ps (xp K cl g)/\PySem.W.keepIn K (.ref f)=true/\Binds K fd ps []
section
variable{X:Cx}{cl:Cl}{k:Nat}{x:Str}{p p2 pos:Pos}{a e:Expr}{es:List Expr}{ma:ME}{ms:List ME}{ws:List (Str×(List W->M W))}
theorem VF:eval (.Call (.Subscript (.Name x p) a p2) args [] pos) env=(do callWith pos (<-eval (.Subscript (.Name x p) a p2) env) [] (backTo pos (starEach args env)) (backToKw pos (keywordEach [] env))):=by kernel_rfl
def BP(hu:X.A.units+64<cLine)(T:Kl X.prog X.w X.K X.mg X.base cl k x ws)(hr:Room k X.A)(ha:SE X cl a ma)(hs:SA X cl (e::es) ms)(hp:uU a)(hg:Gl X x)(hd:(x==("__debug__":Str))=false)(hst:starEach (e::es) X.env=(false,eval e X.env)::starEach es X.env)(hpl:(backTo pos (starEach es X.env)).any (·.1)=false) :
  SE X cl (.Call (.Subscript (.Name x p) a p2) (e::es) [] pos) (Kd ws ma ms):=by
 obtain⟨l,T,TW⟩:=T;intro pins s σ H Q I q;obtain⟨μ,h,ρ,w,h',R,er,e0,kq⟩:=q;obtain⟨y,h1,e1,e0⟩:=ka e0;split at e0
 .rename_i key
  split at e0
  .rename_i g eg
   obtain⟨f,fd,ps,el,F,hk,hb⟩:=TW key g eg;obtain⟨vs,h2,e2,e0⟩:=ka e0;rw[VF];refine za (kA (nO hu T ha hp hg hd pins s σ H (λv H1=>v=.ref f/\∃μ1,Ext μ H μ1 H1/\HR X.K cl μ1 H1 h1) I ⟨μ,h,ρ,.fn f,h1,R,er,?_,λμ1 H1 v E1 R1 rv=>?_⟩) λu s1 ⟨v,H1,I1,r1,z,μ1,E1,R1⟩=>?_)
   .unfold ug
    rw[V7 e1];simp only[cv,el]
   .cases rv
    exact⟨rfl,μ1,E1,R1⟩
   .subst z
    cases r1;show wpAny _ _ (callWith pos (.ref f) [] _ []) _ _ _
    refine vI (h₀:=X.base) I1.ok.mod.kin hk (kA (hs pos pins s1 σ H1 (λvs H2=>xp X.K cl g (vs++[]) H2 Q E0) I1 ⟨μ1,h1,ρ,vs,h2,R1,er.ext R E1,e2,λμ2 H2 us E2 R2 rs=>?_⟩) λus s2 ⟨vs,H2,I2,r,q⟩=>⟨I2.kIn,?_⟩) hst hpl
    .rw[z9]
     exact⟨μ2,h2,vs,w,h',R2,rs,e0,λμ3 H3 v E3 R3 rv=>kq μ3 H3 v (E1.trans (E2.trans E3)) R3 rv⟩
    .exact ig F hr hb .nil iq I2 r q
  .cases e0
 .cases e0
end
end ML
namespace ML
open PySem PySem.W PySem.Spec PyProof.Rows
theorem oy:Manifest.owners.lookup (String.ofList ['d','e','s','r','e','v','e','r'].reverse)=some Manifest.sig_reversed:=by kernel_rfl
def slot_rev_next:Slot "reversed" "__next__" "reversed.__next__":=
 .of (owner:="reversed") (n:="__next__") (by rw[ql,jH];kernel_rfl) ⋯ ⋯ ⋯
  (by first | exact .inl ⋯ | exact .inr ⋯) (by rw[v9];kernel_rfl)
def eW:entryFor table "reversed.__next__" = some Builtin.«reversed.__next__»:=entryFor_of_tree (by kernel_rfl)
def gG(a:Value):argsOk "reversed.__next__" ⟨[a],[]⟩:=by
 unfold argsOk;rw[signature?_of (id:="reversed.__next__") (n:=['_','_','t','x','e','n','_','_']) (o:=['d','e','s','r','e','v','e','r']) (by kernel_rfl) oy];kernel_rfl
def gH:Slot "reversed" "__iter__" "reversed.__iter__":=
 .of (owner:="reversed") (n:="__iter__") (by rw[ql,jH];kernel_rfl) ⋯ ⋯ ⋯
  (by first | exact .inl ⋯ | exact .inr ⋯) (by rw[v9];kernel_rfl)
def oI(a:Value):argsOk "reversed.__iter__" ⟨[a],[]⟩:=by
 unfold argsOk;rw[signature?_of (id:="reversed.__iter__") (n:=['_','_','r','e','t','i','_','_']) (o:=['d','e','s','r','e','v','e','r']) (by kernel_rfl) oy];kernel_rfl
def nj:entryFor table "reversed.__iter__" = some Builtin.«dict_keyiterator.__iter__»:=
 entryFor_alias (id':="dict_keyiterator.__iter__") (by kernel_rfl) (by first | rfl | decide +kernel | (unfold String.splitOn;simp +decide [String.splitOnAux])) ⋯ (by kernel_rfl)
def slot_rev_init:Slot "reversed" "__init__" "object.__init__":=
 .of (owner:="object") (n:="__init__") (by rw[ql,jH];kernel_rfl) ⋯ ⋯ ⋯
  (by first | exact .inl ⋯ | exact .inr ⋯) (by rw[v9];kernel_rfl)
def Kf:TypeCalled "reversed" "reversed.__new__" "object.__init__":=
 ⟨by decide +kernel,F.create_reversed,⟨_,_,F.mro_reversed⟩,F.made_reversed,yc,F.sub_reversed_self,slot_rev_init⟩
def Ql:typeLookup (.type "tuple") "__reversed__" = pure none:=by rw[ql,jH];kernel_rfl
def Ky:isSubtype (.type "tuple") (.type "dict")=pure false:=by rw[v9];kernel_rfl
section
variable{prog:Program}{w:World}{A:Around}{E:Value->Shared->Prop}{s:Shared}
def pI(t:Addr)(i:Int):Obj:={ cls:=.type "reversed",data:=.fields #[.ref t,rawInt i] }
def QR{items:Array Value}(ht:s.heap.IsTuple t items)(hn:items.size<=sizeLine)
  (h:∀tk,Q₁ (.ref s.heap.objs.size) { s with heap:=s.heap.push (pI t ((items.size:Int)-1)),toks:=tk }) :
  codeAny (model prog w) A (.call (.builtin "reversed.__new__") ⟨[.type "reversed",.ref t],[]⟩) (wants Q₁ E) s:=by
 refine codeAny_of_tree ?_;show wpAny _ A.in1 (do checkBuiltinCall "reversed.__new__" ⟨[.type "reversed",.ref t],[]⟩;again (.builtin "reversed.__new__" ⟨[.type "reversed",.ref t],[]⟩)) _ _ s
 refine za (jQ (F.newCall_reversed_1 _) (zr ⟨qZ yc _,vQ F.entry_reversed_new ?_⟩));rw[qR yc _];unfold Builtin.«reversed.__new__»;refine za (jQ (newClass_reversed _) ?_);try dsimp only
 refine za (jQ (a:=()) (by first | rfl | kernel_rfl) ?_);refine za (jQ (a:=()) (by first | rfl | kernel_rfl) ?_);try dsimp only
 refine za (vO ht.typeIs Ql ?_);try dsimp only
 refine za ?_;show wpAny _ _ (isInstance (.ref t) (.type "dict") >>= _) _ _ _
 refine za (jU ht.typeIs Ky ?_);try dsimp only
 first | rw[kO (by decide)] | skip
 refine za (vO ht.typeIs jC.lookup ?_);try dsimp only
 rw[zY (by decide)];refine zr ?_;show wpAny _ _ (call (.builtin "len") [.ref t] >>= _) _ _ _
 have hfit:(items.size:Int)<2 ^ 63:=by
  have:sizeLine<2 ^ 62:=by decide +kernel
  omega
 refine za (len_tuple ht hfit ?_);show wpAny _ _ (Builtin.SmallTypes.newRecord (.type "reversed") [.ref t,rawInt ((items.size:Int)-1)] >>= _) _ _ _
 unfold Builtin.SmallTypes.newRecord;refine za (jm ?_ (by size_fits));exact zr (h _)
def VR{items:Array Value}(ht:s.heap.IsTuple t items)(hn:items.size<=sizeLine)
  (h:∀tk,Q (.ref s.heap.objs.size) { s with heap:=s.heap.push (pI t ((items.size:Int)-1)),toks:=tk }):wpAny (model prog w) A (call (.type "reversed") [.ref t]) Q E s:=by
 refine ye Kf (F.typeCall_reversed_1 _) F.entry_object_init (Q₁:=λobj s₁=>obj=.ref s.heap.objs.size/\∃tk,s₁={ s with heap:=s.heap.push (pI t ((items.size:Int)-1)),toks:=tk }) (QR ht hn λtk=>⟨rfl,tk,rfl⟩) ?_;rintro obj s₁ ⟨rfl,tk,rfl⟩;have hT:Shared.TypeIs { s with heap:=s.heap.push (pI t ((items.size:Int)-1)),toks:=tk } (.ref s.heap.objs.size) "reversed":=⟨_,zQ _ rfl,rfl⟩;refine⟨hT,F.args_object_init_2 _ _,?_⟩;exact(object_init_meets (self:=.ref s.heap.objs.size) (rest:=[.ref t]) slot_rev_init.lookup F.made_reversed (by decide)) prog w A.in1 _ _ ⟨hT,rfl,h tk⟩
def IsRevT(h:Heap)(a t:Addr)(i:Int):Prop:=∃o,h.get? a=some o/\o.cls=.type "reversed" /\ o.data=.fields #[.ref t,rawInt i]
def IsRevT.typeIs{i:Int}(x:IsRevT s.heap a l i):s.TypeIs (.ref a) "reversed":=let ⟨o,ho,hc,_⟩:=x;⟨o,ho,hc⟩
def IsRevT.at{h h':Heap}{i:Int}(x:IsRevT h a l i)(e:∀o,h.get? a=some o->h'.get? a=some o):IsRevT h' a l i:=let ⟨o,ho,r⟩:=x;⟨o,e _ ho,r⟩
def V4{i:Nat}{items:Array Value}(hit:IsRevT s.heap it l (i:Int))(hl:s.heap.IsTuple l items)(hn:items.size<=sizeLine)(hx:items[i]?=some x)
  (hQ:∀h' tk,IsRevT h' it l ((i:Int)-1)->Heap.SameBut it s.heap h'->Q (some x) { s with heap:=h',toks:=tk }):wpAny (model prog w) A (pyNext (.ref it)) Q E s:=by
 obtain⟨o,ho,hc,hd⟩:=id hit;have hb:sizeLine<2 ^ 62:=by decide +kernel
 have hi:i<items.size:=(Array.getElem?_eq_some_iff.mp hx).1;unfold pyNext
 refine za (jY (jn (name:=Str.ofString "__next__") hit.typeIs slot_rev_next
  (jx slot_rev_next hit.typeIs eW ?_ (gG _))))
 unfold Builtin.«reversed.__next__»;refine za (jQ (a:=(Value.ref it,[])) rfl ?_);try dsimp only
 refine za (ji ho hd (x:=.ref l) rfl ?_);refine za (ji ho hd (x:=rawInt (i:Int)) rfl ?_);show wpAny _ _ (if (i:Int)<0 then _ else _) _ _ s
 rw[kO ∅];show wpAny _ _ (specialOf (.ref l) "__getitem__" >>= _) _ _ s
 refine za (vO hl.typeIs jC.lookup ?_);try dsimp only
 rw[kO (by simp)];refine za (wpAny_mkInt ?_);refine za (jY (getItem_tuple (j:=i) hl ∅ ∅ (by simp[seqIndex?];omega) hx ?_));try dsimp only
 refine za (ji (s:={ s with toks:=s.toks+1 }) ho hd (x:=rawInt (i:Int)) rfl ?_);show wpAny _ _ (setField (.ref it) 1 (rawInt ((i:Int)-1)) >>= _) _ _ _
 refine za (v8 (s:={ s with toks:=s.toks+1 }) ho hd (by simp) ?_);refine zr ⟨x,rfl,zr (hQ _ _ ?_ (qu ..))⟩
 exact⟨_,jL _ ho (wU (qD hd _)),(Obj.cls_mapFields ..).trans hc,by
  rw[qD hd];simp⟩
def YL(hh:A.handled=none)(hit:IsRevT s.heap it l (-1))
  (hQ:∀h',Heap.ExtBut it s.heap h'->Q none { s with heap:=h' }):wpAny (model prog w) A (pyNext (.ref it)) Q E s:=by
 obtain⟨o,ho,hc,hd⟩:=id hit;unfold pyNext
 refine za (jY (jn (name:=Str.ofString "__next__") hit.typeIs slot_rev_next
  (jx slot_rev_next hit.typeIs eW ?_ (gG _))))
 unfold Builtin.«reversed.__next__»;refine za (jQ (a:=(Value.ref it,[])) rfl ?_);try dsimp only
 refine za (ji ho hd (x:=.ref l) rfl ?_);refine za (ji ho hd (x:=rawInt (-1)) rfl ?_);show wpAny _ _ (if (-1:Int)<0 then _ else _) _ _ s
 rw[zY (by decide)];refine za (qx ?_);show wpAny _ _ ((setField (.ref it) 1 (rawInt (-1)) >>= λ_=>setField (.ref it) 0 .none) >>= _) _ _ _
 refine za (za (v8 ho hd (by simp) ?_));have ho2:=jL (Obj.mapFields λx=>x.setIfInBounds 1 (rawInt (-1))) ho (wU (qD hd _));have hd2:=qD hd (λx=>x.setIfInBounds 1 (rawInt (-1)));refine v8 ho2 hd2 (by simp) ?_;try dsimp only
 refine za ?_;show wpAny _ _ (newExc (.type "StopIteration") [] >>= _) _ _ _
 refine za ?_;simp only[newExc,newTuple];refine za (jm ?_ (by size_fits));refine za (m:=firstArgMember _ _) (jQ (a:=Value.none) (by first | rfl | (simp only[firstArgMember];rfl)) ?_);refine jm ?_ (by size_fits);simp only[raiseNew];refine za (wpAny_handled ?_);first | rw[show A.in1.handled=none from hh] | rw[hh]
 refine za (zr (wB ?_));refine za (jU (T:="StopIteration") (b:=true) ⟨_,zQ _ rfl,rfl⟩ xg ?_);have x1:Heap.ExtBut it s.heap (s.heap.update it (Obj.mapFields λx=>x.setIfInBounds 1 (rawInt (-1)))):=(qu ..).extBut;have x2:Heap.ExtBut it s.heap ((s.heap.update it (Obj.mapFields λx=>x.setIfInBounds 1 (rawInt (-1)))).update it (Obj.mapFields λx=>x.setIfInBounds 0 .none)):=λb o hb e=>(qu ..).extBut b o hb (x1 b o hb e)
 exact zr (hQ _ ((x2.push _).push _))
def rB{i:Int}(hit:IsRevT s.heap it l i)(h:Q (.ref it) s):wpAny (model prog w) A (pyIter (.ref it)) Q E s:=by
 refine wpAny_pyIter_slot hit.typeIs gH (jx gH hit.typeIs nj ?_ (oI _));show wpAny _ _ (ret (.ref it)) _ _ s
 exact zr ⟨_,rfl,"reversed",_,hit.typeIs,slot_rev_next.lookup,h⟩
end
end ML
namespace ML
open PySem PySem.Spec PyProof.Rows L2
noncomputable def Fh(K:PySem.W.Frag)(a:Addr)(n:Nat):It:=
 ⟨λi H=>∃xs x,SqT K H a xs/\xs.length=n/\i<n/\xs[n-1-i]?=some x,λi H x H'=>H'=H/\∀xs,SqT K H a xs->xs[n-1-i]?=some x,λi H=>∃xs,SqT K H a xs/\xs.length=n/\n<=i⟩
def Wy{P:Program}{w:World}{K:PySem.W.Frag}{tg:Expr}(a it:Addr)(n:Nat):Turn P w K tg (Fh K a n) [it] it (λi h=>i<=n/\IsRevT h it a ((n:Int)-1-(i:Int))) where
 mem:=by simp
 obj:=λi h st b hb=>by
  have e:b=it:=by simpa using hb
  subst e;obtain⟨_,o,e,c,d⟩:=st;exact⟨o,e,λv z=>by rw[d] at z;cases z⟩
 keep:=λi h h' st k=>⟨st.1,st.2.at λo e=>k it (by simp) o e⟩
 item:=by
  intro X hP hw hK hc i pins s σ H E I hf st hg;subst hP hw hK;obtain⟨xs,x,hq,hn,hi,hx⟩:=hg;obtain⟨its,rv,p,hz⟩:=I.tuple hq;obtain⟨u,hu,ru⟩:=rv.get hx;obtain⟨f0,f1,f2,f3,f4,f5⟩:=hf it (by simp);have e0:(n:Int)-1-(i:Int)=((n-1-i:Nat):Int):=by omega
  have st2:=st.2;rw[e0] at st2;refine V4 st2 (show s.heap.IsTuple a its.toArray from p) (by rw[zK,<-rv.length];exact hz) (x:=u) (by simpa using hu) λh' tk st' sb=>?_
  have I1:Inv X pins σ H { s with heap:=h',toks:=tk }:=I.turned (t':=tk) (λb o hb e=>(sb.2 b hb).trans e) f0 f1 f3 f4 f5;have e1:((n-1-i:Nat):Int)-1=(n:Int)-1-((i+1:Nat):Int):=by omega
  rw[e1] at st';obtain⟨o,e,c,d⟩:=id st';exact⟨u,rfl,oQ (s:={ s with heap:=h',toks:=tk }) e c d (by decide) ⟨x,H,I1,ru,⟨rfl,λys hy=>by rw[I.tuple_inj hy hq];exact hx⟩,⟨by omega,st'⟩,λb hb=>(hf b hb).1⟩⟩
 done:=by
  intro X hP hw hK hc i pins s σ H E I hf st hg;subst hP hw hK;obtain⟨xs,hq,hn,hi⟩:=hg;obtain⟨f0,f1,f2,f3,f4,f5⟩:=hf it (by simp);have e0:(n:Int)-1-(i:Int) = -1:=by have:=st.1;omega
  have st2:=st.2;rw[e0] at st2;exact YL (I.ok.hd hc) st2 λh' eb=>⟨rfl,I.turned (t':=s.toks) (λb o hb e=>eb b o hb e) f0 f1 f3 f4 f5⟩
 self:=λ_ _ _ _ _ st h=>rB st.2 h
noncomputable def QZ(ws:List W):M Src:=λh=>match ws with
 | [.tup l]=>some (.items l.reverse,h)
 | _=>none
noncomputable def nB(ms:List ME):MI:=λρ=>bnd (ky ms ρ) QZ
section
variable{X:Cx}{cl:Cl}{tg e:Expr}{p pos:Pos}{ms:List ME}
def CU{K:PySem.W.Frag}{μ:List Addr}{H:Hp}{h:MH}{vs:List V}{l:List W}(R:HR K cl μ H h)(sa:SqT K H a vs)(ra:RWs K μ H l vs):JR K cl (Fh K a vs.length) (.items l.reverse) μ H:=by
 intro μ2 H2 h2 E2 R2 i;have sa2:=SqT.ext R E2 sa;have ra2:=ra.ext R E2;have ll:=ra.length;refine⟨λw ew=>?_,λes=>?_⟩
 .have ew':l.reverse[i]?=some w:=kh ew
  have hi:i<l.length:=by
   have:=(zT.mp ew').1;rwa [jW] at this
  rw[List.getElem?_reverse hi] at ew';obtain⟨v,ev,rv⟩:=ra2.get ew';rw[ll] at ev;refine⟨⟨vs,v,sa2,rfl,by omega,ev⟩,λx H3 y=>?_⟩;obtain⟨rfl,y⟩:=y;have:=y vs sa2;rw[ev] at this;cases this;exact⟨.refl,R2,rv⟩
 .have es':l.reverse[i]?=none:=kh es
  have:=jN.mp es';rw[jW] at this;exact⟨vs,sa2,rfl,by omega⟩
def BR(hm:X.mg "reversed" = none)(ha:SA X cl [e] ms)(hg:Gl X "reversed")(hst:starEach [e] X.env=(false,eval e X.env)::starEach [] X.env):SI X cl tg (.Call (.Name "reversed" p) [e] [] pos) (nB ms):=by
 rintro pins s σ H R I ⟨μ,h,ρ,src,h',R0,er,e,k⟩;obtain⟨ws,h1,e1',e⟩:=ka e;have hv:bootBuiltins "reversed" = some (.type "reversed"):=by decide +kernel
 refine jy (ud I hg hm hv ?_ (by decide) (by decide));refine jo (kA (ha pos pins s σ H (λvs H1=>∃μ1,Ext μ H μ1 H1/\HR X.K cl μ1 H1 h1/\RWs X.K μ1 H1 ws vs) I ⟨μ,h,ρ,ws,h1,R0,er,e1',λμ1 H1 vs E1 R1 rs=>⟨μ1,E1,R1,rs⟩⟩) λus s1 ⟨vs,H1,I1,r1,μ1,E1,R1,rs⟩=>?_) hst (by kernel_rfl);unfold QZ at e;split at e
 .cases e
  cases rs with | cons rx t=>cases t with | nil=>
  obtain⟨a,xs,rfl,sa,ra⟩:=rx.tup_of;cases r1 with | cons r1 r2=>
  cases r2;cases r1;obtain⟨its,rv,pt,hz⟩:=I1.tuple sa;have hl:its.length=xs.length:=rv.length.symm;refine VR (show s1.heap.IsTuple a its.toArray from pt) (by rw[zK,<-rv.length];exact hz) λtk=>?_
  have e0:((its.toArray.size:Nat):Int)-1=(xs.length:Int)-1-((0:Nat):Int):=by simp[hl]
  rw[e0];have st:IsRevT (s1.heap.push (pI a ((xs.length:Int)-1-((0:Nat):Int)))) s1.heap.objs.size a ((xs.length:Int)-1-((0:Nat):Int)):=⟨_,zQ _ rfl,rfl,rfl⟩;refine rB st ?_;refine⟨s1.heap.objs.size,[s1.heap.objs.size],_,_,H1,rfl,I1.kept (t':=tk) λb o e=>zf _ e,Wy a _ xs.length,⟨qO _,st⟩,λb hb=>?_,k μ1 H1 _ E1 R1 (CU R1 sa ra)⟩;have e:b=s1.heap.objs.size:=by simpa using hb
  subst e;exact I1.fpOk (zj _) (I1.hok.fresh (zj _))
 .cases e
end
noncomputable def mB(ws:List W):M W:=λh=>match ws with
 | [w]=>match xy h w with
  | some l=>some (.ref h.length,h++[.dic l])
  | none=>none
 | _=>none
section
variable{X:Cx}{cl:Cl}
theorem KQ.dic{K:PySem.W.Frag}{μ:List Addr}{H:Hp}{h:MH}(k:KQ K cl μ H (h++[.dic l]) (.ref h.length) Q)(R:HR K cl μ H h)(pr:PR K μ H l l')(hp:H p=none):Q (.ref p) (upd H p (.dK l')):=
 k (μ++[p]) _ _ (.new hp) (R.new hp ⟨l',qk,(pr.ext R (.new hp)).rk⟩) (.ref (by rw[<-R.len];simp))
def KH:yB X (.type "dict") (rMs X.K cl mB):=by
 rintro pins s σ H xs us Q I rs ⟨μ,h,ws,w,h',R,ax,e,k⟩;unfold mB at e;split at e
 .cases ax with | cons r t=>cases t with | nil=>
  obtain⟨u,rfl,ru⟩:=rs.one;split at e
  .rename_i l el
   cases e;obtain⟨a,l',rfl,rd,pr⟩:=dk R r el;cases ru;exact sF I rd λp s' hp I'=>⟨.ref p,_,I',rfl,k.dic R pr hp⟩
  .cases e
 .cases e
end
def VJ{M:Model}{s:Shared}(h:Q (s.heap.get? a) s):wpAny M A (loadIfAlive a) Q E s:=λΓ p _=>by
 show Sem.wp M Γ (.loadIfAlive a _) _ _ _ _
 rw[Sem.wp_loadIfAlive];exact(Sem.wp_pure ..).mpr h
noncomputable def ZB(h:Heap)(z TI TO T:Addr)(b:Bool):Prop:=h.get? z=some { cls:=.type "zip",dict:=none,data:=.fields #[rawInt T,.bool b,.bool false,.ref TI,.ref TO],slots:=#[] }
noncomputable def Kv(z TI TO T i1 i2:Addr)(P1 P2:Nat->Heap->Prop)(k:Nat)(h:Heap):Prop:=(∃b,ZB h z TI TO T b)/\(∃o,h.get? T=some o)/\IsPair h TI (.ref i1) (.ref i2)/\P1 k h/\P2 k h
structure ZApart2(z TI T i1 i2 a1 a2:Addr):Prop where
 nd:[z,TI,T,i1,i2].Nodup
 f1:a1∉[z,TI,i1,i2]
 f2:a2∉[z,TI,i1,i2]
section
variable{prog:Program}{w:World}{A:Around}{E:Value->Shared->Prop}{s:Shared}{z TI TO T i1 i2 a1 a2:Addr}{P1 P2:Nat->Heap->Prop}{C1 C2:Heap->List Value->Prop}
def tR(hz:ZB s.heap z TI TO T b)(ho:s.heap.get? T=some o)(hQ:∀h',ZB h' z TI TO T true->Heap.SameBut z s.heap h'->Q false { s with heap:=h' }):wpAny (model prog w) A (Builtin.SmallTypes.ownedTupleIsFree (.ref z)) Q E s:=by
 unfold ZB at hz;unfold Builtin.SmallTypes.ownedTupleIsFree;refine za (ji hz rfl (x:=rawInt T) rfl ?_);show wpAny _ _ (loadIfAlive (T:Int).toNat >>= _) _ _ _
 rw[qe];refine za (VJ ?_);rw[ho];simp only[Option.isNone_some,jE,jj];refine za (ji hz rfl (x:=.bool b) rfl ?_);cases b with
 | true=>
  rw[kO (by decide)];exact zr (hQ _ hz (Heap.SameBut.refl _ _))
 | false=>
  rw[zY (by decide)];refine za (j6 hz (by simp) λh' q e=>?_);exact zr (hQ h' q e)
def JI(S1:vk i1 a1 P1 C1)(S2:vk i2 a2 P2 C2)(D:ZApart2 z TI T i1 i2 a1 a2){l1 l2:List Value}(st:Kv z TI TO T i1 i2 P1 P2 k s.heap)(c1:C1 s.heap l1)(c2:C2 s.heap l2)(hx:l1[k]?=some x)(hy:l2[k]?=some y)
  (hQ:∀h',Kv z TI TO T i1 i2 P1 P2 (k+1) h'->h'.get? s.heap.objs.size=some { cls:=.type "tuple",data:=.seq #[x,y] }->(∀c o,c∉[z,i1,i2]->s.heap.get? c=some o->h'.get? c=some o)->Q (some (.ref s.heap.objs.size)) { s with heap:=h' }) :
  wpAny (model prog w) A (pyNext (.ref z)) Q E s:=by
 obtain⟨⟨b,hz⟩,⟨o,ho⟩,hTI,p1,p2⟩:=st;have n:=D.nd;simp only[jz,zb,zc,zM,j0] at n;obtain⟨⟨n1,n2,n3,n4⟩,⟨n5,n6,n7⟩,⟨n8,n9⟩,n10,_⟩:=n;have g1:=D.f1;have g2:=D.f2;simp only[zb,zc,zM,j0] at g1 g2;have hz':=hz;unfold ZB at hz';have hT:s.TypeIs (.ref z) "zip":=⟨_,hz',rfl⟩;unfold pyNext;refine za (jY (jn (name:=Str.ofString "__next__") hT qp (jx qp hT wI ?_ (wA _))));show wpAny _ _ (field (.ref z) 2 >>= _) _ _ _;refine za (ji hz' rfl (x:=.bool false) rfl ?_)
 show wpAny _ _ (field (.ref z) 3 >>= _) _ _ _;refine za (ji hz' rfl (x:=.ref TI) rfl ?_)
 refine za (jF hTI rfl ?_);show wpAny _ _ (Builtin.SmallTypes.ownedTupleIsFree (.ref z) >>= _) _ _ _
 refine za (tR hz ho λh1 q1 e1=>?_);simp only[jE,jj];have fa:∀{β:Type} (b0:β) (f:Value->β->Sem (ForInStep β)),forIn #[Value.ref i1,Value.ref i2] b0 f=forIn [Value.ref i1,Value.ref i2] b0 f:=λb0 f=>by rw[<-xH]
 rw[fa];simp only[qT,wF];refine za (za (za (jb ?_)));show wpAny _ _ (Builtin.SmallTypes.nextOf (.ref i1) >>= _) _ _ _
 refine za (S1.item (S1.keep p1 λo e=>e1.extBut _ _ (kY n3) e) (S1.keepC c1 λo e=>e1.extBut _ _ g1.1 e) hx λh2 r1 e2=>zr (zr ?_));refine za (za (jb ?_));show wpAny _ _ (Builtin.SmallTypes.nextOf (.ref i2) >>= _) _ _ _
 refine za (S2.item (S2.keep p2 λo e=>e2.extBut _ _ (kY n10) (e1.extBut _ _ (kY n4) e)) (S2.keepC c2 λo e=>e2.extBut _ _ g2.2.2.1 (e1.extBut _ _ g2.1 e)) hy λh3 r2 e3=>zr (zr (zr ?_)));show wpAny _ _ (newTuple [x,y] >>= _) _ _ _
 refine za (wpAny_newTuple ?_);have sz:h3.objs.size=s.heap.objs.size:=by rw[e3.1,e2.1,e1.1]
 have all:∀c o,c∉[z,i1,i2]->s.heap.get? c=some o->h3.get? c=some o:=λc o hc e=>by
  simp only[zb,zc,zM,j0] at hc;exact e3.extBut _ _ hc.2.2 (e2.extBut _ _ hc.2.1 (e1.extBut _ _ hc.1 e))
 refine zr ⟨_,rfl,zr ?_⟩;show Q (some (.ref h3.objs.size)) _
 rw[sz];have up:∀c o,h3.get? c=some o->(h3.push { cls:=.type "tuple",data:=.seq #[x,y] }).get? c=some o:=λc o e=>zf _ e
 have tn:(h3.push { cls:=.type "tuple",data:=.seq #[x,y] }).get? h3.objs.size=some _:=zQ _ rfl;rw[sz] at tn;refine hQ _ ⟨⟨true,?_⟩,⟨o,up _ _ (all _ _ (by simp only[zb,zc,zM,j0];exact⟨kY n2,n8,n9⟩) ho)⟩,up _ _ (all _ _ (by simp only[zb,zc,zM,j0];exact⟨kY n1,n6,n7⟩) hTI),S1.keep r1 λo e=>up _ _ (e3.extBut _ _ n10 e),S2.keep r2 λo e=>up _ _ e⟩ tn λc o hc e=>up _ _ (all c o hc e)
 exact up _ _ (e3.extBut _ _ n4 (e2.extBut _ _ n3 q1))
def JV(S1:vk i1 a1 P1 C1)(S2:vk i2 a2 P2 C2)(D:ZApart2 z TI T i1 i2 a1 a2){l1 l2:List Value}(hh:A.handled=none)(st:Kv z TI TO T i1 i2 P1 P2 k s.heap)(c1:C1 s.heap l1)(c2:C2 s.heap l2)(he:l1[k]?=none\/l2[k]?=none)
  (hQ:∀h',(∀c o,c∉[z,i1,i2]->s.heap.get? c=some o->h'.get? c=some o)->Q none { s with heap:=h' }):wpAny (model prog w) A (pyNext (.ref z)) Q E s:=by
 obtain⟨⟨b,hz⟩,⟨o,ho⟩,hTI,p1,p2⟩:=st;have n:=D.nd;simp only[jz,zb,zc,zM,j0] at n;obtain⟨⟨n1,n2,n3,n4⟩,⟨n5,n6,n7⟩,⟨n8,n9⟩,n10,_⟩:=n;have g1:=D.f1;have g2:=D.f2;simp only[zb,zc,zM,j0] at g1 g2;have hz':=hz;unfold ZB at hz';have hT:s.TypeIs (.ref z) "zip":=⟨_,hz',rfl⟩;have stop:∀{h':Heap} {e:Addr},(∃o,h'.get? e=some o/\o.cls=.type "StopIteration")->(∀c o,c∉[z,i1,i2]->s.heap.get? c=some o->h'.get? c=some o)->
   wpAny (model prog w) A (isInstance (.ref e) (.type "StopIteration") >>= λx=>if x=true then pure none else throw (.ref e)) Q E { s with heap:=h' }:=λ{h' e} ⟨o,ho,hc⟩ kk=>
  za (jU (T:="StopIteration") (b:=true) ⟨o,ho,hc⟩ xg (zr (hQ _ kk)))
 unfold pyNext;refine za (jY (jn (name:=Str.ofString "__next__") hT qp (jx qp hT wI ?_ (wA _))));show wpAny _ _ (field (.ref z) 2 >>= _) _ _ _;refine za (ji hz' rfl (x:=.bool false) rfl ?_)
 show wpAny _ _ (field (.ref z) 3 >>= _) _ _ _;refine za (ji hz' rfl (x:=.ref TI) rfl ?_)
 refine za (jF hTI rfl ?_);show wpAny _ _ (Builtin.SmallTypes.ownedTupleIsFree (.ref z) >>= _) _ _ _
 refine za (tR hz ho λh1 q1 e1=>?_);simp only[jE,jj];have fa:∀{β:Type} (b0:β) (f:Value->β->Sem (ForInStep β)),forIn #[Value.ref i1,Value.ref i2] b0 f=forIn [Value.ref i1,Value.ref i2] b0 f:=λb0 f=>by rw[<-xH]
 rw[fa];simp only[qT,wF];refine za (za (za (jb ?_)));show wpAny _ _ (Builtin.SmallTypes.nextOf (.ref i1) >>= _) _ _ _
 have p1':=S1.keep (h':=h1) p1 λo e=>e1.extBut _ _ (kY n3) e
 have c1':=S1.keepC (h':=h1) c1 λo e=>e1.extBut _ _ g1.1 e
 cases hx:l1[k]? with
 | none=>
  refine za (S1.last hh p1' c1' hx λh2 e e2 ⟨oe,ge,ce⟩=>?_);refine stop ⟨oe,ge,ce⟩ λc o hc g=>?_
  simp only[zb,zc,zM,j0] at hc;exact e2 _ _ hc.2.1 (e1.extBut _ _ hc.1 g)
 | some x=>
  have hy:l2[k]?=none:=by rcases he with h | h;rw[hx] at h;cases h;exact h
  refine za (S1.item p1' c1' hx λh2 r1 e2=>zr (zr ?_));refine za (za (jb ?_));show wpAny _ _ (Builtin.SmallTypes.nextOf (.ref i2) >>= _) _ _ _
  refine za (S2.last hh (S2.keep p2 λo e=>e2.extBut _ _ (kY n10) (e1.extBut _ _ (kY n4) e)) (S2.keepC c2 λo e=>e2.extBut _ _ g2.2.2.1 (e1.extBut _ _ g2.1 e)) hy λh3 e e3 ⟨oe,ge,ce⟩=>?_);refine stop ⟨oe,ge,ce⟩ λc o hc g=>?_
  simp only[zb,zc,zM,j0] at hc;exact e3 _ _ hc.2.2 (e2.extBut _ _ hc.2.1 (e1.extBut _ _ hc.1 g))
end
def pV:entryFor table "zip.__getattribute__" = some Builtin.«object.__getattribute__»:=
 entryFor_alias (id':="object.__getattribute__") (by kernel_rfl) (by first | rfl | decide +kernel) ⋯ (by kernel_rfl)
section
variable{prog:Program}{w:World}{A:Around}{E:Value->Shared->Prop}{h:Heap}{g:Array GenState}{d:Drawn}{t:Nat}{os:OsState}{a:Addr}{vs:Array Value}
set_option maxHeartbeats 1000000 in
def gv(hh:A.handled=none)(hx:h.get? a=some { cls:=.type "zip",dict:=none,data:=.fields vs,slots:=#[] })(hq:Z5 h g d os E) :
  wpAny (model prog w) A (Builtin.«object.__getattribute__» ⟨[.ref a,.str "keys" tk],[]⟩) Q E ⟨h,g,d,t,os⟩:=by
 have hT:(⟨h,g,d,t,os⟩:Shared).TypeIs (.ref a) "zip":=⟨_,hx,rfl⟩;have f4:=Zl (T:="zip") (.inr (.inr rfl));repeat (any_goals (first | assumption | wp_step))
 refine lM hh ⋯ λh' tk' e k1 k2=>hq h' tk' e k1 k2
def tL(hh:A.handled=none)(hx:h.get? a=some { cls:=.type "zip",dict:=none,data:=.fields vs,slots:=#[] })(hq:Z5 h g d os E):wpAny (model prog w) A (getAttrBy (.ref a) (.str "keys" tk) false) Q E ⟨h,g,d,t,os⟩:=by
 have hT:(⟨h,g,d,t,os⟩:Shared).TypeIs (.ref a) "zip":=⟨_,hx,rfl⟩;have f2:=wD.lookup;have f3:=wD.bind (.ref a);unfold getAttrBy;refine jb (za (jZ hT (za (jQ f2 ?_))));show wpAny _ _ (getAttrByItsOwn (.ref a) (.str "keys" tk) (.type "zip") (.builtin "zip.__getattribute__") false false) _ _ _
 unfold getAttrByItsOwn;refine za (zr ?_);refine za (jY ?_);refine jb ?_;show wpAny _ _ (boundAndCalled (.builtin "zip.__getattribute__") (.ref a) (.str "keys" tk)) _ _ _
 unfold boundAndCalled;refine za (jQ f3 ?_);refine jx wD hT pV ?_ (F.args_zip_getattribute_2 _ _);refine gv hh hx λh' tk' e k1 k2=>?_
 obtain⟨ob,ho,hc⟩:=k2;have hTe:(⟨h',g,d,tk',os⟩:Shared).TypeIs (.ref e) "AttributeError":=⟨_,ho,hc⟩;show wpAny _ _ (getattributeRaised (.ref a) (.str "keys" tk) (.type "zip") (.ref e) none false false) _ _ _
 unfold getattributeRaised;refine za (jU hTe c8 ?_);simp only[kE];refine za (jQ (show hookBehind (.type "zip") none=pure none from Zq (.inr (.inr rfl))) ?_);show wpAny _ _ (attributeErrorLeaves (.ref a) (.str "keys" tk) (.ref e) false false) _ _ _
 unfold attributeErrorLeaves;simp only[Bool.not_false,kE];exact wB (hq h' tk' e k1 ⟨ob,ho,hc⟩)
def tF(hh:A.handled=none)(hx:h.get? a=some { cls:=.type "zip",dict:=none,data:=.fields vs,slots:=#[] })(hq:∀h' tk',(∀b ob,h.get? b=some ob->h'.get? b=some ob)->Q none ⟨h',g,d,tk',os⟩):wpAny (model prog w) A (getAttr? (.ref a) "keys") Q E ⟨h,g,d,t,os⟩:=by
 unfold getAttr? getAttrBy?;refine za (wpAny_mkText ?_);refine za (jY (tL hh hx λh' tk' e k1 k2=>?_));obtain⟨ob,ho,hc⟩:=k2;refine za (jU (T:="AttributeError") (b:=true) ⟨ob,ho,hc⟩ c8 ?_);exact zr (hq h' tk' k1)
end
section
variable{prog:Program}{w:World}{A:Around}{E:Value->Shared->Prop}{s:Shared}{z TI TO i1 i2 a1 a2 D:Addr}{P1 P2:Nat->Heap->Prop}{C1 C2:Heap->List Value->Prop}
noncomputable def Zan(D z TI TO i1 i2 a1 a2:Addr)(P1 P2:Nat->Heap->Prop)(i:Nat)(h:Heap):Prop:=(i=0/\rG z TI TO i1 i2 P1 P2 .none 0 0 h)\/∃T,ZApart2 z TI T i1 i2 a1 a2/\T≠D/\Kv z TI TO T i1 i2 P1 P2 i h
def Zan.frame(S1:vk i1 a1 P1 C1)(S2:vk i2 a2 P2 C2){i:Nat}{h h':Heap}(hD:D∉[z,TI,TO,i1,i2])(q:Zan D z TI TO i1 i2 a1 a2 P1 P2 i h)(k:∀b o,b≠D->h.get? b=some o->h'.get? b=some o):Zan D z TI TO i1 i2 a1 a2 P1 P2 i h':=by
 simp only[zb,zc,zM,j0] at hD;obtain⟨d1,d2,d3,d4,d5⟩:=hD;rcases q with ⟨rfl,r1,r2,⟨a,b,r3⟩,r4,r5⟩ | ⟨T,ap,nT,⟨b,r1⟩,⟨o,r2⟩,r3,r4,r5⟩
 .exact .inl ⟨rfl,k _ _ (kY d1) r1,k _ _ (kY d2) r2,⟨a,b,k _ _ (kY d3) r3⟩,S1.keep r4 λo e=>k _ _ (kY d4) e,S2.keep r5 λo e=>k _ _ (kY d5) e⟩
 .exact .inr ⟨T,ap,nT,⟨b,k _ _ (kY d1) r1⟩,⟨o,k _ _ nT r2⟩,k _ _ (kY d2) r3,S1.keep r4 λo e=>k _ _ (kY d4) e,S2.keep r5 λo e=>k _ _ (kY d5) e⟩
def Wc(S1:vk i1 a1 P1 C1)(S2:vk i2 a2 P2 C2)(ap:ZApart z TI TO i1 i2 a1 a2){i:Nat}{l1 l2:List Value}(hD:D<s.heap.objs.size)(st:Zan D z TI TO i1 i2 a1 a2 P1 P2 i s.heap)(c1:C1 s.heap l1)(c2:C2 s.heap l2)(hx:l1[i]?=some x)(hy:l2[i]?=some y)
  (hQ:∀h',Zan D z TI TO i1 i2 a1 a2 P1 P2 (i+1) h'->h'.get? s.heap.objs.size=some { cls:=.type "tuple",data:=.seq #[x,y] }->(∀c o,c∉[z,TI,TO,i1,i2]->s.heap.get? c=some o->h'.get? c=some o)->Q (some (.ref s.heap.objs.size)) { s with heap:=h' }) :
  wpAny (model prog w) A (pyNext (.ref z)) Q E s:=by
 rcases st with ⟨rfl,st⟩ | ⟨T,ap2,nT,st⟩
 .have lz:=zA st.1
  have lTI:=zA st.2.1;have l1':i1<s.heap.objs.size:=by obtain⟨o,e,_⟩:=S1.obj st.2.2.2.1;exact zA e
  have l2':i2<s.heap.objs.size:=by obtain⟨o,e,_⟩:=S2.obj st.2.2.2.2;exact zA e
  have nd:=ap.nd;simp only[jz,zb,zc,zM,j0] at nd;have f1:=ap.f1;have f2:=ap.f2;simp only[zb,zc,zM,j0] at f1 f2;refine rD S1 S2 ap st c1 c2 hx hy λh' q1 q2 q3=>hQ h' (.inr ⟨s.heap.objs.size,⟨?_,?_,?_⟩,qg hD,⟨false,q1.1⟩,⟨_,q2⟩,q1.2.1,q1.2.2.2.1,q1.2.2.2.2⟩) q2 q3
  .simp only[jz,zb,zc,zM,j0]
   exact⟨⟨nd.1.1,zW lz,nd.1.2.2.1,nd.1.2.2.2⟩,⟨zW lTI,nd.2.1.2.1,nd.2.1.2.2⟩,⟨qg l1',qg l2'⟩,nd.2.2.2.1,not_false,vL⟩
  .simp only[zb,zc,zM,j0]
   exact⟨f1.1,f1.2.1,f1.2.2.2.1,f1.2.2.2.2⟩
  .simp only[zb,zc,zM,j0]
   exact⟨f2.1,f2.2.1,f2.2.2.2.1,f2.2.2.2.2⟩
 .refine JI S1 S2 ap2 st c1 c2 hx hy λh' q1 q2 q3=>hQ h' (.inr ⟨T,ap2,nT,q1⟩) q2 λc o hc e=>q3 c o (λm=>hc ?_) e
  simp only[zb,zc,zM] at m ⊢;rcases m with m | m | m
  .exact .inl m
  .exact .inr (.inr (.inr (.inl m)))
  .exact .inr (.inr (.inr (.inr m)))
def QX(S1:vk i1 a1 P1 C1)(S2:vk i2 a2 P2 C2)(ap:ZApart z TI TO i1 i2 a1 a2){i:Nat}{l1 l2:List Value}(hh:A.handled=none)(st:Zan D z TI TO i1 i2 a1 a2 P1 P2 i s.heap)(c1:C1 s.heap l1)(c2:C2 s.heap l2)(he:l1[i]?=none\/l2[i]?=none)
  (hQ:∀h',(∀c o,c∉[z,TI,TO,i1,i2]->s.heap.get? c=some o->h'.get? c=some o)->Q none { s with heap:=h' }):wpAny (model prog w) A (pyNext (.ref z)) Q E s:=by
 rcases st with ⟨rfl,st⟩ | ⟨T,ap2,nT,st⟩
 .exact sL S1 S2 ap hh st c1 c2 he hQ
 .refine JV S1 S2 ap2 hh st c1 c2 he λh' q=>hQ h' λc o hc e=>q c o (λm=>hc ?_) e
  simp only[zb,zc,zM] at m ⊢;rcases m with m | m | m
  .exact .inl m
  .exact .inr (.inr (.inr (.inl m)))
  .exact .inr (.inr (.inr (.inr m)))
end
section
variable{prog:Program}{w:World}{A:Around}{R:Result->Shared->Prop}{z TI TO i1 i2 a1 a2 D:Addr}{P1 P2:Nat->Heap->Prop}{C1 C2:Heap->List Value->Prop}{h0:Heap}{l1 l2:List Value}{kvs:List (Key×Value)}
def QL(knd:KeyKind prog w Key)(hh:A.in1.handled=none)(S1:vk i1 a1 P1 C1)(S2:vk i2 a2 P2 C2)(ap:ZApart z TI TO i1 i2 a1 a2)(hDf:D∉[z,TI,TO,i1,i2])(hD0:h0.get? D=none)(hw0:∀b∈[z,TI,TO,i1,i2],h0.get? b=none)(c1:C1 h0 l1)(c2:C2 h0 l2)
  (hp:∀i,(hi:i<kvs.length)->∃x,l1[i]?=some x/\knd.is kvs[i].1 x=true/\l2[i]?=some kvs[i].2) (he:l1[kvs.length]?=none\/l2[kvs.length]?=none) (hz:kvs.length<=1000) :
  ∀(k i:Nat) (tk:Tok) (s:Shared),kvs.length-i=k->i<=kvs.length->Zan D z TI TO i1 i2 a1 a2 P1 P2 i s.heap->s.heap.DictOf knd D (merged [] (kvs.take i))->(∀b o,h0.get? b=some o->s.heap.get? b=some o)->
   (∀h' tk',h'.DictOf knd D (merged [] kvs)->(∀b o,h0.get? b=some o->h'.get? b=some o)->R (.ok (.ret .none)) { s with heap:=h',toks:=tk' })->
   codeAny (model prog w) A (.builtin "dict.update.loop" ⟨[.ref D,.ref z,.int i tk,.none],[]⟩) R s:=by
 intro k;induction k with
 | zero=>
  intro i tk s hk hi hst hd h0k hR;obtain rfl:i=kvs.length:=by omega
  refine vQ dr ?_;rw[qR xE _];show wpAny _ A.in1 (pyNext (.ref z) >>= _) _ _ s
  refine za (QX S1 S2 ap hh hst (S1.keepC c1 λo e=>h0k _ _ e) (S2.keepC c2 λo e=>h0k _ _ e) he λh' kk=>?_);show wpAny _ A.in1 (Builtin.Dict.addKeywords D [] >>= _) _ _ _
  refine za (zr (zr (hR h' s.toks ?_ λb o e=>kk b o (λz=>by rw[hw0 b z] at e;cases e) (h0k b o e))));rw[yf] at hd;obtain⟨o,es,ep,ho,rest⟩:=hd;exact⟨o,es,ep,kk D o hDf ho,rest⟩
 | succ k ih=>
  intro i tk s hk hi hst hd h0k hR;have hlt:i<kvs.length:=by omega
  obtain⟨key,hx,hk1,hy⟩:=hp i hlt;have hDs:D<s.heap.objs.size:=by obtain⟨o,es,ep,ho,rest⟩:=hd;exact zA ho
  refine vQ dr ?_;rw[qR xE _];show wpAny _ A.in1 (pyNext (.ref z) >>= _) _ _ s
  refine za (Wc S1 S2 ap hDs hst (S1.keepC c1 λo e=>h0k _ _ e) (S2.keepC c2 λo e=>h0k _ _ e) hx hy λh' hst' hT kk=>?_);have keep:∀b o,h0.get? b=some o->h'.get? b=some o:=λb o e=>kk b o (λz=>by rw[hw0 b z] at e;cases e) (h0k b o e)
  have hT':IsTup h' s.heap.objs.size #[key,kvs[i].2]:=⟨_,hT,rfl,_,rfl⟩;have hd':h'.DictOf knd D (merged [] (kvs.take i)):=by obtain⟨o,es,ep,ho,rest⟩:=hd;exact⟨o,es,ep,kk D o hDf ho,rest⟩
  show wpAny _ A.in1 (holding [Value.ref s.heap.objs.size] _ >>= _) _ _ _
  refine za (jb (za (wpAny_tryCatch ?_)));unfold Builtin.Dict.pairItems;refine za (jZ hT'.typeIs ?_);rw[zY (by decide)];refine za (jF hT rfl (zr ?_));show wpAny _ _ (holding [key,kvs[i].2] (dictSet D key kvs[i].2)) _ _ _
  refine jb ?_;unfold dictSet;try with_reducible refine jb ?_
  refine za (knd.pyHash hk1 ?_);refine yZ (s:={ s with heap:=h',toks:=s.toks+1 }) hk1 hd' (λh2 hd2 sb=>?_) (by have:=merged_length_le ([]:List (Key×Value)) (kvs.take i);rw[qL] at this;simp at this;exact zR (zR this ∅) (show 1000<=sizeLine by decide));refine zr ⟨qZ xE _,ih (i+1) _ _ ∅ hlt (hst'.frame S1 S2 hDf λb o hb e=>?_) ?_ (λb o e=>?_) λh3 tk3 hd3 k3=>?_⟩
  .rw[sb.2 b hb];exact e
  .rw[merged_take_succ [] kvs i kvs[i] (zB hlt)];exact hd2
  .rw[sb.2 b (λz:b=D=>by rw[z,hD0] at e;cases e)];exact keep b o e
  .exact hR h3 tk3 hd3 k3
end
section
variable{prog:Program}{w:World}{A:Around}{E:Value->Shared->Prop}{s:Shared}{z TI TO i1 i2 a1 a2:Addr}{P1 P2:Nat->Heap->Prop}{C1 C2:Heap->List Value->Prop}{h0:Heap}{l1 l2:List Value}{kvs:List (Key×Value)}
def oG(knd:KeyKind prog w Key)(hh:A.handled=none)(S1:vk i1 a1 P1 C1)(S2:vk i2 a2 P2 C2)(ap:ZApart z TI TO i1 i2 a1 a2)(st:rG z TI TO i1 i2 P1 P2 .none 0 0 s.heap)(k0:∀b o,h0.get? b=some o->s.heap.get? b=some o)(hw0:∀b∈[z,TI,TO,i1,i2],h0.get? b=none)(c1:C1 h0 l1)(c2:C2 h0 l2)
  (hp:∀i,(hi:i<kvs.length)->∃x,l1[i]?=some x/\knd.is kvs[i].1 x=true/\l2[i]?=some kvs[i].2) (he:l1[kvs.length]?=none\/l2[kvs.length]?=none) (hz:kvs.length<=1000) 
  (h:∀h' tk',h'.DictOf knd s.heap.objs.size (merged [] kvs)->(∀b o,h0.get? b=some o->h'.get? b=some o)->Q (.ref s.heap.objs.size) { s with heap:=h',toks:=tk' }):wpAny (model prog w) A (call (.type "dict") [.ref z]) Q E s:=by
 refine ye (Q₁:=λobj s₁=>obj=.ref s.heap.objs.size/\s₁={ s with heap:=s.heap.push { cls:=.type "dict",data:=.dict #[] } }) F.kt_called_dict (F.kt_typeCall_dict_1 _) F.entry_dict_init (kt_code_dict_new _ ⟨rfl,rfl⟩) ?_;rintro obj s₁ ⟨rfl,rfl⟩;have hnew:(s.heap.push { cls:=.type "dict",data:=.dict #[] }).DictOf knd s.heap.objs.size []:=yU s.heap;refine⟨hnew.typeIs,F.args_dict_init_2 _ _,?_⟩;unfold Builtin.«dict.__init__»;refine za ?_;unfold Builtin.Dict.selfAndRest;refine za (wpAny_notOrdered_dict hnew.typeIs ?_);show wpAny _ _ (pure (s.heap.objs.size,[Value.ref z])) _ _ _
 refine zr ?_;show wpAny _ _ (Builtin.Dict.updateFrom "dict.__init__" s.heap.objs.size (.ref z) [] .none) _ _ _
 unfold Builtin.Dict.updateFrom;have hl1:(s.heap.push { cls:=.type "dict",data:=.dict #[] }).get? z=some _:=zf _ st.1;refine za (jZ (T:="zip") ⟨_,hl1,rfl⟩ ?_);rw[zY (by decide)];have hh2:A.in1.in1.handled=none:=by simpa using hh
 refine za (tF hh2 hl1 λh1 tk1 k1=>?_);simp only[xu,kE];have kk:∀b o,s.heap.get? b=some o->h1.get? b=some o:=λb o e=>k1 b o (zf _ e)
 have st1:rG z TI TO i1 i2 P1 P2 .none 0 0 h1:=by
  obtain⟨r1,r2,⟨a,b,r3⟩,r4,r5⟩:=st;exact⟨kk _ _ r1,kk _ _ r2,⟨a,b,kk _ _ r3⟩,S1.keep r4 λo e=>kk _ _ e,S2.keep r5 λo e=>kk _ _ e⟩
 refine za (qx ?_);refine za (yF st1.1 ?_);have hd1:h1.DictOf knd s.heap.objs.size []:=by obtain⟨o,es,ep,ho,rest⟩:=hnew;exact⟨o,es,ep,k1 _ _ ho,rest⟩
 have lt:∀b∈[z,TI,TO,i1,i2],b<s.heap.objs.size:=λb hb=>by
  simp only[zb,zc,zM] at hb;obtain⟨r1,r2,⟨a,c,r3⟩,r4,r5⟩:=st;rcases hb with rfl | rfl | rfl | rfl | rfl
  .exact zA r1
  .exact zA r2
  .exact zA r3
  .obtain⟨o,e,_⟩:=S1.obj r4;exact zA e
  .obtain⟨o,e,_⟩:=S2.obj r5;exact zA e
 have hD0:h0.get? s.heap.objs.size=none:=by
  cases q:h0.get? s.heap.objs.size with
  | none=>rfl
  | some o=>exact absurd (zA (k0 _ _ q)) (jD _)
 refine zr ⟨qZ xE _,QL (h0:=h0) knd (by simpa using hh) S1 S2 ap (λm=>jD _ (lt _ m)) hD0 hw0 c1 c2 hp he hz kvs.length 0 _ _ rfl (qO _) (.inl ⟨rfl,st1⟩) hd1 (λb o e=>kk b o (k0 b o e)) λh' tk' hd' k'=>?_⟩;exact⟨rfl,h h' tk' hd' k'⟩
end
noncomputable def mV(ws:List W):M W:=λh=>match ws with
 | [x,y]=>match u0 h x,u0 h y with
  | some l,some l'=>match keysOf (l.zip l') with
   | some ks=>if ks.length<=1000 then some (.ref h.length,h++[.dic (qE [] ks)]) else none
   | none=>none
  | _,_=>none
 | _=>none
noncomputable def iP(ms:List ME):ME:=zh mV ms
section
variable{X:Cx}{cl:Cl}{e1 e2:Expr}{ms:List ME}{p p2 p3 pos:Pos}
theorem QH{K:PySem.W.Frag}{μ:List Addr}{H:Hp}:∀{l l':List W} {vs vs':List V} {ks:List (Key×W)},RWs K μ H l vs->RWs K μ H l' vs'->keysOf (l.zip l')=some ks->
  ∃ks':List (Key×V),PR K μ H ks ks'/\vs.zip vs'=ks'.map λkv=>(kV kv.1,kv.2)
 | [],_,_,_,_,.nil,_,e=>by cases e;exact⟨[],.nil,rfl⟩
 | _::_,[],_,_,_,.cons _ _,.nil,e=>by cases e;exact⟨[],.nil,rfl⟩
 | x::l,y::l',_,_,ks,.cons r t,.cons r' t',e=>by
  rw[jq] at e;unfold keysOf at e;split at e
  .rename_i k lk e4 e5
   cases e;obtain⟨ks',pr,ez⟩:=QH t t' e5;have:=ab r e4;subst this;exact⟨(k,_)::ks',.cons r' pr,by rw[jq,ez];rfl⟩
  .cases e
end
def JK{h:Heap}(c:KZ tp a h l):a<h.objs.size:=by
 unfold KZ at c;split at c
 .obtain⟨o,e,_⟩:=c;exact zA e
 .obtain⟨o,e,_⟩:=c;exact zA e
theorem Qu:∀{xs ys:List V} {l1 l2:List Value} {ks':List (Key×V)},Vals xs l1->Vals ys l2->xs.zip ys=ks'.map (λkv=>(kV kv.1,kv.2))->
  ∃kvs:List (Key×Value),KV ks' kvs/\(∀i,(hi:i<kvs.length)->∃x,l1[i]?=some x/\(qr P w).is kvs[i].1 x=true/\l2[i]?=some kvs[i].2)/\(l1[kvs.length]?=none\/l2[kvs.length]?=none)
 | _,_,_,_,[],.nil,_,_=>⟨[],.nil,λi hi=>by simp at hi,.inl rfl⟩
 | _,_,_,_,[],.cons _ _,.nil,_=>⟨[],.nil,λi hi=>by simp at hi,.inr rfl⟩
 | _,_,_,_,[],.cons _ _,.cons _ _,e=>by simp at e
 | _,_,_,_,_::_,.nil,_,e=>by simp at e
 | _,_,_,_,_::_,.cons _ _,.nil,e=>by simp at e
 | _,_,_,_,(k,v)::ks',.cons (b:=u1) r t,.cons (b:=u2) r' t',e=>by
  rw[jq,zx] at e;injection e with e0 e1;injection e0 with e2 e3;subst e2 e3;obtain⟨kvs,q1,q2,q3⟩:=Qu (P:=P) (w:=w) t t' e1;refine⟨(k,u2)::kvs,.cons ⟨rfl,r'⟩ q1,λi hi=>?_,by simpa using q3⟩;cases i with
  | zero=>exact⟨u1,rfl,iJ r,rfl⟩
  | succ i=>
   obtain⟨x,a,b,c⟩:=q2 i (by simpa using hi);exact⟨x,by simpa using a,b,by simpa using c⟩
section
variable{X:Cx}{cl:Cl}{e1 e2:Expr}{ms:List ME}{p p2 p3 pos:Pos}
def XH(hc:X.calm=true)(hm:X.mg "dict" = none)(hs:X.mg "zip" = none)(ha:SA X cl [e1,e2] ms)(hg:Gl X "dict")(hg2:Gl X "zip")
  (hst:starEach [e1,e2] X.env=(false,eval e1 X.env)::starEach [e2] X.env) (hpl:(backTo p3 (starEach [e2] X.env)).any (·.1)=false)
  (he2:starEach [.Call (.Name "zip" p2) [e1,e2] [] p3] X.env=(false,eval (.Call (.Name "zip" p2) [e1,e2] [] p3) X.env)::starEach [] X.env) (hpl2:(backTo pos (starEach [] X.env)).any (·.1)=false) :
  SE X cl (.Call (.Name "dict" p) [.Call (.Name "zip" p2) [e1,e2] [] p3] [] pos) (iP ms):=by
 rintro pins s σ H Q I ⟨μ,h,ρ,w,h',R,er,e,k⟩;obtain⟨ws,h1,e1',e⟩:=ka e;have hv:bootBuiltins "zip" = some (.type "zip"):=by decide +kernel
 have hv2:bootBuiltins "dict" = some (.type "dict"):=by decide +kernel
 refine jy (ud I hg hm hv2 ?_ (by decide) (by decide));refine jo ?_ he2 hpl2;rw[he2];show wpAny _ _ (spliced ((false,eval (.Call (.Name "zip" p2) [e1,e2] [] p3) X.env)::backTo pos (starEach [] X.env))) _ _ s
 have h0:∀{q:Pos},backTo q (starEach [] X.env)=[]:=λ{q}=>rfl
 rw[h0];refine qF ?_;refine jy (ud I hg2 hs hv ?_ (by decide) (by decide));refine jo (kA (ha p3 pins s σ H (λvs H1=>∃μ1,Ext μ H μ1 H1/\HR X.K cl μ1 H1 h1/\RWs X.K μ1 H1 ws vs) I ⟨μ,h,ρ,ws,h1,R,er,e1',λμ1 H1 vs E1 R1 rs=>⟨μ1,E1,R1,rs⟩⟩) λus s1 ⟨vs,H1,I1,r1,μ1,E1,R1,rs⟩=>?_) hst hpl;unfold mV at e;split at e
 .rename_i x y
  split at e
  .rename_i l l' q1 q2
   split at e
   .rename_i ks ek
    split at e
    .rename_i hlen
     cases e;cases rs with | cons rx t=>cases t with | cons ry t=>cases t with | nil=>
     obtain⟨t1,a1,xs,rfl,ra1,d1,f1⟩:=gz (cl:=cl) rx q1;obtain⟨t2,a2,ys,rfl,ra2,d2,f2⟩:=gz (cl:=cl) ry q2;obtain⟨u1,u2,rfl,ru1,ru2⟩:=vals2 r1;cases ru1;cases ru2;obtain⟨l1,v1,c1⟩:=uA I1 d1;obtain⟨l2,v2,c2⟩:=uA I1 d2;obtain⟨ks',pr,ez⟩:=QH ra1 ra2 ek;obtain⟨kvs,kv,hp,he⟩:=Qu (P:=X.prog) (w:=X.w) v1 v2 ez;have n1:=JK c1;have n2:=JK c2;refine pQ (oW t1 a1 l1) (oW t2 a2 l2) c1 ((xA t2 0 a2).keepC c2 λo e=>zf _ e) (fz t1 a1) (fz t2 a2) λh2 b5 b3 b4 b1 b2 kp=>?_
     have nd:[s1.heap.objs.size+4,s1.heap.objs.size+2,s1.heap.objs.size+3,s1.heap.objs.size,s1.heap.objs.size+1].Nodup:=by
      simp only[jz,zb,zc,zM,j0,vL,and_true,not_false_eq_true];omega
     have ge:∀b∈[s1.heap.objs.size+4,s1.heap.objs.size+2,s1.heap.objs.size+3,s1.heap.objs.size,s1.heap.objs.size+1],s1.heap.objs.size<=b:=λb hb=>by
      simp only[zb,zc,zM] at hb;rcases hb with rfl | rfl | rfl | rfl | rfl<;>omega
     have hkl:ks'.length=kvs.length:=kv.length;refine vp (oG (s:={ s1 with heap:=h2 }) (h0:=s1.heap) (qr X.prog X.w) (I1.ok.hd hc) (xA t1 _ a1) (xA t2 _ a2) ⟨nd,λm=>jD _ (zL n1 (ge _ m)),λm=>jD _ (zL n2 (ge _ m))⟩ ⟨b5,b3,⟨_,_,b4⟩,iy b1,iy b2⟩ kp (λb hb=>vK (ge b hb)) c1 c2 hp he (by rw[<-hkl,<-pr.len];exact hlen) λh3 tk dd kp3=>?_);have rel:KV (uk [] ks') (merged [] kvs):=kv.merge .nil;have hz:(uk [] ks').length<=sizeLine:=by
      have h1:=aS ks' [];rw[zV] at h1;rw[vm];have:=pr.len;omega
     have le:s1.heap.objs.size<=h2.objs.size:=zR (Nat.le_add_right _ 4) (wu (zA b5));have big:h2.objs.size≠sysModules:=kY (zW (zL I1.big le));exact⟨.ref _,_,I1.laid (a:=h2.objs.size) (o:=.dK (uk [] ks')) (t':=tk) kp3 le (lK hz (jr.mpr big) rel dd),rfl,KQ.dic (k.ext E1) R1 (pr.merge .nil) (I1.hok.fresh le)⟩
    .cases e
   .cases e
  .cases e
 .cases e
end
noncomputable def noStar:Expr->Bool
 | .Starred ..=>false
 | _=>true
noncomputable def gQ:Expr->Bool
 | .ListComp ..=>false
 | .SetComp ..=>false
 | .DictComp ..=>false
 | _=>true
noncomputable def oU:Expr->Bool
 | .Set ..=>false
 | _=>true
noncomputable def Yh:Expr->Bool
 | .Tuple ..=>false
 | _=>true
noncomputable def bP:Expr->Bool
 | .Slice ..=>false
 | _=>true
noncomputable def plainT:Expr->Bool
 | .UnaryOp ..=>false
 | .BoolOp ..=>false
 | .IfExp ..=>false
 | .Compare ..=>false
 | _=>true
noncomputable def sx:Expr->Bool
 | .Call ..=>false
 | _=>true
section
variable{e tg o:Expr}{es:List Expr}{env:Env}{pos:Pos}
def kF(h:noStar e=true):starEach (e::es) env=(false,eval e env)::starEach es env:=by
 cases e<;>first | (cases h;done) | kernel_rfl
theorem fT:starEach [] env=[]:=by kernel_rfl
theorem dP(h:noStar e=true):backTo pos (starEach (e::es) env)=(false,eval e env)::backTo pos (starEach es env):=by
 rw[kF h];rfl
theorem j1:∀{es:List Expr},es.all noStar=true->(backTo pos (starEach es env)).any (·.1)=false
 | [],_=>by rw[fT];rfl
 | e::es,h=>by
  rw[jt,zu] at h;rw[dP h.1,vZ,j1 h.2];rfl
theorem rS:∀{es:List Expr},es.all noStar=true->(backTo pos (starEach es env)).all (λx=>!x.1)=true
 | [],_=>by rw[fT];rfl
 | e::es,h=>by
  rw[jt,zu] at h;rw[dP h.1,jt,rS h.2];rfl
def hW(h:es.all noStar=true)(hl:decide (es.length<30)=true):((backTo pos (starEach es env)).all (λx=>!x.1)&&(backToKw pos (keywordEach [] env)).all (λx=>x.1.isSome)
   && decide (es.length+([]:List Keyword).length+(if ([]:List Keyword).isEmpty then 0 else 1)<30))=true:=by
 rw[rS h];have:(keywordEach [] env)=[]:=by kernel_rfl
 rw[this];simpa[backToKw] using hl
theorem fI(h:gQ e=true):swapsWith e t l env=pure false:=by
 cases e<;>first | (cases h;done) | rfl
theorem Kb(h:Yh e=true):swappedStores [.Tuple ts n p] e env=pure none:=by
 cases e<;>first | (cases h;done) | rfl
def uf(h:noStar e=true):assignEach (e::es) env=(false,assign e env)::assignEach es env:=by
 cases e<;>first | (cases h;done) | kernel_rfl
theorem bv:assignEach [] env=[]:=by kernel_rfl
theorem lP:∀{es:List Expr},es.all noStar=true->(assignEach es env).length=es.length
 | [],_=>by rw[bv];rfl
 | e::es,h=>by
  rw[jt,zu] at h;rw[uf h.1,zp,lP h.2];rfl
theorem iZ:∀{es:List Expr},es.all noStar=true->(assignEach es env).findIdx? (·.1)=none
 | [],_=>by rw[bv];rfl
 | e::es,h=>by
  rw[jt,zu] at h;rw[uf h.1,List.findIdx?_cons,iZ h.2];rfl
theorem af(h:oU e=true):∀x,foldedSetIterable e env x=pure x:=by
 intro x;cases e<;>first | (cases h;done) | rfl
theorem uS(h:sx o=true):attributeBase o a env whole=whole:=by
 cases o<;>first | (cases h;done) | rfl
def We(h:plainT e=true):∀whole,isTrue e env whole=(do let v <-whole;standAt e.pos;holding [v] (truthy v)):=by
 intro whole;cases e<;>first | (cases h;done) | kernel_rfl
theorem oN(h:bP e=true):uU e:=by
 intro o i;cases e<;>first | (cases h;done) | rfl
end
structure RC where
 sc:Scope
 N:List Str
 inC:Bool
 fns:List (Str×(List W->M W))
 con:List (Str×W)
 tab:List (Str×List (Str×W))
 bin:List Str
 own:List Str
 txt:List Str
 cmp:List ((Nat×Nat)×List Str)
 dic:List Str
 fld:List (Nat×List Str)
 mt:ng
 mks:List (Str×(Nat×(List W->M W)))
 mka:List (Nat×Nat)
 way:List (Str×List (Str×(List W->M W)))
noncomputable def FnAt(P:Program)(w:World)(K:PySem.W.Frag)(mg:Str->Option Value)(base:Heap)(cl:Cl)(k:Nat)(x:Str)(g:List W->M W):Prop:=
 ∃f fd ps,FnOk P w K mg base uc k f fd ps (xp K cl g)/\mg x=some (.ref f)/\PySem.W.keepIn K (.ref f)=true/\Binds K fd ps []
noncomputable def AllOf{α:Type}(P:Str->α->Prop):List (Str×α)->Prop
 | []=>True
 | (x,g)::r=>P x g/\AllOf P r
theorem AllOf.at{α:Type}{P:Str->α->Prop}{x:Str}{g:α}:∀{l:List (Str×α)},AllOf P l->l.lookup x=some g->P x g
 | [],_,e=>by cases e
 | (y,g')::r,h,e=>by
  rw[kJ] at e;cases q:x==y with
  | true=>rw[q] at e;cases e;rw[eq_of_beq q];exact h.1
  | false=>rw[q] at e;exact AllOf.at h.2 e
noncomputable def AllNone(mg:Str->Option Value):List Str->Prop
 | []=>True
 | x::r=>mg x=none/\AllNone mg r
theorem AllNone.at:∀{l:List Str},AllNone mg l->x∈l->mg x=none
 | y::r,h,e=>by
  rcases zb.mp e with rfl | e
  .exact h.1
  .exact AllNone.at h.2 e
structure BaseOk(P:Program)(w:World)(K:PySem.W.Frag)(mg:Str->Option Value)(base:Heap)(cl:Cl)(k:Nat)(Γ:RC):Prop where
 fns:AllOf (FnAt P w K mg base cl k) Γ.fns
 con:AllOf (Glob K mg) Γ.con
 tab:AllOf (TabOk K w.params mg) Γ.tab
 bin:AllNone mg Γ.bin
 pw:cl.P=P/\cl.w=w
 cls:ee K cl Γ.fld
 mts:∀c m g,Γ.mt.lookup (c,m)=some g->mI P w K mg base cl k c m g
 mks:AllOf (λx p=>BE P w K mg base cl k x p.1 p.2) Γ.mks
 way:AllOf (Kl P w K mg base cl k) Γ.way
structure Fits(Γ:RC)(cl:Cl)(k:Nat)(X:Cx):Prop where
 sc:X.env.scope=Γ.sc
 N:X.N=Γ.N
 nd:X.N.Nodup
 fn:Γ.inC=false->∀x,X.fn x=true
 kind:Γ.sc.kind=.function
 calm:X.calm=true
 pass:PassesOwn (model X.prog X.w) X.A X.env X.xe
 room:Room k X.A
 base:BaseOk X.prog X.w X.K X.mg X.base cl k Γ
noncomputable def pP(x:Str):List Str->Option Nat
 | []=>none
 | y::r=>if y==x then some 0 else (pP x r).map (· + 1)
noncomputable def Ko(Γ:RC)(x:Str):Option ME:=match pP x Γ.N with
 | some i=>if VQ Γ.sc Γ.N i x=true then some (ze i) else none
 | none=>match Γ.con.lookup x with
  | some w=>if xX Γ.sc x=true then some (eC w) else none
  | none=>none
noncomputable def rj:Const->Option ME
 | .none=>some (eC .non)
 | .bool b=>some (eC (.bl b))
 | .int i=>some (eC (.int i))
 | .str x=>some (eC (.str x))
 | _=>none
noncomputable def Cs(mu:Bool):Operator->Option (W->W->M W)
 | .Add=>some addW
 | .Sub=>some xJ
 | .Mult=>some kC
 | .Mod=>some yv
 | .FloorDiv=>some uM
 | _=>none
noncomputable def WV:CmpOp->Option (W->W->M W)
 | .Eq=>some (vn false)
 | .NotEq=>some (vn true)
 | .In=>some (u9 false)
 | .NotIn=>some (u9 true)
 | .Lt=>some ie
 | .LtE=>some gK
 | .Gt=>some WH
 | .GtE=>none
 | .Is=>some (y0 true)
 | .IsNot=>some (y0 false)
noncomputable def tm(Γ:RC):Expr->Option MG
 | .Name x _=>match pP x Γ.N with
  | some i=>match Γ.inC with
   | true=>if setC Γ.sc Γ.N i x=true then some (zC i) else none
   | false=>if setB Γ.sc Γ.N i x=true then some (zC i) else none
  | none=>none
 | _=>none
noncomputable def J3(Γ:RC):Expr->Option MG
 | .Tuple es _ _=>if es.all noStar=true then (ve (tm Γ) es).map bX else none
 | e=>tm Γ e
noncomputable def Ci:Expr->Nat
 | .Tuple es _ _=>es.length
 | _=>1
section
variable{Γ:RC}{cl:Cl}{k:Nat}{X:Cx}{x:Str}{m:ME}{pos:Pos}
def QO(F:Fits Γ cl k X)(h:Ko Γ x=some m):SE X cl (.Name x pos) m:=by
 unfold Ko at h;split at h
 .split at h
  .rename_i i _ q
   cases h;exact v_ q F.sc F.N
  .cases h
 .split at h
  .rename_i w e
   split at h
   .rename_i q
    cases h;exact Ga q (F.base.con.at e) F.sc
   .cases h
  .cases h
def Qb{c:Const}(h:rj c=some m):SE X cl (.Constant c j pos) m:=by
 unfold rj at h;split at h
 .cases h;exact BK
 .cases h;exact Dq
 .cases h;exact UX
 .cases h;exact CO
 .cases h
def UG{f:W->W->M W}(h:Cs mu op=some f):qh X (binaryOp op) (rM X.K cl f):=by
 unfold Cs at h;split at h
 .cases h;exact Y3
 .cases h;exact Xa
 .cases h;exact Y8
 .cases h;exact XM
 .cases h;exact Ui
 .cases h
def fg{f:W->W->M W}(hu:X.A.units+64<cLine)(h:WV op=some f):qh X (compareOp op) (rM X.K cl f):=by
 cases op<;>cases h
 .exact B1 hu
 .exact De hu
 .exact B2
 .exact BQ
 .exact Cj
 .exact Br
 .exact Jf
 .exact UL hu
 .exact Jt hu
def ZA(F:Fits Γ cl k X)(h:tm Γ e=some g):SG X cl e g:=by
 unfold tm at h;split at h
 .rename_i x p
  split at h
  .rename_i i _
   split at h
   .split at h
    .rename_i q
     cases h;exact Gp q (F.N▸F.nd) F.sc F.N
    .cases h
   .rename_i c
    split at h
    .rename_i q
     cases h;exact g_ q (F.N▸F.nd) F.sc F.N (F.fn c _)
    .cases h
  .cases h
 .cases h
def gY{α β:Type}{f:α->Option β}{x:α}{r:List α}{ys:List β}(h:ve f (x::r)=some ys):∃y zs,f x=some y/\ve f r=some zs/\ys=y::zs:=by
 unfold ve at h;split at h
 .rename_i y zs e1 e2
  cases h;exact⟨y,zs,e1,e2,rfl⟩
 .cases h
theorem Zn(F:Fits Γ cl k X):∀{es:List Expr} {gs:List MG},es.all noStar=true->ve (tm Γ) es=some gs->Jr X cl es gs
 | [],gs,_,h=>by cases h;exact YX
 | e::es,gs,hn,h=>by
  obtain⟨g,gs',h1,h2,rfl⟩:=gY h;rw[jt,zu] at hn;exact VS (ZA F h1) (Zn F hn.2 h2) (by rw[uf hn.1];rfl)
theorem rQ{α β:Type}{f:α->Option β}:∀{l:List α} {ys:List β},ve f l=some ys->ys.length=l.length
 | [],ys,h=>by cases h;rfl
 | x::r,ys,h=>by
  obtain⟨y,zs,_,h2,rfl⟩:=gY h;rw[zp,zp,rQ h2]
def su(F:Fits Γ cl k X)(h:J3 Γ e=some g):SG X cl e g:=by
 unfold J3 at h;split at h
 .rename_i es n p
  split at h
  .rename_i hn
   rw[zg] at h;obtain⟨gs,h1,rfl⟩:=h;exact UB F.calm (Zn F hn h1) (by rw[lP hn,rQ h1]) (iZ hn)
  .cases h
 .exact ZA F h
end
end ML
namespace ML
open PySem PySem.W PySem.Spec PyProof.Rows L2
section
variable{prog:Program}{w:World}{A:Around}{E:Value->Shared->Prop}{s:Shared}{r l:Addr}{items:Array Value}
def lY{α:Type}{c:Bool}{X Y:Sem α}{Q:α->Shared->Prop}(hc:c=false)(h:wpAny (model prog w) A Y Q E s):wpAny (model prog w) A (if c=true then X else Y) Q E s:=by
 rw[hc,kO (by simp)];exact h
def C8{α:Type}{c:Bool}{X Y:Sem α}{Q:α->Shared->Prop}(hc:c=true)(h:wpAny (model prog w) A X Q E s):wpAny (model prog w) A (if c=true then X else Y) Q E s:=by
 rw[hc,zY rfl];exact h
def Xq:typeLookup (.type "list_reverseiterator") "__len__" = pure none:=by rw[ql,jH];kernel_rfl
def V0:typeLookup (.type "list_reverseiterator") "__length_hint__" = pure (some (.builtin "list_reverseiterator.__length_hint__")):=by rw[ql,jH];kernel_rfl
def Ww(hT:s.TypeIs (.ref r) "list_reverseiterator")(h:Q false s):wpAny (model prog w) A (Builtin.List.listLengthHint (.ref r)) Q E s:=by
 unfold Builtin.List.listLengthHint;refine za (vO hT Xq ?_);dsimp only;refine lY ⋯ ?_;refine lY ⋯ ?_;refine wpAny_bind (wpAny_specialOf hT V0 ?_);dsimp only;generalize hid:("list_reverseiterator.__length_hint__":String)=idl;rw[show splitId idl=some ("list_reverseiterator","__length_hint__") from by subst hid;decide +kernel];subst hid;dsimp only;refine wpAny_bind (wpAny_isInstance (b:=true) hT (by rw[isSubtype_type];kernel_rfl) ?_);rw[kO (by decide)];refine C8 ⋯ ?_;refine lY ⋯ ?_;exact zr h
def Z9(hh:A.handled=none)(hit:s.heap.IsRevIter r l ((items.size:Int)-1))(hl:s.heap.IsList l items)(hne:l≠r)(S:Addr)(hSr:S≠r)(hSl:S≠l)(c0:Nat)(hS:s.heap.get? S=some { cls:=.type "list",data:=.seq #[] c0 })(hn:items.size<=sizeLine)
  (hR:∀h' tk c',(∀b o,b≠S->b≠r->s.heap.get? b=some o->h'.get? b=some o)->h'.get? S=some { cls:=.type "list",dict:=none,data:=.seq items.reverse c',slots:=#[] }->R (.ok (.ret .none)) { s with heap:=h',toks:=tk }) :
  wpAny (model prog w) A.in1 (Builtin.List.listExtendWith (.ref S) (.ref r) .none)
   (λfin s'=>match fin with | .done f=>R (.ok f) s' | .again c'=>c'.quiet=true/\codeAny (model prog w) A c' R s') (λe s'=>R (.error e) s') s:=by
 have hSf:S∉[r,l]:=by simp only[zb,zc,zM,j0];exact⟨hSr,hSl⟩
 have W:=Walks.listRev (prog:=prog) (w:=w) (A:=A.in1) hh r l hne items;have e0:(items.size:Int)-1-((0:Nat):Int)=(items.size:Int)-1:=by omega
 have key:∀(h:Heap) (c1:Nat),h.IsRevIter r l ((items.size:Int)-1)->h.IsList l items->(∀b o,b≠S->b≠r->s.heap.get? b=some o->h.get? b=some o)->
   h.get? S=some { cls:=.type "list",data:=.seq #[] c1 }->codeAny (model prog w) A (.builtin "list.extend.loop" ⟨[.ref S,.ref r,.none],[]⟩) R { s with heap:=h }:=by
  intro h c1 q1 q2 hk hS1;refine codeAny_extend_loopS W.toS hn S hSf .none items.size 0 _ #[] c1 rfl (qO _) ⟨qO _,by rw[e0];exact q1,q2⟩ hS1 (ItemsOf.nil _) λs' acc' c' hm hS' hacc=>?_
  rw[Moved.eq_with hm];have er:acc'=items.reverse:=by
   apply Array.ext
   .rw[hacc.1,Array.size_reverse]
   .intro j a1 a2
    have:items[items.size-1-j]?=some acc'[j]:=hacc.2 j acc'[j] (by simp[a1]);rw[Array.getElem_reverse];rw[Array.getElem?_eq_getElem (by rw[hacc.1] at a1;omega)] at this;exact(kh this).symm
  subst er;refine hR s'.heap s'.toks c' (λb o hb hb2 e=>hm.heap b o (λhmem=>?_) (hk b o hb hb2 e)) hS';rcases zb.mp hmem with e' | hmem
  .exact hb e'
  .exact hb2 (xx.mp hmem)
 unfold Builtin.List.listExtendWith;refine za (jZ hit.typeIs ?_);have h1:Builtin.List.listSameRef (.ref S) (.ref r)=false:=by simp[Builtin.List.listSameRef,hSr]
 refine lY (by rw[h1];rfl) ?_;refine za (wpAny_pyIter_revIter hit ?_);refine za (jb (Ww hit.typeIs ?_));refine wpAny_ite_split (λ_=>?_) (λ_=>zr ⟨qZ yx _,key s.heap c0 hit hl (λb o _ _ e=>e) hS⟩);refine za (qx ?_);refine za ?_;show wpAny _ _ (updateSeq S (·.push .none) >>= λ_=>updateSeq S (·.pop)) _ _ _
 refine za (vN hS rfl ?_);have hS2:=jL (Obj.mapSeq (·.push Value.none)) hS rfl;refine vN hS2 rfl ?_;have hS3:=jL (Obj.mapSeq (·.pop)) hS2 rfl;have oth:∀b o,b≠S->s.heap.get? b=some o->((s.heap.update S (Obj.mapSeq (·.push Value.none))).update S (Obj.mapSeq (·.pop))).get? b=some o:=λb o hb e=>(qC _ _ (kY hb)).trans ((qC _ _ (kY hb)).trans e)
 exact zr ⟨qZ yx _,key _ _ (hit.at λo e=>oth _ _ (kY hSr) e) (hl.at λo e=>oth _ _ (kY hSl) e) (λb o hb _ e=>oth b o hb e) hS3⟩
def Vt(hh:A.handled=none)(hit:s.heap.IsRevIter r l ((items.size:Int)-1))(hl:s.heap.IsList l items)(hne:l≠r)(hn:items.size<=sizeLine)
  (hQ:∀h' tk c',(∀b o,b≠r->s.heap.get? b=some o->h'.get? b=some o)->h'.get? s.heap.objs.size=some { cls:=.type "list",dict:=none,data:=.seq items.reverse c',slots:=#[] }->Q (.ref s.heap.objs.size) { s with heap:=h',toks:=tk }) :
  wpAny (model prog w) A (call (.type "list") [.ref r]) Q E s:=by
 have ltr:r<s.heap.objs.size:=by obtain⟨o,e,_⟩:=hit;exact zA e
 have ltl:l<s.heap.objs.size:=by obtain⟨o,e,_⟩:=hl;exact zA e
 refine ye (Q₁:=λobj s1=>obj=.ref s.heap.objs.size/\s1={ s with heap:=s.heap.push { cls:=.type "list",data:=.seq #[] } }) PySem.F.called_list (PySem.F.typeCall_list_1 _) PySem.F.entry_list_init (code_list_new _ ⟨rfl,rfl⟩) λobj s1 h1=>?_
 obtain⟨rfl,rfl⟩:=h1;have hS:(s.heap.push { cls:=.type "list",data:=.seq #[] }).get? s.heap.objs.size=some { cls:=.type "list",data:=.seq #[] }:=zQ _ rfl;refine⟨⟨_,hS,rfl⟩,PySem.F.args_list_init_2 _ _,?_⟩;show wpAny _ _ (do let old <-Builtin.List.listItems (.ref s.heap.objs.size);Builtin.List.listUpdate (.ref s.heap.objs.size) (λ_=>#[]);letGo old.toList.reverse;Builtin.List.listExtendWith (.ref s.heap.objs.size) (.ref r) .none) _ _ _
 refine za ?_;unfold Builtin.List.listItems;refine za (jF hS rfl (zr ?_));show wpAny _ _ (updateSeq s.heap.objs.size (λ_=>#[]) >>= λ_=>letGo (#[]:Array Value).toList.reverse >>= λ_=>Builtin.List.listExtendWith (.ref s.heap.objs.size) (.ref r) .none) _ _ _
 refine za (vN hS rfl ?_);have hS2:=jL (Obj.mapSeq (λ_=>(#[]:Array Value))) hS rfl;have oth:∀b o,b≠s.heap.objs.size->s.heap.get? b=some o->((s.heap.push { cls:=.type "list",data:=.seq #[] }).update s.heap.objs.size (Obj.mapSeq (λ_=>(#[]:Array Value)))).get? b=some o:=
  λb o hb e=>(qC _ _ (kY hb)).trans (zf _ e)
 refine za (yP ?_);refine Z9 (A:=A.in1) hh (hit.at λo e=>oth _ _ (zW ltr) e) (hl.at λo e=>oth _ _ (zW ltl) e) hne _ (qg ltr) (qg ltl) _ hS2 hn λh' tk c' hk hS'=>?_
 exact⟨rfl,hQ h' tk c' (λb o hb e=>hk b o (zW (zA e)) hb (oth b o (zW (zA e)) e)) hS'⟩
end
noncomputable def nu(w:W):M W:=λh=>(getL h w).bind λl=>if l.length<=1000 then some (.fls l.reverse,h) else none
theorem RWs.rev{K:PySem.W.Frag}{μ:List Addr}{H:Hp}:∀{l:List W} {vs:List V},RWs K μ H l vs->RWs K μ H l.reverse vs.reverse
 | _,_,.nil=>.nil
 | _,_,.cons r rs=>by
  rw[qW,qW];exact(RWs.rev rs).append (.cons r .nil)
theorem pU:∀{vs:List V} {us:List Value},Vals vs us->Vals vs.reverse us.reverse
 | _,_,.nil=>.nil
 | _,_,.cons r rs=>by
  rw[qW,qW];exact(pU rs).append (.cons r .nil)
section
variable{X:Cx}{cl:Cl}{a:Expr}{ma:ME}{p p2 p3 pos:Pos}
def Xj(hc:X.calm=true)(hl:X.mg "list" = none)(hs:X.mg "reversed" = none)(ha:SE X cl a ma)(hg:Gl X "list")(hg2:Gl X "reversed")
  (he1:starEach [a] X.env=(false,eval a X.env)::starEach [] X.env) (hpl1:(backTo p3 (starEach [] X.env)).any (·.1)=false)
  (he2:starEach [.Call (.Name "reversed" p2) [a] [] p3] X.env=(false,eval (.Call (.Name "reversed" p2) [a] [] p3) X.env)::starEach [] X.env) (hpl2:(backTo pos (starEach [] X.env)).any (·.1)=false) :
  SE X cl (.Call (.Name "list" p) [.Call (.Name "reversed" p2) [a] [] p3] [] pos) (ug nu ma):=by
 rintro pins s σ H Q I ⟨μ,h,ρ,w,h',R,er,e,k⟩;obtain⟨x,h1,e1,e⟩:=ka e;have hv:bootBuiltins "reversed" = some (.type "reversed"):=by decide +kernel
 have hv2:bootBuiltins "list" = some (.type "list"):=by decide +kernel
 refine jy (ud I hg hl hv2 ?_ (by decide) (by decide));refine jo ?_ he2 hpl2;rw[he2];show wpAny _ _ (spliced ((false,eval (.Call (.Name "reversed" p2) [a] [] p3) X.env)::backTo pos (starEach [] X.env))) _ _ s
 have h0:∀{q:Pos},backTo q (starEach [] X.env)=[]:=λ{q}=>rfl
 rw[h0];refine qF ?_;refine jy (ud I hg2 hs hv ?_ (by decide) (by decide));refine jo ?_ he1 hpl1;rw[he1];show wpAny _ _ (spliced ((false,eval a X.env)::backTo p3 (starEach [] X.env))) _ _ s
 rw[h0];refine qF (kA (ha pins s σ H (λv H1=>∃μ1,Ext μ H μ1 H1/\HR X.K cl μ1 H1 h1/\RW X.K μ1 H1 x v) I ⟨μ,h,ρ,x,h1,R,er,e1,λμ1 H1 v E1 R1 r=>⟨μ1,E1,R1,r⟩⟩) λu s1 ⟨v,H1,I1,r1,μ1,E1,R1,rv⟩=>vp ?_);obtain⟨l,el,e⟩:=zm.mp (show(getL h1 x).bind _=some (w,h') from e);by_cases ok:l.length<=1000
 .rw[zY ok] at e
  cases e;obtain⟨d,vs,rfl,sq,ra⟩:=xb R1 rv el;cases r1;obtain⟨its,rvs,⟨o,n,g1,g2,g3,g4⟩,_⟩:=I1.list sq;have hl1:s1.heap.IsList d its.toArray:=⟨o,g1,g2,n,g4⟩;have lt:d<s1.heap.objs.size:=zA g1;have lenI:its.length=l.length:=by rw[<-rvs.length,ra.length]
  refine call_reversed_list hl1 ?_;have keep1:∀b ob,s1.heap.get? b=some ob->(s1.heap.push (revObj d ((its.toArray.size:Int)-1))).get? b=some ob:=λb ob q=>zf _ q
  refine vp (Vt (s:={ s1 with heap:=s1.heap.push (revObj d ((its.toArray.size:Int)-1)) }) (items:=its.toArray) (I1.ok.hd hc) ⟨_,zQ _ rfl,rfl,rfl⟩ (hl1.push _) (zW lt) (by simp[vm];omega) λh2 tk c' kp ob=>?_);have sz:(s1.heap.push (revObj d ((its.toArray.size:Int)-1))).objs.size=s1.heap.objs.size+1:=j4 ..;have keep2:∀b ob,s1.heap.get? b=some ob->h2.get? b=some ob:=λb ob q=>kp b ob (zW (zA q)) (keep1 b ob q)
  have le1:s1.heap.objs.size<=(s1.heap.push (revObj d ((its.toArray.size:Int)-1))).objs.size:=by rw[sz];exact vq _
  have q2:=pU rvs;refine⟨.ref _,_,I1.laid (o:=.lst vs.reverse) (t':=tk) keep2 le1 ⟨by rw[jW,rvs.length,lenI,vm];omega,_,c',q2,by simpa using ob⟩,rfl,?_⟩;exact KQ.fls (k.ext E1) R1 ra.rev (I1.hok.fresh le1)
 .rw[kO ok] at e;cases e
end
noncomputable def pT(ws:List W):M W:=λh=>match ws with
 | [.fls [.int a,.int b]]=>some (.int (if b<a then b else a),h)
 | _=>none
section
variable{X:Cx}{cl:Cl}
def JM(hc:X.calm=true):yB X (.builtin "min") (rMs X.K cl pT):=by
 rintro pins s σ H xs us Q I rs ⟨μ,h,ws,w,h',R,ax,e,k⟩;unfold pT at e;split at e
 .rename_i i j
  cases e;cases ax with | cons r t=>cases t with | nil=>
  obtain⟨a,vs,rfl,sa,ra⟩:=b6 (l:=[.int i,.int j]) R r rfl;obtain⟨u,rfl,ru⟩:=rs.one;cases ru;have hh:=I.ok.hd hc;refine call_min_walk (sN (A:=X.A.in1) I sa hh λus it fp wr St h1 rv W hst hfp hwr k1=>?_);obtain⟨hl,hv⟩:=gN (bs:=[i,j]) rfl ra rv;refine⟨it,fp,wr,_,_,St,_,rfl,W,hst,hfp,by rw[hl];exact Nat.zero_lt_succ _,CmpOf.ints_lt (λi'=>[i,j].getD i' 0) (λa b=>hv _ _),λv h2 tk hP k2=>?_⟩;obtain⟨t,rfl⟩:=hv _ _ hP;refine⟨.int _,H,(show Inv X pins σ H { s with heap:=h2,toks:=tk } from lR I k1 hwr k2),⟨t,?_⟩,k.pure R (.int _)⟩;rw[hl];simp only[zp,zV,argBest];by_cases q:j<i<;>simp[q]
 .cases e
def boot_min:bootBuiltins "min" = some (.builtin "min"):=by decide +kernel
end
end ML
namespace ML
open PySem PySem.Spec PyProof.Rows L2
noncomputable def bq(E:Expr->Option ME)(es:List Expr):Option (List ME):=if es.all noStar=true then ve E es else none
noncomputable def uZ(Γ:RC)(x:Str):Bool:=Γ.bin.any (· == x)
noncomputable def tyOf(x:Str):Option Ty:=if x=="tuple" then some .tuple else none
noncomputable def li(mu:Bool)(x:Str):Option (List W->M W):=
 if x=="min" then some pT else if x=="len" then some kT else if x=="sum" then some eD
 else if x=="int" then some mU else if x=="tuple" then some ue else if x=="dict" then (match mu with
  | true=>some mB
  | false=>some iM)
 else if x=="list" then some gu
 else none
noncomputable def rY:List Expr->Option Expr
 | [.Call (.Name y _) [a] [] _]=>if y=="reversed" then some a else none
 | _=>none
noncomputable def pC:List Expr->Option (Expr×Expr)
 | [.Call (.Name y _) [a,b] [] _]=>if y=="zip" then some (a,b) else none
 | _=>none
noncomputable def rf(Γ:RC):List Expr->Option (Expr×Ty)
 | [a,.Name y _]=>if (xX Γ.sc y&&uZ Γ y&&noStar a)=true then (tyOf y).map λT=>(a,T) else none
 | _=>none
noncomputable def pe(Γ:RC)(E:Expr->Option ME)(mu:Bool)(x:Str)(as:List Expr):Option ME:=
 if x=="isinstance" then (rf Γ as).bind λp=>(E p.1).map (ug (isW p.2))
 else match as with
  | []=>none
  | _::_=>(li mu x).bind λg=>(bq E as).map (zh g)
noncomputable def rn(Γ:RC)(E:Expr->Option ME)(mu:Bool)(x:Str)(as:List Expr):Option ME:=
 if xX Γ.sc x=true then (match Γ.fns.lookup x with
  | some g=>(bq E as).map (zh g)
  | none=>if uZ Γ x=true then (match rY as with
    | some a=>if (x=="list" && xX Γ.sc "reversed" && uZ Γ "reversed" && noStar a)=true then (E a).map (ug nu) else none
    | none=>(match pC as with
     | some p=>if (x=="dict" && xX Γ.sc "zip" && uZ Γ "zip" && noStar p.1&&noStar p.2)=true then (E p.1).bind λm=>(E p.2).map λm2=>iP [m,m2] else none
     | none=>pe Γ E mu x as)) else (match Γ.mks.lookup x,as with
    | some p,_::_=>(bq E as).map (uq p.1 p.2)
    | _,_=>none)) else none
noncomputable def isOwn(Γ:RC)(m:Str):Bool:=Γ.mt.any λp=>p.1.2==m
noncomputable def Ks(Γ:RC)(E EM:Expr->Option ME)(o:Expr)(m:Str)(apos:Pos)(as:List Expr)(pos:Pos):Option ME:=
 if (sx o&&(apos.endLine==pos.line)&&as.all noStar&&decide (as.length<30))=true then (E o).bind λmo=>if isOwn Γ m=true then (ve E as).map (kb Γ.mt m mo) else match as with
  | []=>if m=="pop" then some (kD uI mo []) else none
  | a::r=>if m=="append" then (ve EM (a::r)).map (kD qf mo)
   else if m=="extend" then (ve E (a::r)).map (kD uP mo)
   else if m=="get" then (match r with
    | [b]=>(E a).bind λma=>(E b).map (mm mo ma)
    | _=>none)
   else none
 else none
section
variable{Γ:RC}{cl:Cl}{k:Nat}{X:Cx}{x:Str}{m:ME}{pos p:Pos}{E:Expr->Option ME}{as:List Expr}{mu:Bool}
theorem u7:∀{es:List Expr} {ms:List ME},(∀e m,E e=some m->SE X cl e m)->es.all noStar=true->ve E es=some ms->SA X cl es ms
 | [],ms,_,_,h=>by cases h;exact gX
 | e::es,ms,hE,hn,h=>by
  obtain⟨m,ms',h1,h2,rfl⟩:=gY h;rw[jt,zu] at hn;exact uW (hE _ _ h1) (u7 hE hn.2 h2) (kF hn.1)
def uu{es:List Expr}(hE:∀e m,E e=some m->SE X cl e m)(h:bq E es=some ms):es.all noStar=true/\SA X cl es ms:=by
 unfold bq at h;split at h
 .rename_i hn
  exact⟨hn,u7 hE hn h⟩
 .cases h
def ui(F:Fits Γ cl k X)(h:uZ Γ x=true):X.mg x=none:=by
 unfold uZ at h;obtain⟨y,hy,e⟩:=qm.mp h;rw[<-eq_of_beq e];exact F.base.bin.at hy
def Xh{T:Ty}(h:tyOf x=some T):bootBuiltins x=some (.type T.name):=by
 unfold tyOf at h;split at h
 .rename_i q;rw[eq_of_beq q];cases h;exact oF
 .cases h
def tH(F:Fits Γ cl k X)(hg:xX Γ.sc x=true)(hb:uZ Γ x=true)(h:li mu x=some g)(hn:(e::es).all noStar=true)(ha:SA X cl (e::es) ms):SE X cl (.Call (.Name x p) (e::es) [] pos) (zh g ms):=by
 have hm:=ui F hb;rw[jt,zu] at hn;have h1:=kF (es:=es) (env:=X.env) hn.1;have h2:=j1 (pos:=pos) (env:=X.env) hn.2;unfold li at h;split at h
 .rename_i q;have q:=eq_of_beq q;subst q;cases h;exact US hg (JM F.calm) hm ML.boot_min ha F.sc h1 h2
 split at h
 .rename_i q;have q:=eq_of_beq q;subst q;cases h;exact US hg QE hm PySem.boot_len ha F.sc h1 h2
 split at h
 .rename_i q;have q:=eq_of_beq q;subst q;cases h;exact US hg (QF F.calm) hm ML.boot_sum ha F.sc h1 h2
 split at h
 .rename_i q;have q:=eq_of_beq q;subst q;cases h;exact K7 hg Jm hm YT ha F.sc h1 h2
 split at h
 .rename_i q;have q:=eq_of_beq q;subst q;cases h;exact K7 hg tD hm oF ha F.sc h1 h2
 split at h
 .rename_i q;have q:=eq_of_beq q;subst q
  split at h
  .cases h;exact K7 hg KH hm sC ha F.sc h1 h2
  .cases h;exact K7 hg (Z0 F.calm) hm sC ha F.sc h1 h2
 split at h
 .rename_i q;have q:=eq_of_beq q;subst q;cases h;exact K7 hg Kx hm Wz ha F.sc h1 h2
 .cases h
def K2{T:Ty}(h:rf Γ as=some (a,T)):∃y p2,as=[a,.Name y p2]/\xX Γ.sc y=true/\uZ Γ y=true/\noStar a=true/\tyOf y=some T:=by
 unfold rf at h;split at h
 .rename_i a' y p2
  split at h
  .rename_i q
   rw[zg] at h;obtain⟨T',e,z⟩:=h;cases z;simp only[zu] at q;exact⟨y,p2,rfl,q.1.1,q.1.2,q.2,e⟩
  .cases h
 .cases h
def Jd(F:Fits Γ cl k X)(hE:∀e m,E e=some m->SE X cl e m)(hg:xX Γ.sc x=true)(hb:uZ Γ x=true)(h:pe Γ E mu x as=some m):SE X cl (.Call (.Name x p) as [] pos) m:=by
 unfold pe at h;split at h
 .rename_i q
  have q:=eq_of_beq q;subst q;rw[zm] at h;obtain⟨⟨a,T⟩,e,h⟩:=h;rw[zg] at h;obtain⟨ma,e2,rfl⟩:=h;obtain⟨y,p2,rfl,g2,b2,ns,ty⟩:=K2 e;exact FQ T hg g2 (hE _ _ e2) (ui F hb) (ui F b2) (Xh ty) F.sc (kF ns) (kF rfl) (j1 rfl)
 .split at h
  .cases h
  .rw[zm] at h
   obtain⟨g,e,h⟩:=h;rw[zg] at h;obtain⟨ms,e2,rfl⟩:=h;obtain⟨hn,ha⟩:=uu hE e2;exact tH F hg hb e hn ha
def JY(h:rY as=some a):∃p2 p3,as=[.Call (.Name "reversed" p2) [a] [] p3]:=by
 unfold rY at h;split at h
 .rename_i y p2 a' p3
  split at h
  .rename_i q
   cases h;rw[eq_of_beq q];exact⟨p2,p3,rfl⟩
  .cases h
 .cases h
def K3{q:Expr×Expr}(h:pC as=some q):∃p2 p3,as=[.Call (.Name "zip" p2) [q.1,q.2] [] p3]:=by
 unfold pC at h;split at h
 .rename_i y p2 a b p3
  split at h
  .rename_i z
   cases h;rw[eq_of_beq z];exact⟨p2,p3,rfl⟩
  .cases h
 .cases h
def KU(F:Fits Γ cl k X)(hE:∀e m,E e=some m->SE X cl e m)(h:rn Γ E mu x as=some m):SE X cl (.Call (.Name x p) as [] pos) m:=by
 unfold rn at h;split at h
 .rename_i hg
  split at h
  .rename_i g e
   rw[zg] at h;obtain⟨ms,e2,rfl⟩:=h;obtain⟨hn,ha⟩:=uu hE e2;obtain⟨f,fd,ps,fo,hm,hk,hb⟩:=F.base.fns.at e;cases as with
   | nil=>
    have:ms=[]:=by
     cases e2;rfl
    subst this;exact Gb hg fo F.room hm hk hb F.sc
   | cons a r=>
    rw[jt,zu] at hn;exact c_ hg fo F.room hm hk hb ha F.sc (kF hn.1) (j1 hn.2)
  .split at h
   .rename_i hb
    split at h
    .rename_i a e
     split at h
     .rename_i q
      simp only[zu] at q;rw[zg] at h;obtain⟨ma,e2,rfl⟩:=h;obtain⟨p2,p3,rfl⟩:=JY e;have hx:=eq_of_beq q.1.1.1;subst hx;exact Xj F.calm (ui F hb) (ui F q.1.2) (hE _ _ e2) (jS hg F.sc).1 (jS q.1.1.2 F.sc).1 (kF q.2) (j1 rfl) (kF rfl) (j1 rfl)
     .cases h
    .split at h
     .rename_i pr e
      split at h
      .rename_i q
       simp only[zu] at q;rw[zm] at h;obtain⟨m1,e1,h⟩:=h;rw[zg] at h;obtain⟨m2,e2,rfl⟩:=h;obtain⟨p2,p3,rfl⟩:=K3 e;have hx:=eq_of_beq q.1.1.1.1;subst hx;exact XH F.calm (ui F hb) (ui F q.1.1.2) (uW (hE _ _ e1) (uW (hE _ _ e2) gX (kF q.2)) (kF q.1.2)) (jS hg F.sc).1 (jS q.1.1.1.2 F.sc).1 (kF q.1.2) (j1 (by simp[q.2])) (kF rfl) (j1 rfl)
      .cases h
     .exact Jd F hE hg hb h
   .split at h
    .rename_i p' a r e
     rw[zg] at h;obtain⟨ms,e2,rfl⟩:=h;obtain⟨hn,ha⟩:=uu hE e2;rw[jt,zu] at hn;exact Xl (F.base.mks.at e) F.room ha (jS hg F.sc).1 (jS hg F.sc).2.1 (kF hn.1) (j1 hn.2)
    .cases h
 .cases h
def Vu(F:Fits Γ cl k X)(hE:∀e m,E e=some m->SE X cl e m)(hM:∀e m,EM e=some m->SE X cl e m)(h:Ks Γ E EM o nm apos as pos=some m):SE X cl (.Call (.Attribute o nm apos) as [] pos) m:=by
 unfold Ks at h;split at h
 .rename_i q
  simp only[zu] at q;obtain⟨⟨⟨q1,q2⟩,q3⟩,q4⟩:=q;rw[zm] at h;obtain⟨mo,eo,h⟩:=h;split at h
  .rw[zg] at h
   obtain⟨ms,e2,rfl⟩:=h;have MT:=λc g=>F.base.mts c nm g
   have hr:=F.room;cases as with
   | nil=>cases e2;exact V3 MT hr (hE _ _ eo) (uS q1) q2 (hW q3 q4)
   | cons a r=>
    have hn:=q3;rw[jt,zu] at hn;exact Yy MT hr (hE _ _ eo) (u7 hE q3 e2) (uS q1) (hW q3 q4) q2 (kF hn.1) (j1 hn.2)
  split at h
  .split at h
   .rename_i z
    rw[eq_of_beq z];cases h;exact CD (hE _ _ eo) (uS q1) q2
   .cases h
  .rename_i a r
   have hn:=q3;rw[jt,zu] at hn;split at h
   .rename_i z
    rw[eq_of_beq z];rw[zg] at h;obtain⟨ms,e2,rfl⟩:=h;exact JA (hE _ _ eo) (u7 hM q3 e2) (uS q1) (hW q3 q4) q2 (kF hn.1) (j1 hn.2)
   split at h
   .rename_i z
    rw[eq_of_beq z];rw[zg] at h;obtain⟨ms,e2,rfl⟩:=h;exact Ji (hE _ _ eo) (u7 hE q3 e2) (uS q1) (hW q3 q4) q2 (kF hn.1) (j1 hn.2)
   split at h
   .rename_i z
    rw[eq_of_beq z];split at h
    .rename_i b
     rw[zm] at h;obtain⟨ma,e1,h⟩:=h;rw[zg] at h;obtain⟨mb,e2,rfl⟩:=h;have hb:noStar b=true:=by simpa using hn.2
     exact QN F.room.units (hE _ _ eo) (hE _ _ e1) (hE _ _ e2) ⟨uS q1,hW q3 q4,q2,by rw[dP hn.1,dP hb,fT];rfl⟩
    .cases h
   .cases h
 .cases h
end
noncomputable def isTup:Expr->Bool
 | .Tuple ..=>true
 | _=>false
noncomputable def pk(Γ:RC)(E:Expr->Option ME)(tg:Expr)(x:Str)(as:List Expr):Option MI:=
 if (xX Γ.sc x&&uZ Γ x&&as.all noStar)=true then (match as with
  | [e]=>if x=="range" then (E e).map λm=>vw [m]
   else if x=="reversed" then (E e).map λm=>nB [m]
   else none
  | [e,e2]=>if (x=="zip" && isTup tg)=true then (E e).bind λm=>(E e2).map λm2=>eu [m,m2] else none
  | _=>none) else none
noncomputable def Qf(Γ:RC)(E:Expr->Option ME)(tg:Expr):Expr->Option MI
 | .Call (.Name x _) as [] _=>pk Γ E tg x as
 | _=>none
noncomputable def oZ(Γ:RC)(E:Expr->Option ME)(tg it:Expr):Option MI:=match Qf Γ E tg it with
 | some m=>some m
 | none=>(E it).map qq
section
variable{Γ:RC}{cl:Cl}{k:Nat}{X:Cx}{x:Str}{pos p:Pos}{E:Expr->Option ME}{as:List Expr}{tg it:Expr}{mi:MI}
def Wv(h:isTup tg=true):∃es n tp,tg=.Tuple es n tp:=by
 unfold isTup at h;split at h
 .exact⟨_,_,_,rfl⟩
 .cases h
def JH(F:Fits Γ cl k X)(hE:∀e m,E e=some m->SE X cl e m)(h:pk Γ E tg x as=some mi):SI X cl tg (.Call (.Name x p) as [] pos) mi:=by
 unfold pk at h;split at h
 .rename_i q
  simp only[zu] at q;obtain⟨⟨q1,q2⟩,q3⟩:=q;split at h
  .rename_i e
   have hn:noStar e=true:=by simpa using q3
   split at h
   .rename_i z
    have z:=eq_of_beq z;subst z;rw[zg] at h;obtain⟨m,e1,rfl⟩:=h;exact F1 q1 (ui F q2) (uW (hE _ _ e1) gX (kF hn)) F.sc (by rw[kF hn,fT])
   split at h
   .rename_i z
    have z:=eq_of_beq z;subst z;rw[zg] at h;obtain⟨m,e1,rfl⟩:=h;exact BR (ui F q2) (uW (hE _ _ e1) gX (kF hn)) (jS q1 F.sc).1 (kF hn)
   .cases h
  .rename_i e e2
   rw[jt,zu] at q3;have hn2:noStar e2=true:=by simpa using q3.2
   split at h
   .rename_i z
    rw[zu] at z;obtain⟨es,n,tp,rfl⟩:=Wv z.2;have z:=eq_of_beq z.1;subst z;rw[zm] at h;obtain⟨m,e1,h⟩:=h;rw[zg] at h;obtain⟨m2,e3,rfl⟩:=h;exact FU q1 (ui F q2) (uW (hE _ _ e1) (uW (hE _ _ e3) gX (kF hn2)) (kF q3.1)) F.sc (kF q3.1) (j1 q3.2)
   .cases h
  .cases h
 .cases h
def sV(F:Fits Γ cl k X)(hE:∀e m,E e=some m->SE X cl e m)(h:oZ Γ E tg it=some mi):SI X cl tg it mi:=by
 unfold oZ at h;split at h
 .rename_i m e
  cases h;unfold Qf at e;split at e
  .exact JH F hE e
  .cases e
 .rw[zg] at h
  obtain⟨m,e1,rfl⟩:=h;exact BU (hE _ _ e1)
end
noncomputable def rE(T:Expr->Option MT):List Expr->Option MT
 | []=>some kL
 | [c]=>T c
 | _=>none
structure CompR where
 mi:MI
 nl:Nat
 ks:List Nat
 g:MG
 t:MT
 m:ME
noncomputable def RC.inner(Γ:RC)(scope:Scope)(N':List Str):RC:={ Γ with sc:=hV Γ.sc scope,N:=N',inC:=true }
noncomputable def Qq(Γ:RC)(E:RC->Bool->Expr->Option ME)(T:RC->Expr->Option MT)(elt tg it:Expr)(ifs:List Expr)(scope:Scope)(N':List Str):Option CompR:=
 if (oU it&&pR N')=true then (ve (λx=>pP x Γ.N) (N'.drop (Ci tg))).bind λks=>
  if uC Γ.sc Γ.N scope N' (Ci tg) ks=true then (oZ Γ (E Γ false) tg it).bind λmi=>(J3 (Γ.inner scope N') tg).bind λg=>(rE (T (Γ.inner scope N')) ifs).bind λt=>(E (Γ.inner scope N') false elt).map λm=>⟨mi,Ci tg,ks,g,t,m⟩
  else none
 else none
noncomputable def oK(Γ:RC)(E:RC->Bool->Expr->Option ME)(T:RC->Expr->Option MT)(elt:Expr)(gens:List Comprehension)(scope:Scope)(pos:Pos):Option CompR:=match gens with
 | [⟨tg,it,ifs,ia⟩]=>match Γ.cmp.lookup (pos.line,pos.col) with
  | some N'=>if ia=0 then Qq Γ E T elt tg it ifs scope N' else none
  | none=>none
 | _=>none
section
variable{Γ:RC}{cl:Cl}{k:Nat}{X:Cx}{E:RC->Bool->Expr->Option ME}{T:RC->Expr->Option MT}{elt:Expr}{gens:List Comprehension}{scope:Scope}{pos:Pos}{r:CompR}
theorem Fits.inner(F:Fits Γ cl k X){N':List Str}(hN:N'.Nodup)(hk:scope.kind=.function)(cs:List (Str×Addr))(C:Addr)(s₀:Shared)(H₀:Hp)(ex:List Addr):Fits (Γ.inner scope N') cl k (yi X scope cs C N' s₀ H₀ ex) where
 sc:=by
  show relabel scope X.env=hV Γ.sc scope
  rw[<-F.sc];rfl
 N:=rfl
 nd:=hN
 fn:=λh=>by cases h
 kind:=hk
 calm:=F.calm
 pass:=wR
 room:=F.room
 base:=⟨F.base.fns,F.base.con,F.base.tab,F.base.bin,F.base.pw,F.base.cls,F.base.mts,F.base.mks,F.base.way⟩
def Qr(hT:∀e m,t e=some m->ST X cl e m)(h:rE t ifs=some m):ij X cl ifs m:=by
 unfold rE at h;split at h
 .cases h;exact YQ
 .exact YJ (hT _ _ h)
 .cases h
structure CompG(X:Cx)(cl:Cl)(elt:Expr)(gens:List Comprehension)(scope:Scope)(r:CompR):Prop where
 ex:∃tg it ifs N',gens=[⟨tg,it,ifs,0⟩]/\uC X.env.scope X.N scope N' r.nl r.ks=true/\oU it=true/\SI X cl tg it r.mi/\(∀cs C s₀ H₀ ex,SG (yi X scope cs C N' s₀ H₀ ex) cl tg r.g)/\(∀cs C s₀ H₀ ex,ij (yi X scope cs C N' s₀ H₀ ex) cl ifs r.t)/\∀cs C s₀ H₀ ex,SE (yi X scope cs C N' s₀ H₀ ex) cl elt r.m
def pY(F:Fits Γ cl k X)(hE:∀Γ X,Fits Γ cl k X->∀mu e m,E Γ mu e=some m->SE X cl e m)(hT:∀Γ X,Fits Γ cl k X->∀e m,T Γ e=some m->ST X cl e m)(h:oK Γ E T elt gens scope pos=some r):CompG X cl elt gens scope r:=by
 unfold oK at h;split at h
 .rename_i tg it ifs ia
  split at h
  .rename_i N' _
   split at h
   .rename_i z
    subst z;unfold Qq at h;split at h
    .rename_i q
     rw[zu] at q;rw[zm] at h;obtain⟨ks,e1,h⟩:=h;split at h
     .rename_i ok
      rw[zm] at h;obtain⟨mi,e2,h⟩:=h;rw[zm] at h;obtain⟨g,e3,h⟩:=h;rw[zm] at h;obtain⟨t,e4,h⟩:=h;rw[zg] at h;obtain⟨m,e5,rfl⟩:=h;have Fi:=λcs C s₀ H₀ ex=>F.inner (scope:=scope) (Yb q.2) (u6 ok).kind cs C s₀ H₀ ex
      exact⟨tg,it,ifs,N',rfl,by rw[F.sc,F.N];exact ok,q.1,sV F (hE _ _ F false) e2,λcs C s₀ H₀ ex=>su (Fi cs C s₀ H₀ ex) e3,λcs C s₀ H₀ ex=>Qr (hT _ _ (Fi cs C s₀ H₀ ex)) e4,λcs C s₀ H₀ ex=>hE _ _ (Fi cs C s₀ H₀ ex) _ _ _ e5⟩
     .cases h
    .cases h
   .cases h
  .cases h
 .cases h
end
noncomputable def Ka(Γ:RC)(E:Expr->Option ME)(a:Expr)(op:CmpOp)(b:Expr):Option ME:=if behindInMarks op b=true then none else (WV op).bind λf=>(E a).bind λma=>(E b).map λmb=>zi f ma mb
noncomputable def Z8(E:Expr->Option ME)(a:Expr)(op op':CmpOp)(b c:Expr):Option ME:=
 if lastMarks [op,op'] [b,c]=true then none else (WV op).bind λf=>(WV op').bind λg=>(E a).bind λma=>(E b).bind λmb=>(E c).map λmc=>xk f g ma mb mc
noncomputable def ZW(Γ:RC)(E:Expr->Option ME)(a:Expr)(ops:List CmpOp)(bs:List Expr):Option ME:=match ops,bs with
 | [op],[b]=>Ka Γ E a op b
 | [op,op'],[b,c]=>Z8 E a op op' b c
 | _,_=>none
noncomputable def Ke(E:Expr->Option ME):Option Expr->Option (Option ME)
 | none=>some none
 | some e=>(E e).map some
noncomputable def pZ(E:Expr->Option ME)(ma:ME)(lo hi st:Option Expr):Option ME:=match st with
 | none=>(Ke E lo).bind λml=>(Ke E hi).map λmh=>ba ma ml mh
 | _=>none
noncomputable def mX(Γ:RC)(E:Expr->Option ME)(a b:Expr):Option ME:=match a with
 | .Name x _=>if (xX Γ.sc x&&bP b)=true then (match Γ.tab.lookup x with
  | some l=>(E b).map (ug (cv l))
  | none=>none) else none
 | _=>none
noncomputable def Yj(Γ:RC):Expr->Bool
 | .Name x _=>Γ.dic.any (· == x)
 | .Attribute _ f _=>Γ.dic.any (· == f)
 | _=>false
noncomputable def KP(Γ:RC)(mu:Bool)(p:Pos):Bool:=mu||Γ.mka.any (· == (p.line,p.col))
noncomputable def VO(Γ:RC)(E:Expr->Option ME)(a b:Expr):Option ME:=match mX Γ E a b with
 | some m=>some m
 | none=>(E a).bind λma=>match b with
  | .Slice lo hi st _=>pZ E ma lo hi st
  | b=>(E b).map (zi (match Yj Γ a with
   | true=>yn
   | false=>zw) ma)
noncomputable def lZ(op:BoolOp)(T:Expr->Option MT):List Expr->Option MT
 | []=>none
 | [a]=>T a
 | a::r=>(T a).bind λma=>(lZ op T r).map λmb=>match op with
  | .And=>dQ ma mb
  | .Or=>hZ ma mb
noncomputable def Z2(E:Expr->Option ME)(mu:Bool)(ks:List (Option Expr))(vs:List Expr):Option ME:=match ks,vs with
 | [],[]=>some (eC (.fdc []))
 | _,_=>none
noncomputable def QY(Γ:RC)(E:Expr->Option ME)(x:Str)(a:Expr)(as:List Expr):Option ME:=
 if (xX Γ.sc x&&bP a)=true then (match Γ.way.lookup x,as with
  | some ws,_::_=>(E a).bind λma=>(bq E as).map (Kd ws ma)
  | _,_=>none) else none
noncomputable def l5(mu:Bool)(r:CompR):ME:=match mu with
 | true=>xO r.mi r.nl r.ks r.g r.t r.m
 | false=>ja r.mi r.nl r.ks r.g r.t r.m
noncomputable def Kc(E:RC->Bool->Expr->Option ME)(T:RC->Expr->Option MT)(Γ:RC)(mu:Bool):Expr->Option ME
 | .Name x _=>Ko Γ x
 | .Constant c _ _=>rj c
 | .UnaryOp .USub a _=>(E Γ false a).map (ug gU)
 | .BinOp a op b _=>(Cs mu op).bind λf=>(E Γ false a).bind λma=>(E Γ false b).map (zi f ma)
 | .Compare a ops bs _=>ZW Γ (E Γ false) a ops bs
 | .IfExp t a b _=>(T Γ t).bind λmt=>(E Γ false a).bind λma=>(E Γ false b).map (ZG mt ma)
 | .Tuple es _ _=>(bq (E Γ false) es).map (zh zv)
 | .List es p=>match KP Γ mu p with
  | true=>(bq (E Γ true) es).map (zh xW)
  | false=>(bq (E Γ false) es).map (zh j2)
 | .Dict ks vs p=>Z2 (E Γ false) (KP Γ mu p) ks vs
 | .Subscript a b _=>VO Γ (E Γ false) a b
 | .Attribute o f _=>if sx o=true then (E Γ false o).map (kG Γ.fld f) else none
 | .Call (.Subscript (.Name x _) a _) as [] _=>QY Γ (E Γ false) x a as
 | .Call (.Name x _) as [] p=>rn Γ (E Γ false) (KP Γ mu p) x as
 | .Call (.Attribute o nm apos) as [] pos=>Ks Γ (E Γ false) (E Γ true) o nm apos as pos
 | .ListComp elt gens scope pos=>(oK Γ E T elt gens scope pos).map (l5 (KP Γ mu pos))
 | _=>none
noncomputable def stepT(E:RC->Bool->Expr->Option ME)(T:RC->Expr->Option MT)(Γ:RC):Expr->Option MT
 | .BoolOp op vs _=>lZ op (T Γ) vs
 | .UnaryOp .Not a _=>(T Γ a).map iG
 | .Compare a ops bs _=>(ZW Γ (E Γ false) a ops bs).map ke
 | e=>if plainT e=true then (E Γ false e).map ke else none
noncomputable def oE:Nat->(RC->Bool->Expr->Option ME)×(RC->Expr->Option MT)
 | 0=>(λ_ _ _=>none,λ_ _=>none)
 | n+1=>(Kc (oE n).1 (oE n).2,stepT (oE n).1 (oE n).2)
section
variable{Γ:RC}{cl:Cl}{k:Nat}{X:Cx}{m:ME}{pos p:Pos}{E:Expr->Option ME}{T:Expr->Option MT}{a b:Expr}{mu:Bool}
def QI(F:Fits Γ cl k X)(hE:∀e m,E e=some m->SE X cl e m)(h:Ka Γ E a op b=some m):SE X cl (.Compare a [op] [b] pos) m/\ST X cl (.Compare a [op] [b] pos) (ke m):=by
 unfold Ka at h;split at h
 .cases h
 .rename_i hm
  rw[Bool.not_eq_true] at hm;rw[zm] at h;obtain⟨f,e0,h⟩:=h;rw[zm] at h;obtain⟨ma,e1,h⟩:=h;rw[zg] at h;obtain⟨mb,e2,rfl⟩:=h;exact⟨CQ (fg F.room.units e0) (hE _ _ e1) (hE _ _ e2) hm,UA (fg F.room.units e0) (hE _ _ e1) (hE _ _ e2) hm⟩
def VG{c:Expr}(F:Fits Γ cl k X)(hE:∀e m,E e=some m->SE X cl e m)(h:Z8 E a op op' b c=some m):SE X cl (.Compare a [op,op'] [b,c] pos) m/\ST X cl (.Compare a [op,op'] [b,c] pos) (ke m):=by
 unfold Z8 at h;split at h
 .cases h
 .rename_i hm
  rw[Bool.not_eq_true] at hm;rw[zm] at h;obtain⟨f,e0,h⟩:=h;rw[zm] at h;obtain⟨g,e01,h⟩:=h;rw[zm] at h;obtain⟨ma,e1,h⟩:=h;rw[zm] at h;obtain⟨mb,e2,h⟩:=h;rw[zg] at h;obtain⟨mc,e3,rfl⟩:=h;exact⟨V5 (fg F.room.units e0) (fg F.room.units e01) (hE _ _ e1) (hE _ _ e2) (hE _ _ e3) hm,QU (fg F.room.units e0) (fg F.room.units e01) (hE _ _ e1) (hE _ _ e2) (hE _ _ e3) hm⟩
def tV{bs:List Expr}(F:Fits Γ cl k X)(hE:∀e m,E e=some m->SE X cl e m)(h:ZW Γ E a ops bs=some m):SE X cl (.Compare a ops bs pos) m/\ST X cl (.Compare a ops bs pos) (ke m):=by
 unfold ZW at h;split at h
 .exact QI F hE h
 .exact VG F hE h
 .cases h
def Zc(hE:∀e m,E e=some m->SE X cl e m)(h:Ke E o=some mo):SO X cl o mo:=by
 unfold Ke at h;split at h
 .cases h;exact XN
 .rw[zg] at h
  obtain⟨m,e1,rfl⟩:=h;exact YU (hE _ _ e1)
def KS{ma:ME}{lo hi st:Option Expr}(hE:∀e m,E e=some m->SE X cl e m)(ha:SE X cl a ma)(h:pZ E ma lo hi st=some m):SE X cl (.Subscript a (.Slice lo hi st p) pos) m:=by
 unfold pZ at h;split at h
 .rw[zm] at h
  obtain⟨ml,e1,h⟩:=h;rw[zg] at h;obtain⟨mh,e2,rfl⟩:=h;exact D4 ha (Zc hE e1) (Zc hE e2)
 .cases h
def KO(F:Fits Γ cl k X)(hE:∀e m,E e=some m->SE X cl e m)(h:mX Γ E a b=some m):SE X cl (.Subscript a b pos) m:=by
 unfold mX at h;split at h
 .split at h
  .rename_i q
   rw[zu] at q;split at h
   .rename_i l e
    rw[zg] at h;obtain⟨mb,e1,rfl⟩:=h;exact F8 q.1 F.room.units (F.base.tab.at e) (hE _ _ e1) F.sc (oN q.2)
   .cases h
  .cases h
 .cases h
def XE(F:Fits Γ cl k X)(hE:∀e m,E e=some m->SE X cl e m)(h:VO Γ E a b=some m):SE X cl (.Subscript a b pos) m:=by
 unfold VO at h;split at h
 .rename_i m' e
  cases h;exact KO F hE e
 .rw[zm] at h
  obtain⟨ma,e1,h⟩:=h;split at h
  .exact KS hE (hE _ _ e1) h
  .rename_i hb
   rw[zg] at h;obtain⟨mb,e2,h⟩:=h;have hn:bP b=true:=by cases b<;>first | rfl | exact absurd rfl (hb _ _ _ _)
   cases q:Yj Γ a with
   | true=>rw[q] at h;subst h;exact Bx F.room.units (hE _ _ e1) (hE _ _ e2) (oN hn)
   | false=>rw[q] at h;subst h;exact D8 (hE _ _ e1) (hE _ _ e2) (oN hn)
theorem nK(hT:∀e m,T e=some m->ST X cl e m):∀{vs:List Expr} {m:MT},lZ op T vs=some m->SW X cl (.BoolOp op vs pos) m
 | [],m,h=>by cases h
 | [a],m,h=>by
  cases op with
  | And=>exact XZ (hT _ _ h)
  | Or=>exact CY (hT _ _ h)
 | a::b::r,m,h=>by
  unfold lZ at h;rw[zm] at h;obtain⟨ma,e1,h⟩:=h;rw[zg] at h;obtain⟨mb,e2,h⟩:=h;have ih:=nK hT e2;cases op with
  | And=>subst h;exact B4 (hT _ _ e1) ih
  | Or=>subst h;exact Fc (hT _ _ e1) ih
def VM(hE:∀e m,E e=some m->SE X cl e m)(h:Z2 E mu ks vs=some m):SE X cl (.Dict ks vs pos) m:=by
 unfold Z2 at h;split at h
 .cases h;exact Xc
 .cases h
def Uc(F:Fits Γ cl k X)(hE:∀e m,E e=some m->SE X cl e m)(h:QY Γ E x a as=some m):SE X cl (.Call (.Subscript (.Name x p) a p2) as [] pos) m:=by
 unfold QY at h;split at h
 .rename_i q
  rw[zu] at q;split at h
  .rename_i ws a1 r e0
   rw[zm] at h;obtain⟨ma,e1,h⟩:=h;rw[zg] at h;obtain⟨ms,e2,rfl⟩:=h;obtain⟨hn,ha⟩:=uu hE e2;rw[jt,zu] at hn;exact BP F.room.units (F.base.way.at e0) F.room (hE _ _ e1) ha (oN q.2) (jS q.1 F.sc).1 (jS q.1 F.sc).2.1 (kF hn.1) (j1 hn.2)
  .cases h
 .cases h
end
section
variable{Γ:RC}{cl:Cl}{k:Nat}{X:Cx}{m:ME}{pos p:Pos}{E:RC->Bool->Expr->Option ME}{T:RC->Expr->Option MT}{mu:Bool}
def nF(F:Fits Γ cl k X)(g:CompG X cl elt gens scope r):SE X cl (.ListComp elt gens scope pos) (l5 mu r):=by
 obtain⟨tg,it,ifs,N',rfl,ok,hs,hi,hg,ht,he⟩:=g.ex;cases mu with
 | true=>exact Vw _ _ N' r.nl r.ks F.calm ok hi hg ht he rfl rfl (af hs)
 | false=>exact Uh _ _ N' r.nl r.ks F.calm ok hi hg ht he rfl rfl (af hs)
def Vq(hE:∀Γ X,Fits Γ cl k X->∀mu e m,E Γ mu e=some m->SE X cl e m)(hT:∀Γ X,Fits Γ cl k X->∀e m,T Γ e=some m->ST X cl e m)(F:Fits Γ cl k X)(h:Kc E T Γ mu e=some m):SE X cl e m:=by
 have hE':=hE _ _ F;have hF:=hE' false;have hT':=hT _ _ F;unfold Kc at h;split at h
 .exact QO F h
 .exact Qb h
 .rw[zg] at h
  obtain⟨ma,e1,rfl⟩:=h;exact DW YF (hF _ _ e1)
 .rw[zm] at h
  obtain⟨f,e0,h⟩:=h;rw[zm] at h;obtain⟨ma,e1,h⟩:=h;rw[zg] at h;obtain⟨mb,e2,rfl⟩:=h;exact DQ (UG e0) (hF _ _ e1) (hF _ _ e2)
 .exact(tV F hF h).1
 .rw[zm] at h
  obtain⟨mt,e0,h⟩:=h;rw[zm] at h;obtain⟨ma,e1,h⟩:=h;rw[zg] at h;obtain⟨mb,e2,rfl⟩:=h;exact DM (hT' _ _ e0) (hF _ _ e1) (hF _ _ e2)
 .rw[zg] at h
  obtain⟨ms,e1,rfl⟩:=h;exact Bi (uu hF e1).2
 .split at h
  .obtain⟨ms,e1,rfl⟩:=zg.mp h
   exact BM (uu (hE' true) e1).2
  .obtain⟨ms,e1,rfl⟩:=zg.mp h
   exact By (uu hF e1).2
 .exact VM hF h
 .exact XE F hF h
 .split at h
  .rename_i q
   rw[zg] at h;obtain⟨mo,e1,rfl⟩:=h;exact Cp F.base.cls (hF _ _ e1) (uS q)
  .cases h
 .exact Uc F hF h
 .exact KU F hF h
 .exact Vu F hF (hE' true) h
 .rw[zg] at h
  obtain⟨r,e1,rfl⟩:=h;exact nF F (pY F hE hT e1)
 .cases h
def Wa(hE:∀Γ X,Fits Γ cl k X->∀mu e m,E Γ mu e=some m->SE X cl e m)(hT:∀Γ X,Fits Γ cl k X->∀e m,T Γ e=some m->ST X cl e m)(F:Fits Γ cl k X)(h:stepT E T Γ e=some t):ST X cl e t:=by
 have hF:=hE _ _ F false;have hT':=hT _ _ F;unfold stepT at h;split at h
 .exact YI (nK hT' h)
 .rw[zg] at h
  obtain⟨ma,e1,rfl⟩:=h;exact CF (hT' _ _ e1)
 .rw[zg] at h
  obtain⟨ma,e1,rfl⟩:=h;exact(tV F hF e1).2
 .split at h
  .rename_i q
   rw[zg] at h;obtain⟨ma,e1,rfl⟩:=h;exact U4 (hF _ _ e1) (We q)
  .cases h
theorem ft:∀n,(∀Γ X,Fits Γ cl k X->∀mu e m,(oE n).1 Γ mu e=some m->SE X cl e m)/\(∀Γ X,Fits Γ cl k X->∀e m,(oE n).2 Γ e=some m->ST X cl e m)
 | 0=>⟨λ_ _ _ _ _ _ h=>(by cases h),λ_ _ _ _ _ h=>(by cases h)⟩
 | n+1=>⟨λΓ X F mu e m h=>Vq (ft n).1 (ft n).2 F h,λΓ X F e m h=>Wa (ft n).1 (ft n).2 F h⟩
end
def BC{i:Expr}(h:bP i=true):∀v,assign (.Subscript o i pos) env v=(do
   let ov <-holding [v] (eval o env)
   let iv <-holding [v,ov] (eval i env)
   standAt pos
   holding [v,ov,iv] (setItem ov iv v)
   release [v,ov,iv] []):=by
 intro v;cases i<;>first | (cases h;done) | kernel_rfl
theorem tN{i:Expr}:swappedStores [.Subscript o i p] e env=pure none:=rfl
noncomputable def oY(Γ:RC)(x:Str):Bool:=Γ.own.any (· == x)
noncomputable def oX(Γ:RC)(x:Str)(px:Pos)(scope:Scope)(cpos:Pos):Bool:=Γ.sc.names.lookup x==some .local&&px.line==cpos.line && !(scope.names.any λ(n,k)=>n==x&&(k==.local||k==.cell))
noncomputable def ZP(Γ:RC)(E:RC->Bool->Expr->Option ME)(T:RC->Expr->Option MT)(x:Str):Expr->Option ME
 | .ListComp elt gens scope cpos=>(oK Γ E T elt gens scope cpos).map (l5 (oY Γ x))
 | v=>if gQ v=true then E Γ (oY Γ x) v else none
noncomputable def Vs(Γ:RC)(E:RC->Bool->Expr->Option ME)(T:RC->Expr->Option MT)(tg v:Expr):Option MS:=match tg with
 | .Name x _=>match pP x Γ.N with
  | some i=>if (setB Γ.sc Γ.N i x && !Γ.inC)=true then (ZP Γ E T x v).map λm=>zD m (zC i) else none
  | none=>none
 | .Subscript o i p=>if (gQ v&&bP i)=true then (E Γ false v).bind λm=>(E Γ false o).bind λmo=>(E Γ false i).map λmi=>zD m (aT mo mi) else none
 | .Attribute o f _=>if gQ v=true then (E Γ (oY Γ f) v).bind λm=>(E Γ false o).map λmo=>zD m (ub Γ.fld f mo) else none
 | .Tuple es n p=>if Yh v=true then (E Γ false v).bind λm=>(J3 Γ (.Tuple es n p)).map λg=>zD m g else none
 | _=>none
noncomputable def Vy(Γ:RC)(E:RC->Bool->Expr->Option ME)(tg:Expr)(op:Operator)(v:Expr):Option MS:=match tg,op with
 | .Attribute o f _,.Add=>(E Γ false o).bind λmo=>(E Γ false v).map (l7 Γ.fld f mO mo)
 | _,_=>none
noncomputable def WO:MS:=λ_ _=>none
def Uq{X:Cx}{cl:Cl}{st:Stmt}:SS X cl st WO:=by
 rintro pins s σ H D I ⟨μ,h,ρ,fl,h',R,er,e,k⟩;cases e
noncomputable def Kp(E:RC->Bool->Expr->Option ME)(T:RC->Expr->Option MT)(B:RC->List Stmt->Option MS)(Γ:RC):Stmt->Option MS
 | .Return (some e) _=>(E Γ false e).map ku
 | .Pass _=>some kN
 | .Raise ..=>some WO
 | .Expr e _=>if gQ e=true then (E Γ false e).map kr else none
 | .If c a b _=>(T Γ c).bind λt=>(B Γ a).bind λma=>(B Γ b).map (k8 t ma)
 | .While c body [] _=>(T Γ c).bind λt=>(B Γ body).map (ul t)
 | .For tg it body [] _=>if oU it=true then (oZ Γ (E Γ false) tg it).bind λmi=>(J3 Γ tg).bind λg=>(B Γ body).map (xR mi g) else none
 | .Assign [tg] v _=>Vs Γ E T tg v
 | .AugAssign tg op v _=>Vy Γ E tg op v
 | _=>none
noncomputable def blk(S:Stmt->Option MS):List Stmt->Option MS
 | []=>some kN
 | [s]=>S s
 | s::r=>(S s).bind λa=>(blk S r).map (zo a)
noncomputable def cS:Nat->RC->Stmt->Option MS
 | 0=>λ_ _=>none
 | n+1=>Kp (oE 40).1 (oE 40).2 (λΓ=>blk (cS n Γ))
noncomputable def cB(Γ:RC)(bd:List Stmt):Option MS:=blk (cS 12 Γ) bd
section
variable{Γ:RC}{cl:Cl}{k:Nat}{X:Cx}{pos p:Pos}{E:RC->Bool->Expr->Option ME}{T:RC->Expr->Option MT}{B:RC->List Stmt->Option MS}{ms:MS}
theorem ZT{scope:Scope}{cpos px:Pos}{env:Env}:swapsWith (.ListComp elt gens scope cpos) (some (.Name x px)) l env=pure (env.blockKind==.function&&env.kindOf x==some .local&&px.line==cpos.line && !(scope.names.any λ(n,k)=>n==x&&(k==.local||k==.cell))):=rfl
def QK(hE:∀Γ X,Fits Γ cl k X->∀mu e m,E Γ mu e=some m->SE X cl e m)(hT:∀Γ X,Fits Γ cl k X->∀e m,T Γ e=some m->ST X cl e m)(F:Fits Γ cl k X)(hc:Γ.inC=false){i:Nat}(hb:setB Γ.sc Γ.N i x=true)(h:ZP Γ E T x v=some m):SS X cl (.Assign [.Name x px] v pos) (zD m (zC i)):=by
 have hNd:=F.N▸F.nd;unfold ZP at h;split at h
 .rename_i elt gens scope cpos
  rw[zg] at h;obtain⟨r,e1,rfl⟩:=h;have g:=pY F hE hT e1;have hk:X.env.blockKind=.function:=by
   unfold Env.blockKind;rw[F.sc,F.kind];rfl
  have hsw:=ZT (elt:=elt) (gens:=gens) (scope:=scope) (cpos:=cpos) (px:=px) (x:=x) (l:=pos.line) (env:=X.env);have he:(X.env.blockKind==.function&&X.env.kindOf x==some .local&&px.line==cpos.line && !(scope.names.any λ(n,k)=>n==x&&(k==.local||k==.cell)))=oX Γ x px scope cpos:=by
   rw[hk];unfold oX;rw[<-F.sc];rfl
  rw[he] at hsw;cases q:oX Γ x px scope cpos with
  | false=>
   rw[q] at hsw;exact s_ hb hNd (nF F g) F.sc F.N (F.fn hc _) hsw
  | true=>
   rw[q] at hsw;obtain⟨tg,it,ifs,N',rfl,ok,hs,hi,hg,ht,hee⟩:=g.ex;have hx:X.env.kindOf x=some .local:=by
    unfold oX at q;simp only[zu,j7] at q;have:=q.1.1;rw[<-F.sc] at this;exact this
   have hix:X.N[i]?=some x:=by
    unfold setB at hb;simp only[zu,j7] at hb;rw[F.N];exact hb.1
   unfold l5;cases oY Γ x with
   | true=>exact Wm i _ _ N' r.nl r.ks F.nd F.calm ok hi hg ht hee rfl rfl (af hs) hix hx hsw
   | false=>exact YA i _ _ N' r.nl r.ks F.nd F.calm ok hi hg ht hee rfl rfl (af hs) hix hx hsw
 .split at h
  .rename_i q
   exact s_ hb hNd (hE _ _ F _ _ _ h) F.sc F.N (F.fn hc _) (fI q)
  .cases h
theorem JN:swapsWith v (some (.Tuple es n p)) l env=pure false:=by
 unfold swapsWith;cases v<;>rfl
def YH(hE:∀Γ X,Fits Γ cl k X->∀mu e m,E Γ mu e=some m->SE X cl e m)(hT:∀Γ X,Fits Γ cl k X->∀e m,T Γ e=some m->ST X cl e m)(F:Fits Γ cl k X)(h:Vs Γ E T tg v=some ms):SS X cl (.Assign [tg] v pos) ms:=by
 unfold Vs at h;split at h
 .split at h
  .split at h
   .rename_i q
    rw[zu,qY] at q;rw[zg] at h;obtain⟨m,e1,rfl⟩:=h;exact QK hE hT F q.2 q.1 e1
   .cases h
  .cases h
 .split at h
  .rename_i q
   rw[zu] at q;rw[zm] at h;obtain⟨m,e1,h⟩:=h;rw[zm] at h;obtain⟨mo,e2,h⟩:=h;rw[zg] at h;obtain⟨mi,e3,rfl⟩:=h;exact QD (hE _ _ F _ _ _ e1) (Cg F.room.units (hE _ _ F _ _ _ e2) (hE _ _ F _ _ _ e3) (BC q.2)) ((show swapsWithSole [_] v pos.line X.env=swapsWith v (some _) pos.line X.env from rfl).trans (fI q.1)) tN (by rw[uf rfl,bv];rfl)
  .cases h
 .split at h
  .rename_i q
   rw[zm] at h;obtain⟨m,e1,h⟩:=h;rw[zg] at h;obtain⟨mo,e2,rfl⟩:=h;exact Uy F.base.cls (hE _ _ F _ _ _ e1) (hE _ _ F _ _ _ e2) (fI q)
  .cases h
 .split at h
  .rename_i q
   rw[zm] at h;obtain⟨m,e1,h⟩:=h;rw[zg] at h;obtain⟨g,e2,rfl⟩:=h;exact QD (hE _ _ F _ _ _ e1) (su F e2) ((show swapsWithSole [_] v pos.line X.env=swapsWith v (some _) pos.line X.env from rfl).trans JN) (Kb q) (by rw[uf rfl,bv];rfl)
  .cases h
 .cases h
def Yz(hE:∀Γ X,Fits Γ cl k X->∀mu e m,E Γ mu e=some m->SE X cl e m)(F:Fits Γ cl k X)(h:Vy Γ E tg op v=some ms):SS X cl (.AugAssign tg op v pos) ms:=by
 unfold Vy at h;split at h
 .rw[zm] at h
  obtain⟨mo,e1,h⟩:=h;rw[zg] at h;obtain⟨m,e2,rfl⟩:=h;exact JQ F.base.cls (hE _ _ F _ _ _ e2) (hE _ _ F _ _ _ e1)
 .cases h
def Wt(hE:∀Γ X,Fits Γ cl k X->∀mu e m,E Γ mu e=some m->SE X cl e m)(hT:∀Γ X,Fits Γ cl k X->∀e m,T Γ e=some m->ST X cl e m)(hB:∀Γ X,Fits Γ cl k X->∀b m,B Γ b=some m->SB X cl b m)(F:Fits Γ cl k X){st:Stmt}(h:Kp E T B Γ st=some ms):SS X cl st ms:=by
 have hF:=hE _ _ F false;have hT':=hT _ _ F;have hB':=hB _ _ F;unfold Kp at h;split at h
 .rw[zg] at h
  obtain⟨m,e1,rfl⟩:=h;exact U5 (hF _ _ e1)
 .cases h;exact XB
 .cases h;exact Uq
 .split at h
  .rename_i q
   rw[zg] at h;obtain⟨m,e1,rfl⟩:=h;exact Uo (hF _ _ e1) (fI q)
  .cases h
 .rw[zm] at h
  obtain⟨t,e0,h⟩:=h;rw[zm] at h;obtain⟨ma,e1,h⟩:=h;rw[zg] at h;obtain⟨mb,e2,rfl⟩:=h;exact Di (hT' _ _ e0) (hB' _ _ e1) (hB' _ _ e2)
 .rw[zm] at h
  obtain⟨t,e0,h⟩:=h;rw[zg] at h;obtain⟨mb,e2,rfl⟩:=h;exact Vd (hT' _ _ e0) (hB' _ _ e2) F.pass
 .split at h
  .rename_i q
   rw[zm] at h;obtain⟨mi,e0,h⟩:=h;rw[zm] at h;obtain⟨g,e1,h⟩:=h;rw[zg] at h;obtain⟨mb,e2,rfl⟩:=h;exact Ux F.calm (sV F hF e0) (su F e1) (hB' _ _ e2) (af q) F.pass
  .cases h
 .exact YH hE hT F h
 .exact Yz hE F h
 .cases h
theorem pB(hS:∀s m,S s=some m->SS X cl s m):∀{b:List Stmt} {m:MS},blk S b=some m->SB X cl b m
 | [],m,h=>by cases h;exact CB
 | [s],m,h=>U8 (hS _ _ h)
 | s::s'::r,m,h=>by
  unfold blk at h;rw[zm] at h;obtain⟨ma,e1,h⟩:=h;rw[zg] at h;obtain⟨mb,e2,rfl⟩:=h;exact Uj (hS _ _ e1) (pB hS e2)
theorem Yc:∀(n:Nat) (Γ:RC) (X:Cx),Fits Γ cl k X->∀s m,cS n Γ s=some m->SS X cl s m
 | 0,_,_,_,_,_,h=>by cases h
 | n+1,Γ,X,F,s,m,h=>Wt (ft 40).1 (ft 40).2 (λΓ X F b m h=>pB (Yc n Γ X F) h) F h
def D9(F:Fits Γ cl k X)(h:cB Γ bd=some ms):SB X cl bd ms:=pB (Yc 12 Γ X F) h
end
def B8{P:Program}{w:World}{K:PySem.W.Frag}{mg:Str->Option Value}{base:Heap}{cl:Cl}{x qual:Str}{st:Stmt}{f:Addr}{fd:FuncData}{ps:List Str}{k np ns:Nat}{b:MS}(Γ:RC){bd:List Stmt}(F:Fun K x qual st f fd)(hsc:kB st=Γ.sc)(hbd:kS st=bd)(S:FnScope Γ.N ps Γ.sc)(hnp:ps.length=np)(hns:Γ.N.length-np=ns)
  (hc:Γ.inC=false) (B:BaseOk P w K mg base cl k Γ) (hb:cB Γ bd=some b):FnOk P w K mg base uc (k+1) f fd ps (xp K cl (gc (kd np ns b))):=
 UJ F hsc hbd S hnp hns λcdv A outer s H E hr=>D9 (k:=k) ⟨rfl,rfl,S.nd,λ_ _=>rfl,S.kind,rfl,wR,hr,B⟩ hb
structure Def where
 x:Str
 qual:Str
 st:Stmt
 ps:List Str
 N:List Str
 own:List Str
 txt:List Str
 cmp:List ((Nat×Nat)×List Str)
 dic:List Str
 mka:List (Nat×Nat)
noncomputable def ur(N ps:List Str)(sc:Scope):Bool:=sc.kind==.function && !sc.isCoroutine && !sc.isGenerator&&pR N&&N.take ps.length==ps&&ps.all (Kz sc)&&sc.names.all λy=>y.2 != .free
def Kt(h:ur N ps sc=true):FnScope N ps sc:=by
 unfold ur at h;simp only[zu,qY,j7] at h;obtain⟨⟨⟨⟨⟨⟨h1,h2⟩,h3⟩,h4⟩,h5⟩,h6⟩,h7⟩:=h;exact⟨h1,h2,h3,Yb h4,h5,λx hx=>mM (kW.mp h6 x hx),λy hy=>by simpa using kW.mp h7 y hy⟩
noncomputable def HB(x qual:Str)(st:Stmt)(ps:List Str)(us:List Value):Prop:=∀(kV doc pm:Value) (an:Option Addr) (cdv ct:Value),bindArgs (PySem.W.fnOf x qual (va st) (kS st) (kB st) .none kV doc pm an cdv ct) ⟨us,[]⟩=pure (ps.zip us)
noncomputable def fh(x qual:Str)(st:Stmt)(ps:List Str):Prop:=∀us:List Value,us.length=ps.length->HB x qual st ps us
section
variable{x qual:Str}{st:Stmt}{ps:List Str}
def hb1(h:∀a,HB x qual st ps [a])(hl:ps.length=1:=by rfl):fh x qual st ps:=λus e=>match us,e.trans hl with
 | [_],_=>h _
def hb2(h:∀a b,HB x qual st ps [a,b])(hl:ps.length=2:=by rfl):fh x qual st ps:=λus e=>match us,e.trans hl with
 | [_,_],_=>h _ _
def hb3(h:∀a b c,HB x qual st ps [a,b,c])(hl:ps.length=3:=by rfl):fh x qual st ps:=λus e=>match us,e.trans hl with
 | [_,_,_],_=>h _ _ _
def hb4(h:∀a b c d,HB x qual st ps [a,b,c,d])(hl:ps.length=4:=by rfl):fh x qual st ps:=λus e=>match us,e.trans hl with
 | [_,_,_,_],_=>h _ _ _ _
def hb5(h:∀a b c d e,HB x qual st ps [a,b,c,d,e])(hl:ps.length=5:=by rfl):fh x qual st ps:=λus e=>match us,e.trans hl with
 | [_,_,_,_,_],_=>h _ _ _ _ _
end
structure DTxt(K:PySem.W.Frag)(d:Def)(a:Addr)(fd:FuncData):Prop where
 F:Fun K d.x d.qual d.st a fd
 B:Binds K fd d.ps []
noncomputable def iC(K:PySem.W.Frag)(mg:Str->Option Value)(d:Def):Prop:=∃a fd,DTxt K d a fd/\mg d.x=some (.ref a)
noncomputable def uv(K:PySem.W.Frag)(cl:Cl)(c:Nat)(d:Def):Prop:=∃a fd,DTxt K d a fd/\Meth K (cl.c c) d.x a/\Cls K (cl.c c)
noncomputable def mR(K:PySem.W.Frag)(mg:Str->Option Value)(cl:Cl)(x:Str)(c:Nat)(d:Def):Prop:=∃a fd,DTxt K d a fd/\mg x=some (.ref (cl.c c))/\Mk K (cl.c c) a
def Zx{K:PySem.W.Frag}{d:Def}(hb:fh d.x d.qual d.st d.ps){f:Addr}{kV:Value}
  (l:K.lookup f=some ⟨oc,od,.func (PySem.W.fnOf d.x d.qual (va d.st) (kS d.st) (kB d.st) .none kV doc pm an cdv ct),osl⟩) (c:PySem.W.codeIn K cdv d.qual=true) (k:PySem.W.keepIn K (.ref f)=true):∃fd,DTxt K d f fd:=by
 have F:=B0 (st:=d.st) l c k;exact⟨_,F,F.binds λkV doc pm an cdv ct us hl=>hb us hl kV doc pm an cdv ct⟩
noncomputable def Wn(P:Def->Prop):List Def->Prop
 | []=>True
 | d::r=>P d/\Wn P r
noncomputable def RC.at(Γ:RC)(d:Def):RC:=⟨kB d.st,d.N,false,Γ.fns,Γ.con,Γ.tab,Γ.bin,d.own,d.txt,d.cmp,d.dic,Γ.fld,Γ.mt,Γ.mks,d.mka,Γ.way⟩
section
variable{P:Program}{w:World}{K:PySem.W.Frag}{mg:Str->Option Value}{base:Heap}{cl:Cl}{n np ns:Nat}{Γ:RC}{d:Def}{b:MS}
def iN(T:DTxt K d a fd)(B:BaseOk P w K mg base cl n Γ)(hsc:ur d.N d.ps (kB d.st)=true)(hnp:d.ps.length=np)(hns:d.N.length-np=ns)(hb:cB (Γ.at d) (kS d.st)=some b):FnOk P w K mg base uc (n+1) a fd d.ps (xp K cl (gc (kd np ns b))):=
 B8 (Γ.at d) T.F rfl rfl (Kt hsc) hnp hns rfl ⟨B.fns,B.con,B.tab,B.bin,B.pw,B.cls,B.mts,B.mks,B.way⟩ hb
def kK(T:iC K mg d)(B:BaseOk P w K mg base cl n Γ)(hsc:ur d.N d.ps (kB d.st)=true:=by kernel_rfl)(hnp:d.ps.length=np:=by rfl)(hns:d.N.length-np=ns:=by rfl)(hb:cB (Γ.at d) (kS d.st)=some b:=by kernel_rfl):FnAt P w K mg base cl (n+1) d.x (gc (kd np ns b)):=by
 obtain⟨a,fd,T,m⟩:=T;exact⟨a,fd,d.ps,iN T B hsc hnp hns hb,m,T.F.kp,T.B⟩
def mK:FnOk P w K mg base uc 0 a fd ps (xp K cl λ_ _=>none):=by
 have no:∀vs H Q E,¬xp K cl (λ_ _=>none) vs H Q E:=λvs H Q E ⟨μ,h,ws,w,h2,R,rs,e,k⟩=>by cases e
 exact⟨λvs H Q E h=>absurd h (no vs H Q E),λA outer s H args us vs Q E _ _ _ _ h=>absurd h (no vs H Q E)⟩
def ko(T:iC K mg d):FnAt P w K mg base cl 0 d.x λ_ _=>none:=by
 obtain⟨a,fd,T,m⟩:=T;exact⟨a,fd,d.ps,mK,m,T.F.kp,T.B⟩
def uG{c:Nat}(T:uv K cl c d)(B:BaseOk P w K mg base cl n Γ)(hsc:ur d.N d.ps (kB d.st)=true:=by kernel_rfl)(hnp:d.ps.length=np:=by rfl)(hns:d.N.length-np=ns:=by rfl)(hb:cB (Γ.at d) (kS d.st)=some b:=by kernel_rfl):mI P w K mg base cl (n+1) c d.x (gc (kd np ns b)):=by
 obtain⟨a,fd,T,m,kc⟩:=T;exact⟨a,fd,d.ps,kc,m,iN T B hsc hnp hns hb,T.B⟩
def wq{c:Nat}(T:uv K cl c d):mI P w K mg base cl 0 c d.x λ_ _=>none:=by
 obtain⟨a,fd,T,m,kc⟩:=T;exact⟨a,fd,d.ps,kc,m,mK,T.B⟩
def W9{c:Nat}(T:mR K mg cl x c d)(B:BaseOk P w K mg base cl n Γ)(hsc:ur d.N d.ps (kB d.st)=true:=by kernel_rfl)(hnp:d.ps.length=np:=by rfl)(hns:d.N.length-np=ns:=by rfl)(hb:cB (Γ.at d) (kS d.st)=some b:=by kernel_rfl):pM P w K mg base cl (n+1) x c (gc (kd np ns b)):=by
 obtain⟨a,fd,T,m,mk⟩:=T;exact⟨a,fd,d.ps,m,mk,iN T B hsc hnp hns hb,T.B⟩
end
section
variable{P:Program}{w:World}{K:PySem.W.Frag}{mg:Str->Option Value}{base:Heap}{cl:Cl}{d:Def}
def nG{c:Nat}(T:mR K mg cl x c d):pM P w K mg base cl 0 x c λ_ _=>none:=by
 obtain⟨a,fd,T,m,mk⟩:=T;exact⟨a,fd,d.ps,m,mk,mK,T.B⟩
end
noncomputable def AllM(P:Nat->Str->(List W->M W)->Prop):ng->Prop
 | []=>True
 | ((c,m),g)::r=>P c m g/\AllM P r
theorem AllM.at{c:Nat}:∀{l:ng},AllM P l->l.lookup (c,m)=some g->P c m g
 | [],_,e=>by cases e
 | ((c',m'),g')::r,h,e=>by
  rw[kJ] at e;cases q:((c,m)==(c',m')) with
  | true=>rw[q] at e;cases e;have:=eq_of_beq q;cases this;exact h.1
  | false=>rw[q] at e;exact AllM.at h.2 e
noncomputable def Fk(g:List W->M W)(K:PySem.W.Frag):Sp:=λvs H Q E=>∀cl,xp K cl g vs H Q E
def CC{f:List W->M W}(hf:∀ns:List Int,ns.length<=63->∃h',f [.fls (ns.map W.int)] []=some (.bl true,h'))(K:PySem.W.Frag)(H:Hp)(a:Addr)(ns:List Int)(hl:ns.length<=63)(hS:SqL K H a (ns.map V.int)):Fk f K [.ref a] H (λv _=>v=.bl true) λ_ _ _=>False:=by
 intro cl;obtain⟨h',e⟩:=hf ns hl;refine⟨[],[],[.fls (ns.map W.int)],.bl true,h',⟨rfl,vL,λn a o e=>by simp at e⟩,.cons (.fls ?_ (RWs.ints ns)) .nil,e,λμ' H' v E R r=>r.bl_of⟩;rcases hS with hS | hS
 .exact .inl ⟨hS,by simp⟩
 .exact .inr hS
end ML
namespace ML
open PySem PySem.Spec PyProof.Rows PySem.W L2
noncomputable def Kw(h:Heap):PySem.W.Frag:=(List.range h.objs.size).filterMap λa=>(h.get? a).map λo=>(a,o)
theorem Kw.lookupAux(h:Heap)(a:Addr):∀l:List Nat,(l.filterMap λa=>(h.get? a).map λo=>(a,o)).lookup a=if a∈l then h.get? a else none
 | []=>by simp
 | b::l=>by
  cases q:h.get? b with
  | none=>
   rw[List.filterMap_cons_none (by rw[q];rfl),Kw.lookupAux h a l];by_cases e:a=b
   .subst e;simp[q]
   .simp[e]
  | some o=>
   rw[List.filterMap_cons_some (b:=(b,o)) (by rw[q];rfl),kJ];by_cases e:a=b
   .subst e;simp[q]
   .have:(a==b)=false:=by simp[e]
    rw[this];simp only[];rw[Kw.lookupAux h a l];simp[e]
theorem Kw.lookup{h:Heap}:(Kw h).lookup a=h.get? a:=by
 unfold Kw;rw[Kw.lookupAux];split
 .rfl
 .rename_i n
  cases q:h.get? a with
  | none=>rfl
  | some o=>exact absurd (yz.mpr (zA q)) n
def Kw.in(h:Heap):(Kw h).In h:=λa o e=>Kw.lookup▸e
def Wr{l:PySem.W.OpenLaw}{q:Program}{d:DefRec}{sp:World->PySem.W.Frag->Sp}
  (hn:l.most=some n) (hn2:n<=sizeLine) (hdf:d.params.defaults=[]) (hr:Room k callerA)
  (F:∀(w:World) (s₀:Shared) (mg mb:Str->Option Value) (fa:Addr) (h:Heap),Ground q loose [] XP w s₀ mg mb h->YP w h->mg d.name=some (.ref fa)->
   ∃fd:FuncData,(∀(s:Shared) (u:Value),BindsTo s fd ⟨[u],[]⟩ [(x,u)]) /\
    ∀base:Heap,(Kw h).In base->base.Ns mainGlobals mg->FnOk l.prog w (Kw h) mg base CX k fa fd [x] (sp w (Kw h)))
  (hsp:∀(w:World) (K:PySem.W.Frag) (H:Hp) (a:Addr) (ns:List Int),ns.length<=n->Only H->SqL K H a (ns.map V.int)->sp w K [.ref a] H (λv _=>v=.bl true) λ_ _ _=>False)
  (hCX:∀(H:Hp) (s:Shared) (e:Value) (s':Shared),CX [] H s (λ_ _ _=>False) e s'->False) :
  PySem.W.WalkO q loose XP YP l.row.toRowW d [] (λf vs=>PySem.call f vs):=by
 refine Att.attach_call hn hdf λw s₀ s₁ mg mb fa o pm cd doc a vs ns G Y ho hd hcd hmg hobj hints hlen hg=>?_
 obtain⟨fd,hb,hF⟩:=F w s₀ mg mb fa _ G Y hmg;exact Wi (Kw.in _) G.T.g G.T.b G.T.builtins G.T.nolimit hg hobj hints (zR hlen hn2) hr hF hb (λH hO hS=>hsp w _ H a ns hlen hO hS) λH e s'=>hCX H s₁ e s'
def j3{q:Program}(G:Ground q loose R XP w s₀ mg mb h){d:Def}
  (hd:(defOf q d.x).map (λp=>(p.1.name,p.1.params,p.1.body,p.1.scope,p.2))=some (d.x,va d.st,kS d.st,kB d.st,[])) (hq0:d.qual=d.x) (hb:fh d.x d.qual d.st d.ps) (hf:(va d.st).defaults=[]):iC (Kw h) mg d:=by
 obtain⟨⟨⟨n,p,b,sc,ps⟩,kw⟩,hq,e⟩:=zg.mp hd;cases e;obtain⟨a,o,pm,cd,doc,dV,kV,m,ho,hdt,hc,D⟩:=G.fn hq;obtain rfl:dV=.none:=Dflts.none D hf;obtain rfl:kV=.none:=Dflts.noKw D;have lk:(Kw h).lookup a=some ⟨o.cls,o.dict,.func (PySem.W.fnOf d.x d.x (va d.st) (kS d.st) (kB d.st) .none .none doc pm none cd .none),o.slots⟩:=by
  rw[Kw.lookup,ho];cases o;cases hdt;rfl
 have c:PySem.W.codeIn (Kw h) cd d.x=true:=by
  obtain⟨c,o',vs,t,rfl,e1,e2,e3⟩:=hc;unfold PySem.W.codeIn;simp only[Kw.lookup,e1];cases o';cases e2;simp only[];obtain⟨vs⟩:=vs;match vs,e3 with
  | [],e3=>cases e3
  | [_],e3=>cases e3
  | _::v::r,e3=>
   have e4:some v=some (Value.str d.x t):=by simpa using e3
   cases e4;simp
 have k:PySem.W.keepIn (Kw h) (.ref a)=true:=by
  unfold PySem.W.keepIn;simp only[lk]
 rw[<-hq0] at c;have lk2:(Kw h).lookup a=some ⟨o.cls,o.dict,.func (PySem.W.fnOf d.x d.qual (va d.st) (kS d.st) (kB d.st) .none .none doc pm none cd .none),o.slots⟩:=by rw[lk,hq0]
 obtain⟨fd,D⟩:=Zx hb lk2 c k;exact⟨a,fd,D,m⟩
noncomputable def zk:Nat->Cn->W
 | 0,_=>.non
 | n+1,c=>match c with
  | .int i=>.int i
  | .str x=>.str x
  | .tup l=>.tup (l.map (zk n))
noncomputable def toT(l:List (Str×Cn)):List (Str×W):=l.map λp=>(p.1,zk 9 p.2)
def Wh{h:Heap}(e:oO h v=some its):∃a o n,v=.ref a/\h.get? a=some o/\(o.cls=.type "tuple" /\ o.dict=none)/\o.data=.seq its n:=by
 cases v with
 | ref a=>
  obtain⟨⟨c,di,d,sl⟩,e1,e2⟩:=zm.mp e;cases c with
  | type t=>
   have e3:(if t="tuple" then (match d with | .seq its _=>if di.isNone then some its else none | _=>none) else none)=some its:=e2;by_cases q:t="tuple"
   .rw[zY q] at e3
    cases d with
    | seq its' n=>
     have e4:(if di.isNone then some its' else none)=some its:=e3;by_cases q2:di.isNone=true
     .rw[zY q2] at e4
      cases e4;exact⟨a,_,n,rfl,e1,⟨by rw[q],qI.mp q2⟩,rfl⟩
     .rw[kO q2] at e4;cases e4
    | _=>cases e3
   .rw[kO q] at e3;cases e3
  | _=>cases e2
 | _=>cases e
def Cm{K:PySem.W.Frag}{p:Cn->Value->Bool}{f:Cn->W}(hp:∀w v,p w v=true->KW K (f w) v)(l:List Cn):∀vs:List Value,am p l vs=true->KWs K (l.map f) vs:=by
 induction l with
 | nil=>intro vs h;cases vs with | nil=>exact .nil | cons _ _=>cases h
 | cons w l ih=>
  intro vs h;cases vs with
  | nil=>cases h
  | cons v vs=>have h2:=jw.mp h;exact .cons (hp _ _ h2.1) (ih vs h2.2)
def nQ{h:Heap}{K:PySem.W.Frag}(hK:∀b o,h.get? b=some o->K.lookup b=some o)(n:Nat):∀w v,fk h n w v=true->KW K (zk n w) v:=by
 induction n with
 | zero=>intro w v e;cases e
 | succ n ih=>
  intro w v e;cases w with
  | int i=>cases v with
   | int j t=>cases eq_of_beq (show(i==j)=true from e);exact .int
   | _=>cases e
  | str x=>cases v with
   | str j t=>cases eq_of_beq (show(x==j)=true from e);exact .str
   | _=>cases e
  | tup l=>
   have e1:((oO h v).any λits=>decide (its.size<=sizeLine)&&am (fk h n) l its.toList)=true:=e;cases z:oO h v with
   | none=>rw[z] at e1;cases e1
   | some its=>
    rw[z] at e1;obtain⟨a,o,m,rfl,e4,e5,e6⟩:=Wh z;have e7:=jw.mp e1;exact .tup (hK _ _ e4) e5 e6 (qy e7.1) (Cm ih _ _ e7.2)
def oC{h:Heap}(e:dictAt h v=some es):∃a n,v=.ref a/\h.get? a=some ⟨.type "dict",none,.dict es n,#[]⟩/\(a==sysModules)=false:=by
 cases v with
 | ref a=>
  obtain⟨⟨c,di,d,sl⟩,e1,e2⟩:=zm.mp e;cases c with
  | type t=>
   have e3:(if t="dict" then (match d with | .dict es _=>if di.isNone&&sl.isEmpty&&a != sysModules then some es else none | _=>none) else none)=some es:=e2;by_cases q:t="dict"
   .rw[zY q] at e3
    cases d with
    | dict es' n=>
     have e4:(if di.isNone&&sl.isEmpty&&a != sysModules then some es' else none)=some es:=e3;by_cases z:(di.isNone&&sl.isEmpty&&a != sysModules)=true
     .rw[zY z] at e4
      cases e4;have z1:=jw.mp z;have z2:=jw.mp z1.1;refine⟨a,n,rfl,?_,?_⟩
      .rw[e1,q,qI.mp z2.1,Array.isEmpty_iff.mp z2.2]
      .have:=z1.2;rw[bne,qY] at this;exact this
     .rw[kO z] at e4;cases e4
    | _=>cases e3
   .rw[kO q] at e3;cases e3
  | _=>cases e2
 | _=>cases e
def tab_of{h:Heap}{K:PySem.W.Frag}(hK:∀b o,h.get? b=some o->K.lookup b=some o)(l:List (Str×Cn)):∀es:List DictEntry,am (λp (e:DictEntry)=>Qv p.1 e.key&&fk h 9 p.2 e.val) l es=true->es.map (·.hash)=l.map (λp=>PyData.keyHash P p.1)->TabRel K (toT l) es/\PySem.W.KeysLit P es:=by
 induction l with
 | nil=>intro es a b;cases es with | nil=>exact⟨.nil,trivial⟩ | cons _ _=>cases a
 | cons p l ih=>
  intro es a b;cases es with
  | nil=>cases a
  | cons e es=>
   have a1:=jw.mp a;have a2:=jw.mp a1.1;have b1:=List.cons.inj b;obtain⟨r,t⟩:=ih es a1.2 b1.2;obtain⟨eh,ek,ev⟩:=e;cases ek with
   | str y t'=>
    have q:=eq_of_beq (show(p.1==y)=true from a2.1);subst q;exact⟨.cons (hs:=0) (v:=.none) rfl (nQ hK _ _ _ a2.2) r,⟨_,_,rfl,b1.1⟩,t⟩
   | _=>cases a2.1
def ZE{h h₀:Heap}(G:h.Ns mainGlobals mg)(k:∀b o,h₀.get? b=some o->h.get? b=some o)(hn:h₀.isNs mainGlobals=true)(x:Str):mg x=h₀.nsMap mainGlobals x:=by
 obtain⟨o,es,ep,e1,e2,e3,e4⟩:=Heap.Ns.of_isNs hn;obtain⟨o',es',ep',f1,f2,f3,f4⟩:=G;have:=k _ _ e1;rw[f1] at this;cases this;rw[e2] at f2;cases f2;rw[<-f4 x,<-e4 x]
theorem lL{α β:Type}{P:Str->α->Prop}(f:β->α):∀{l:List (Str×β)},(∀p∈l,P p.1 (f p.2))->AllOf P (l.map λp=>(p.1,f p.2))
 | [],_=>trivial
 | (x,g)::r,h=>⟨h (x,g) (zX ..),lL f λp m=>h p (zJ _ m)⟩
theorem none_of:∀{l:List Str},(∀x∈l,mg x=none)->AllNone mg l
 | [],_=>trivial
 | x::r,h=>⟨h x (zX ..),none_of λp m=>h p (zJ _ m)⟩
def CV{cons:List (Str×Cn)}{tabs:List (Str×List (Str×Cn))}{bins:List Str}{w:World}{h:Heap}(Y:(DR cons tabs bins).says w h)(G:h.Ns mainGlobals mg) :
  AllOf (Glob (Kw h) mg) (toT cons)/\AllOf (TabOk (Kw h) w.params mg) (tabs.map λp=>(p.1,toT p.2))/\AllNone mg bins:=by
 obtain⟨h₀,k,b,t⟩:=Y;have hK:∀b o,h₀.get? b=some o->(Kw h).lookup b=some o:=λb o e=>by rw[Kw.lookup];exact k _ _ e
 unfold mT at b;simp only[zu,kW] at b;obtain⟨⟨b1,b2⟩,b3⟩:=b;have M:=ZE G k b1;refine⟨lL (zk 9) λp m=>?_,lL toT λp m=>?_,none_of λx m=>?_⟩
 .have e:=b2 p m
  cases q:h₀.nsMap mainGlobals p.1 with
  | none=>rw[q] at e;cases e
  | some v=>rw[q] at e;exact(nQ hK _ _ _ e).glob ((M _).trans q)
 .have e:Vf h₀ p.2 (h₀.nsMap mainGlobals p.1)=(true,p.2.map λk=>PyData.keyHash w.params k.1):=by
   unfold rX l3 at t;exact(List.map_inj_left.mp t) p m
  unfold Vf at e;cases q:h₀.nsMap mainGlobals p.1 with
  | none=>rw[q] at e;cases e
  | some v=>
   rw[q] at e;cases z:dictAt h₀ v with
   | none=>rw[qK,z] at e;cases e
   | some es=>
    rw[qK,z] at e;have e2:=yq e;obtain⟨a,n,rfl,g,f⟩:=oC z;obtain⟨r,kl⟩:=tab_of hK (P:=w.params) p.2 es.toList e2.1 e2.2;exact⟨a,es,n,(M _).trans q,hK _ _ g,kl,f,r⟩
 .have:=b3 x m
  rw[M];exact qI.mp this
def DN{h:Heap}(n:h.Ns N mN)(x:Str):nsIn (Kw h) N x=some (mN x):=by
 obtain⟨⟨oc,od,odt,osl⟩,es,ep,ho,hd,hk,hf⟩:=n;cases hd;unfold nsIn;rw[Kw.lookup,ho];simp only[];rw[<-hf x];unfold nsFind findBy;rw[<-wW];cases q:es.toList.find? (λe=>e.key.isStr x) with
 | some e=>rfl
 | none=>
  simp only[Option.map_none];rw[kO];intro z;obtain⟨e,m,r⟩:=qm.mp z;obtain⟨y,t,ek⟩:=hk e (yX.mp m);unfold DictEntry.refKey at r;rw[ek] at r;cases r
section
variable{h:Heap}{C N:Addr}{mN:Str->Option Value}
def i6(c:ClsAt h C N mN):∃nm q bs sn sub col dd k0 k1 k2 k3 k5,(Kw h).lookup C=some (excClassObj nm q C N bs [.type "object"] true sn sub false col dd k0 k1 k2 k3 k5 "object.__new__"):=by
 obtain⟨nm,q,bs,sn,sub,col,dd,k0,k1,k2,k3,k5,e⟩:=c.obj;exact⟨nm,q,bs,sn,sub,col,dd,k0,k1,k2,k3,k5,by rw[Kw.lookup,e]⟩
theorem fi(c:ClsAt h C N mN)(x:Str):findIn (Kw h) (.ref C) x=match mN x with
  | some v=>some (some v)
  | none=>some (fastBuiltinOwn "object" x):=by
 obtain⟨nm,q,bs,sn,sub,col,dd,k0,k1,k2,k3,k5,e⟩:=i6 c;unfold findIn;dsimp only;rw[e];simp only[alongIn,ownIn,e,DN c.ns x];cases mN x with
 | some v=>rfl
 | none=>
  simp only[];cases fastBuiltinOwn "object" x<;>rfl
def C3(c:ClsAt h C N mN)(q1:mN "__setattr__" = none)(q2:mN "__getattribute__" = none)(q3:mN "__getattr__" = none):Cls (Kw h) C:=by
 obtain⟨nm,q,bs,sn,sub,col,dd,k0,k1,k2,k3,k5,e⟩:=i6 c;refine⟨?_,?_,?_,?_⟩
 .unfold plainGet
  rw[fi c,fi c,q2,q3];decide +kernel
 .unfold hasDictIn clsIn
  rw[e];rfl
 .unfold plainOver clsIn
  rw[e];rfl
 .rw[fi c,q1]
  decide +kernel
def Jv(c:ClsAt h C N mN){f:Str}(q:mN f=none)(hf:fastBuiltinOwn "object" f=none):NoAttr (Kw h) C f:=by
 unfold NoAttr;rw[fi c,q,hf]
def ZI{f:Addr}{o:Obj}(ho:h.get? f=some o)(hd:o.data=.func fd):keepIn (Kw h) (.ref f)=true:=by
 unfold keepIn;obtain⟨oc,od,odt,osl⟩:=o;cases hd;simp only[Kw.lookup,ho]
def D5{f:Addr}{o:Obj}(ho:h.get? f=some o)(hc:o.cls=.type "function"):isFn (Kw h) (.ref f)=true:=by
 unfold isFn typeIn;dsimp only;rw[Kw.lookup,ho];simp only[yr,hc];decide +kernel
def Vm(c:ClsAt h C N mN):makesIn (Kw h) C=true/\keepIn (Kw h) (.ref C)=true:=by
 obtain⟨nm,q,bs,sn,sub,col,dd,k0,k1,k2,k3,k5,e⟩:=i6 c;have t:specialIn (Kw h) (.ref C) "__call__" = some (some (.builtin "type.__call__")):=by
  unfold specialIn typeIn;dsimp only;rw[e];show findIn (Kw h) (.type "type") "__call__" = _
  show fastLookup "type" "__call__" = _
  decide +kernel
 have i:instIn (Kw h) (.ref C) (.type "type")=some true:=by
  unfold instIn typeIn;dsimp only;rw[e];show subIn (Kw h) (.type "type") (.type "type")=_
  show(fastBuiltinMro "type").map (·.contains (.type "type"))=_
  decide +kernel
 refine⟨?_,?_⟩
 .unfold makesIn
  rw[e];simp only[t,i];simp
 .unfold keepIn
  dsimp only;rw[e];simp only[t];decide +kernel
end
def YK{h:Heap}(hc:h.CodeRec cd x):codeIn (Kw h) cd x=true:=by
 obtain⟨c,o',vs,t,rfl,e1,e2,e3⟩:=hc;unfold codeIn;simp only[Kw.lookup,e1];cases o';cases e2;simp only[];obtain⟨vs⟩:=vs;match vs,e3 with
 | [],e3=>cases e3
 | [_],e3=>cases e3
 | _::v::r,e3=>
  have e4:some v=some (Value.str x t):=by simpa using e3
  cases e4;simp
structure ClsG(h:Heap)(mg:Str->Option Value)(c:ClsRec)(C:Addr):Prop where
 m:mg c.name=some (.ref C)
 ex:∃N mN,PlainAt h c.withCmp C N mN
def FZ{q:Program}(G:Ground q loose R XP w s₀ mg mb h){c:ClsRec}(hc:c∈plainsOf q (looseW q loose)):∃C,ClsG h mg c C:=by
 obtain⟨C,N,mN,a,b⟩:=G.TE c hc;exact⟨C,a,N,mN,b⟩
theorem ClsG.cls{c:ClsRec}(g:ClsG h mg c C):Cls (Kw h) C/\∀f∈c.statics,fastBuiltinOwn "object" f=none->NoAttr (Kw h) C f:=by
 obtain⟨N,mN,P⟩:=g.ex;have q:∀n∈c.withCmp.quiet,mN n=none:=P.quiet;exact⟨C3 P.cls (q _ (by simp[ClsRec.quiet])) (q _ (by simp[ClsRec.quiet])) (q _ (by simp[ClsRec.quiet])),λf hf=>Jv P.cls (q f (by simp only[ClsRec.quiet,ClsRec.withCmp,zU];exact .inr (.inl hf)))⟩
def ClsG.meth{c:ClsRec}(g:ClsG h mg c C){d:Def}{m:MethRec}(hm:m∈c.meths)(hd:(m.name,m.params,m.body,m.scope)=(d.x,va d.st,kS d.st,kB d.st))(hq:c.name++"." ++ m.name=d.qual)(hb:fh d.x d.qual d.st d.ps):∃a fd,DTxt (Kw h) d a fd/\Meth (Kw h) C d.x a:=by
 obtain⟨N,mN,P⟩:=g.ex;obtain⟨f,o,pm,cd,doc,q1,q2,q3,q4,q5⟩:=P.meths m hm;have hq':c.withCmp.name++"." ++ m.name=d.qual:=hq;rw[hq'] at q4 q5;obtain⟨nm,pr,bd,sc⟩:=m;cases hd;have lk:(Kw h).lookup f=some ⟨o.cls,o.dict,.func (PySem.W.fnOf d.x d.qual (va d.st) (kS d.st) (kB d.st) .none .none doc pm none cd .none),o.slots⟩:=by
  rw[Kw.lookup,q2];cases o;cases q4;rfl
 obtain⟨fd,D⟩:=Zx hb lk (YK q5) (ZI q2 q4);exact⟨f,fd,D,by rw[fi P.cls,q1],D5 q2 q3,ZI q2 q4⟩
def ClsG.mtxt{c:ClsRec}{cl:Cl}(g:ClsG h mg c (cl.c n)){d:Def}{m:MethRec}(hm:m∈c.meths)(hd:(m.name,m.params,m.body,m.scope)=(d.x,va d.st,kS d.st,kB d.st))(hq:c.name++"." ++ m.name=d.qual)(hb:fh d.x d.qual d.st d.ps):uv (Kw h) cl n d:=by
 obtain⟨a,fd,D,M⟩:=g.meth hm hd hq hb;exact⟨a,fd,D,M,g.cls.1⟩
def ClsG.itxt{c:ClsRec}{cl:Cl}(g:ClsG h mg c (cl.c n)){d:Def}{m:MethRec}(hm:m∈c.meths)(hd:(m.name,m.params,m.body,m.scope)=(d.x,va d.st,kS d.st,kB d.st))(hq:c.name++"." ++ m.name=d.qual)(hb:fh d.x d.qual d.st d.ps)(hi:d.x="__init__"):mR (Kw h) mg cl c.name n d:=by
 obtain⟨a,fd,D,M⟩:=g.meth hm hd hq hb;obtain⟨N,mN,P⟩:=g.ex;obtain⟨m1,m2⟩:=Vm P.cls;exact⟨a,fd,D,g.m,m1,hi▸M.at_,M.fn,m2⟩
noncomputable def adr(mg:Str->Option Value)(x:Str):Addr:=match mg x with
 | some (.ref a)=>a
 | _=>0
noncomputable def ik(mg:Str->Option Value)(l:List (Str×Str)):List (Str×W):=l.map λp=>(p.1,.fn (adr mg p.2))
def BI{h₀:Heap}{mg:Str->Option Value}{K:PySem.W.Frag}(M:∀x,mg x=h₀.nsMap mainGlobals x){P:Params}:∀(l:List (Str×Str)) (es:List DictEntry),am (λp (e:DictEntry)=>Qv p.1 e.key&&VA h₀ p.2 e.val) l es=true->es.map (·.hash)=l.map (λp=>PyData.keyHash P p.1)->TabRel K (ik mg l) es/\PySem.W.KeysLit P es:=by
 intro l;induction l with
 | nil=>intro es a b;cases es with | nil=>exact⟨.nil,trivial⟩ | cons _ _=>cases a
 | cons p l ih=>
  intro es a b;cases es with
  | nil=>cases a
  | cons e es=>
   have a1:=jw.mp a;have a2:=jw.mp a1.1;have b1:=List.cons.inj b;obtain⟨r,t⟩:=ih es a1.2 b1.2;obtain⟨eh,ek,ev⟩:=e;cases ek with
   | str y t'=>
    have q:=eq_of_beq (show(p.1==y)=true from a2.1);subst q;have kw:KW K (.fn (adr mg p.2)) ev:=by
     have z:=a2.2;unfold VA at z;unfold adr;rw[M];split at z
     .rename_i a0 b0 e0 e1
      simp only at e0;rw[e1];have:=eq_of_beq z;subst this;rw[show ev=.ref a0 from e0];exact .fn
     .cases z
    exact⟨.cons (hs:=0) (v:=.none) rfl kw r,⟨_,_,rfl,b1.1⟩,t⟩
   | _=>cases a2.1
def XT{cons:List (Str×Cn)}{tabs:List (Str×List (Str×Cn))}{bins:List Str}{ways:List (Str×List (Str×Str))}{w:World}{h:Heap}{mg:Str->Option Value}(Y:(Yr cons tabs bins ways).says w h)(G:h.Ns mainGlobals mg) :
  AllOf (Glob (Kw h) mg) (toT cons)/\AllOf (TabOk (Kw h) w.params mg) (tabs.map λp=>(p.1,toT p.2))/\AllNone mg bins/\AllOf (λx l=>TabOk (Kw h) w.params mg x (ik mg l)) ways:=by
 obtain⟨h₀,k,b,t,u⟩:=Y;obtain⟨h1,h2,h3⟩:=CV (cons:=cons) (tabs:=tabs) (bins:=bins) (w:=w) (h:=h) ⟨h₀,k,b,t⟩ G;refine⟨h1,h2,h3,?_⟩;unfold mT at b;simp only[zu,kW] at b;have M:=ZE G k b.1.1;have hK:∀b o,h₀.get? b=some o->(Kw h).lookup b=some o:=λb o e=>by rw[Kw.lookup];exact k _ _ e
 have key:∀p∈ways,TabOk (Kw h) w.params mg p.1 (ik mg p.2):=λp m=>by
  have e:Wb h₀ p.2 (h₀.nsMap mainGlobals p.1)=(true,p.2.map λk=>PyData.keyHash w.params k.1):=by
   unfold Vp goodW at u;exact(List.map_inj_left.mp u) p m
  unfold Wb at e;cases q:h₀.nsMap mainGlobals p.1 with
  | none=>rw[q] at e;cases e
  | some v=>
   rw[q] at e;cases z:dictAt h₀ v with
   | none=>rw[qK,z] at e;cases e
   | some es=>
    rw[qK,z] at e;have e2:=yq e;obtain⟨a,n,rfl,g,f⟩:=oC z;obtain⟨r,kl⟩:=BI (K:=Kw h) M (P:=w.params) p.2 es.toList e2.1 e2.2;exact⟨a,es,n,(M _).trans q,hK _ _ g,kl,f,r⟩
 have:=lL (P:=λx l=>TabOk (Kw h) w.params mg x (ik mg l)) (id:List (Str×Str)->List (Str×Str)) (l:=ways) key;simpa using this
noncomputable def pq(fns:List (Str×(List W->M W))):List (Str×Str)->List (Str×(List W->M W))->Prop
 | [],[]=>True
 | (k,x)::l,(k',g)::ws=>k=k'/\fns.lookup x=some g/\pq fns l ws
 | _,_=>False
theorem sR{P:Program}{w:World}{K:PySem.W.Frag}{mg:Str->Option Value}{fns:List (Str×(List W->M W))}(A:AllOf (FnAt P w K mg base cl k) fns):∀{l:List (Str×Str)} {ws:List (Str×(List W->M W))},pq fns l ws->∀y g,ws.lookup y=some g->
  ∃f fd ps,(ik mg l).lookup y=some (.fn f)/\FnOk P w K mg base uc k f fd ps (xp K cl g)/\PySem.W.keepIn K (.ref f)=true/\Binds K fd ps []
 | [],[],_,y,g,e=>by cases e
 | [],_::_,r,_,_,_=>by cases r
 | _::_,[],r,_,_,_=>by cases r
 | (k0,x)::l,(k1,g1)::ws,r,y,g,e=>by
  obtain⟨rfl,r2,r3⟩:=r;rw[kJ] at e;show ∃f fd ps,((k0,W.fn (adr mg x))::ik mg l).lookup y=some (.fn f)/\_
  rw[kJ];cases q:y==k0 with
  | true=>
   rw[q] at e;cases e;obtain⟨f,fd,ps,a,b,c,d⟩:=A.at r2;exact⟨f,fd,ps,by simp only[adr,b],a,c,d⟩
  | false=>
   rw[q] at e;exact sR A r3 y g e
def Qi{P:Program}{w:World}{K:PySem.W.Frag}{mg:Str->Option Value}{base:Heap}{cl:Cl}{fns:List (Str×(List W->M W))}(A:AllOf (FnAt P w K mg base cl k) fns)(T:TabOk K w.params mg x (ik mg l))(r:pq fns l ws):Kl P w K mg base cl k x ws:=⟨_,T,sR A r⟩
noncomputable def uF(q:Program)(loose:List Str)(x:Str):Option ClsRec:=(plainsOf q (looseW q loose)).find? (·.name==x)
def JU{q:Program}(G:Ground q loose R XP w s₀ mg mb h)(hx:(uF q loose x).isSome=true):∃c C,uF q loose x=some c/\ClsG h mg c C:=by
 obtain⟨c,hc⟩:=j8.mp hx;obtain⟨C,g⟩:=FZ G (vM hc);exact⟨c,C,hc,g⟩
def lh{q:Program}{c:ClsRec}(hc:uF q loose x=some c):c.name=x:=by
 have:=List.find?_some (show(plainsOf q (looseW q loose)).find? (λc=>c.name==x)=some c from hc);exact eq_of_beq this
noncomputable def oR(q:Program)(loose:List Str)(x m:Str):Option MethRec:=(uF q loose x).bind λc=>c.meths.find? (·.name==m)
def ya{q:Program}{c:ClsRec}{d:Def}(hc:uF q loose x=some c)(hm:(oR q loose x d.x).map (λm=>(m.name,m.params,m.body,m.scope))=some (d.x,va d.st,kS d.st,kB d.st)):∃m∈c.meths,(m.name,m.params,m.body,m.scope)=(d.x,va d.st,kS d.st,kB d.st):=by
 obtain⟨m,e1,e2⟩:=zg.mp hm;unfold oR at e1;rw[hc,qK] at e1;exact⟨m,vM e1,e2⟩
section
variable{q:Program}{loose:List Str}{x:Str}{c:ClsRec}{d:Def}{h:Heap}{mg:Str->Option Value}{cl:Cl}{n:Nat}
def uK(g:ClsG h mg c (cl.c n))(hc:uF q loose x=some c)(hm:(oR q loose x d.x).map (λm=>(m.name,m.params,m.body,m.scope))=some (d.x,va d.st,kS d.st,kB d.st))(hq:x++"." ++ d.x=d.qual)(hb:fh d.x d.qual d.st d.ps):uv (Kw h) cl n d:=by
 obtain⟨m,m1,m2⟩:=ya hc hm;refine g.mtxt m1 m2 ?_ hb;rw[lh hc,(yq m2).1];exact hq
def WN(g:ClsG h mg c (cl.c n))(hc:uF q loose x=some c)(hm:(oR q loose x d.x).map (λm=>(m.name,m.params,m.body,m.scope))=some (d.x,va d.st,kS d.st,kB d.st))(hq:x++"." ++ d.x=d.qual)(hb:fh d.x d.qual d.st d.ps)(hi:d.x="__init__"):mR (Kw h) mg cl x n d:=by
 obtain⟨m,m1,m2⟩:=ya hc hm;have:=g.itxt m1 m2 (by rw[lh hc,(yq m2).1];exact hq) hb hi;rwa [lh hc] at this
def Zy{fs:List Str}(g:ClsG h mg c (cl.c n))(hc:uF q loose x=some c)(hf:(uF q loose x).map (λc=>fs.all λf=>c.statics.contains f&&(fastBuiltinOwn "object" f).isNone)=some true):∀f∈fs,Cls (Kw h) (cl.c n)/\NoAttr (Kw h) (cl.c n) f:=by
 rw[hc,yr] at hf;intro f m;have:=kW.mp (kh hf) f m;rw[zu] at this;exact⟨g.cls.1,g.cls.2 f (by simpa using this.1) (qI.mp this.2)⟩
def Vn{K:PySem.W.Frag}(H:∀p∈fl,∀f∈p.2,Cls K (cl.c p.1)/\NoAttr K (cl.c p.1) f):ee K cl fl:=by
 intro c f e;unfold vc at e;obtain⟨p,m,r⟩:=qm.mp e;rw[zu] at r;obtain⟨y,my,ry⟩:=qm.mp r.2;have e1:=eq_of_beq r.1;have e2:=eq_of_beq ry;subst e1 e2;exact H p m y my
end
def walk_lawD{l:PySem.W.OpenLaw}{q:Program}{d:DefRec}{D:Def}{Γ:RC}{ns:Nat}(T:PySem.W.Frag->World->(Str->Option Value)->Cl->Prop)(hn:l.most=some 63)(hdf:d.params.defaults=[])
  (hr:Room (room+1) callerA) (hx:D.x=d.name) (hps:D.ps=[y]) (hb:fh D.x D.qual D.st D.ps) (hsc:ur D.N D.ps (kB D.st)=true) (hns:D.N.length-1=ns) (hB:cB (Γ.at D) (kS D.st)=some b) (hg:g=gc (kd 1 ns b))
  (main:∀ns:List Int,ns.length<=63->∃h',g [.fls (ns.map W.int)] []=some (.bl true,h'))
  (lvl:∀(w:World) (K:PySem.W.Frag) (mg:Str->Option Value) (base:Heap) (cl:Cl),T K w mg cl->BaseOk l.prog w K mg base cl room Γ)
  (F:∀(w:World) (s₀:Shared) (mg mb:Str->Option Value) (h:Heap),Ground q loose [] XP w s₀ mg mb h->YP w h->∃cl,iC (Kw h) mg D/\T (Kw h) w mg cl):PySem.W.WalkO q loose XP YP l.row.toRowW d [] (λf vs=>PySem.call f vs):=by
 refine Wr (n:=63) (k:=room+1) (x:=y) (CX:=uc) (sp:=λ_=>Fk g) hn (by decide) hdf hr (λw s₀ mg mb fa h G Y hmg=>?_) (λw K H a ns hl _ hS=>CC main K H a ns hl hS) λ_ _ _ _ z=>z
 obtain⟨cl,⟨a,fd,D1,m⟩,t⟩:=F w s₀ mg mb h G Y;have e:=m.symm.trans (hx▸hmg);cases e;refine⟨fd,?_,λbase _ _=>?_⟩
 .intro s v
  obtain⟨oc,od,kV,doc,pm,an,cdv,ct,osl,rfl,lk,hcd⟩:=D1.F.ex;have hb2:=hb [v] (by rw[hps];rfl) kV doc pm an cdv ct;rw[hps] at hb2;exact .of_eq hb2
 .have:=iN D1 (lvl w _ mg base cl t) hsc (np:=1) (by rw[hps];rfl) hns hB
  rw[hps] at this;subst hg;exact this.imp λvs H Q E z=>z cl
end ML
namespace ML
open PySem L2
noncomputable def dt:Nat->W->Bool
 | 0,_=>false
 | _+1,.non=>true
 | _+1,.bl _=>true
 | _+1,.int _=>true
 | _+1,.str x=>PyData.strOk x&&decide (x.length<=1000)
 | n+1,.tup l=>decide (l.length<=1000)&&l.all (dt n)
 | n+1,.fls l=>decide (l.length<=1000)&&l.all (dt n)
 | _+1,.ref _=>false
 | _+1,.fdc _=>false
 | _+1,.fn _=>false
noncomputable def toD:Nat->W->PyData
 | 0,_=>.none
 | _+1,.non=>.none
 | _+1,.bl b=>.bool b
 | _+1,.int i=>.int i
 | _+1,.str x=>.str x
 | n+1,.tup l=>.tuple (l.map (toD n))
 | n+1,.fls l=>.list (l.map (toD n))
 | _+1,_=>.none
theorem y9:∀{l:List W},(∀w∈l,low m w=true)->lows m l=true
 | [],_=>by unfold lows;rfl
 | w::r,h=>by
  unfold lows;rw[h w zX,y9 λw hw=>h w (zJ _ hw)];rfl
theorem mE:∀{n:Nat} {w:W},dt n w=true->low m w=true
 | 0,_,h=>by cases h
 | n+1,.non,_=>by unfold low;rfl
 | n+1,.bl _,_=>by unfold low;rfl
 | n+1,.int _,_=>by unfold low;rfl
 | n+1,.str _,_=>by unfold low;rfl
 | n+1,.tup l,h=>by
  unfold dt at h;rw[zu] at h;unfold low;exact y9 λw hw=>mE (kW.mp h.2 w hw)
 | n+1,.fls l,h=>by
  unfold dt at h;rw[zu] at h;unfold low;exact y9 λw hw=>mE (kW.mp h.2 w hw)
 | n+1,.ref _,h=>by cases h
 | n+1,.fdc _,h=>by cases h
 | n+1,.fn _,h=>by cases h
theorem jp:∀{n m:Nat} {w:W},dt n w=true->n<=m->dt m w=true
 | 0,_,_,h,_=>by cases h
 | n+1,0,_,_,h=>by omega
 | n+1,m+1,.non,_,_=>rfl
 | n+1,m+1,.bl _,_,_=>rfl
 | n+1,m+1,.int _,_,_=>rfl
 | n+1,m+1,.str _,h,_=>h
 | n+1,m+1,.tup l,h,hn=>by
  unfold dt at h ⊢;rw[zu] at h ⊢;exact⟨h.1,kW.mpr λw hw=>jp (kW.mp h.2 w hw) ∅⟩
 | n+1,m+1,.fls l,h,hn=>by
  unfold dt at h ⊢;rw[zu] at h ⊢;exact⟨h.1,kW.mpr λw hw=>jp (kW.mp h.2 w hw) ∅⟩
 | n+1,m+1,.ref _,h,_=>by cases h
 | n+1,m+1,.fdc _,h,_=>by cases h
 | n+1,m+1,.fn _,h,_=>by cases h
theorem m9{α β:Type}{f:α->Option β}{g:α->β}:∀{l:List α},(∀x∈l,f x=some (g x))->ve f l=some (l.map g)
 | [],_=>rfl
 | x::r,h=>by
  unfold ve;rw[h x zX,m9 λy hy=>h y (zJ _ hy)];rfl
theorem ux:∀{n m:Nat} {w:W},dt n w=true->n<=m->kR m h w=some (toD n w)
 | 0,_,_,e,_=>by cases e
 | n+1,0,_,_,hn=>by omega
 | n+1,m+1,.non,_,_=>rfl
 | n+1,m+1,.bl _,_,_=>rfl
 | n+1,m+1,.int _,_,_=>rfl
 | n+1,m+1,.str x,e,_=>by
  unfold dt at e;rw[zu] at e;unfold kR;rw[zY e.1];rfl
 | n+1,m+1,.tup l,e,hn=>by
  unfold dt at e;rw[zu] at e;unfold kR;rw[m9 λw hw=>ux (kW.mp e.2 w hw) ∅];rfl
 | n+1,m+1,.fls l,e,hn=>by
  unfold dt at e;rw[zu] at e;unfold kR;rw[m9 λw hw=>ux (kW.mp e.2 w hw) ∅];rfl
 | n+1,m+1,.ref _,e,_=>by cases e
 | n+1,m+1,.fdc _,e,_=>by cases e
 | n+1,m+1,.fn _,e,_=>by cases e
def bi{f:List W->M W}(e:f ws h=some (w,h))(d:dt n w=true):gc f ws h=some (w,h):=xD e (mE d) (zP _)
def B5{f:List W->M W}(e:f ws h=some (w,h++t))(d:dt n w=true)(nw:w≠.non:=by nofun):gc f ws h=some (w,h):=xD e (mE d) (jl _ _) (.inl nw)
noncomputable def tyB(T:Ty):W->Bool
 | .bl _=>decide (T=.bool)||decide (T=.int)
 | .int _=>decide (T=.int)
 | .str _=>decide (T=.str)
 | .tup _=>decide (T=.tuple)
 | .fls _=>decide (T=.list)
 | _=>false
theorem Cq{T:Ty}(d:dt n w=true):isW T w h=some (.bl (tyB T w),h):=by
 cases n with
 | zero=>cases d
 | succ n=>
  unfold isW sY tyB;cases w with
  | ref _=>cases d
  | fdc _=>cases d
  | fn _=>cases d
  | non=>rfl
  | bl b=>simp only[iU];cases T<;>rfl
  | int b=>simp only[iU];cases T<;>rfl
  | str b=>simp only[iU];cases T<;>rfl
  | tup b=>simp only[iU];cases T<;>rfl
  | fls b=>simp only[iU];cases T<;>rfl
theorem yk(h:MH)(x y:Str):eqB h (.str x) (.str y)=some (x==y):=rfl
theorem vt(h:MH)(x y:Int):eqB h (.int x) (.int y)=some (x==y):=rfl
noncomputable def l9:W->Bool
 | .tup []=>true
 | _=>false
def Xw(d:dt n w=true)(hn:n<=60)(dl:dt m (.tup l)=true)(hm:m<=60):eqB h w (.tup l)=some (PyData.eqv (toD n w) (toD m (.tup l))):=by
 have e1:=ux (h:=h) d (show n<=deep from hn);have e2:=ux (h:=h) dl (show m<=deep from hm);unfold eqB;have:nP w (.tup l)=none:=by unfold nP;cases w<;>rfl
 rw[this,e1,e2]
def Zr(d:dt n w=true)(hn:n<=60):eqB h w (.tup [])=some (l9 w):=by
 rw[Xw d hn (m:=1) (by rfl) ∅];cases n with
 | zero=>cases d
 | succ n=>
  cases w with
  | ref _=>cases d
  | fdc _=>cases d
  | fn _=>cases d
  | tup l=>cases l<;>simp[toD,PyData.eqv,PyData.eqvAll,l9]
  | _=>simp[toD,PyData.eqv,l9]
noncomputable def xU(l:List Str):W->Bool
 | .str x=>l.any (· == x)
 | _=>false
noncomputable def zI(l:List Str):List W:=l.map .str
def V1{l:List Str}(d:dt n w=true)(hn:n<=60)(hl:l.all PyData.strOk=true)(hy:xT h y=some (zI l))(hns:∀z,y≠.str z):inB h w y=some (xU l w):=by
 have e1:=ux (h:=h) d (show n<=deep from hn);have e2:ve (kR deep h) (zI l)=some (l.map .str):=by
  unfold zI;have:∀l:List Str,l.all PyData.strOk=true->ve (kR deep h) (l.map .str)=some (l.map PyData.str):=by
   intro l;induction l with
   | nil=>intro _;rfl
   | cons x r ih=>
    intro hl;rw[jt,zu] at hl;simp only[zx];unfold ve;have:kR deep h (.str x)=some (.str x):=by
     show kR (59+1) h (.str x)=_
     unfold kR;rw[zY hl.1]
    rw[this,ih hl.2]
  exact this l hl
 have e3:inB h w y=match xT h y with
  | some l=>match kR deep h w,ve (kR deep h) l with
   | some d,some ds=>some (ds.any λe=>PyData.eqv e d)
   | _,_=>none
  | none=>none:=by
  rfl
 rw[e3,hy];simp only[e1,e2];congr 1
 cases n with
 | zero=>cases d
 | succ n=>
  rw[List.any_map];cases w with
  | ref _=>cases d
  | fdc _=>cases d
  | fn _=>cases d
  | str x=>
   unfold xU;congr 1
  | _=>simp[toD,PyData.eqv,xU]
def i5{l:List Str}(d:dt n w=true)(hn:n<=60)(hl:l.all PyData.strOk=true):inB h w (.tup (zI l))=some (xU l w):=V1 d hn hl rfl (λz=>nofun)
theorem l6{h:MH}(hn:h.length=n0)(p:W->Bool)(f:W->W):∀(l:List W) (acc:List W) (o:Option W),
  (∀w∈l,∀H',t (some w::caps) H'=some (p w,H'))->(∀w∈l,p w=true->∀H',m (some w::caps) H'=some (f w,H'))->acc.length+l.length<=cap->
  vv 1 (zC 0) t m n0 l (o::caps) (h++[.lst acc])=some (h++[.lst (acc++(l.filter p).map f)])
 | [],acc,o,_,_,_=>by simp[vv]
 | w::l,acc,o,ht,hf,hl=>by
  have ih:=λacc'=>l6 (caps:=caps) (t:=t) (m:=m) hn p f l acc' none (λw hw=>ht w (zJ _ hw)) (λw hw=>hf w (zJ _ hw))
  have hb:blank 1 (some w::caps)=none::caps:=by simp[blank]
  unfold vv;have hg:zC 0 w (o::caps) (h++[.lst acc])=some (some w::caps,h++[.lst acc]):=by simp[zC]
  rw[hg];simp only;rw[ht w zX];simp only[zp] at hl;cases hp:p w with
  | false=>
   simp only;rw[hb,ih acc ∅];simp[v7,hp]
  | true=>
   simp only;rw[hf w zX hp];have e1:(h++[MO.lst acc])[n0]?=some (.lst acc):=by rw[<-hn];simp
   have e2:(h++[MO.lst acc]).set n0 (.lst (acc++[f w]))=h++[.lst (acc++[f w])]:=by rw[<-hn,jO _ _ (zj _)];simp
   simp only[e1];rw[zY ∅,hb,e2,ih (acc++[f w]) (by rw[zN];simp;omega)];simp[v7,hp]
def dA{ks:List Nat}{ρ:En}{h:MH}{l:List W}(p:W->Bool)(f:W->W)(hm:mi ρ h=some (.items l,h))(ht:∀w∈l,∀H',t (some w::ks.map λk=>(ρ[k]?).join) H'=some (p w,H'))
  (hf:∀w∈l,p w=true->∀H',m (some w::ks.map λk=>(ρ[k]?).join) H'=some (f w,H')) (hlow:∀w∈l,p w=true->low h.length (f w)=true) (hl:l.length<=cap):ja mi 1 ks (zC 0) t m ρ h=some (.fls ((l.filter p).map f),h):=by
 have e:=l6 (caps:=ks.map λk=>(ρ[k]?).join) (t:=t) (m:=m) (h:=h) rfl p f l [] none ht hf (by simpa using hl);unfold ja uY;rw[hm];have er:(List.replicate 1 (none:Option W)++ks.map λk=>(ρ[k]?).join)=none::ks.map λk=>(ρ[k]?).join:=rfl
 simp only;rw[er,e];simp only[kI,zG (zj _),qP,zq];rw[zY];refine⟨jl _ _,y9 λw hw=>?_⟩;obtain⟨w',h1,rfl⟩:=jd.mp hw;obtain⟨h2,h3⟩:=vA.mp h1;exact hlow w' h2 h3
theorem iT{h:MH}(hn:h.length=n0)(p:W->W->Bool)(f:W->W->W):∀(l:List (W×W)) (acc:List W) (o1 o2:Option W),
  (∀w∈l,∀H',t (some w.1::some w.2::caps) H'=some (p w.1 w.2,H'))->(∀w∈l,p w.1 w.2=true->∀H',m (some w.1::some w.2::caps) H'=some (f w.1 w.2,H'))->acc.length+l.length<=cap->
  vv 2 (bX [zC 0,zC 1]) t m n0 (l.map λw=>.tup [w.1,w.2]) (o1::o2::caps) (h++[.lst acc])=some (h++[.lst (acc++(l.filter λw=>p w.1 w.2).map λw=>f w.1 w.2)])
 | [],acc,_,_,_,_,_=>by simp[vv]
 | (a,b)::l,acc,o1,o2,ht,hf,hl=>by
  have ih:=λacc'=>iT (caps:=caps) (t:=t) (m:=m) hn p f l acc' none none (λw hw=>ht w (zJ _ hw)) (λw hw=>hf w (zJ _ hw))
  have hb:blank 2 (some a::some b::caps)=none::none::caps:=by simp[blank,List.replicate]
  simp only[zx];unfold vv;have hg:bX [zC 0,zC 1] (.tup [a,b]) (o1::o2::caps) (h++[.lst acc])=some (some a::some b::caps,h++[.lst acc]):=by simp[bX,eK,bnd,zC]
  rw[hg];simp only;rw[ht (a,b) zX];simp only[zp] at hl;cases hp:p a b with
  | false=>
   simp only;rw[hb,ih acc ∅];simp[v7,hp]
  | true=>
   simp only;rw[hf (a,b) zX hp];have e1:(h++[MO.lst acc])[n0]?=some (.lst acc):=by rw[<-hn];simp
   have e2:(h++[MO.lst acc]).set n0 (.lst (acc++[f a b]))=h++[.lst (acc++[f a b])]:=by rw[<-hn,jO _ _ (zj _)];simp
   simp only[e1];rw[zY ∅,hb,e2,ih (acc++[f a b]) (by rw[zN];simp;omega)];simp[v7,hp]
def Dl{ks:List Nat}{ρ:En}{h:MH}{l:List (W×W)}(p:W->W->Bool)(f:W->W->W)(hm:mi ρ h=some (.items (l.map λw=>.tup [w.1,w.2]),h))(ht:∀w∈l,∀H',t (some w.1::some w.2::ks.map λk=>(ρ[k]?).join) H'=some (p w.1 w.2,H'))
  (hf:∀w∈l,p w.1 w.2=true->∀H',m (some w.1::some w.2::ks.map λk=>(ρ[k]?).join) H'=some (f w.1 w.2,H')) (hlow:∀w∈l,p w.1 w.2=true->low h.length (f w.1 w.2)=true) (hl:l.length<=cap):ja mi 2 ks (bX [zC 0,zC 1]) t m ρ h=some (.fls ((l.filter λw=>p w.1 w.2).map λw=>f w.1 w.2),h):=by
 have e:=iT (caps:=ks.map λk=>(ρ[k]?).join) (t:=t) (m:=m) (h:=h) rfl p f l [] none none ht hf (by simpa using hl);unfold ja uY;rw[hm];have er:(List.replicate 2 (none:Option W)++ks.map λk=>(ρ[k]?).join)=none::none::ks.map λk=>(ρ[k]?).join:=rfl
 simp only;rw[er,e];simp only[kI,zG (zj _),qP,zq];rw[zY];refine⟨jl _ _,y9 λw hw=>?_⟩;obtain⟨w',h1,rfl⟩:=jd.mp hw;obtain⟨h2,h3⟩:=vA.mp h1;exact hlow w' h2 h3
end ML
namespace K17
open PySem PySem.Spec PyProof.Rows L2 ML
def top(i:Nat):Stmt:=PySem.Challenge.pw_shelfwork_k17_whole_reckoning.main.body.getD i (.Pass ⟨0,0,0,0⟩)
def inClass:Stmt->Nat->Stmt
 | .ClassDef _ _ _ b ..,k=>b.getD k (.Pass ⟨0,0,0,0⟩)
 | s,_=>s
def qS:W:=(.tup [.str "a",.str "b",.str "c",.str "d"])
def io:W:=(.int 1009)
def x9:W:=(.int 4)
def t_FORMS:List (Str×W):=[("number",(.tup [.int 2,.int 2])),("name",(.tup [.int 2,.int 2])),("read",(.tup [.int 2,.int 2])),("write",(.tup [.int 3,.int 2])),("add",(.tup [.int 3,.int 1])),("less",(.tup [.int 3,.int 1])),("then",(.tup [.int 3,.int 1])),("if",(.tup [.int 4,.int 1])),("loop",(.tup [.int 3,.int 1])),("let",(.tup [.int 4,.int 2])),("own",(.tup [.int 4,.int 2])),("say",(.tup [.int 2,.int 1])),("ask",(.tup [.int 1,.int 1])),("do",(.tup [.int 2,.int 2])),("call",(.tup [.int 4,.int 2]))]
structure Fs where
 (cA aN au aW bD cT bW bw dC cU cV dJ cR dw dB dq dm bG bZ bu aD aA bY cJ cF aa cY az cZ bI bJ bF aF aj bH fY bf bV bU aJ aK aL aP aZ bC aX aR cD cN cI dO:List W->M W)
def kx:List (Nat×List Str):=[(0,["rules","steps","worths","touch_ahead"]),(1,["shelves","answers","spoken","asks"])]
def mt(F:Fs):ng:=[((0,("begin":Str)),F.bV),((0,("bring":Str)),F.bU),((0,("rest_ahead_of":Str)),F.aJ),((0,("go_on":Str)),F.aK),((0,("take_step":Str)),F.aL),((0,("do_touch":Str)),F.aP),((0,("came_to":Str)),F.aZ),((1,("do":Str)),F.aX),((1,("next_answer":Str)),F.aR),((1,("store":Str)),F.cD),((1,("said":Str)),F.cN)]
def qB(F:Fs):List (Str×(List W->M W)):=[("number",F.bD),("name",F.cT),("read",F.bW),("write",F.bw),("add",F.dC),("less",F.cU),("then",F.cV),("if",F.dJ),("loop",F.cR),("let",F.dw),("own",F.dB),("say",F.dq),("ask",F.dm),("do",F.bG),("call",F.bZ)]
noncomputable def du(F:Fs):MS:=(zo (k8 (ke (zi (vn false) (zi zw (ze 0) (eC (.int 0))) (eC (.str "call"))))
 (ku (zi addW (zi zw (ze 0) (eC (.int 2))) (zi zw (ze 0) (eC (.int 3)))))
 kN)
 (ku (ba (ze 0) (some (zi zw (ug (cv t_FORMS) (zi zw (ze 0) (eC (.int 0)))) (eC (.int 1)))) none)))
noncomputable def aC(F:Fs):MS:=(zo (zD (xO (vw [ze 1]) 1 [0] (zC 0) kL (kD uI (ze 1) [])) (zC 2))
 (ku (ug nu (ze 2))))
noncomputable def aB(F:Fs):MS:=(zo (k8 (ke (zi (vn false) (zi zw (ze 0) (eC (.int 0))) (eC (.str "call"))))
 (ku (zi zw (ze 0) (eC (.int 2))))
 kN)
 (zo (k8 (ke (zi (u9 false) (zi zw (ze 0) (eC (.int 0))) (zh zv [eC (.str "if"),eC (.str "loop"),eC (.str "let"),eC (.str "own")])))
 (ku (ba (zh F.cA [ze 0]) none (some (eC (.int 1)))))
 kN)
 (ku (zh F.cA [ze 0]))))
noncomputable def bz(F:Fs):MS:=(zo (zD (zh mB [ze 0]) (zC 3))
 (zo (zD (ze 2) (aT (ze 3) (ze 1)))
 (ku (ze 3))))
noncomputable def eG(F:Fs):MS:=(kr (kb (mt F) "bring" (ze 0) [zi zw (ze 1) (eC (.int 1))]))
noncomputable def fQ(F:Fs):MS:=(kr (kb (mt F) "bring" (ze 0) [zi yn (ze 2) (zi zw (ze 1) (eC (.int 1)))]))
noncomputable def cO(F:Fs):MS:=(k8 (ke (zi (u9 false) (zi zw (ze 1) (eC (.int 1))) (eC qS)))
 (kr (kb (mt F) "rest_ahead_of" (ze 0) [zh zv [eC (.str "read"),zi zw (ze 1) (eC (.int 1))]]))
 (kr (kb (mt F) "bring" (ze 0) [zi zw (zi yn (ze 2) (zi zw (ze 1) (eC (.int 1)))) (eC (.int 0))])))
noncomputable def b8(F:Fs):MS:=(k8 (ke (zi (u9 false) (zi zw (ze 1) (eC (.int 1))) (eC qS)))
 (kr (kb (mt F) "rest_ahead_of" (ze 0) [zh zv [eC (.str "write"),zi zw (ze 1) (eC (.int 1)),zi zw (ze 3) (eC (.int 0))]]))
 (zo (zD (zi zw (ze 3) (eC (.int 0))) (aT (zi yn (ze 2) (zi zw (ze 1) (eC (.int 1)))) (eC (.int 0))))
 (kr (kb (mt F) "bring" (ze 0) [zi zw (ze 3) (eC (.int 0))]))))
noncomputable def gn(F:Fs):MS:=(kr (kb (mt F) "bring" (ze 0) [zi yv (zi addW (zi zw (ze 3) (eC (.int 0))) (zi zw (ze 3) (eC (.int 1)))) (eC io)]))
noncomputable def fL(F:Fs):MS:=(kr (kb (mt F) "bring" (ze 0) [ZG (ke (zi ie (zi zw (ze 3) (eC (.int 0))) (zi zw (ze 3) (eC (.int 1))))) (eC (.int 1)) (eC (.int 0))]))
noncomputable def fM(F:Fs):MS:=(kr (kb (mt F) "bring" (ze 0) [zi zw (ze 3) (eC (.int 1))]))
noncomputable def gr(F:Fs):MS:=(kr (kb (mt F) "begin" (ze 0) [ZG (ke (zi (vn true) (zi zw (ze 3) (eC (.int 0))) (eC (.int 0)))) (zi zw (ze 1) (eC (.int 2))) (zi zw (ze 1) (eC (.int 3))),ze 2]))
noncomputable def dH(F:Fs):MS:=(zo (zD (zh zv [eC (.str "number"),eC (.int 0)]) (zC 4))
 (zo (xR (vw [zi yv (zi zw (ze 3) (eC (.int 0))) (eC x9)]) (zC 5)
 (zD (zh zv [eC (.str "then"),zi zw (ze 1) (eC (.int 2)),ze 4]) (zC 4)))
 (kr (kb (mt F) "begin" (ze 0) [ze 4,ze 2]))))
noncomputable def gb(F:Fs):MS:=(kr (kb (mt F) "begin" (ze 0) [zi zw (ze 1) (eC (.int 3)),zh F.aW [ze 2,zi zw (ze 1) (eC (.int 1)),zi zw (ze 3) (eC (.int 0))]]))
noncomputable def fZ(F:Fs):MS:=(kr (kb (mt F) "begin" (ze 0) [zi zw (ze 1) (eC (.int 3)),zh F.aW [ze 2,zi zw (ze 1) (eC (.int 1)),zh xW [zi zw (ze 3) (eC (.int 0))]]]))
noncomputable def fX(F:Fs):MS:=(kr (kb (mt F) "rest_ahead_of" (ze 0) [zh zv [eC (.str "say"),zi zw (ze 3) (eC (.int 0))]]))
noncomputable def f9(F:Fs):MS:=(kr (kb (mt F) "rest_ahead_of" (ze 0) [zh zv [eC (.str "ask")]]))
noncomputable def cW(F:Fs):MS:=(zo (zD (zi yn (ze 2) (zi zw (ze 1) (eC (.int 1)))) (zC 4))
 (kr (kb (mt F) "begin" (ze 0) [zi zw (ze 4) (eC (.int 0)),zi zw (ze 4) (eC (.int 1))])))
noncomputable def cL(F:Fs):MS:=(zo (zD (zi zw (kG kx "rules" (ze 0)) (zi zw (ze 1) (eC (.int 1)))) (zC 4))
 (zo (zD (iP [zi zw (ze 4) (eC (.int 0)),ze 3]) (zC 5))
 (zo (xR (eu [zi zw (ze 4) (eC (.int 1)),zi zw (ze 1) (eC (.int 3))]) (bX [zC 6,zC 7])
 (zD (zh zv [ze 7,ze 2]) (aT (ze 5) (ze 6))))
 (kr (kb (mt F) "begin" (ze 0) [zi zw (ze 4) (eC (.int 2)),ze 5])))))
noncomputable def bh(F:Fs):MS:=(zo (kr (kb (mt F) "go_on" (ze 0) []))
 (k8 (ke (zi (y0 false) (kG kx "touch_ahead" (ze 0)) (eC .non)))
 (kr (kb (mt F) "do_touch" (ze 0) [ze 1]))
 kN))
noncomputable def aG(F:Fs):MS:=(zo (zD (zh xW []) (zC 2))
 (zo (kr (kb (mt F) "go_on" (ze 0) []))
 (zo (ul (ke (zi (y0 false) (kG kx "touch_ahead" (ze 0)) (eC .non)))
 (zo (kr (kD qf (ze 2) [kb (mt F) "do_touch" (ze 0) [ze 1]]))
 (kr (kb (mt F) "go_on" (ze 0) []))))
 (ku (ze 2)))))
noncomputable def fu(F:Fs):MS:=(zo (zD (zh F.bY [ze 0,zh j2 [ze 1],ze 2,ze 3]) (zC 4))
 (ku (zh zv [zi zw (zi zw (ze 4) (eC (.int 0))) (eC (.int 0)),zi zw (ze 4) (eC (.int 1)),zi zw (ze 4) (eC (.int 2)),zi zw (ze 4) (eC (.int 3))])))
noncomputable def cM(F:Fs):MS:=(ku (zh F.cJ [ze 0,ze 1,ze 2,ze 3,zh j2 []]))
noncomputable def Qn(F:Fs):MS:=(k8 (ke (xk gK ie (eC (.int 0)) (ze 7) (zh kT [ze 6])))
 (kr (zh F.bu [zi zw (ze 6) (ze 7),ze 5]))
 kN)
noncomputable def WZ(F:Fs):MS:=(kr (zh F.aD [ze 8,ze 5]))
noncomputable def dg(F:Fs):MS:=zo (zD (uq 1 F.dO [ze 2,ze 3]) (zC 5)) (zo (zD (xO (qq (ze 1)) 1 [0] (zC 0) kL (uq 0 F.cI [ze 1,ze 0])) (zC 6)) (zo (xR (qq (ze 4)) (zC 7) (Qn F)) (zo (xR (qq (ze 6)) (zC 8) (WZ F)) (zo (zD (ja (qq (ze 6)) 1 [] (zC 0) kL (kb (mt F) "came_to" (ze 0) [])) (zC 9)) (ku (zh zv [ze 9,kb (mt F) "store" (ze 5) [],kb (mt F) "said" (ze 5) [],kG kx "asks" (ze 5)]))))))
noncomputable def cC(F:Fs):MS:=(zo (k8 (ke (zi (vn false) (ze 0) (zh j2 [])))
 (ku (zi kC (eC (.int 7)) (ze 1)))
 kN)
 (ku (zi addW (zi zw (ze 0) (zi yv (ze 1) (zh kT [ze 0]))) (zi kC (eC (.int 6553)) (zi uM (ze 1) (zh kT [ze 0]))))))
noncomputable def bM(F:Fs):MS:=(zo (zD (zi yv (zi addW (zi kC (zi yv (zh F.cF [ze 0,ze 1]) (eC (.int 2147483563))) (eC (.int 69069))) (zi kC (eC (.int 104723)) (zi addW (ze 1) (eC (.int 1))))) (eC (.int 2147483563))) (zC 3))
 (zo (zD (zi yv (zi addW (zi kC (ze 3) (ze 3)) (zi uM (ze 3) (eC (.int 3)))) (eC (.int 2147483399))) (zC 3))
 (ku (zi yv (zi uM (zi yv (zi addW (zi kC (ze 3) (ze 3)) (zi uM (ze 3) (eC (.int 7)))) (eC (.int 2147483647))) (eC (.int 11))) (ze 2)))))
noncomputable def Yp(F:Fs):MS:=(zD (ze 2) (bX [zC 3,zC 4,zC 5]))
noncomputable def WS(F:Fs):MS:=(zD (zh F.aa [ze 0,ze 1,eC (.int 8)]) (zC 6))
noncomputable def ZD(F:Fs):MS:=(k8 (ke (zi ie (ze 6) (eC (.int 2))))
 (ku (zh zv [eC (.str "number"),zi zw (zh j2 [eC (.int 0),eC (.int 1),eC (.int 2),eC (.int 3),eC (.int 7),eC (.int 1008)]) (zh F.aa [ze 0,zi addW (ze 1) (eC (.int 1)),eC (.int 6)])]))
 kN)
noncomputable def sG(F:Fs):MS:=(k8 (dQ (ke (zi (vn false) (ze 6) (eC (.int 2)))) (ke (zi (vn true) (ze 3) (zh zv []))))
 (ku (zh zv [eC (.str "name"),zi zw (ze 3) (zh F.aa [ze 0,zi addW (ze 1) (eC (.int 1)),zh kT [ze 3]])]))
 kN)
noncomputable def sQ(F:Fs):MS:=(k8 (dQ (ke (zi (vn false) (ze 6) (eC (.int 3)))) (ke (zi (vn true) (ze 5) (zh zv []))))
 (ku (zh zv [eC (.str "do"),zi zw (ze 5) (zh F.aa [ze 0,zi addW (ze 1) (eC (.int 1)),zh kT [ze 5]])]))
 kN)
noncomputable def QG(F:Fs):MS:=(k8 (ke (zi (vn false) (ze 6) (eC (.int 4))))
 (ku (zh zv [eC (.str "ask")]))
 kN)
noncomputable def Jk(F:Fs):MS:=(zD (zi addW (zh zv [eC (.str "a"),eC (.str "b"),eC (.str "c"),eC (.str "d")]) (zi kC (ze 4) (eC (.int 3)))) (zC 7))
noncomputable def Ym(F:Fs):MS:=(ku (zh zv [eC (.str "read"),zi zw (ze 7) (zh F.aa [ze 0,zi addW (ze 1) (eC (.int 1)),zh kT [ze 7]])]))
noncomputable def bc(F:Fs):MS:=zo (Yp F) (zo (WS F) (zo (ZD F) (zo (sG F) (zo (sQ F) (zo (QG F) (zo (Jk F) (Ym F)))))))
noncomputable def Qy(F:Fs):MS:=(zD (zh F.aa [ze 0,ze 1,eC (.int 15)]) (zC 5))
noncomputable def ph(F:Fs):MS:=(k8 (hZ (ke (zi (vn false) (ze 2) (eC (.int 0)))) (ke (zi ie (ze 5) (eC (.int 2)))))
 (ku (zh F.cY [ze 0,zi addW (ze 1) (eC (.int 1)),ze 3]))
 kN)
noncomputable def nZ(F:Fs):MS:=(k8 (dQ (ke (zi ie (ze 5) (eC (.int 4)))) (ke (zi (vn true) (ze 4) (zh zv []))))
 (ku (zh F.cZ [ze 0,ze 1,ze 2,ze 3,ze 4]))
 kN)
noncomputable def t7(F:Fs):MS:=(zD (zh F.az [ze 0,zi addW (zi kC (ze 1) (eC (.int 3))) (eC (.int 7)),zi xJ (ze 2) (eC (.int 1)),ze 3,ze 4]) (zC 6))
noncomputable def pN(F:Fs):MS:=(k8 (ke (zi ie (ze 5) (eC (.int 6))))
 (zo (zD (zi addW (zh zv [eC (.str "a"),eC (.str "b"),eC (.str "c"),eC (.str "d")]) (zi kC (zi zw (ze 3) (eC (.int 1))) (eC (.int 3)))) (zC 7))
 (ku (zh zv [eC (.str "write"),zi zw (ze 7) (zh F.aa [ze 0,zi addW (ze 1) (eC (.int 3)),zh kT [ze 7]]),ze 6])))
 kN)
noncomputable def Zu(F:Fs):MS:=(k8 (ke (zi (vn false) (ze 5) (eC (.int 6))))
 (ku (zh zv [eC (.str "say"),ze 6]))
 kN)
noncomputable def tP(F:Fs):MS:=(k8 (ke (zi (vn false) (ze 5) (eC (.int 7))))
 (zo (zD (zi zw (zh j2 [eC (.str "x"),eC (.str "y"),eC (.str "x1")]) (zh F.aa [ze 0,zi addW (ze 1) (eC (.int 3)),eC (.int 3)])) (zC 8))
 (ku (zh zv [eC (.str "let"),ze 8,ze 6,zh F.az [ze 0,zi addW (zi kC (ze 1) (eC (.int 3))) (eC (.int 23)),zi xJ (ze 2) (eC (.int 1)),zi addW (zh zv [zi addW (zi zw (ze 3) (eC (.int 0))) (zh zv [ze 8])]) (ba (ze 3) (some (eC (.int 1))) none),ze 4]])))
 kN)
noncomputable def Zt(F:Fs):MS:=(k8 (ke (zi (vn false) (ze 5) (eC (.int 8))))
 (zo (zD (zi zw (zh j2 [eC (.str "p"),eC (.str "q")]) (zh F.aa [ze 0,zi addW (ze 1) (eC (.int 3)),eC (.int 2)])) (zC 8))
 (zo (zD (zh zv [zi zw (ze 3) (eC (.int 0)),zi addW (zi zw (ze 3) (eC (.int 1))) (zh zv [ze 8]),zi zw (ze 3) (eC (.int 2))]) (zC 9))
 (ku (zh zv [eC (.str "own"),ze 8,ze 6,zh F.az [ze 0,zi addW (zi kC (ze 1) (eC (.int 3))) (eC (.int 23)),zi xJ (ze 2) (eC (.int 1)),ze 9,ze 4]]))))
 kN)
noncomputable def rK(F:Fs):MS:=(zD (zh F.az [ze 0,zi addW (zi kC (ze 1) (eC (.int 3))) (eC (.int 41)),zi xJ (ze 2) (eC (.int 1)),ze 3,ze 4]) (zC 10))
noncomputable def rR(F:Fs):MS:=(k8 (ke (zi (vn false) (ze 5) (eC (.int 9))))
 (ku (zh zv [eC (.str "if"),ze 6,ze 10,zh F.az [ze 0,zi addW (zi kC (ze 1) (eC (.int 3))) (eC (.int 61)),zi xJ (ze 2) (eC (.int 1)),ze 3,ze 4]]))
 kN)
noncomputable def i7(F:Fs):MS:=(ku (zi addW (zi zw (zh j2 [zh zv [eC (.str "then")],zh zv [eC (.str "add")],zh zv [eC (.str "less")],zh zv [eC (.str "loop")],zh zv [eC (.str "then")]]) (zi xJ (ze 5) (eC (.int 10)))) (zh zv [ze 6,ze 10])))
noncomputable def aH(F:Fs):MS:=zo (Qy F) (zo (ph F) (zo (nZ F) (zo (t7 F) (zo (pN F) (zo (Zu F) (zo (tP F) (zo (Zt F) (zo (rK F) (zo (rR F) (i7 F))))))))))
noncomputable def WW(F:Fs):MS:=(zD (zh F.aa [ze 0,zi addW (ze 1) (eC (.int 3)),zh kT [ze 4]]) (zC 5))
noncomputable def Ye(F:Fs):MS:=(zD (zh kT [zi zw (zi zw (ze 4) (ze 5)) (eC (.int 0))]) (zC 6))
noncomputable def Yo(F:Fs):MS:=(zD (zh xW []) (zC 7))
noncomputable def WT(F:Fs):MS:=(xR (vw [zi addW (ze 6) (zh kT [zi zw (zi zw (ze 4) (ze 5)) (eC (.int 1))])]) (zC 8)
 (kr (kD qf (ze 7) [zh F.az [ze 0,zi addW (zi addW (zi kC (ze 1) (eC (.int 3))) (eC (.int 7))) (zi kC (eC (.int 5)) (ze 8)),zi xJ (ze 2) (eC (.int 1)),ze 3,ze 4]])))
noncomputable def WM(F:Fs):MS:=(ku (zh zv [eC (.str "call"),ze 5,zh ue [ba (ze 7) none (some (ze 6))],zh ue [ba (ze 7) (some (ze 6)) none]]))
noncomputable def cj(F:Fs):MS:=zo (WW F) (zo (Ye F) (zo (Yo F) (zo (WT F) (WM F))))
noncomputable def Yi(F:Fs):MS:=(zD (zh zv []) (zC 2))
noncomputable def CT(F:Fs):MS:=(xR (vw [zh F.aa [ze 0,ze 1,eC (.int 3)]]) (zC 3)
 (zo (zD (zi zw (zh j2 [zh zv [],zh zv [eC (.str "x")],zh zv [eC (.str "y"),eC (.str "x")]]) (zh F.aa [ze 0,zi addW (zi addW (ze 1) (eC (.int 1))) (zi kC (eC (.int 5)) (ze 3)),eC (.int 3)])) (zC 4))
 (zo (zD (zi zw (zh j2 [zh zv [],zh zv [eC (.str "f")],zh zv [eC (.str "f"),eC (.str "g1")]]) (zh F.aa [ze 0,zi addW (zi addW (ze 1) (eC (.int 2))) (zi kC (eC (.int 5)) (ze 3)),eC (.int 3)])) (zC 5))
 (zo (zD (zh F.az [ze 0,zi addW (zi addW (ze 1) (eC (.int 20))) (zi kC (eC (.int 7)) (ze 3)),eC (.int 2),zh zv [ze 4,zh zv [],ze 5],ze 2]) (zC 6))
 (zD (zi addW (ze 2) (zh zv [zh zv [ze 4,ze 5,ze 6]])) (zC 2))))))
noncomputable def CP(F:Fs):MS:=(ku (ze 2))
noncomputable def bT(F:Fs):MS:=zo (Yi F) (zo (CT F) (CP F))
noncomputable def bQ(F:Fs):MS:=(ku (zh ue [ja (vw [eC (.int 4)]) 1 [0,1] (zC 0) kL (zh F.aa [ze 1,zi addW (ze 2) (ze 0),eC (.int 6)])]))
noncomputable def bL(F:Fs):MS:=(ku (ja (vw [zh F.aa [ze 0,ze 1,eC (.int 4)]]) 1 [0,1] (zC 0) kL (zh F.aa [ze 1,zi addW (zi addW (ze 2) (eC (.int 1))) (ze 0),eC (.int 9)])))
noncomputable def bO(F:Fs):MS:=(zo (zD (zh j2 [zh zv [eC (.str "read"),zi zw (eC (.str "abcd")) (zh F.aa [ze 0,zi addW (ze 1) (eC (.int 1)),eC (.int 4)])],zh zv [eC (.str "number"),zh F.aa [ze 0,zi addW (ze 1) (eC (.int 2)),eC (.int 1009)]]]) (zC 2))
 (zo (zD (zi zw (ze 2) (zh F.aa [ze 0,zi addW (ze 1) (eC (.int 3)),eC (.int 2)])) (zC 3))
 (zo (zD (zi zw (ze 2) (zh F.aa [ze 0,zi addW (ze 1) (eC (.int 4)),eC (.int 2)])) (zC 4))
 (zo (zD (zh j2 [ze 3,zh zv [eC (.str "add"),ze 3,ze 4],zh zv [eC (.str "own"),eC (.str "p"),ze 3,zh zv [eC (.str "write"),eC (.str "p"),zh zv [eC (.str "add"),zh zv [eC (.str "read"),eC (.str "p")],ze 4]]]]) (zC 5))
 (zo (zD (zi addW (ze 5) (zh j2 [zh zv [eC (.str "let"),eC (.str "x"),ze 3,zh zv [eC (.str "add"),zh zv [eC (.str "name"),eC (.str "x")],zh zv [eC (.str "name"),eC (.str "x")]]],zh zv [eC (.str "if"),ze 3,ze 4,zh zv [eC (.str "number"),eC (.int 4)]]])) (zC 5))
 (ku (zi zw (ze 5) (zh F.aa [ze 0,ze 1,eC (.int 5)]))))))))
noncomputable def w1(F:Fs):MS:=(k8 (ke (zi (u9 false) (ze 3) (zh zv [eC (.str "number"),eC (.str "name"),eC (.str "ask"),eC (.str "read")])))
 (ku (eC (.int 1)))
 kN)
noncomputable def w2(F:Fs):MS:=(k8 (ke (zi (vn false) (ze 3) (eC (.str "do"))))
 (ku (mm (ze 2) (zi zw (ze 1) (eC (.int 1))) (eC (.int 1))))
 kN)
noncomputable def w3(F:Fs):MS:=(k8 (ke (zi (vn false) (ze 3) (eC (.str "call"))))
 (zo (zD (zh iM [ja (eu [zi zw (zi zw (ze 0) (zi zw (ze 1) (eC (.int 1)))) (eC (.int 1)),zi zw (ze 1) (eC (.int 3))]) 2 [0,2] (bX [zC 0,zC 1]) kL (zh zv [ze 0,zh F.aj [ze 2,ze 1,ze 3]])]) (zC 4))
 (zo (zD (zh eD [ja (qq (zi zw (ze 1) (eC (.int 2)))) 1 [0,2] (zC 0) kL (zh F.aj [ze 1,ze 0,ze 2])]) (zC 5))
 (ku (zi addW (zi addW (eC (.int 1)) (ze 5)) (zh F.aj [ze 0,zi zw (zi zw (ze 0) (zi zw (ze 1) (eC (.int 1)))) (eC (.int 2)),ze 4])))))
 kN)
noncomputable def w4(F:Fs):MS:=(zD (ja (qq (ba (ze 1) (some (eC (.int 1))) none)) 1 [0,2] (zC 0) (ke (ug (isW .tuple) (ze 0))) (zh F.aj [ze 1,ze 0,ze 2])) (zC 6))
noncomputable def w5(F:Fs):MS:=(k8 (ke (zi (vn false) (ze 3) (eC (.str "loop"))))
 (ku (zi addW (zi addW (eC (.int 1)) (zi zw (ze 6) (eC (.int 0)))) (zi kC (eC (.int 3)) (zi zw (ze 6) (eC (.int 1))))))
 kN)
noncomputable def w6(F:Fs):MS:=(ku (zi addW (eC (.int 1)) (zh eD [ze 6])))
noncomputable def aO(F:Fs):MS:=zo (zD (zi zw (ze 1) (eC (.int 0))) (zC 3)) (zo (w1 F) (zo (w2 F) (zo (w3 F) (zo (w4 F) (zo (w5 F) (w6 F))))))
noncomputable def bK(F:Fs):MS:=(zo (zD (zh F.az [ze 0,ze 1,ze 2,zh zv [zh zv [],zh zv [],zh zv []],ze 3]) (zC 4))
 (zo (k8 (ke (zi WH (zh F.aj [ze 3,ze 4,eC (.fdc [])]) (eC (.int 80))))
 (ku (zh zv [eC (.str "read"),zi zw (eC (.str "abcd")) (zh F.aa [ze 0,ze 1,eC (.int 4)])]))
 kN)
 (ku (ze 4))))
noncomputable def Q0(F:Fs):MS:=(zD (zh F.bI [ze 0,eC (.int 1)]) (zC 1))
noncomputable def Q1(F:Fs):MS:=(zD (ja (vw [eC (.int 3)]) 1 [0] (zC 0) kL (zh F.aF [ze 1,zi addW (eC (.int 200)) (zi kC (eC (.int 10)) (ze 0))])) (bX [zC 2,zC 3,zC 4]))
noncomputable def Q2(F:Fs):MS:=(zD (zh F.bJ [ze 0,eC (.int 70)]) (zC 5))
noncomputable def Q3(F:Fs):MS:=(zD (zh F.bF [ze 0,eC (.int 75)]) (zC 6))
noncomputable def Q4(F:Fs):MS:=(zD (ja (qq (zh zv [ze 2,ze 3,ze 4])) 1 [1,5,6] (zC 0) kL (zi zw (zh F.aA [ze 1,ze 0,ze 2,ze 3]) (eC (.int 0)))) (zC 7))
noncomputable def Q5(F:Fs):MS:=(k8 (ke (zi (vn true) (ja (qq (ze 7)) 1 [] (zC 0) (iG (ke (xk gK gK (eC (.int 0)) (ze 0) (eC (.int 1008))))) (ze 0)) (zh j2 [])))
 (ku (eC (.bl false)))
 kN)
noncomputable def Q6(F:Fs):MS:=(zD (zh F.aA [ze 1,zh zv [eC (.str "add"),ze 2,zh zv [eC (.str "add"),ze 3,ze 4]],ze 5,ze 6]) (zC 8))
noncomputable def Q7(F:Fs):MS:=(k8 (ke (zi (vn true) (ze 8) (zh zv [zi yv (zh eD [ze 7]) (eC (.int 1009)),ze 5,zh j2 [],eC (.int 0)])))
 (ku (eC (.bl false)))
 kN)
noncomputable def Q8(F:Fs):MS:=(k8 (ke (zi (vn true) (zh F.aA [ze 1,zh zv [eC (.str "add"),zh zv [eC (.str "add"),ze 4,ze 2],ze 3],ze 5,ze 6]) (ze 8)))
 (ku (eC (.bl false)))
 kN)
noncomputable def Q9(F:Fs):MS:=(k8 (ke (zi (vn true) (zh F.aA [ze 1,zh zv [eC (.str "add"),ze 2,zh zv [eC (.str "number"),eC (.int 0)]],ze 5,ze 6]) (zh F.aA [ze 1,ze 2,ze 5,ze 6])))
 (ku (eC (.bl false)))
 kN)
noncomputable def Cv(F:Fs):MS:=(zD (zi zw (zh F.aA [ze 1,zh zv [eC (.str "less"),ze 2,ze 3],ze 5,ze 6]) (eC (.int 0))) (zC 9))
noncomputable def BB(F:Fs):MS:=(zD (zi zw (zh F.aA [ze 1,zh zv [eC (.str "less"),ze 3,ze 2],ze 5,ze 6]) (eC (.int 0))) (zC 10))
noncomputable def U2(F:Fs):MS:=(k8 (hZ (ke (zi (vn true) (zi addW (ze 9) (ze 10)) (zh mU [zi (vn true) (zi zw (ze 7) (eC (.int 0))) (zi zw (ze 7) (eC (.int 1)))]))) (ke (zi (u9 true) (ze 9) (zh zv [eC (.int 0),eC (.int 1)]))))
 (ku (eC (.bl false)))
 kN)
noncomputable def CN(F:Fs):MS:=(zD (zh zv [eC (.str "if"),zh zv [eC (.str "less"),ze 2,ze 3],ze 2,ze 3]) (zC 11))
noncomputable def BV(F:Fs):MS:=(zD (zh F.aA [ze 1,ze 11,ze 5,ze 6]) (zC 12))
noncomputable def Bt(F:Fs):MS:=(k8 (ke (zi (vn true) (ze 12) (zh zv [zh pT [ba (ze 7) none (some (eC (.int 2)))],ze 5,zh j2 [],eC (.int 0)])))
 (ku (eC (.bl false)))
 kN)
noncomputable def Bn(F:Fs):MS:=(zD (zh F.bH [ze 0,eC (.int 90),eC (.int 2),ze 1]) (zC 13))
noncomputable def C7(F:Fs):MS:=(ku (xk gK gK (eC (.int 0)) (zi zw (zh F.aA [ze 1,ze 13,ze 5,ze 6]) (eC (.int 0))) (eC (.int 1008))))
noncomputable def dh(F:Fs):MS:=zo (Q0 F) (zo (Q1 F) (zo (Q2 F) (zo (Q3 F) (zo (Q4 F) (zo (Q5 F) (zo (Q6 F) (zo (Q7 F) (zo (Q8 F) (zo (Q9 F) (zo (Cv F) (zo (BB F) (zo (U2 F) (zo (CN F) (zo (BV F) (zo (Bt F) (zo (Bn F) (C7 F)))))))))))))))))
noncomputable def bj(F:Fs):MS:=(zo (zD (ze 1) (ub kx "rules" (ze 0)))
 (zo (zD (zh xW [zh zv [eC (.bl false),ze 2,eC (.fdc [])]]) (ub kx "steps" (ze 0)))
 (zo (zD (zh xW []) (ub kx "worths" (ze 0)))
 (zD (eC .non) (ub kx "touch_ahead" (ze 0))))))
noncomputable def b7(F:Fs):MS:=(kr (kD qf (kG kx "steps" (ze 0)) [zh zv [eC (.bl false),ze 1,ze 2]]))
noncomputable def cu(F:Fs):MS:=(kr (kD qf (kG kx "worths" (ze 0)) [ze 1]))
noncomputable def aQ(F:Fs):MS:=(zD (ze 1) (ub kx "touch_ahead" (ze 0)))
noncomputable def aV(F:Fs):MS:=(ul (dQ (ke (zi WH (zh kT [kG kx "steps" (ze 0)]) (eC (.int 0)))) (ke (zi (y0 true) (kG kx "touch_ahead" (ze 0)) (eC .non))))
 (zo (zD (kD uI (kG kx "steps" (ze 0)) []) (zC 1))
 (kr (kb (mt F) "take_step" (ze 0) [zi zw (ze 1) (eC (.int 0)),zi zw (ze 1) (eC (.int 1)),zi zw (ze 1) (eC (.int 2))]))))
noncomputable def aq(F:Fs):MS:=(zo (zD (zh F.au [ze 2]) (zC 4))
 (k8 (hZ (ke (ze 1)) (ke (zi (vn false) (zh kT [ze 4]) (eC (.int 0)))))
 (kr (Kd (qB F) (zi zw (ze 2) (eC (.int 0))) [ze 0,ze 2,ze 3,zh F.aN [kG kx "worths" (ze 0),zh kT [ze 4]]]))
 (zo (kr (kD qf (kG kx "steps" (ze 0)) [zh zv [eC (.bl true),ze 2,ze 3]]))
 (kr (kD uP (kG kx "steps" (ze 0)) [ja (nB [ze 4]) 1 [3] (zC 0) kL (zh zv [eC (.bl false),ze 0,ze 1])])))))
noncomputable def aU(F:Fs):MS:=(zo (zD (kb (mt F) "do" (ze 1) [kG kx "touch_ahead" (ze 0)]) (zC 2))
 (zo (zD (eC .non) (ub kx "touch_ahead" (ze 0)))
 (zo (kr (kb (mt F) "bring" (ze 0) [zi zw (ze 2) (ug gU (eC (.int 1)))]))
 (ku (ze 2)))))
noncomputable def bB(F:Fs):MS:=(ku (zi zw (kG kx "worths" (ze 0)) (ug gU (eC (.int 1)))))
noncomputable def bN(F:Fs):MS:=(zo (zD (iP [eC qS,ze 1]) (ub kx "shelves" (ze 0)))
 (zo (zD (zh gu [ze 2]) (ub kx "answers" (ze 0)))
 (zo (zD (zh xW []) (ub kx "spoken" (ze 0)))
 (zD (eC (.int 0)) (ub kx "asks" (ze 0))))))
noncomputable def aY(F:Fs):MS:=(zo (k8 (ke (zi (vn false) (zi zw (ze 1) (eC (.int 0))) (eC (.str "read"))))
 (ku (zh zv [eC (.str "read"),zi zw (ze 1) (eC (.int 1)),zi yn (kG kx "shelves" (ze 0)) (zi zw (ze 1) (eC (.int 1)))]))
 kN)
 (zo (k8 (ke (zi (vn false) (zi zw (ze 1) (eC (.int 0))) (eC (.str "write"))))
 (zo (zD (zi zw (ze 1) (eC (.int 2))) (aT (kG kx "shelves" (ze 0)) (zi zw (ze 1) (eC (.int 1)))))
 (ku (ze 1)))
 kN)
 (zo (k8 (ke (zi (vn false) (zi zw (ze 1) (eC (.int 0))) (eC (.str "say"))))
 (zo (kr (kD qf (kG kx "spoken" (ze 0)) [zi zw (ze 1) (eC (.int 1))]))
 (ku (ze 1)))
 kN)
 (ku (zh zv [eC (.str "ask"),kb (mt F) "next_answer" (ze 0) []])))))
noncomputable def aM(F:Fs):MS:=(zo (zD (kG kx "asks" (ze 0)) (zC 1))
 (zo (l7 kx "asks" mO (ze 0) (eC (.int 1)))
 (zo (k8 (ke (zi ie (ze 1) (zh kT [kG kx "answers" (ze 0)])))
 (ku (zi zw (kG kx "answers" (ze 0)) (ze 1)))
 kN)
 (ku (eC (.int 0))))))
noncomputable def bx(F:Fs):MS:=(ku (zh ue [ja (qq (eC qS)) 1 [0] (zC 0) kL (zi yn (kG kx "shelves" (ze 1)) (ze 0))]))
noncomputable def bR(F:Fs):MS:=(ku (zh gu [kG kx "spoken" (ze 0)]))
noncomputable def step(F:Fs):Fs where
 cA:=gc (kd 1 0 (du F))
 aN:=gc (kd 2 1 (aC F))
 au:=gc (kd 1 0 (aB F))
 aW:=gc (kd 3 1 (bz F))
 bD:=gc (kd 4 0 (eG F))
 cT:=gc (kd 4 0 (fQ F))
 bW:=gc (kd 4 0 (cO F))
 bw:=gc (kd 4 0 (b8 F))
 dC:=gc (kd 4 0 (gn F))
 cU:=gc (kd 4 0 (fL F))
 cV:=gc (kd 4 0 (fM F))
 dJ:=gc (kd 4 0 (gr F))
 cR:=gc (kd 4 2 (dH F))
 dw:=gc (kd 4 0 (gb F))
 dB:=gc (kd 4 0 (fZ F))
 dq:=gc (kd 4 0 (fX F))
 dm:=gc (kd 4 0 (f9 F))
 bG:=gc (kd 4 1 (cW F))
 bZ:=gc (kd 4 4 (cL F))
 bu:=gc (kd 2 0 (bh F))
 aD:=gc (kd 2 1 (aG F))
 aA:=gc (kd 4 1 (fu F))
 bY:=gc (kd 4 0 (cM F))
 cJ:=gc (kd 5 5 (dg F))
 cF:=gc (kd 2 0 (cC F))
 aa:=gc (kd 3 1 (bM F))
 cY:=gc (kd 3 5 (bc F))
 az:=gc (kd 5 6 (aH F))
 cZ:=gc (kd 5 4 (cj F))
 bI:=gc (kd 2 5 (bT F))
 bJ:=gc (kd 2 0 (bQ F))
 bF:=gc (kd 2 0 (bL F))
 aF:=gc (kd 2 4 (bO F))
 aj:=gc (kd 3 4 (aO F))
 bH:=gc (kd 4 1 (bK F))
 fY:=gc (kd 1 13 (dh F))
 bf:=gc (kd 3 0 (bj F))
 bV:=gc (kd 3 0 (b7 F))
 bU:=gc (kd 2 0 (cu F))
 aJ:=gc (kd 2 0 (aQ F))
 aK:=gc (kd 1 1 (aV F))
 aL:=gc (kd 4 1 (aq F))
 aP:=gc (kd 2 1 (aU F))
 aZ:=gc (kd 1 0 (bB F))
 bC:=gc (kd 3 0 (bN F))
 aX:=gc (kd 2 0 (aY F))
 aR:=gc (kd 1 1 (aM F))
 cD:=gc (kd 1 0 (bx F))
 cN:=gc (kd 1 0 (bR F))
 cI:=F.bf
 dO:=F.bC
noncomputable def Fs.bot:Fs:=let z:List W->M W:=λ_ _=>none;⟨z,z,z,z,z,z,z,z,z,z,z,z,z,z,z,z,z,z,z,z,z,z,z,z,z,z,z,z,z,z,z,z,z,z,z,z,z,z,z,z,z,z,z,z,z,z,z,z,z,z,z⟩
noncomputable def lv:Nat->Fs
 | 0=>.bot
 | n+1=>step (lv n)
def fns(F:Fs):List (Str×(List W->M W)):=[(("parts_of":Str),F.cA),(("taken_off":Str),F.aN),(("parts_run_first":Str),F.au),(("with_known":Str),F.aW),(("do_number":Str),F.bD),(("do_name":Str),F.cT),(("do_read":Str),F.bW),(("do_write":Str),F.bw),(("do_add":Str),F.dC),(("do_less":Str),F.cU),(("do_then":Str),F.cV),(("do_if":Str),F.dJ),(("do_loop":Str),F.cR),(("do_let":Str),F.dw),(("do_own":Str),F.dB),(("do_say":Str),F.dq),(("do_ask":Str),F.dm),(("do_handed":Str),F.bG),(("do_call":Str),F.bZ),(("one_turn":Str),F.bu),(("touches_to_end":Str),F.aD),(("run":Str),F.aA),(("run_all":Str),F.bY),(("run_by":Str),F.cJ),(("_law_cell":Str),F.cF),(("_law_drawn":Str),F.aa),(("_law_leaf":Str),F.cY),(("_law_deed":Str),F.az),(("_law_call":Str),F.cZ),(("_law_rules":Str),F.bI),(("_law_store":Str),F.bJ),(("_law_asked":Str),F.bF),(("_law_quiet":Str),F.aF),(("_law_weight":Str),F.aj),(("_law_light":Str),F.bH),(("law":Str),F.fY)]
def cons:List (Str×W):=[("SHELVES",qS),("MODULUS",io),("LOOP_MODULUS",x9)]
def tabs:List (Str×List (Str×W)):=[("FORMS",t_FORMS)]
def bins:List Str:=["dict","int","isinstance","len","list","min","range","reversed","sum","tuple","zip"]
def mks(F:Fs):List (Str×(Nat×(List W->M W))):=[("Doing",(0,F.cI)),("Room",(1,F.dO))]
def ways(F:Fs):List (Str×List (Str×(List W->M W))):=[("WAYS",qB F)]
def rc(F:Fs):RC:=⟨⟨.function,[],false,false,[]⟩,[],false,fns F,cons,tabs,bins,[],[],[],[],kx,mt F,mks F,[],ways F⟩
def df(x:Str)(k:Nat)(ps n:List Str)(o:List Str:=[])(t:List Str:=[])(c:List ((Nat×Nat)×List Str):=[])(d:List Str:=[])(m:List (Nat×Nat):=[]):Def:=⟨x,x,top k,ps,ps++n,o,t,c,d,m⟩
def fc:Def:=df "parts_of" 3 ["deed"] []
def dZ:Def:=df "taken_off" 5 ["heap","count"] ["backward"] (o:=["backward","heap"]) (c:=[((12,15),["turn","heap"])])
def cH:Def:=df "parts_run_first" 10 ["deed"] []
def dN:Def:=df "with_known" 11 ["known","name","thing"] ["inner"] (o:=["inner"]) (d:=["known"])
def dU:Def:=df "do_number" 12 ["doing","deed","known","worths"] []
def fD:Def:=df "do_name" 13 ["doing","deed","known","worths"] [] (d:=["known"])
def fU:Def:=df "do_read" 14 ["doing","deed","known","worths"] [] (d:=["known"])
def eY:Def:=df "do_write" 15 ["doing","deed","known","worths"] [] (d:=["known"])
def fV:Def:=df "do_add" 16 ["doing","deed","known","worths"] []
def fG:Def:=df "do_less" 17 ["doing","deed","known","worths"] []
def fH:Def:=df "do_then" 18 ["doing","deed","known","worths"] []
def gw:Def:=df "do_if" 19 ["doing","deed","known","worths"] [] (d:=["known"])
def fJ:Def:=df "do_loop" 20 ["doing","deed","known","worths"] ["unrolled","turn"] (d:=["known"])
def gf:Def:=df "do_let" 21 ["doing","deed","known","worths"] [] (d:=["known"])
def gh:Def:=df "do_own" 22 ["doing","deed","known","worths"] [] (d:=["known"]) (m:=[(59,52)])
def gm:Def:=df "do_say" 23 ["doing","deed","known","worths"] []
def gj:Def:=df "do_ask" 24 ["doing","deed","known","worths"] []
def d7:Def:=df "do_handed" 25 ["doing","deed","known","worths"] ["handed"] (d:=["known"])
def fO:Def:=df "do_call" 26 ["doing","deed","known","worths"] ["rule","inner","name","part"] (o:=["inner"]) (d:=["known"])
def eV:Def:=df "one_turn" 29 ["doing","room"] []
def cQ:Def:=df "touches_to_end" 30 ["doing","room"] ["touches"] (o:=["touches"])
def gA:Def:=df "run" 34 ["rules","deed","store","asked"] ["told"]
def fC:Def:=df "run_all" 35 ["rules","deeds","store","asked"] []
def gk:Def:=df "run_by" 36 ["rules","deeds","store","asked","turns"] ["room","doings","number","doing","worths"] (o:=["doings"]) (c:=[((166,13),["deed","rules"]),((172,13),["doing"])])
def eZ:Def:=df "_law_cell" 38 ["_law_script","_law_k"] []
def eO:Def:=df "_law_drawn" 39 ["_law_script","_law_k","_law_many"] ["_law_cell_here"]
def eU:Def:=df "_law_leaf" 40 ["_law_script","_law_at","_law_known"] ["_law_names","_law_owns","_law_handed","_law_way","_law_shelves"]
def fj:Def:=df "_law_deed" 41 ["_law_script","_law_at","_law_deep","_law_known","_law_rules_here"] ["_law_way","_law_one","_law_shelves","_law_word","_law_inner","_law_other"]
def eX:Def:=df "_law_call" 42 ["_law_script","_law_at","_law_deep","_law_known","_law_rules_here"] ["_law_number","_law_size","_law_parts","_law_k"] (o:=["_law_parts"])
def dY:Def:=df "_law_rules" 43 ["_law_script","_law_at"] ["_law_rules_here","_law_k","_law_names","_law_handed","_law_body"]
def d8:Def:=df "_law_store" 44 ["_law_script","_law_at"] [] (c:=[((235,17),["_law_k","_law_script","_law_at"])])
def eQ:Def:=df "_law_asked" 45 ["_law_script","_law_at"] [] (c:=[((237,11),["_law_k","_law_script","_law_at"])])
def d9:Def:=df "_law_quiet" 46 ["_law_script","_law_at"] ["_law_some","_law_one","_law_other","_law_ways"]
def dI:Def:=df "_law_weight" 47 ["_law_rules_here","_law_deed_here","_law_handed"] ["_law_word","_law_there","_law_parts","_law_inner"] (c:=[((252,26),["_law_one","_law_part","_law_rules_here","_law_handed"]),((253,25),["_law_part","_law_rules_here","_law_handed"]),((255,17),["_law_part","_law_rules_here","_law_handed"])])
def dX:Def:=df "_law_light" 48 ["_law_script","_law_at","_law_deep","_law_rules_here"] ["_law_deed_here"]
def gq:Def:=df "law" 49 ["_law_script"] ["_law_rules_here","_law_one","_law_two","_law_three","_law_store_here","_law_asked_here","_law_worths","_law_whole","_law_mine","_law_yours","_law_least","_law_told","_law_any_deed"] (c:=[((266,37),["_law_k","_law_script"]),((269,18),["_law_deed_here","_law_rules_here","_law_store_here","_law_asked_here"]),((270,7),["_law_worth"])])
def dM:Def:=⟨"__init__","Doing.__init__",inClass (top 28) 0,["self","rules","deed"],["self","rules","deed"],["steps","worths"],[],[],[],[]⟩
def dG:Def:=⟨"begin","Doing.begin",inClass (top 28) 1,["self","deed","known"],["self","deed","known"],[],[],[],["known"],[]⟩
def dF:Def:=⟨"bring","Doing.bring",inClass (top 28) 2,["self","brought"],["self","brought"],[],[],[],[],[]⟩
def bA:Def:=⟨"rest_ahead_of","Doing.rest_ahead_of",inClass (top 28) 3,["self","touch"],["self","touch"],[],[],[],[],[]⟩
def dD:Def:=⟨"go_on","Doing.go_on",inClass (top 28) 4,["self"],["self","step"],[],[],[],[],[]⟩
def cG:Def:=⟨"take_step","Doing.take_step",inClass (top 28) 5,["self","parts_done","deed","known"],["self","parts_done","deed","known","parts"],[],[],[((102,30),["part","known"])],["known"],[]⟩
def cP:Def:=⟨"do_touch","Doing.do_touch",inClass (top 28) 6,["self","room"],["self","room","touch"],[],[],[],[],[]⟩
def cX:Def:=⟨"came_to","Doing.came_to",inClass (top 28) 8,["self"],["self"],[],[],[],[],[]⟩
def eF:Def:=⟨"__init__","Room.__init__",inClass (top 32) 0,["self","store","asked"],["self","store","asked"],["shelves","spoken"],[],[],["shelves"],[]⟩
def fB:Def:=⟨"do","Room.do",inClass (top 32) 1,["self","touch"],["self","touch"],[],[],[],["shelves"],[]⟩
def cg:Def:=⟨"next_answer","Room.next_answer",inClass (top 32) 2,["self"],["self","place"],[],[],[],[],[]⟩
def dR:Def:=⟨"store","Room.store",inClass (top 32) 3,["self"],["self"],[],[],[((154,21),["shelf","self"])],["shelves"],[]⟩
def eE:Def:=⟨"said","Room.said",inClass (top 32) 4,["self"],["self"],[],[],[],[],[]⟩
def defs:List Def:=[fc,dZ,cH,dN,dU,fD,fU,eY,fV,fG,fH,gw,fJ,gf,gh,gm,gj,d7,fO,eV,cQ,gA,fC,gk,eZ,eO,eU,fj,eX,dY,d8,eQ,d9,dI,dX,gq]
def D0:List (Str×List (Str×Str)):=[("WAYS",[("number","do_number"),("name","do_name"),("read","do_read"),("write","do_write"),("add","do_add"),("less","do_less"),("then","do_then"),("if","do_if"),("loop","do_loop"),("let","do_let"),("own","do_own"),("say","do_say"),("ask","do_ask"),("do","do_handed"),("call","do_call")])]
def T(P:Program)(K:PySem.W.Frag)(w:World)(mg:Str->Option Value)(cl:Cl):Prop:=Wn (iC K mg) defs/\AllOf (Glob K mg) cons/\AllOf (TabOk K w.params mg) tabs/\AllNone mg bins/\(cl.P=P/\cl.w=w)/\ee K cl kx/\(uv K cl 0 dG/\uv K cl 0 dF/\uv K cl 0 bA/\uv K cl 0 dD/\uv K cl 0 cG/\uv K cl 0 cP/\uv K cl 0 cX/\uv K cl 1 fB/\uv K cl 1 cg/\uv K cl 1 dR/\uv K cl 1 eE/\True)/\(mR K mg cl "Doing" 0 dM/\mR K mg cl "Room" 1 eF/\True)/\AllOf (λx l=>TabOk K w.params mg x (ik mg l)) D0
def lvl{P:Program}{w:World}{K:PySem.W.Frag}{mg:Str->Option Value}{base:Heap}{cl:Cl}(t:T P K w mg cl):∀n,BaseOk P w K mg base cl n (rc (lv n))/\pM P w K mg base cl n "Doing" 0 (lv n).bf/\pM P w K mg base cl n "Room" 1 (lv n).bC:=by
 obtain⟨⟨T0,T1,T2,T3,T4,T5,T6,T7,T8,T9,T10,T11,T12,T13,T14,T15,T16,T17,T18,T19,T20,T21,T22,T23,T24,T25,T26,T27,T28,T29,T30,T31,T32,T33,T34,T35,-⟩,c,t,z,pw,k,⟨M0,M1,M2,M3,M4,M5,M6,M7,M8,M9,M10,-⟩,⟨I0,I1,-⟩,⟨W0,-⟩⟩:=t;intro n;induction n with
 | zero=>
  have A:AllOf (FnAt P w K mg base cl 0) (fns (lv 0)):=⟨ko T0,ko T1,ko T2,ko T3,ko T4,ko T5,ko T6,ko T7,ko T8,ko T9,ko T10,ko T11,ko T12,ko T13,ko T14,ko T15,ko T16,ko T17,ko T18,ko T19,ko T20,ko T21,ko T22,ko T23,ko T24,ko T25,ko T26,ko T27,ko T28,ko T29,ko T30,ko T31,ko T32,ko T33,ko T34,ko T35,trivial⟩;exact⟨⟨A,c,t,z,pw,k,λ_ _ _=>AllM.at (l:=mt (lv 0)) ⟨wq M0,wq M1,wq M2,wq M3,wq M4,wq M5,wq M6,wq M7,wq M8,wq M9,wq M10,trivial⟩,⟨.inl λ_ _=>rfl,.inl λ_ _=>rfl,trivial⟩,⟨Qi (fns:=fns (lv 0)) A W0 ⟨rfl,by kernel_rfl,rfl,by kernel_rfl,rfl,by kernel_rfl,rfl,by kernel_rfl,rfl,by kernel_rfl,rfl,by kernel_rfl,rfl,by kernel_rfl,rfl,by kernel_rfl,rfl,by kernel_rfl,rfl,by kernel_rfl,rfl,by kernel_rfl,rfl,by kernel_rfl,rfl,by kernel_rfl,rfl,by kernel_rfl,rfl,by kernel_rfl,trivial⟩,trivial⟩⟩,nG I0,nG I1⟩
 | succ n ih=>
  have A:AllOf (FnAt P w K mg base cl (n+1)) (fns (lv (n+1))):=⟨kK (b:=du _) T0 ih.1,kK (b:=aC _) T1 ih.1,kK (b:=aB _) T2 ih.1,kK (b:=bz _) T3 ih.1,kK (b:=eG _) T4 ih.1,kK (b:=fQ _) T5 ih.1,kK (b:=cO _) T6 ih.1,kK (b:=b8 _) T7 ih.1,kK (b:=gn _) T8 ih.1,kK (b:=fL _) T9 ih.1,kK (b:=fM _) T10 ih.1,kK (b:=gr _) T11 ih.1,kK (b:=dH _) T12 ih.1,kK (b:=gb _) T13 ih.1,kK (b:=fZ _) T14 ih.1,kK (b:=fX _) T15 ih.1,kK (b:=f9 _) T16 ih.1,kK (b:=cW _) T17 ih.1,kK (b:=cL _) T18 ih.1,kK (b:=bh _) T19 ih.1,kK (b:=aG _) T20 ih.1,kK (b:=fu _) T21 ih.1,kK (b:=cM _) T22 ih.1,kK (b:=dg _) T23 ih.1,kK (b:=cC _) T24 ih.1,kK (b:=bM _) T25 ih.1,kK (b:=bc _) T26 ih.1,kK (b:=aH _) T27 ih.1,kK (b:=cj _) T28 ih.1,kK (b:=bT _) T29 ih.1,kK (b:=bQ _) T30 ih.1,kK (b:=bL _) T31 ih.1,kK (b:=bO _) T32 ih.1,kK (b:=aO _) T33 ih.1,kK (b:=bK _) T34 ih.1,kK (b:=dh _) T35 ih.1,trivial⟩;exact⟨⟨A,c,t,z,pw,k,λ_ _ _=>AllM.at (l:=mt (lv (n+1))) ⟨uG (b:=b7 _) M0 ih.1,uG (b:=cu _) M1 ih.1,uG (b:=aQ _) M2 ih.1,uG (b:=aV _) M3 ih.1,uG (b:=aq _) M4 ih.1,uG (b:=aU _) M5 ih.1,uG (b:=bB _) M6 ih.1,uG (b:=aY _) M7 ih.1,uG (b:=aM _) M8 ih.1,uG (b:=bx _) M9 ih.1,uG (b:=bR _) M10 ih.1,trivial⟩,⟨.inr ⟨n,zj _,ih.2.1⟩,.inr ⟨n,zj _,ih.2.2⟩,trivial⟩,⟨Qi (fns:=fns (lv (n+1))) A W0 ⟨rfl,by kernel_rfl,rfl,by kernel_rfl,rfl,by kernel_rfl,rfl,by kernel_rfl,rfl,by kernel_rfl,rfl,by kernel_rfl,rfl,by kernel_rfl,rfl,by kernel_rfl,rfl,by kernel_rfl,rfl,by kernel_rfl,rfl,by kernel_rfl,rfl,by kernel_rfl,rfl,by kernel_rfl,rfl,by kernel_rfl,rfl,by kernel_rfl,trivial⟩,trivial⟩⟩,W9 (b:=bj _) I0 ih.1,W9 (b:=bN _) I1 ih.1⟩
end K17
namespace K17
open PySem L2 ML
theorem BS{α:Type}{β:Type}{c:Prop}[Decidable c]{f g:α->β}{x:α}:(if c then f else g) x=if c then f x else g x:=by split<;>rfl
local macro_rules
 |`(tactic|simp![$l,*])=>`(tactic|simp[step,kd,zo,k8,ku,kr,kN,zD,zC,bX,eK,ze,eC,zi,ug,zh,ky,ZG,xk,ke,dQ,hZ,rH,bnd,vn,u9,BS,$l,*])
noncomputable def forms:List (Str×(Int×Int)):=[("number",(2,2)),("name",(2,2)),("read",(2,2)),("write",(3,2)),("add",(3,1)),("less",(3,1)),("then",(3,1)),("if",(4,1)),("loop",(3,1)),("let",(4,2)),("own",(4,2)),("say",(2,1)),("ask",(1,1)),("do",(2,2)),("call",(4,2))]
noncomputable def fm(x:Str):Option (Int×Int):=forms.lookup x
theorem XF:t_FORMS=forms.map λp=>(p.1,.tup [.int p.2.1,.int p.2.2]):=rfl
theorem QA{α β:Type}(f:α->β)(x:Str):∀l:List (Str×α),(l.map λp=>(p.1,f p.2)).lookup x=(l.lookup x).map f
 | []=>rfl
 | (k,v)::r=>by
  simp only[zx,kJ];cases x==k with
  | true=>rfl
  | false=>exact QA f x r
def FL(x:Str):t_FORMS.lookup x=(fm x).map λp=>W.tup [.int p.1,.int p.2]:=by
 rw[XF];exact QA (λp:Int×Int=>W.tup [.int p.1,.int p.2]) x forms
def xP{l:List W}(d:dt n (.tup l)=true):∃m,n=m+1/\l.length<=1000/\∀w∈l,dt m w=true:=by
 cases n with
 | zero=>cases d
 | succ m=>
  unfold dt at d;rw[zu] at d;exact⟨m,rfl,qy d.1,λw hw=>kW.mp d.2 w hw⟩
def xZ:zw (.tup (x::r)) (.int 0) h=some (x,h):=by simp[zw,atI,xB]
def xt:zw (.tup (x::y::r)) (.int 1) h=some (y,h):=by
 have:(1:Int)<(r.length:Int)+1+1:=by omega
 simp[zw,atI,xB,this]
def g7:zw (.tup (x::y::z::r)) (.int 2) h=some (z,h):=by
 have:(2:Int)<(r.length:Int)+1+1+1:=by omega
 simp[zw,atI,xB,this]
def pO:zw (.tup (x::y::z::u::r)) (.int 3) h=some (u,h):=by
 have:(3:Int)<(r.length:Int)+1+1+1+1:=by omega
 simp[zw,atI,xB,this]
def Cb{l:List W}{i:Int}(h0:0<=i)(h1:i<l.length)(e:l[i.toNat]?=some w):zw (.tup l) (.int i) h=some (w,h):=by
 have hj:i.toNat<l.length:=by omega
 have:l[i.toNat]=w:=by rw[zB hj] at e;exact kh e
 simp[zw,atI,xB,h0,h1,this]
noncomputable def vi:W->List W
 | .tup (.str x::r)=>if x=="call" then (match r with
   | [_,.tup a,.tup b]=>a++b
   | _=>[]) else (match fm x with
   | some p=>r.drop (p.2.toNat-1)
   | none=>[])
 | _=>[]
def lm{l:List W}{k:Nat}:cutW l (some (k:Int)) none=l.drop k:=by
 unfold cutW;have e1:HT.sIx l.length 0 (some (k:Int))=min k l.length:=by
  have:¬((k:Int)<0):=by omega
  simp[HT.sIx,this]
 have e2:HT.sIx l.length l.length none=l.length:=rfl;rw[e1,e2];have:l.drop (min k l.length)=l.drop k:=by
  by_cases h:k<=l.length
  .rw[Nat.min_eq_left h]
  .rw[Nat.min_eq_right ∅,yg,yN ∅]
 rw[this];apply yM
 rw[vd];omega
def Ba{p:Int×Int}(e:fm x=some p):1<=p.2/\p.2<=4:=by
 have:∀(l:List (Str×(Int×Int))),(l.all λq=>decide (1<=q.2.2/\q.2.2<=4))=true->l.lookup x=some p->1<=p.2/\p.2<=4:=by
  intro l;induction l with
  | nil=>intro _ e;cases e
  | cons q r ih=>
   obtain⟨k,v⟩:=q;intro h e;rw[jt,zu] at h;rw[kJ] at e;split at e
   .cases e;exact qy h.1
   .exact ih h.2 e
 exact this forms (by decide) e
def we(ks:List Str):(zI ks).length=ks.length:=by simp[zI]
def J6(d:dt (n+1) w=true):∀v∈vi w,dt n v=true:=by
 intro v hv;unfold vi at hv;split at hv
 .rename_i x r
  obtain⟨m,e,hl,hd⟩:=xP d;cases e;split at hv
  .split at hv
   .rename_i a b
    rename_i z0;cases n with
    | zero=>have:=hd (.tup a) (by simp);cases this
    | succ n=>
    obtain⟨m1,e1,la,da⟩:=xP (hd (.tup a) (by simp));obtain⟨m2,e2,lb,db⟩:=xP (hd (.tup b) (by simp));cases e1;cases e2;rcases zU.mp hv with h | h
    .exact jp (da v h) (vq _)
    .exact jp (db v h) (vq _)
   .simp at hv
  .split at hv
   .exact hd v (zJ _ (qG hv))
   .simp at hv
 .simp at hv
def Z6(d:dt n w=true):(vi w).length<=2000:=by
 unfold vi;split
 .rename_i x r
  obtain⟨m,rfl,hl,hd⟩:=xP d;split
  .split
   .rename_i a b
    obtain⟨m1,e1,la,da⟩:=xP (hd (.tup a) (by simp));obtain⟨m2,e2,lb,db⟩:=xP (hd (.tup b) (by simp));rw[zN];omega
   .simp
  .split
   .rw[vd]
    simp at hl;omega
   .simp
 .simp
def at0{α:Type}(h:List α)(o:α):(h++[o])[h.length]?=some o:=by simp
def rT{α:Type}(h:List α)(o o':α):(h++[o]).set h.length o'=h++[o']:=by rw[jO _ _ (zj _)];simp
noncomputable def up:Nat->Fs->Fs
 | 0,F=>F
 | n+1,F=>step (up n F)
def zt(e:a ρ h=some (.nx ρ',h')):zo a b ρ h=b ρ' h':=by unfold zo;rw[e]
def xi(e:a ρ h=some (.ret w,h')):zo a b ρ h=some (.ret w,h'):=by unfold zo;rw[e]
def uJ:zw (.fls (a::r)) (.int 0) h=some (a,h):=by simp[zw,getL,atI,xB]
def pj:zw (.fls (a::b::r)) (.int 1) h=some (b,h):=by
 have:(1:Int)<(r.length:Int)+1+1:=by omega
 simp[zw,getL,atI,xB,this]
noncomputable abbrev th(x:Str)(r:List W):W:=.tup (.str x::r)
def sd{l:List W}(hk:k<=l.length):cutW l none (some (k:Int))=l.take k:=by
 unfold cutW;have e1:HT.sIx l.length l.length (some (k:Int))=k:=by
  have:¬((k:Int)<0):=by omega
  simp[HT.sIx,this];omega
 have e2:HT.sIx l.length 0 none=0:=rfl;rw[e1,e2];simp
def WQ:cutW (x::r) (some 1) none=r:=by
 have:=lm (l:=x::r) (k:=1);simpa using this
def ints_map(l:List W)(f:W->Int):intsOf (l.map λw=>.int (f w))=some (l.map f):=by
 induction l with
 | nil=>rfl
 | cons x r ih=>simp only[zx];unfold intsOf;rw[ih]
def filter_true{α:Type}(l:List α):(l.filter λ_=>true)=l:=List.filter_eq_self.mpr (by simp)
def VD{l:List W}(d:dt n (.fls l)=true)(hn:n<=60):eqB h (.fls l) (.fls [])=some l.isEmpty:=by
 have e1:=ux (h:=h) d (show n<=deep from hn);have e2:=ux (h:=h) (show dt 1 (.fls [])=true from rfl) (show 1<=deep by decide);unfold eqB;simp only[nP,e1,e2];congr 1
 cases n with
 | zero=>cases d
 | succ n=>
  cases l<;>simp[toD,PyData.eqv,PyData.eqvAll]
noncomputable def kX(ns:List Int):W:=.fls (ns.map W.int)
theorem UK{ns:List Int}(h:ns.length<=63):dt 2 (kX ns)=true:=by
 unfold kX dt;rw[zu];refine⟨qt (by simp;omega),kW.mpr λw hw=>?_⟩;obtain⟨i,_,rfl⟩:=jd.mp hw;rfl
noncomputable def u4(ns:List Int)(k:Int):Int:=if ns=[] then 7*k else ns.getD (k%ns.length).toNat 0+6553*(k/ns.length)
def BH{ns:List Int}(hl:ns.length<=63):(step F).cF [kX ns,.int k] h=some (.int (u4 ns k),h):=by
 refine bi (n:=1) ?_ rfl;have eq:=VD (h:=h) (UK hl) ∅;have sm:(small 7||small k)=true:=by rw[show small 7=true by decide];rfl
 cases ns with
 | nil=>
  have eq':eqB h (kX []) (.fls [])=some true:=eq;simp![cC,j2,cap,eq',kC,sm,u4]
 | cons n r=>
  have eq':eqB h (kX (n::r)) (.fls [])=some false:=eq;have hp:(0:Int)<(r.length:Int)+1:=by omega
  have hb:(r.length:Int)+1<1073741824:=by simp at hl;omega
  have hm0:=vC k (show((r.length:Int)+1)≠0 by omega);have hm1:=qU k hp;have hlen:kT [kX (n::r)] h=some (.int ((r.length:Int)+1),h):=by simp[kT,kX,getL]
  have hix:zw (kX (n::r)) (.int (k%((r.length:Int)+1))) h=some (.int ((n::r).getD (k%((r.length:Int)+1)).toNat 0),h):=by
   have hj:(k%((r.length:Int)+1)).toNat<(n::r).length:=by simp;omega
   have e1:((n::r).map W.int)[(k%((r.length:Int)+1)).toNat]?=some (.int ((n::r).getD (k%((r.length:Int)+1)).toNat 0)):=by
    rw[je,zB hj];simp only[yr,List.getD,zB hj,Option.getD_some]
   have e2:atI ((n::r).map W.int) (k%((r.length:Int)+1))=some (.int ((n::r).getD (k%((r.length:Int)+1)).toNat 0)):=by
    unfold atI xB;rw[zY hm0,zY (by simp;omega)];exact e1
   simp only[zw,kX,getL,e2]
  have sm2:(small 6553||small (k/((r.length:Int)+1)))=true:=by rw[show small 6553=true by decide];rfl
  simp![cC,j2,cap,eq',hlen,yv,hp,hix,uM,hb,kC,sm2,addW,kU,u4]
noncomputable def ar(ns:List Int)(k:Int):Int:=(u4 ns k%2147483563*69069+104723*(k+1))%2147483563
noncomputable def aE(ns:List Int)(k:Int):Int:=(ar ns k*ar ns k+ar ns k/3)%2147483399
noncomputable def qv(ns:List Int)(k many:Int):Int:=(aE ns k*aE ns k+aE ns k/7)%2147483647/11%many
def i8{i:Int}(h0:0<=i)(h1:i<2147483648):small i=true:=by
 unfold small;exact qt ⟨by omega,by omega⟩
def uV{ns:List Int}(hl:ns.length<=63)(hm:0<many):(step (step F)).aa [kX ns,.int k,.int many] h=some (.int (qv ns k many),h):=by
 refine bi (n:=1) ?_ rfl;have e:=λh=>BH (F:=F) (k:=k) (h:=h) hl
 generalize step F=G at e;have a1:0<=ar ns k/\ar ns k<2147483563:=⟨vC _ ∅,qU _ ∅⟩;have a2:0<=aE ns k/\aE ns k<2147483399:=⟨vC _ ∅,qU _ ∅⟩;have c0:0<=u4 ns k%2147483563/\u4 ns k%2147483563<2147483563:=⟨vC _ ∅,qU _ ∅⟩;have s1:(small (u4 ns k%2147483563)||small 69069)=true:=by rw[i8 c0.1 ∅];rfl
 have s2:(small 104723||small (k+1))=true:=by rw[show small 104723=true by decide];rfl
 have s3:(small (ar ns k)||small (ar ns k))=true:=by rw[i8 a1.1 ∅];rfl
 have s4:(small (aE ns k)||small (aE ns k))=true:=by rw[i8 a2.1 ∅];rfl
 have m1:∀h,kC (.int (u4 ns k%2147483563)) (.int 69069) h=some (.int (u4 ns k%2147483563*69069),h):=λh=>by simp only[kC,s1,kE]
 have m2:∀h,kC (.int 104723) (.int (k+1)) h=some (.int (104723*(k+1)),h):=λh=>by simp only[kC,s2,kE]
 have m3:∀h,kC (.int (ar ns k)) (.int (ar ns k)) h=some (.int (ar ns k*ar ns k),h):=λh=>by simp only[kC,s3,kE]
 have m4:∀h,kC (.int (aE ns k)) (.int (aE ns k)) h=some (.int (aE ns k*aE ns k),h):=λh=>by simp only[kC,s4,kE]
 have f1:(u4 ns k%2147483563*69069+104723*(k+1))%2147483563=ar ns k:=rfl;have f2:(ar ns k*ar ns k+ar ns k/3)%2147483399=aE ns k:=rfl;have f3:(aE ns k*aE ns k+aE ns k/7)%2147483647/11%many=qv ns k many:=rfl;have b1:(zD (zi yv (zi addW (zi kC (zi yv (zh G.cF [ze 0,ze 1]) (eC (.int 2147483563))) (eC (.int 69069))) (zi kC (eC (.int 104723)) (zi addW (ze 1) (eC (.int 1))))) (eC (.int 2147483563))) (zC 3)) [some (kX ns),some (.int k),some (.int many),none] h=some (.nx [some (kX ns),some (.int k),some (.int many),some (.int (ar ns k))],h):=by
  simp![e,yv,m1,m2,addW,kU,f1]
 have b2:(zD (zi yv (zi addW (zi kC (ze 3) (ze 3)) (zi uM (ze 3) (eC (.int 3)))) (eC (.int 2147483399))) (zC 3)) [some (kX ns),some (.int k),some (.int many),some (.int (ar ns k))] h=some (.nx [some (kX ns),some (.int k),some (.int many),some (.int (aE ns k))],h):=by
  simp![yv,m3,uM,addW,kU,f2]
 have b3:(ku (zi yv (zi uM (zi yv (zi addW (zi kC (ze 3) (ze 3)) (zi uM (ze 3) (eC (.int 7)))) (eC (.int 2147483647))) (eC (.int 11))) (ze 2))) [some (kX ns),some (.int k),some (.int many),some (.int (aE ns k))] h=some (.ret (.int (qv ns k many)),h):=by
  simp![yv,m4,uM,addW,kU,hm,f3]
 have row:bM G [some (kX ns),some (.int k),some (.int many),none] h=some (.ret (.int (qv ns k many)),h):=by
  unfold bM;rw[zt b1,zt b2,b3]
 simp only[kd,zp,zV,kE,zx,jh,List.replicate,jk,kI];simp only[row]
def kz(hm:0<many):0<=qv ns k many/\qv ns k many<many:=⟨vC _ ∅,qU _ hm⟩
def dE{l:List W}(hl:l.length<=1000)(h:∀w∈l,dt n w=true):dt (n+1) (.tup l)=true:=by
 unfold dt;rw[zu];exact⟨qt hl,kW.mpr h⟩
inductive Sh(rl:List W)(k:Nat)(H:List Str):W->Prop
 | number (i:Int):Sh rl k H (th "number" [.int i])
 | name (v:Str):Sh rl k H (th "name" [.str v])
 | read (v:Str):Sh rl k H (th "read" [.str v])
 | doo (v:Str) (hv:v∈H):Sh rl k H (th "do" [.str v])
 | ask:Sh rl k H (th "ask" [])
 | write (v:Str) (a:List W):Sh rl k H (th "write" [.str v,.tup a])
 | say (a:List W):Sh rl k H (th "say" [.tup a])
 | lett (v:Str) (a b:List W):Sh rl k H (th "let" [.str v,.tup a,.tup b])
 | own (v:Str) (a b:List W):Sh rl k H (th "own" [.str v,.tup a,.tup b])
 | add (a b:List W):Sh rl k H (th "add" [.tup a,.tup b])
 | less (a b:List W):Sh rl k H (th "less" [.tup a,.tup b])
 | thenn (a b:List W):Sh rl k H (th "then" [.tup a,.tup b])
 | loop (a b:List W):Sh rl k H (th "loop" [.tup a,.tup b])
 | iff (a b c:List W):Sh rl k H (th "if" [.tup a,.tup b,.tup c])
 | call (i:Nat) (a b:List W) (hi:i<k) (ns:List W) (hs:List Str) (body:W) (e:rl[i]?=some (.tup [.tup ns,.tup (zI hs),body])) (lb:b.length=hs.length):Sh rl k H (th "call" [.int i,.tup a,.tup b])
inductive Pn:W->Prop
 | mk (x:Str) (r:List W) (p:Int×Int) (hc:(x==("call":Str))=false) (hf:fm x=some p) (hp:r.filter (tyB .tuple)=vi (th x r)):Pn (th x r)
def Sh.split{rl:List W}{H:List Str}(h:Sh rl k H w):Pn w\/∃(i:Nat) (a b:List W) (ns:List W) (hs:List Str) (body:W),w=th "call" [.int i,.tup a,.tup b]/\i<k/\rl[i]?=some (.tup [.tup ns,.tup (zI hs),body]):=by
 have key:∀(x:Str) (p:Int×Int),(x==("call":Str))=false->fm x=some p->∀r:List W,r.filter (tyB .tuple)=r.drop (p.2.toNat-1)->Pn (th x r):=by
  intro x p hc hf r hr;refine .mk x r p hc hf ?_;simp only[vi,hc,hf,hr];rfl
 cases h with
 | number i=>exact .inl (key _ (2,2) ⋯ ⋯ _ (by simp[tyB]))
 | name v=>exact .inl (key _ (2,2) ⋯ ⋯ _ (by simp[tyB]))
 | read v=>exact .inl (key _ (2,2) ⋯ ⋯ _ (by simp[tyB]))
 | doo v hv=>exact .inl (key _ (2,2) ⋯ ⋯ _ (by simp[tyB]))
 | ask=>exact .inl (key _ (1,1) ⋯ ⋯ _ (by simp))
 | write v a=>exact .inl (key _ (3,2) ⋯ ⋯ _ (by simp[tyB]))
 | say a=>exact .inl (key _ (2,1) ⋯ ⋯ _ (by simp[tyB]))
 | lett v a b=>exact .inl (key _ (4,2) ⋯ ⋯ _ (by simp[tyB]))
 | own v a b=>exact .inl (key _ (4,2) ⋯ ⋯ _ (by simp[tyB]))
 | add a b=>exact .inl (key _ (3,1) ⋯ ⋯ _ (by simp[tyB]))
 | less a b=>exact .inl (key _ (3,1) ⋯ ⋯ _ (by simp[tyB]))
 | thenn a b=>exact .inl (key _ (3,1) ⋯ ⋯ _ (by simp[tyB]))
 | loop a b=>exact .inl (key _ (3,1) ⋯ ⋯ _ (by simp[tyB]))
 | iff a b c=>exact .inl (key _ (4,1) ⋯ ⋯ _ (by simp[tyB]))
 | call i a b hi ns hs body e lb=>exact .inr ⟨i,a,b,ns,hs,body,rfl,hi,e⟩
def eJ(i:Int)(a b:List W):vi (th "call" [.int i,.tup a,.tup b])=a++b:=by simp[vi]
noncomputable def okd(rl:List W)(k:Nat)(H:List Str):Nat->W->Prop
 | 0,_=>False
 | n+1,w=>Sh rl k H w/\∀p∈vi w,okd rl k H n p
noncomputable def gE(l:List (Key×W)):Prop:=∀p∈l,∃v,p.2=.int v
def Ue(h:gE l):gE (jv l k (.int v)):=by
 intro p hp;unfold jv at hp;split at hp
 .obtain⟨q,hq,rfl⟩:=jd.mp hp
  split
  .exact⟨v,rfl⟩
  .exact h q hq
 .rcases zU.mp hp with z | z
  .exact h p z
  .simp at z;subst z;exact⟨v,rfl⟩
theorem oz:∀{more l:List (Key×W)},gE l->gE more->gE (qE l more)
 | [],l,h,_=>h
 | (k,w)::r,l,h,hm=>by
  obtain⟨v,e⟩:=hm (k,w) zX;simp only at e;subst e;have:=oz (more:=r) (l:=jv l k (.int v)) (Ue h) λp hp=>hm p (zJ _ hp)
  exact this
def XA(h:gE l):∃v,(wf l k).getD (.int 1)=.int v:=by
 unfold wf;cases e:l.find? λkv=>decide (kv.1=k) with
 | none=>exact⟨1,rfl⟩
 | some p=>
  obtain⟨v,hv⟩:=h p (vM e);exact⟨v,by simp[hv]⟩
structure RulesGood(rl:List W):Prop where
 g:∀i,i<rl.length->∃(ns:List W) (hs:List Str) (body:W),rl[i]?=some (.tup [.tup ns,.tup (zI hs),body])/\dt 60 body=true/\okd rl i hs 3 body/\hs.length<=4
noncomputable def WOk(G:Fs)(rl:List W)(k n:Nat):Prop:=∀(Hd:List Str) (w:W) (hd:List (Key×W)),okd rl k Hd n w->dt 60 w=true->gE hd->∃v:Int,∀h,G.aj [.tup rl,w,.fdc hd] h=some (.int v,h)
noncomputable def wv(G:Fs)(rl:List W)(hd:List (Key×W))(w:W):Int:=match G.aj [.tup rl,w,.fdc hd] [] with
 | some (.int v,_)=>v
 | _=>0
def WOk.at{G:Fs}(H:WOk G rl k n)(o:okd rl k Hd n w)(d:dt 60 w=true)(q:gE hd)(h:MH):G.aj [.tup rl,w,.fdc hd] h=some (.int (wv G rl hd w),h):=by
 obtain⟨v,e⟩:=H _ w hd o d q;unfold wv;rw[e []];exact e h
noncomputable def four:List Str:=["number","name","ask","read"]
noncomputable abbrev ρw(rl:List W)(w:W)(hd:List (Key×W))(x:Str)(o4 o5 o6:Option W):En:=[some (.tup rl),some w,some (.fdc hd),some (.str x),o4,o5,o6]
theorem lS(F:Fs):aO F=zo (zD (zi zw (ze 1) (eC (.int 0))) (zC 3)) (zo (w1 F) (zo (w2 F) (zo (w3 F) (zo (w4 F) (zo (w5 F) (w6 F)))))):=rfl
def in4(d:dt n (.str x)=true)(hn:n<=60):inB h (.str x) (.tup [.str "number",.str "name",.str "ask",.str "read"])=some (xU four (.str x)):=i5 (l:=four) d hn ⋯
def Ck(d:dt n (.str x)=true)(hn:n<=60)(q:xU four (.str x)=true):w1 F (ρw rl w hd x none none none) h=some (.ret (.int 1),h):=by
 have c4:(4:Nat)<=cap:=by decide
 have e:=in4 (h:=h) d hn;rw[q] at e;simp![w1,zv,c4,e]
def oP(d:dt n (.str x)=true)(hn:n<=60)(q:xU four (.str x)=false):w1 F (ρw rl w hd x none none none) h=some (.nx (ρw rl w hd x none none none),h):=by
 have c4:(4:Nat)<=cap:=by decide
 have e:=in4 (h:=h) d hn;rw[q] at e;simp![w1,zv,c4,e]
def KD(q:(x==("do":Str))=false):w2 F (ρw rl w hd x none none none) h=some (.nx (ρw rl w hd x none none none),h):=by
 simp![w2,yk,q]
def WY(q:(x==("call":Str))=false):w3 F (ρw rl w hd x none none none) h=some (.nx (ρw rl w hd x none none none),h):=by
 simp![w3,yk,q]
def Qk(l:List (Str×W))(f:W->Int):pairsOf (l.map λp=>.tup [.str p.1,.int (f p.2)])=some (l.map λp=>(.str p.1,.int (f p.2))):=by
 induction l with
 | nil=>rfl
 | cons x r ih=>simp only[zx];unfold pairsOf;rw[ih]
theorem VB(l:List (Str×W))(f:W->Int):keysOf (l.map λp=>(W.str p.1,W.int (f p.2)))=some (l.map λp=>(.inr p.1,.int (f p.2))):=by
 induction l with
 | nil=>rfl
 | cons x r ih=>simp only[zx];unfold keysOf;rw[ih];rfl
def pJ(hs:List Str)(b:List W):(zI hs).zip b=(hs.zip b).map λp=>(W.str p.1,p.2):=by
 induction hs generalizing b with
 | nil=>rfl
 | cons x r ih=>
  cases b with
  | nil=>rfl
  | cons y b=>simp only[zI,zx,jq,zx] at ih ⊢;rw[ih]
theorem nU:∀{a b:List Str},zI a=zI b->a=b
 | [],[],_=>rfl
 | [],y::b,h=>by simp[zI] at h
 | x::a,[],h=>by simp[zI] at h
 | x::a,y::b,h=>by
  simp only[zI,zx,jK,W.str.injEq] at h;rw[h.1,nU (a:=a) (b:=b) h.2]
def b9(e1:m ρ h=some (w,h'))(e2:g w ρ h'=some (ρ',h2)):zD m g ρ h=some (.nx ρ',h2):=by
 unfold zD;rw[e1];simp only[e2]
def sM{f:List W->M W}(e:m ρ h=some (w,h')):zh f [m] ρ h=f [w] h':=by
 simp[zh,ky,bnd,e]
def tE{rl:List W}(hr:RulesGood rl)(hk:k<=rl.length)(H:WOk G rl k n)(HB:∀i,i<k->WOk G rl i 3):WOk (step G) rl k (n+1):=by
 intro Hd w hd o d q;suffices hs:∃v:Int,∀h,aO G [some (.tup rl),some w,some (.fdc hd),none,none,none,none] h=some (.ret (.int v),h) by
  obtain⟨v,e⟩:=hs;refine⟨v,λh=>bi (n:=1) ?_ rfl⟩;simp only[kd,zp,zV,kE,zx,jh,List.replicate,jk,kI];simp only[e h]
 have dp:∀v∈vi w,dt 60 v=true:=λv hv=>jp (J6 (n:=59) d v hv) ∅
 have lp:=Z6 d;have start:∀x r,w=th x r->∀h,(zD (zi zw (ze 1) (eC (.int 0))) (zC 3)) [some (.tup rl),some w,some (.fdc hd),none,none,none,none] h=some (.nx (ρw rl w hd x none none none),h):=by
  intro x r e h;subst e;simp![xZ]
 have dx:∀x r,w=th x r->dt 59 (.str x)=true:=by
  intro x r e;subst e;obtain⟨m,e,hl,hd⟩:=xP d;cases e;exact hd _ zX
 have leaf:∀x r,w=th x r->xU four (.str x)=true->∃v:Int,∀h,aO G [some (.tup rl),some w,some (.fdc hd),none,none,none,none] h=some (.ret (.int v),h):=by
  intro x r e hx;refine⟨1,λh=>?_⟩;rw[lS,zt (start x r e h),xi (Ck (dx x r e) ∅ hx)]
 have inner:∀x r,w=th x r->r.filter (tyB .tuple)=vi w->∀h,w4 G (ρw rl w hd x none none none) h=some (.nx (ρw rl w hd x none none (some (.fls ((vi w).map λv=>.int (wv G rl hd v))))),h):=by
  intro x r e hq h;have c:=dA (mi:=qq (ba (ze 1) (some (eC (.int 1))) none)) (ks:=[0,2]) (t:=ke (ug (isW .tuple) (ze 0))) (m:=zh G.aj [ze 1,ze 0,ze 2]) (ρ:=ρw rl w hd x none none none) (h:=h) (l:=r) (tyB .tuple) (λv=>.int (wv G rl hd v))
   (by subst e;simp![qq,ba,bp,gS,srcOf,WQ])
   (λv hv H'=>by
    subst e;obtain⟨m,e,hl,hd'⟩:=xP d
    simp![Cq (hd' v (zJ _ hv))])
   (λv hv hy H'=>by
    have hv':v∈vi w:=by rw[<-hq];exact vA.mpr ⟨hv,hy⟩
    simp![H.at (o.2 v hv') (dp v hv') q H'])
   (λv hv _=>by unfold low;rfl)
   (by
    subst e;obtain⟨m,e,hl,hd'⟩:=xP d;have:r.length<=1000:=by simp at hl;omega
    exact zR this (by decide))
  rw[hq] at c;unfold w4 zD;rw[c];simp![]
 have other:∀x r,w=th x r->xU four (.str x)=false->(x==("do":Str))=false->(x==("loop":Str))=false->Pn w->∃v:Int,∀h,aO G [some (.tup rl),some w,some (.fdc hd),none,none,none,none] h=some (.ret (.int v),h):=by
  intro x r e h1 h2 h3 hp;refine⟨1+uN ((vi w).map λv=>wv G rl hd v),λh=>?_⟩;cases hp with
  | mk x' r' p hc hf hq=>
   cases e;have e2:=ints_map (vi (th x r)) λv=>wv G rl hd v
   rw[lS,zt (start x r rfl h),zt (oP (dx x r rfl) ∅ h1),zt (KD h2),zt (WY hc),zt (inner x r rfl hq h),
    zt (ρ':=ρw rl (th x r) hd x none none (some (.fls ((vi (th x r)).map λv=>.int (wv G rl hd v))))) (h':=h) (by simp![w5,yk,h3])]
   simp![w6,eD,xT,getL,e2,addW,kU]
 have osh:=o.1;have osp:=o.1.split;cases osh with
 | number i=>exact leaf _ _ rfl ⋯
 | name v=>exact leaf _ _ rfl ⋯
 | read v=>exact leaf _ _ rfl ⋯
 | ask=>exact leaf _ _ rfl ⋯
 | doo v=>
  obtain⟨u,hu⟩:=XA (k:=.inr v) q;refine⟨u,λh=>?_⟩;rw[lS,zt (start _ _ rfl h),zt (oP (dx _ _ rfl) ∅ ⋯)];refine xi ?_;simp![w2,yk,mm,xy,xt,keyOf,hu]
 | write v a=>
  rcases osp with hp | ⟨_,_,_,_,_,_,e,_,_⟩
  .exact other _ _ rfl ⋯ ⋯ ⋯ hp
  .cases e
 | say a=>
  rcases osp with hp | ⟨_,_,_,_,_,_,e,_,_⟩
  .exact other _ _ rfl ⋯ ⋯ ⋯ hp
  .cases e
 | lett v a b=>
  rcases osp with hp | ⟨_,_,_,_,_,_,e,_,_⟩
  .exact other _ _ rfl ⋯ ⋯ ⋯ hp
  .cases e
 | own v a b=>
  rcases osp with hp | ⟨_,_,_,_,_,_,e,_,_⟩
  .exact other _ _ rfl ⋯ ⋯ ⋯ hp
  .cases e
 | add a b=>
  rcases osp with hp | ⟨_,_,_,_,_,_,e,_,_⟩
  .exact other _ _ rfl ⋯ ⋯ ⋯ hp
  .cases e
 | less a b=>
  rcases osp with hp | ⟨_,_,_,_,_,_,e,_,_⟩
  .exact other _ _ rfl ⋯ ⋯ ⋯ hp
  .cases e
 | thenn a b=>
  rcases osp with hp | ⟨_,_,_,_,_,_,e,_,_⟩
  .exact other _ _ rfl ⋯ ⋯ ⋯ hp
  .cases e
 | iff a b c=>
  rcases osp with hp | ⟨_,_,_,_,_,_,e,_,_⟩
  .exact other _ _ rfl ⋯ ⋯ ⋯ hp
  .cases e
 | loop a b=>
  have ep:vi (th "loop" [.tup a,.tup b])=[.tup a,.tup b]:=by
   simp[vi,show(("loop":Str)=="call")=false by decide +kernel,show fm "loop" = some (3,1) by decide +kernel]
  refine⟨1+wv G rl hd (.tup a)+3*wv G rl hd (.tup b),λh=>?_⟩;have hin:=inner _ _ rfl (by rw[ep];simp[tyB]) h;rw[ep] at hin;rw[lS,zt (start _ _ rfl h),zt (oP (dx _ _ rfl) ∅ ⋯),zt (KD ⋯),zt (WY ⋯),zt hin];refine xi ?_;have sm:(small 3||small (wv G rl hd (.tup b)))=true:=by rw[show small 3=true by decide];rfl
  simp![w5,yk,uJ,pj,addW,kU,kC,sm]
 | call i a b hi ns hs body e=>
  obtain⟨ns',hs',body',e',db,ob,hl4⟩:=hr.g i ∅;have eb:hs=hs'/\body=body':=by
   rw[e] at e';injection e' with e';injection e' with e';simp only[jK,W.tup.injEq,and_true] at e';refine⟨?_,e'.2.2⟩;have:=e'.2.1;exact nU this
  obtain⟨rfl,rfl⟩:=eb;obtain⟨m,em,hl,hd'⟩:=xP d;cases em;obtain⟨m1,e1,la,da⟩:=xP (hd' (.tup a) (by simp));obtain⟨m2,e2,lb,dbb⟩:=xP (hd' (.tup b) (by simp));rw[eJ] at dp;have op:=o.2;rw[eJ] at op;have ei:∀h,zw (.tup rl) (.int (i:Int)) h=some (.tup [.tup ns,.tup (zI hs),body],h):=λh=>Cb ∅ ∅ (by simpa using e)
  have ok2:gE (qE [] ((hs.zip b).map λp=>(Sum.inr p.1,W.int (wv G rl hd p.2)))):=by
   refine oz (λp hp=>by simp at hp) λp hp=>?_
   obtain⟨z,_,rfl⟩:=jd.mp hp;exact⟨_,rfl⟩
  refine⟨1+uN (a.map λv=>wv G rl hd v)+wv G rl (qE [] ((hs.zip b).map λp=>(Sum.inr p.1,W.int (wv G rl hd p.2)))) body,λh=>?_⟩;have c2:(2:Nat)<=cap:=by decide
  have hzl:(hs.zip b).length<=4:=by rw[qd];omega
  have cz:=Dl (mi:=eu [zi zw (zi zw (ze 0) (zi zw (ze 1) (eC (.int 1)))) (eC (.int 1)),zi zw (ze 1) (eC (.int 3))]) (ks:=[0,2]) (t:=kL) (m:=zh zv [ze 0,zh G.aj [ze 2,ze 1,ze 3]]) (ρ:=ρw rl (th "call" [.int i,.tup a,.tup b]) hd "call" none none none) (h:=h) (l:=(hs.zip b).map λp=>(W.str p.1,p.2)) (λ_ _=>true) (λx y=>.tup [x,.int (wv G rl hd y)])
   (by simp![eu,xZ,xt,pO,ei,sT,u0,pJ])
   (λv hv H'=>rfl)
   (λv hv _ H'=>by
    obtain⟨p,hp,rfl⟩:=jd.mp hv;have hb:p.2∈b:=(j9 (show(p.1,p.2)∈hs.zip b from hp)).2;have hb':p.2∈a++b:=zU.mpr (.inr hb)
    simp![H.at (op _ hb') (dp _ hb') q H',zv,c2])
   (λv hv _=>by
    obtain⟨p,hp,rfl⟩:=jd.mp hv
    simp[low,lows])
   (by rw[zO];exact zR hzl (by decide))
  rw[filter_true,q9] at cz;have cs:=dA (mi:=qq (zi zw (ze 1) (eC (.int 2)))) (ks:=[0,2]) (t:=kL) (m:=zh G.aj [ze 1,ze 0,ze 2]) (ρ:=ρw rl (th "call" [.int i,.tup a,.tup b]) hd "call" (some (.fdc (qE [] ((hs.zip b).map λp=>(Sum.inr p.1,W.int (wv G rl hd p.2)))))) none none) (h:=h) (l:=a) (λ_=>true) (λv=>.int (wv G rl hd v))
   (by simp![qq,g7,srcOf])
   (λv hv H'=>rfl)
   (λv hv _ H'=>by
    have hb':v∈a++b:=zU.mpr (.inl hv)
    simp![H.at (op _ hb') (dp _ hb') q H'])
   (λv hv _=>by unfold low;rfl)
   (zR la (by decide))
  rw[filter_true] at cs;have e3:=ints_map a λv=>wv G rl hd v
  have pm:=Qk (hs.zip b) λv=>wv G rl hd v
  have km:=VB (hs.zip b) λv=>wv G rl hd v
  have body_ok:=(HB i hi).at (hd:=qE [] ((hs.zip b).map λp=>(Sum.inr p.1,W.int (wv G rl hd p.2)))) ob db ok2 h;have hz1000:(hs.zip b).length<=1000:=by omega
  rw[lS,zt (start _ _ rfl h),zt (oP (dx _ _ rfl) ∅ ⋯),zt (KD ⋯)];refine xi ?_;have s1:(zD (zh iM [ja (eu [zi zw (zi zw (ze 0) (zi zw (ze 1) (eC (.int 1)))) (eC (.int 1)),zi zw (ze 1) (eC (.int 3))]) 2 [0,2] (bX [zC 0,zC 1]) kL (zh zv [ze 0,zh G.aj [ze 2,ze 1,ze 3]])]) (zC 4)) (ρw rl (th "call" [.int i,.tup a,.tup b]) hd "call" none none none) h=some (.nx (ρw rl (th "call" [.int i,.tup a,.tup b]) hd "call" (some (.fdc (qE [] ((hs.zip b).map λp=>(Sum.inr p.1,W.int (wv G rl hd p.2)))))) none none),h):=by
   refine b9 ((sM cz).trans ?_) rfl;have:(List.map ((λw:W×W=>W.tup [w.fst,W.int (wv G rl hd w.snd)])∘λp:Str×W=>(W.str p.fst,p.snd)) (hs.zip b))=(hs.zip b).map λp=>.tup [.str p.1,.int (wv G rl hd p.2)]:=rfl
   rw[this];simp only[iM,xy,getL,pm,km];rw[zO,zY hz1000]
  have s2:(zD (zh eD [ja (qq (zi zw (ze 1) (eC (.int 2)))) 1 [0,2] (zC 0) kL (zh G.aj [ze 1,ze 0,ze 2])]) (zC 5)) (ρw rl (th "call" [.int i,.tup a,.tup b]) hd "call" (some (.fdc (qE [] ((hs.zip b).map λp=>(Sum.inr p.1,W.int (wv G rl hd p.2)))))) none none) h=some (.nx (ρw rl (th "call" [.int i,.tup a,.tup b]) hd "call" (some (.fdc (qE [] ((hs.zip b).map λp=>(Sum.inr p.1,W.int (wv G rl hd p.2)))))) (some (.int (uN (a.map λv=>wv G rl hd v)))) none),h):=by
   refine b9 ((sM cs).trans ?_) rfl;simp only[eD,xT,getL,e3]
  have t:ke (zi (vn false) (ze 3) (eC (.str "call"))) (ρw rl (th "call" [.int i,.tup a,.tup b]) hd "call" none none none) h=some (true,h):=by simp![yk]
  unfold w3 k8;simp only[t,kE];rw[zt s1,zt s2];simp![xZ,xt,g7,ei,body_ok,addW,kU]
theorem fy{rl:List W}(hr:RulesGood rl)(F:Fs):∀(m k n:Nat),3*k+n<=m->n<=3->k<=rl.length->WOk (up m F) rl k n
 | m,k,0,_,_,_=>by intro Hd w hd o;cases o
 | 0,k,n+1,h,_,_=>by omega
 | m+1,k,n+1,h,hn,hk=>tE hr hk (fy hr F m k n ∅ ∅ hk) λi hi=>fy hr F m i 3 ∅ ∅ ∅
inductive D where
 | number (i:Int) | name (v:Str) | read (v:Str) | doo (v:Str) | ask
 | write (v:Str) (a:D) | say (a:D) | lett (v:Str) (a b:D) | own (v:Str) (a b:D)
 | add (a b:D) | less (a b:D) | thenn (a b:D) | loop (a b:D) | iff (a b c:D)
 | call (i:Nat) (as bs:List D)
structure Rule where
 ns:List Str
 hs:List Str
 body:D
inductive Vl where
 | int (i:Int) | cell (c:Nat) | hd (d:D) (env:List (Str×Vl))
abbrev Ev:=List (Str×Vl)
noncomputable def lk:Ev->Str->Option Vl
 | [],_=>none
 | (x,v)::r,y=>if x=y then some v else lk r y
inductive Tch where
 | read (v:Str) | write (v:Str) (i:Int) | say (i:Int) | ask
inductive Tr(α:Type) where
 | ret (a:α) | tch (t:Tch) (k:Int->Tr α)
noncomputable def Tr.bind{α β:Type}:Tr α->(α->Tr β)->Tr β
 | .ret a,f=>f a
 | .tch t k,f=>.tch t λv=>(k v).bind f
theorem Tr.bind_assoc{α β γ:Type}(f:α->Tr β)(g:β->Tr γ):∀T:Tr α,(T.bind f).bind g=T.bind λa=>(f a).bind g
 | .ret a=>rfl
 | .tch t k=>by
  simp only[Tr.bind];congr 1
  funext v
  exact Tr.bind_assoc f g (k v)
theorem Tr.bind_ret{α:Type}:∀T:Tr α,T.bind .ret=T
 | .ret a=>rfl
 | .tch t k=>by
  simp only[Tr.bind];congr 1
  funext v
  exact Tr.bind_ret (k v)
abbrev Tc:=Tr (Int×List Int)
inductive SV where
 | int (i:Int) | cell (c:Nat) | fn (f:List Int->Tc)
abbrev Sv:=Str->SV
noncomputable def SV.i:SV->Int
 | .int i=>i
 | _=>0
noncomputable def SV.c:SV->Nat
 | .cell i=>i
 | _=>0
noncomputable def SV.f:SV->List Int->Tc
 | .fn f=>f
 | _=>λcs=>.ret (0,cs)
noncomputable def us(ρ:Sv)(x:Str)(v:SV):Sv:=λy=>if x=y then v else ρ y
noncomputable def SH:List Str:=["a","b","c","d"]
abbrev Rn:=Nat->List Int->List (List Int->Tc)->List Int->Tc
noncomputable def rp(f:List Int->Tc):Nat->List Int->Tc
 | 0,cs=>.ret (0,cs)
 | n+1,cs=>(f cs).bind λp=>rp f n p.2
mutual
noncomputable def den(R:Rn):D->Sv->List Int->Tc
 | .number i,_,cs=>.ret (i,cs)
 | .name v,ρ,cs=>.ret ((ρ v).i,cs)
 | .read v,ρ,cs=>if v∈SH then .tch (.read v) λx=>.ret (x,cs) else .ret (cs.getD (ρ v).c 0,cs)
 | .doo v,ρ,cs=>(ρ v).f cs
 | .ask,_,cs=>.tch .ask λx=>.ret (x,cs)
 | .write v a,ρ,cs=>(den R a ρ cs).bind λp=>if v∈SH then .tch (.write v p.1) λx=>.ret (x,p.2) else .ret (p.1,p.2.set (ρ v).c p.1)
 | .say a,ρ,cs=>(den R a ρ cs).bind λp=>.tch (.say p.1) λx=>.ret (x,p.2)
 | .lett v a b,ρ,cs=>(den R a ρ cs).bind λp=>den R b (us ρ v (.int p.1)) p.2
 | .own v a b,ρ,cs=>(den R a ρ cs).bind λp=>den R b (us ρ v (.cell p.2.length)) (p.2++[p.1])
 | .add a b,ρ,cs=>(den R a ρ cs).bind λp=>(den R b ρ p.2).bind λq=>.ret ((p.1+q.1)%1009,q.2)
 | .less a b,ρ,cs=>(den R a ρ cs).bind λp=>(den R b ρ p.2).bind λq=>.ret (if p.1<q.1 then 1 else 0,q.2)
 | .thenn a b,ρ,cs=>(den R a ρ cs).bind λp=>den R b ρ p.2
 | .loop a b,ρ,cs=>(den R a ρ cs).bind λp=>rp (λcs=>den R b ρ cs) (p.1%4).toNat p.2
 | .iff a b c,ρ,cs=>(den R a ρ cs).bind λp=>if p.1=0 then den R c ρ p.2 else den R b ρ p.2
 | .call i as bs,ρ,cs=>(uL R as ρ cs).bind λp=>R i p.1 (xl R bs ρ) p.2
noncomputable def uL(R:Rn):List D->Sv->List Int->Tr (List Int×List Int)
 | [],_,cs=>.ret ([],cs)
 | d::r,ρ,cs=>(den R d ρ cs).bind λp=>(uL R r ρ p.2).bind λq=>.ret (p.1::q.1,q.2)
noncomputable def xl(R:Rn):List D->Sv->List (List Int->Tc)
 | [],_=>[]
 | d::r,ρ=>(λcs=>den R d ρ cs)::xl R r ρ
end
noncomputable def ρ0:Sv:=λ_=>.int 0
noncomputable def cρ(r:Rule)(xs:List Int)(fs:List (List Int->Tc)):Sv:=(r.hs.zip fs).foldl (λe p=>us e p.1 (.fn p.2)) ((r.ns.zip xs).foldl (λe p=>us e p.1 (.int p.2)) ρ0)
noncomputable def ck(rs:List Rule):Nat->Rn
 | 0=>λ_ _ _ cs=>.ret (0,cs)
 | k+1=>λi xs fs cs=>if i=k then (match rs[k]? with
   | some r=>den (ck rs k) r.body (cρ r xs fs) cs
   | none=>.ret (0,cs)) else ck rs k i xs fs cs
mutual
noncomputable def cost(B:Nat->Nat->Nat)(h:Nat):D->Nat
 | .number _=>1
 | .name _=>1
 | .read _=>1
 | .doo _=>1+h
 | .ask=>1
 | .write _ a=>cost B h a+2
 | .say a=>cost B h a+2
 | .lett _ a b=>cost B h a+cost B h b+2
 | .own _ a b=>cost B h a+cost B h b+2
 | .add a b=>cost B h a+cost B h b+2
 | .less a b=>cost B h a+cost B h b+2
 | .thenn a b=>cost B h a+cost B h b+2
 | .loop a b=>cost B h a+3*cost B h b+9
 | .iff a b c=>cost B h a+max (cost B h b) (cost B h c)+2
 | .call i as bs=>uH B h as+B i (ua B h bs)+2
noncomputable def uH(B:Nat->Nat->Nat)(h:Nat):List D->Nat
 | []=>0
 | d::r=>cost B h d+uH B h r
noncomputable def ua(B:Nat->Nat->Nat)(h:Nat):List D->Nat
 | []=>0
 | d::r=>max (cost B h d) (ua B h r)
end
noncomputable def y8(rs:List Rule):Nat->Nat->Nat->Nat
 | 0=>λ_ _=>0
 | k+1=>λi h=>if i=k then (match rs[k]? with
   | some r=>cost (y8 rs k) h r.body
   | none=>0) else y8 rs k i h
theorem ny{rs:List Rule}{i:Nat}{r:Rule}(e:rs[i]?=some r):∀{K:Nat},i<K->ck rs K i=λxs fs cs=>den (ck rs i) r.body (cρ r xs fs) cs
 | 0,h=>by omega
 | K+1,h=>by
  by_cases q:i=K
  .subst q
   funext xs fs cs
   simp only[ck,kE,e]
  .funext xs fs cs
   simp only[ck,q,jj];rw[ny e (K:=K) ∅]
theorem gD{rs:List Rule}{i:Nat}{r:Rule}(e:rs[i]?=some r):∀{K:Nat},i<K->y8 rs K i=λh=>cost (y8 rs i) h r.body
 | 0,h=>by omega
 | K+1,h=>by
  by_cases q:i=K
  .subst q
   funext h
   simp only[y8,kE,e]
  .funext h
   simp only[y8,q,jj];rw[gD e (K:=K) ∅]
abbrev vk:=Bool×D×Ev
noncomputable def D.first:D->List D
 | .write _ a=>[a]
 | .say a=>[a]
 | .lett _ a _=>[a]
 | .own _ a _=>[a]
 | .add a b=>[a,b]
 | .less a b=>[a,b]
 | .thenn a b=>[a,b]
 | .loop a _=>[a]
 | .iff a _ _=>[a]
 | .call _ as _=>as
 | _=>[]
noncomputable def uE(b:D):Nat->D
 | 0=>.number 0
 | n+1=>.thenn b (uE b n)
noncomputable def cE(r:Rule)(xs:List Int)(bs:List D)(env:Ev):Ev:=(r.hs.zip bs).foldl (λe p=>(p.1,.hd p.2 env)::e) ((r.ns.zip xs).foldl (λe p=>(p.1,.int p.2)::e) [])
inductive Res where
 | gg (p:List vk) (ws cs:List Int) | tch (t:Tch) (ws:List Int)
inductive S1(rs:List Rule):Bool->D->Ev->List Int->List Int->Res->Prop
 | number {i env ws cs}:S1 rs false (.number i) env ws cs (.gg [] (i::ws) cs)
 | name {v i env ws cs} (h:lk env v=some (.int i)):S1 rs false (.name v) env ws cs (.gg [] (i::ws) cs)
 | readS {v env ws cs} (h:v∈SH):S1 rs false (.read v) env ws cs (.tch (.read v) ws)
 | readO {v c i env ws cs} (h:v∉SH) (hs:dt 1 (.str v)=true) (hv:lk env v=some (.cell c)) (hc:cs[c]?=some i):S1 rs false (.read v) env ws cs (.gg [] (i::ws) cs)
 | doo {v d' env' env ws cs} (h:lk env v=some (.hd d' env')):S1 rs false (.doo v) env ws cs (.gg [(false,d',env')] ws cs)
 | ask {env ws cs}:S1 rs false .ask env ws cs (.tch .ask ws)
 | push {d env ws cs} (h:d.first≠[]) (hl:d.first.length<=3):S1 rs false d env ws cs (.gg (d.first.map (λa=>(false,a,env))++[(true,d,env)]) ws cs)
 | writeS {v a x env ws cs} (h:v∈SH):S1 rs true (.write v a) env (x::ws) cs (.tch (.write v x) ws)
 | writeO {v a x c env ws cs} (h:v∉SH) (hs:dt 1 (.str v)=true) (hv:lk env v=some (.cell c)) (hc:c<cs.length):S1 rs true (.write v a) env (x::ws) cs (.gg [] (x::ws) (cs.set c x))
 | say {a x env ws cs}:S1 rs true (.say a) env (x::ws) cs (.tch (.say x) ws)
 | add {a b x y env ws cs}:S1 rs true (.add a b) env (y::x::ws) cs (.gg [] ((x+y)%1009::ws) cs)
 | less {a b x y env ws cs}:S1 rs true (.less a b) env (y::x::ws) cs (.gg [] ((if x<y then 1 else 0)::ws) cs)
 | thenn {a b x y env ws cs}:S1 rs true (.thenn a b) env (y::x::ws) cs (.gg [] (y::ws) cs)
 | iff {a b c x env ws cs}:S1 rs true (.iff a b c) env (x::ws) cs (.gg [(false,if x=0 then c else b,env)] ws cs)
 | loop {a b x env ws cs}:S1 rs true (.loop a b) env (x::ws) cs (.gg [(false,uE b (x%4).toNat,env)] ws cs)
 | lett {v a b x env ws cs}:S1 rs true (.lett v a b) env (x::ws) cs (.gg [(false,b,(v,.int x)::env)] ws cs)
 | own {v a b x env ws cs}:S1 rs true (.own v a b) env (x::ws) cs (.gg [(false,b,(v,.cell cs.length)::env)] ws (cs++[x]))
 | call {pd i as bs r xs env ws cs} (hp:pd=true\/as=[]) (hr:rs[i]?=some r) (hx:xs.length=as.length) (ha:as.length=r.ns.length) (hb:bs.length=r.hs.length):S1 rs pd (.call i as bs) env (xs.reverse++ws) cs (.gg [(false,r.body,cE r xs bs env)] ws cs)
inductive Rep(rs:List Rule):List vk->List Int->List Int->Tr Int->Nat->Prop
 | done {v ws cs c}:Rep rs [] (v::ws) cs (.ret v) c
 | gg {b d env stk ws cs p ws' cs' T c} (h:S1 rs b d env ws cs (.gg p ws' cs')) (r:Rep rs (p++stk) ws' cs' T c):Rep rs ((b,d,env)::stk) ws cs T (c+1)
 | tch {b d env stk ws cs t ws' k c} (h:S1 rs b d env ws cs (.tch t ws')) (r:∀v,Rep rs stk (v::ws') cs (k v) c):Rep rs ((b,d,env)::stk) ws cs (.tch t k) (c+1)
def Rep.mono{T:Tr Int}{c:Nat}(r:Rep rs stk ws cs T c):∀{c':Nat},c<=c'->Rep rs stk ws cs T c':=by
 induction r with
 | done=>intro c' _;exact .done
 | gg h r ih=>
  intro c' hc;obtain⟨c'',rfl⟩:∃c'',c'=c''+1:=⟨c'-1,by omega⟩;exact .gg h (ih ∅)
 | tch h r ih=>
  intro c' hc;obtain⟨c'',rfl⟩:∃c'',c'=c''+1:=⟨c'-1,by omega⟩;exact .tch h λv=>ih v ∅
mutual
noncomputable def Wf(rs:List Rule)(k:Nat):D->List Str->List Str->List Str->Prop
 | .number i,_,_,_=>0<=i/\i<=1008
 | .name v,N,_,_=>v∈N
 | .read v,_,O,_=>v∈SH\/v∈O
 | .doo v,_,_,H=>v∈H
 | .ask,_,_,_=>True
 | .write v a,N,O,H=>(v∈SH\/v∈O)/\Wf rs k a N O H
 | .say a,N,O,H=>Wf rs k a N O H
 | .lett v a b,N,O,H=>(v∉O/\v∉H/\dt 1 (.str v)=true)/\Wf rs k a N O H/\Wf rs k b (N++[v]) O H
 | .own v a b,N,O,H=>(v∉N/\v∉H/\dt 1 (.str v)=true)/\Wf rs k a N O H/\Wf rs k b N (O++[v]) H
 | .add a b,N,O,H=>Wf rs k a N O H/\Wf rs k b N O H
 | .less a b,N,O,H=>Wf rs k a N O H/\Wf rs k b N O H
 | .thenn a b,N,O,H=>Wf rs k a N O H/\Wf rs k b N O H
 | .loop a b,N,O,H=>Wf rs k a N O H/\Wf rs k b N O H
 | .iff a b c,N,O,H=>Wf rs k a N O H/\Wf rs k b N O H/\Wf rs k c N O H
 | .call i as bs,N,O,H=>i<k/\(∃r,rs[i]?=some r/\as.length=r.ns.length/\bs.length=r.hs.length)/\xw rs k as N O H/\xw rs k bs N O H
noncomputable def xw(rs:List Rule)(k:Nat):List D->List Str->List Str->List Str->Prop
 | [],_,_,_=>True
 | d::r,N,O,H=>Wf rs k d N O H/\xw rs k r N O H
end
structure RsOk(rs:List Rule):Prop where
 w:∀(i:Nat) (r:Rule),rs[i]?=some r->Wf rs i r.body r.ns [] r.hs
 d:∀(i:Nat) (r:Rule),rs[i]?=some r->∀v∈r.ns,v∉r.hs
 l:∀(i:Nat) (r:Rule),rs[i]?=some r->r.ns.length<=3/\r.hs.length<=3
noncomputable def Bs(rs:List Rule)(d:D)(env:Ev)(cs:List Int)(T:Tc)(c:Nat):Prop:=∀(stk:List vk) (ws:List Int) (K:Int×List Int->Tr Int) (c':Nat),(∀v cs',cs.length<=cs'.length->Rep rs stk (v::ws) cs' (K (v,cs')) c')->Rep rs ((false,d,env)::stk) ws cs (T.bind K) (c+c')
structure EnvR(rs:List Rule)(N O H:List Str)(env:Ev)(ρ:Sv)(h m:Nat):Prop where
 nm:∀v∈N,∃i,lk env v=some (.int i)/\ρ v=.int i
 ow:∀v∈O,∃c,lk env v=some (.cell c)/\ρ v=.cell c/\c<m/\dt 1 (.str v)=true
 hd:∀v∈H,∃d' env' f,lk env v=some (.hd d' env')/\ρ v=.fn f/\∀cs,m<=cs.length->Bs rs d' env' cs (f cs) h
def EnvR.more{H:List Str}(e:EnvR rs N O H env ρ h m)(hm:m<=m'):EnvR rs N O H env ρ h m':=
 ⟨e.nm,λv hv=>let ⟨c,a,b,d,s⟩:=e.ow v hv;⟨c,a,b,by omega,s⟩,λv hv=>let ⟨d',env',f,a,b,q⟩:=e.hd v hv;⟨d',env',f,a,b,λcs hc=>q cs ∅⟩⟩
theorem xc:lk ((x,v)::env) y=if x=y then some v else lk env y:=rfl
def EnvR.lett{rs:List Rule}{N O H:List Str}{env:Ev}{ρ:Sv}{h m:Nat}{x:Str}{i:Int}(e:EnvR rs N O H env ρ h m)(ho:x∉O)(hh:x∉H):EnvR rs (N++[x]) O H ((x,.int i)::env) (us ρ x (.int i)) h m:=by
 refine⟨λv hv=>?_,λv hv=>?_,λv hv=>?_⟩
 .by_cases q:x=v
  .exact⟨i,by rw[xc,zY q],by unfold us;rw[zY q]⟩
  .have:v∈N:=by
    rcases zU.mp hv with z | z
    .exact z
    .simp at z;exact absurd z.symm q
   obtain⟨j,a,b⟩:=e.nm v this;exact⟨j,by rw[xc,kO q,a],by unfold us;rw[kO q,b]⟩
 .have q:x≠v:=λz=>ho (z▸hv)
  obtain⟨c,a,b,d⟩:=e.ow v hv;exact⟨c,by rw[xc,kO q,a],by unfold us;rw[kO q,b],d⟩
 .have q:x≠v:=λz=>hh (z▸hv)
  obtain⟨d',env',f,a,b,z⟩:=e.hd v hv;exact⟨d',env',f,by rw[xc,kO q,a],by unfold us;rw[kO q,b],z⟩
def EnvR.own{rs:List Rule}{N O H:List Str}{env:Ev}{ρ:Sv}{h m:Nat}{x:Str}(e:EnvR rs N O H env ρ h m)(ho:x∉N)(hh:x∉H)(hs:dt 1 (.str x)=true):EnvR rs N (O++[x]) H ((x,.cell m)::env) (us ρ x (.cell m)) h (m+1):=by
 refine⟨λv hv=>?_,λv hv=>?_,λv hv=>?_⟩
 .have q:x≠v:=λz=>ho (z▸hv)
  obtain⟨c,a,b⟩:=e.nm v hv;exact⟨c,by rw[xc,kO q,a],by unfold us;rw[kO q,b]⟩
 .by_cases q:x=v
  .exact⟨m,by rw[xc,zY q],by unfold us;rw[zY q],by omega,q▸hs⟩
  .have:v∈O:=by
    rcases zU.mp hv with z | z
    .exact z
    .simp at z;exact absurd z.symm q
   obtain⟨j,a,b,c,s⟩:=e.ow v this;exact⟨j,by rw[xc,kO q,a],by unfold us;rw[kO q,b],by omega,s⟩
 .have q:x≠v:=λz=>hh (z▸hv)
  obtain⟨d',env',f,a,b,z⟩:=e.hd v hv;exact⟨d',env',f,by rw[xc,kO q,a],by unfold us;rw[kO q,b],λcs hc=>z cs ∅⟩
section
variable{rs:List Rule}{R:Rn}{B:Nat->Nat->Nat}
theorem Bs.mono{T:Tc}{c:Nat}(h:Bs rs d env cs T c)(hc:c<=c'):Bs rs d env cs T c':=λstk ws K c2 hK=>(h stk ws K c2 hK).mono ∅
def ff{d:D}{cs:List Int}{T:Tc}{f:Int×List Int->Tc}{c:Nat}(hf:d.first=[a])(ha:Bs rs a env cs T c)
  (h:∀stk ws K c' x cs',cs.length<=cs'.length->(∀v cs'',cs'.length<=cs''.length->Rep rs stk (v::ws) cs'' (K (v,cs'')) c')->Rep rs ((true,d,env)::stk) (x::ws) cs' ((f (x,cs')).bind K) (c2+c')):Bs rs d env cs (T.bind f) (c+c2+1):=by
 intro stk ws K c' hK;rw[Tr.bind_assoc];have p:=S1.push (rs:=rs) (d:=d) (env:=env) (ws:=ws) (cs:=cs) (by rw[hf];simp) (by rw[hf];simp);rw[hf] at p;refine(Rep.gg p (ha ((true,d,env)::stk) ws _ (c2+c') λx cs' hc=>h stk ws K c' x cs' hc λv cs'' hc'=>hK v cs'' ∅)).mono ∅
def mx{d a b:D}{env:Ev}{cs:List Int}{T:Tc}{U:List Int->Tc}{f:Int->Int->Int}{c c2:Nat}(hf:d.first=[a,b])(ha:Bs rs a env cs T c)(hb:∀cs',cs.length<=cs'.length->Bs rs b env cs' (U cs') c2)
  (h:∀x y ws cs,S1 rs true d env (y::x::ws) cs (.gg [] (f x y::ws) cs)):Bs rs d env cs (T.bind λp=>(U p.2).bind λq=>.ret (f p.1 q.1,q.2)) (c+c2+2):=by
 intro stk ws K c' hK;rw[Tr.bind_assoc];have p:=S1.push (rs:=rs) (d:=d) (env:=env) (ws:=ws) (cs:=cs) (by rw[hf];simp) (by rw[hf];simp);rw[hf] at p;refine(Rep.gg p (ha ((false,b,env)::(true,d,env)::stk) ws _ (c2+(c'+1)) λx cs' hc=>?_)).mono (c:=c+(c2+(c'+1))+1) ∅;simp only[Tr.bind_assoc];refine hb cs' hc ((true,d,env)::stk) (x::ws) _ (c'+1) λy cs'' hc'=>?_
 exact .gg (h x y ws cs'') (hK _ cs'' ∅)
theorem Jq{b:D}{env:Ev}{f:List Int->Tc}{c m:Nat}(hb:∀cs,m<=cs.length->Bs rs b env cs (f cs) c):∀(n:Nat) (cs:List Int),m<=cs.length->Bs rs (uE b n) env cs (rp f n cs) (n*(c+2)+1)
 | 0,cs,_=>λstk ws K c' hK=>(Rep.gg .number (hK 0 cs (zj _))).mono ∅
 | n+1,cs,hm=>by
  have:=mx (rs:=rs) (d:=.thenn b (uE b n)) (a:=b) (b:=uE b n) (env:=env) (cs:=cs) (T:=f cs) (U:=rp f n) (f:=λ_ y=>y) rfl (hb cs hm) (λcs' hc=>Jq hb n cs' ∅) (λx y ws cs=>.thenn);have e:(rp f (n+1) cs)=((f cs).bind λp=>(rp f n p.2).bind λq=>.ret (q.1,q.2)):=by
   have:∀U:Tc,(U.bind λq=>Tr.ret (q.1,q.2))=U:=λU=>Tr.bind_ret U
   simp only[this];rfl
  rw[e];refine this.mono ?_;rw[vY];omega
theorem sP:∀(l:List (Str×Int)) {env:Ev} {ρ:Sv},EnvR rs N [] [] env ρ h m->EnvR rs (N++l.map (·.1)) [] [] (l.foldl (λe p=>(p.1,.int p.2)::e) env) (l.foldl (λe p=>us e p.1 (.int p.2)) ρ) h m
 | [],env,ρ,e=>by simpa using e
 | (x,i)::r,env,ρ,e=>by
  have:=sP r (e.lett (x:=x) (i:=i) (by simp) (by simp));rw[kj] at this;exact this
theorem tY{env0:Ev}:∀(l:List (Str×D×(List Int->Tc))) (H:List Str) {env:Ev} {ρ:Sv},(∀v∈N,v∉l.map (·.1))->(∀p∈l,∀cs,m<=cs.length->Bs rs p.2.1 env0 cs (p.2.2 cs) h)->EnvR rs N [] H env ρ h m->
  EnvR rs N [] (H++l.map (·.1)) (l.foldl (λe p=>(p.1,.hd p.2.1 env0)::e) env) (l.foldl (λe p=>us e p.1 (.fn p.2.2)) ρ) h m
 | [],H,env,ρ,_,_,e=>by simpa using e
 | (x,d,f)::r,H,env,ρ,hN,hB,e=>by
  have hx:∀v∈N,v≠x:=λv hv z=>hN v hv (by simp[z])
  have e2:EnvR rs N [] (H++[x]) ((x,.hd d env0)::env) (us ρ x (.fn f)) h m:=by
   refine⟨λv hv=>?_,λv hv=>by simp at hv,λv hv=>?_⟩
   .obtain⟨i,a,b⟩:=e.nm v hv
    have q:¬x=v:=λz=>hx v hv z.symm
    exact⟨i,by rw[xc,kO q,a],by unfold us;rw[kO q,b]⟩
   .by_cases q:x=v
    .exact⟨d,env0,f,by rw[xc,zY q],by unfold us;rw[zY q],λcs hc=>hB (x,d,f) zX cs hc⟩
    .have:v∈H:=by
      rcases zU.mp hv with z | z
      .exact z
      .simp at z;exact absurd z.symm q
     obtain⟨d',env',f',a,b,z⟩:=e.hd v this;exact⟨d',env',f',by rw[xc,kO q,a],by unfold us;rw[kO q,b],z⟩
  have:=tY r (H++[x]) (λv hv z=>hN v hv (by simp only[zx];exact zJ _ z)) (λp hp=>hB p (zJ _ hp)) e2;rw[kj] at this;exact this
theorem iu{α β:Type}:∀{a:List α} {b:List β},a.length=b.length->(a.zip b).map (·.1)=a
 | [],[],_=>rfl
 | x::a,y::b,h=>by simp only[jq,zx];rw[iu (by simpa using h)]
theorem oB{σ:Type}(f:σ->Str×D->σ)(g:D->List Int->Tc):∀(hs:List Str) (bs:List D) (s:σ),(hs.zip bs).foldl f s=(hs.zip (bs.map λb=>(b,g b))).foldl (λe p=>f e (p.1,p.2.1)) s
 | [],_,_=>rfl
 | _::_,[],_=>rfl
 | x::hs,b::bs,s=>by simp only[jq,zx,jX];exact oB f g hs bs _
theorem nR{σ:Type}(f:σ->Str×(List Int->Tc)->σ)(g:D->List Int->Tc):∀(hs:List Str) (bs:List D) (s:σ),(hs.zip (bs.map g)).foldl f s=(hs.zip (bs.map λb=>(b,g b))).foldl (λe p=>f e (p.1,p.2.2)) s
 | [],_,_=>rfl
 | _::_,[],_=>rfl
 | x::hs,b::bs,s=>by simp only[jq,zx,jX];exact nR f g hs bs _
theorem sO:∀(bs:List D) (ρ:Sv),xl R bs ρ=bs.map λb cs=>den R b ρ cs
 | [],_=>by simp[xl]
 | b::bs,ρ=>by simp only[xl,zx];rw[sO bs ρ]
def WE{r:Rule}{xs:List Int}{bs:List D}(hx:xs.length=r.ns.length)(hb:bs.length=r.hs.length)(hd:∀v∈r.ns,v∉r.hs)(hB:∀b∈bs,∀cs,m<=cs.length->Bs rs b env cs (den R b ρ cs) h):EnvR rs r.ns [] r.hs (cE r xs bs env) (cρ r xs (xl R bs ρ)) h m:=by
 unfold cE cρ;rw[sO,oB (λe p=>(p.1,Vl.hd p.2 env)::e) (λb cs=>den R b ρ cs),nR (λe p=>us e p.1 (.fn p.2)) (λb cs=>den R b ρ cs)];have e0:EnvR rs [] [] [] [] ρ0 h m:=⟨λv hv=>by simp at hv,λv hv=>by simp at hv,λv hv=>by simp at hv⟩;have e1:=sP (r.ns.zip xs) e0;rw[iu hx.symm,kI] at e1;have zl:(r.hs.zip (bs.map λb=>(b,λcs=>den R b ρ cs))).map (·.1)=r.hs:=iu (by simp[hb])
 have e2:=tY (env0:=env) (r.hs.zip (bs.map λb=>(b,λcs=>den R b ρ cs))) [] (by rw[zl];exact hd) (λp hp cs hc=>by
  have:=(j9 (a:=p.1) (b:=p.2) hp).2;obtain⟨b,hb,e⟩:=jd.mp this;rw[<-e]
  exact hB b hb cs hc) e1
 rw[zl,kI] at e2;exact e2
noncomputable def BodyOk(rs:List Rule)(R:Rn)(B:Nat->Nat->Nat)(k:Nat):Prop:=∀i,i<k->∀r,rs[i]?=some r->∀(env:Ev) (fs:List (List Int->Tc)) (xs:List Int) (bs:List D) (h m:Nat) (cs:List Int),EnvR rs r.ns [] r.hs (cE r xs bs env) (cρ r xs fs) h m->m<=cs.length->Bs rs r.body (cE r xs bs env) cs (R i xs fs cs) (B i h)
mutual
theorem uh{k:Nat}(HB:BodyOk rs R B k)(hrs:RsOk rs):∀(d:D) {N O H:List Str} {env:Ev} {ρ:Sv} {h m:Nat} {cs:List Int},Wf rs k d N O H->EnvR rs N O H env ρ h m->m<=cs.length->Bs rs d env cs (den R d ρ cs) (cost B h d)
 | .number i,N,O,H,env,ρ,h,m,cs,w,E,hm=>λstk ws K c' hK=>by
  simp only[den,cost,Tr.bind];exact(Rep.gg .number (hK i cs (zj _))).mono ∅
 | .name v,N,O,H,env,ρ,h,m,cs,w,E,hm=>λstk ws K c' hK=>by
  simp only[Wf] at w;obtain⟨i,a,b⟩:=E.nm v w;simp only[den,cost,Tr.bind,b,SV.i];exact(Rep.gg (.name a) (hK i cs (zj _))).mono ∅
 | .read v,N,O,H,env,ρ,h,m,cs,w,E,hm=>λstk ws K c' hK=>by
  simp only[Wf] at w;by_cases q:v∈SH
  .simp only[den,cost,q,kE,Tr.bind]
   exact(Rep.tch (.readS q) λx=>hK x cs (zj _)).mono ∅
  .obtain⟨c,a,b,lt,ds⟩:=E.ow v (w.resolve_left q)
   have lt':c<cs.length:=by omega
   simp only[den,cost,q,jj,Tr.bind,b,SV.c];refine(Rep.gg (.readO q ds a (zB lt')) (T:=K (cs.getD c 0,cs)) (c:=c') ?_).mono ∅;rw[j5,zB lt'];exact hK _ cs (zj _)
 | .doo v,N,O,H,env,ρ,h,m,cs,w,E,hm=>λstk ws K c' hK=>by
  simp only[Wf] at w;obtain⟨d',env',f,a,b,z⟩:=E.hd v w;simp only[den,cost,b,SV.f];exact(Rep.gg (.doo a) (z cs hm stk ws K c' hK)).mono ∅
 | .ask,N,O,H,env,ρ,h,m,cs,w,E,hm=>λstk ws K c' hK=>by
  simp only[den,cost,Tr.bind];exact(Rep.tch .ask λx=>hK x cs (zj _)).mono ∅
 | .write v a,N,O,H,env,ρ,h,m,cs,w,E,hm=>by
  simp only[Wf] at w;simp only[den,cost];refine(ff (c2:=1) rfl (uh HB hrs a w.2 E hm) λstk ws K c' x cs' hc hK=>?_).mono ∅;by_cases q:v∈SH
  .simp only[q,kE,Tr.bind]
   exact(Rep.tch (.writeS q) λy=>hK y cs' (zj _)).mono ∅
  .obtain⟨c,a,b,lt,ds⟩:=E.ow v (w.1.resolve_left q)
   simp only[q,jj,Tr.bind,b,SV.c];exact(Rep.gg (.writeO q ds a ∅) (hK x _ (by rw[kZ];exact zj _))).mono ∅
 | .say a,N,O,H,env,ρ,h,m,cs,w,E,hm=>by
  simp only[Wf] at w;simp only[den,cost];refine(ff (c2:=1) rfl (uh HB hrs a w E hm) λstk ws K c' x cs' hc hK=>?_).mono ∅;simp only[Tr.bind];exact(Rep.tch .say λy=>hK y cs' (zj _)).mono ∅
 | .lett v a b,N,O,H,env,ρ,h,m,cs,w,E,hm=>by
  simp only[Wf] at w;simp only[den,cost];refine(ff (c2:=cost B h b+1) rfl (uh HB hrs a w.2.1 E hm) λstk ws K c' x cs' hc hK=>?_).mono ∅;exact(Rep.gg .lett (uh HB hrs b w.2.2 (E.lett (i:=x) w.1.1 w.1.2.1) (cs:=cs') ∅ stk ws K c' hK)).mono ∅
 | .own v a b,N,O,H,env,ρ,h,m,cs,w,E,hm=>by
  simp only[Wf] at w;simp only[den,cost];refine(ff (c2:=cost B h b+1) rfl (uh HB hrs a w.2.1 E hm) λstk ws K c' x cs' hc hK=>?_).mono ∅;exact(Rep.gg .own (uh HB hrs b w.2.2 ((E.more (m':=cs'.length) ∅).own w.1.1 w.1.2.1 w.1.2.2) (cs:=cs'++[x]) (by simp) stk ws K c' λy cs'' hc'=>hK y cs'' (by simp at hc';omega))).mono ∅
 | .add a b,N,O,H,env,ρ,h,m,cs,w,E,hm=>by
  simp only[Wf] at w;simp only[den,cost];exact(mx (U:=λcs=>den R b ρ cs) (f:=λx y=>(x+y)%1009) rfl (uh HB hrs a w.1 E hm) (λcs' hc=>uh HB hrs b w.2 E ∅) λx y ws cs=>.add).mono ∅
 | .less a b,N,O,H,env,ρ,h,m,cs,w,E,hm=>by
  simp only[Wf] at w;simp only[den,cost];exact(mx (U:=λcs=>den R b ρ cs) (f:=λx y=>if x<y then 1 else 0) rfl (uh HB hrs a w.1 E hm) (λcs' hc=>uh HB hrs b w.2 E ∅) λx y ws cs=>.less).mono ∅
 | .thenn a b,N,O,H,env,ρ,h,m,cs,w,E,hm=>by
  simp only[Wf] at w;simp only[den,cost];have:=(mx (U:=λcs=>den R b ρ cs) (f:=λx y=>y) rfl (uh HB hrs a w.1 E hm) (λcs' hc=>uh HB hrs b w.2 E ∅) λx y ws cs=>.thenn);have e:∀U:Tc,(U.bind λq=>Tr.ret (q.1,q.2))=U:=λU=>Tr.bind_ret U
  simp only[e] at this;exact this.mono ∅
 | .loop a b,N,O,H,env,ρ,h,m,cs,w,E,hm=>by
  simp only[Wf] at w;simp only[den,cost];refine(ff (c2:=3*cost B h b+8) rfl (uh HB hrs a w.1 E hm) λstk ws K c' x cs' hc hK=>?_).mono ∅;have lt:(x%4).toNat<=3:=by omega
  have u:=Jq (rs:=rs) (b:=b) (env:=env) (f:=λcs=>den R b ρ cs) (m:=m) (λcs hm=>uh HB hrs b w.2 E hm) (x%4).toNat cs' ∅;refine(Rep.gg .loop (u stk ws K c' hK)).mono ?_;have:=wC (cost B h b+2) lt;omega
 | .iff a b c,N,O,H,env,ρ,h,m,cs,w,E,hm=>by
  simp only[Wf] at w;simp only[den,cost];refine(ff (c2:=max (cost B h b) (cost B h c)+1) rfl (uh HB hrs a w.1 E hm) λstk ws K c' x cs' hc hK=>?_).mono ∅;by_cases q:x=0
  .have s:=S1.iff (rs:=rs) (a:=a) (b:=b) (c:=c) (x:=x) (env:=env) (ws:=ws) (cs:=cs')
   simp only[q,kE] at s ⊢;exact(Rep.gg s (uh HB hrs c w.2.2 E (cs:=cs') ∅ stk ws K c' hK)).mono ∅
  .have s:=S1.iff (rs:=rs) (a:=a) (b:=b) (c:=c) (x:=x) (env:=env) (ws:=ws) (cs:=cs')
   simp only[q,jj] at s ⊢;exact(Rep.gg s (uh HB hrs b w.2.1 E (cs:=cs') ∅ stk ws K c' hK)).mono ∅
 | .call i as bs,N,O,H,env,ρ,h,m,cs,w,E,hm=>by
  simp only[Wf] at w;obtain⟨hi,⟨r,hr,la,lb⟩,wa,wb⟩:=w;intro stk ws K c' hK;simp only[den,cost];rw[Tr.bind_assoc];have fin:∀pd,(pd=true\/as=[])->∀xs cs',xs.length=as.length->cs.length<=cs'.length->Rep rs ((pd,.call i as bs,env)::stk) (xs.reverse++ws) cs' ((R i xs (xl R bs ρ) cs').bind K) (B i (ua B h bs)+c'+1):=by
   intro pd hp xs cs' hx hc;have e:=WE (rs:=rs) (R:=R) (r:=r) (xs:=xs) (bs:=bs) (env:=env) (ρ:=ρ) (h:=ua B h bs) (m:=m) ∅ lb (hrs.d i r hr) (Bq HB hrs bs wb E);exact .gg (.call hp hr hx la lb) (HB i hi r hr env (xl R bs ρ) xs bs (ua B h bs) m cs' e ∅ stk ws K c' λv cs'' h2=>hK v cs'' ∅)
  cases has:as with
  | nil=>
   subst has;simp only[uL,Tr.bind,uH];exact(fin false (.inr rfl) [] cs rfl (zj _)).mono ∅
  | cons a1 as1=>
   have p:=S1.push (rs:=rs) (d:=.call i as bs) (env:=env) (ws:=ws) (cs:=cs) (by simp only[D.first];rw[has];simp) (by simp only[D.first];have:=(hrs.l i r hr).1;omega);rw[<-has];refine(Rep.gg p ?_).mono (c:=uH B h as+(B i (ua B h bs)+c'+1)+1) ∅;simp only[D.first];rw[kj];have:=BJ HB hrs as wa E hm ((true,.call i as bs,env)::stk) ws (λp=>(R i p.1 (xl R bs ρ) p.2).bind K) (B i (ua B h bs)+c'+1) λxs cs' hx hc=>fin true (.inl rfl) xs cs' hx hc
   exact this
theorem BJ(HB:BodyOk rs R B k)(hrs:RsOk rs):∀(l:List D) {N O H:List Str} {env:Ev} {ρ:Sv} {h m:Nat} {cs:List Int},xw rs k l N O H->EnvR rs N O H env ρ h m->m<=cs.length->∀(stk:List vk) (ws:List Int) (K:List Int×List Int->Tr Int) (c':Nat),(∀xs cs',xs.length=l.length->cs.length<=cs'.length->Rep rs stk (xs.reverse++ws) cs' (K (xs,cs')) c')->Rep rs (l.map (λa=>(false,a,env))++stk) ws cs ((uL R l ρ cs).bind K) (uH B h l+c')
 | [],N,O,H,env,ρ,h,m,cs,w,E,hm=>λstk ws K c' hK=>by
  simp only[uL,Tr.bind,uH,jh,kI];exact(hK [] cs rfl (zj _)).mono ∅
 | d::r,N,O,H,env,ρ,h,m,cs,w,E,hm=>λstk ws K c' hK=>by
  simp only[xw] at w;simp only[uL,uH,zx,jk];rw[Tr.bind_assoc];refine(uh HB hrs d w.1 E hm (r.map (λa=>(false,a,env))++stk) ws _ (uH B h r+c') λx cs' hc=>?_).mono ∅;simp only[Tr.bind_assoc];refine BJ HB hrs r w.2 E ∅ stk (x::ws) _ c' λxs cs'' hx hc'=>?_
  have:=hK (x::xs) cs'' (by simp[hx]) ∅;rw[qW,kj] at this;exact this
theorem Bq(HB:BodyOk rs R B k)(hrs:RsOk rs):∀(l:List D) {N O H:List Str} {env:Ev} {ρ:Sv} {h m:Nat},xw rs k l N O H->EnvR rs N O H env ρ h m->∀b∈l,∀cs,m<=cs.length->Bs rs b env cs (den R b ρ cs) (ua B h l)
 | [],N,O,H,env,ρ,h,m,w,E=>λb hb=>by simp at hb
 | d::r,N,O,H,env,ρ,h,m,w,E=>λb hb cs hm=>by
  simp only[xw] at w;simp only[ua];rcases zb.mp hb with z | z
  .rw[z]
   exact(uh HB hrs d w.1 E hm).mono ∅
  .exact(Bq HB hrs r w.2 E b z cs hm).mono ∅
end
theorem bodies(hrs:RsOk rs):∀(k:Nat) {K:Nat},k<=K->BodyOk rs (ck rs K) (y8 rs K) k
 | 0,K,_=>λi hi=>by omega
 | k+1,K,hK=>by
  intro i hi r hr env fs xs bs h m cs E hm;rw[ny hr (K:=K) ∅,gD hr (K:=K) ∅];exact uh (bodies hrs i (K:=i) (zj _)) hrs r.body (hrs.w i r hr) E hm
termination_by k=>k
end
mutual
noncomputable def zk:D->W
 | .number i=>th "number" [.int i]
 | .name v=>th "name" [.str v]
 | .read v=>th "read" [.str v]
 | .doo v=>th "do" [.str v]
 | .ask=>th "ask" []
 | .write v a=>th "write" [.str v,zk a]
 | .say a=>th "say" [zk a]
 | .lett v a b=>th "let" [.str v,zk a,zk b]
 | .own v a b=>th "own" [.str v,zk a,zk b]
 | .add a b=>th "add" [zk a,zk b]
 | .less a b=>th "less" [zk a,zk b]
 | .thenn a b=>th "then" [zk a,zk b]
 | .loop a b=>th "loop" [zk a,zk b]
 | .iff a b c=>th "if" [zk a,zk b,zk c]
 | .call i as bs=>th "call" [.int i,.tup (kg as),.tup (kg bs)]
noncomputable def kg:List D->List W
 | []=>[]
 | d::r=>zk d::kg r
end
theorem xM:∀l:List D,kg l=l.map zk
 | []=>by simp[kg]
 | d::r=>by simp only[kg,zx];rw[xM r]
noncomputable def cw(r:Rule):W:=.tup [.tup (zI r.ns),.tup (zI r.hs),zk r.body]
noncomputable def ki(rs:List Rule):List W:=rs.map cw
mutual
theorem kP(m:Nat):∀d:D,low m (zk d)=true
 | .number i=>by simp[zk,low,lows]
 | .name v=>by simp[zk,low,lows]
 | .read v=>by simp[zk,low,lows]
 | .doo v=>by simp[zk,low,lows]
 | .ask=>by simp[zk,low,lows]
 | .write v a=>by simp[zk,low,lows,kP m a]
 | .say a=>by simp[zk,low,lows,kP m a]
 | .lett v a b=>by simp[zk,low,lows,kP m a,kP m b]
 | .own v a b=>by simp[zk,low,lows,kP m a,kP m b]
 | .add a b=>by simp[zk,low,lows,kP m a,kP m b]
 | .less a b=>by simp[zk,low,lows,kP m a,kP m b]
 | .thenn a b=>by simp[zk,low,lows,kP m a,kP m b]
 | .loop a b=>by simp[zk,low,lows,kP m a,kP m b]
 | .iff a b c=>by simp[zk,low,lows,kP m a,kP m b,kP m c]
 | .call i as bs=>by simp[zk,low,lows,c9 m as,c9 m bs]
theorem c9(m:Nat):∀l:List D,lows m (kg l)=true
 | []=>by simp[kg,lows]
 | d::r=>by simp[kg,lows,kP m d,c9 m r]
end
theorem cq:∀{l:List W},lows m l=true->∀w∈l,low m w=true
 | [],_,w,hw=>by simp at hw
 | x::r,h,w,hw=>by
  unfold lows at h;rw[zu] at h;rcases zb.mp hw with rfl | z
  .exact h.1
  .exact cq h.2 w z
def ol{r:List W}{p:Int×Int}{h:MH}(hc:(x==("call":Str))=false)(hf:fm x=some p)(hl:lows h.length r=true):(step F).cA [th x r] h=some (.tup (r.drop (p.2.toNat-1)),h):=by
 obtain⟨p1,p2⟩:=Ba hf;obtain⟨k,hk⟩:=qj (show 0<=p.2 by omega);have e:r.drop (p.2.toNat-1)=(W.str x::r).drop k:=by
  rw[hk];cases k with
  | zero=>omega
  | succ k=>simp
 rw[e];refine xD (h':=h) ?_ ?_ (zP _)
 .have ek:zw (.tup [.int p.1,.int p.2]) (.int 1) h=some (.int p.2,h):=xt
  simp![du,xZ,yk,hc,ba,bp,cv,FL,hf,ek,gS];rw[hk];exact lm
 .rw[<-e]
  unfold low;exact y9 λw hw=>cq hl w (qG hw)
noncomputable def oS:List Str:=["if","loop","let","own"]
def BF(d:dt 1 (.str x)=true):inB h (.str x) (.tup [.str "if",.str "loop",.str "let",.str "own"])=some (xU oS (.str x)):=i5 (l:=oS) d ∅ ⋯
def eP{r:List W}{p:Int×Int}{h:MH}(hc:(x==("call":Str))=false)(hf:fm x=some p)(hd:dt 1 (.str x)=true)(hi:xU oS (.str x)=false)(hl:lows h.length r=true):(step (step F)).au [th x r] h=some (.tup (r.drop (p.2.toNat-1)),h):=by
 have c4:(4:Nat)<=cap:=by decide
 have e:=ol (F:=F) hc hf hl;have q:=BF (h:=h) hd;rw[hi] at q;have lw:low h.length (.tup (r.drop (p.2.toNat-1)))=true:=by
  unfold low;exact y9 λw hw=>cq hl w (qG hw)
 generalize step F=G at e;refine gc_eq' ?_ lw;simp![aB,xZ,yk,hc,zv,c4,q,e]
where
 gc_eq' {f:List W->M W} {ws:List W} {h:MH} {w:W} (e:f ws h=some (w,h)) (p:low h.length w=true):gc f ws h=some (w,h):=xD e p (zP _)
def mP{l:List W}{p:Int×Int}{h:MH}(hc:(x==("call":Str))=false)(hf:fm x=some p)(hd:dt 1 (.str x)=true)(hi:xU oS (.str x)=true)(hl:lows h.length l=true)(er:l.drop (p.2.toNat-1)=a::r):(step (step F)).au [th x l] h=some (.tup [a],h):=by
 have c4:(4:Nat)<=cap:=by decide
 have e:=ol (F:=F) hc hf hl;rw[er] at e;have q:=BF (h:=h) hd;rw[hi] at q;have lw:low h.length (.tup [a])=true:=by
  unfold low;refine y9 λw hw=>cq hl w ?_
  have:a∈l.drop (p.2.toNat-1):=by rw[er];exact zX
  simp at hw;subst hw;exact qG this
 have ct:cutW (a::r) none (some 1)=[a]:=(sd (k:=1) (l:=a::r) (by simp)).trans rfl;generalize step F=G at e;refine xD (h':=h) ?_ lw (zP _);simp![aB,xZ,yk,hc,zv,c4,q,e,ba,bp,gS,ct]
theorem f_first(F:Fs):(step F).au=gc (kd 1 0 (aB F)):=rfl
def Zj:∀d:D,(step (step F)).au [zk d] h=some (.tup (kg d.first),h)
 | .number i | .name i | .read i | .doo i=>by simp only[zk,D.first,kg];exact(eP (p:=(2,2)) ⋯ ⋯ ⋯ ⋯ (by simp[low,lows])).trans rfl
 | .ask=>by simp only[zk,D.first,kg];exact(eP (p:=(1,1)) ⋯ ⋯ ⋯ ⋯ (by simp[low,lows])).trans rfl
 | .write v a=>by simp only[zk,D.first,kg];exact(eP (p:=(3,2)) ⋯ ⋯ ⋯ ⋯ (by simp[low,lows,kP])).trans rfl
 | .say a=>by simp only[zk,D.first,kg];exact(eP (p:=(2,1)) ⋯ ⋯ ⋯ ⋯ (by simp[low,lows,kP])).trans rfl
 | .lett v a b | .own v a b=>by simp only[zk,D.first,kg];exact mP (p:=(4,2)) ⋯ ⋯ ⋯ ⋯ (by simp[low,lows,kP]) rfl
 | .add a b | .less a b | .thenn a b=>by simp only[zk,D.first,kg];exact(eP (p:=(3,1)) ⋯ ⋯ ⋯ ⋯ (by simp[low,lows,kP])).trans rfl
 | .loop a b=>by simp only[zk,D.first,kg];exact mP (p:=(3,1)) ⋯ ⋯ ⋯ ⋯ (by simp[low,lows,kP]) rfl
 | .iff a b c=>by simp only[zk,D.first,kg];exact mP (p:=(4,1)) ⋯ ⋯ ⋯ ⋯ (by simp[low,lows,kP]) rfl
 | .call i as bs=>by
  simp only[zk,D.first];have lw:low h.length (.tup (kg as))=true:=by unfold low;exact c9 _ as
  rw[f_first];refine xD (h':=h) ?_ lw (zP _);simp![aB,xZ,g7,yk]
def yb{f:List W->M W}{h h':MH}{i:Nat}(e:f ws h=some (w,h'))(a:h[i]?=some o)(b:h'[i]?≠some o):gc f ws h=some (w,h'):=by
 have n:¬h<+:h':=λp=>by
  obtain⟨t,rfl⟩:=p;exact b (by rw[zy (zT.mp a).1];exact a)
 unfold gc;rw[e];simp only[n,false_and,jj]
def fw{f:List W->M W}(e:f ws h=some (.non,h')):gc f ws h=some (.non,h'):=by
 unfold gc;rw[e];simp only[ne_eq,not_true_eq_false,and_false,jj]
def uX{f:List W->M W}{h:MH}(e:f ws h=some (w,h))(p:low h.length w=true):gc f ws h=some (w,h):=xD e p (zP _)
noncomputable abbrev yA(rl:List W)(ns nw:Nat)(t:W):List (Str×W):=[("rules",.tup rl),("steps",.ref ns),("worths",.ref nw),("touch_ahead",t)]
structure Dg(H:MH)(nd ns nw:Nat)(rl:List W)(st:List W)(wo:List W)(t:W):Prop where
 d:H[nd]?=some (.ins 0 (yA rl ns nw t))
 s:H[ns]?=some (.lst st)
 w:H[nw]?=some (.lst wo)
 n1:nd≠ns
 n2:nd≠nw
 n3:ns≠nw
def zS{α:Type}{l:List α}{i:Nat}{x:α}(h:l[i]?=some x):i<l.length:=(zT.mp h).1
def Dg.steps{H:MH}{wo:List W}(g:Dg H nd ns nw rl st wo t)(st2:List W):Dg (H.set ns (.lst st2)) nd ns nw rl st2 wo t:=
 ⟨by rw[zF (kY g.n1),g.d],zH (zS g.s),by rw[zF g.n3,g.w],g.n1,g.n2,g.n3⟩
def Dg.worths{H:MH}{wo:List W}(g:Dg H nd ns nw rl st wo t)(wo2:List W):Dg (H.set nw (.lst wo2)) nd ns nw rl st wo2 t:=
 ⟨by rw[zF (kY g.n2),g.d],by rw[zF (kY g.n3),g.s],zH (zS g.w),g.n1,g.n2,g.n3⟩
def Dg.ahead{H:MH}{wo:List W}(g:Dg H nd ns nw rl st wo t)(t2:W):Dg (H.set nd (.ins 0 (yA rl ns nw t2))) nd ns nw rl st wo t2:=
 ⟨zH (zS g.d),by rw[zF g.n1,g.s],by rw[zF g.n2,g.w],g.n1,g.n2,g.n3⟩
def f_steps:vc kx 0 "steps" = true:=by decide +kernel
def f_worths:vc kx 0 "worths" = true:=by decide +kernel
def f_rules:vc kx 0 "rules" = true:=by decide +kernel
def f_ahead:vc kx 0 "touch_ahead" = true:=by decide +kernel
def Kj(rl:List W)(ns nw:Nat)(t:W):(yA rl ns nw t).lookup ("steps":Str)=some (.ref ns):=by
 have a:(("steps":Str)=="rules")=false:=by decide +kernel
 have b:(("steps":Str)=="steps")=true:=by decide +kernel
 simp only[kJ,a,b]
def tI(rl:List W)(ns nw:Nat)(t:W):(yA rl ns nw t).lookup ("worths":Str)=some (.ref nw):=by
 have a:(("worths":Str)=="rules")=false:=by decide +kernel
 have b:(("worths":Str)=="steps")=false:=by decide +kernel
 have c:(("worths":Str)=="worths")=true:=by decide +kernel
 simp only[kJ,a,b,c]
def KN(rl:List W)(ns nw:Nat)(t:W):(yA rl ns nw t).lookup ("rules":Str)=some (.tup rl):=by
 have a:(("rules":Str)=="rules")=true:=by decide +kernel
 simp only[kJ,a]
def KG(rl:List W)(ns nw:Nat)(t:W):(yA rl ns nw t).lookup ("touch_ahead":Str)=some t:=by
 have a:(("touch_ahead":Str)=="rules")=false:=by decide +kernel
 have b:(("touch_ahead":Str)=="steps")=false:=by decide +kernel
 have c:(("touch_ahead":Str)=="worths")=false:=by decide +kernel
 have d:(("touch_ahead":Str)=="touch_ahead")=true:=by decide +kernel
 simp only[kJ,a,b,c,d]
section
variable{H:MH}{nd ns nw:Nat}{rl st wo:List W}{t:W}
def Dg.fS(g:Dg H nd ns nw rl st wo t):xo kx "steps" (.ref nd) H=some (.ref ns,H):=by simp only[xo,g.d,f_steps,kE,Kj]
def Dg.fW(g:Dg H nd ns nw rl st wo t):xo kx "worths" (.ref nd) H=some (.ref nw,H):=by simp only[xo,g.d,f_worths,kE,tI]
def Dg.fR(g:Dg H nd ns nw rl st wo t):xo kx "rules" (.ref nd) H=some (.tup rl,H):=by simp only[xo,g.d,f_rules,kE,KN]
def Dg.fA(g:Dg H nd ns nw rl st wo t):xo kx "touch_ahead" (.ref nd) H=some (t,H):=by simp only[xo,g.d,f_ahead,kE,KG]
def mH{α:Type}(l:List α)(x:α):l++[x]≠l:=λe=>by have:=jR List.length e;simp at this
def Ug(g:Dg H nd ns nw rl st wo t)(hs:st.length<cap):(step F).bV [.ref nd,d,k] H=some (.non,H.set ns (.lst (st++[.tup [.bl false,d,k]]))):=by
 have c3:(3:Nat)<=cap:=by decide
 refine yb (i:=ns) ?_ g.s (by rw[zH (zS g.s)];intro e;injection e with e;injection e with e;exact mH _ _ e);have e1:=g.fS;have e2:=g.s;simp![b7,kG,e1,kD,getL,e2,zv,c3,qf,hs]
def Xd(g:Dg H nd ns nw rl st wo t)(hs:wo.length<cap):(step F).bU [.ref nd,v] H=some (.non,H.set nw (.lst (wo++[v]))):=by
 refine yb (i:=nw) ?_ g.w (by rw[zH (zS g.w)];intro e;injection e with e;injection e with e;exact mH _ _ e);have e1:=g.fW;have e2:=g.w;simp![cu,kG,e1,kD,getL,e2,qf,hs]
def JX(rl:List W)(ns nw:Nat)(t v:W):xV "touch_ahead" v (yA rl ns nw t)=yA rl ns nw v:=by
 have a:¬(("rules":Str)="touch_ahead"):=by decide +kernel
 have b:¬(("steps":Str)="touch_ahead"):=by decide +kernel
 have c:¬(("worths":Str)="touch_ahead"):=by decide +kernel
 simp only[xV,a,b,c,jj,kE]
def Dg.pA(g:Dg H nd ns nw rl st wo t)(v:W):gx kx "touch_ahead" (.ref nd) v H=some (.non,H.set nd (.ins 0 (yA rl ns nw v))):=by
 simp only[gx,g.d,f_ahead,kE,JX];rw[zY (by simp)]
def Bc(g:Dg H nd ns nw rl st wo t)(hv:v≠t):(step F).aJ [.ref nd,v] H=some (.non,H.set nd (.ins 0 (yA rl ns nw v))):=by
 refine yb (i:=nd) ?_ g.d (by rw[zH (zS g.d)];intro e;injection e with e;injection e with _ e;simp only[jK,wQ] at e;exact hv e.2.2.2.1.2);have e1:=g.pA v;generalize H.set nd (.ins 0 (yA rl ns nw v))=H2 at e1 ⊢;simp![aQ,ub,e1]
def B6(g:Dg H nd ns nw rl st wo t)(e:wo=wo'++[v])(hv:low H.length v=true):(step F).aZ [.ref nd] H=some (v,H):=by
 refine uX ?_ hv;have e1:=g.fW;have e2:=g.w;have e3:L2.atI wo (-1)=some v:=by rw[e];exact Wo _ _
 simp![bB,kG,e1,gU,zw,getL,e2,e3]
end
def set_same{α:Type}{l:List α}{i:Nat}{x:α}(h:l[i]?=some x):l.set i x=l:=by
 apply List.ext_getElem?
 intro j;by_cases e:i=j
 .subst e;rw[zH (zS h),h]
 .rw[zF e]
def l8{f:List W->M W}{h:MH}{i:Nat}(e:f ws h=some (w,h.set i o'))(a:h[i]?=some o)(p:low h.length w=true):gc f ws h=some (w,h.set i o'):=by
 by_cases q:o'=o
 .subst q
  rw[set_same a] at e ⊢;exact uX e p
 .refine yb e a ?_
  rw[zH (zS a)];intro z;injection z with z;exact q z
noncomputable abbrev uB(na np:Nat)(ans:List W)(k:Int):List (Str×W):=[("shelves",.ref na),("answers",.fls ans),("spoken",.ref np),("asks",.int k)]
structure Rg(H:MH)(nr na np:Nat)(sh:List (Key×W))(ans sp:List W)(k:Nat):Prop where
 r:H[nr]?=some (.ins 1 (uB na np ans k))
 a:H[na]?=some (.dic sh)
 p:H[np]?=some (.lst sp)
 n1:nr≠na
 n2:nr≠np
 n3:na≠np
section
variable{H:MH}{nr na np k:Nat}{sh:List (Key×W)}{ans sp:List W}
def Rg.fS(g:Rg H nr na np sh ans sp k):xo kx "shelves" (.ref nr) H=some (.ref na,H):=by
 have f:vc kx 1 "shelves" = true:=by decide +kernel
 have a:(("shelves":Str)=="shelves")=true:=by decide +kernel
 simp only[xo,g.r,f,kE,kJ,a]
def Rg.fA(g:Rg H nr na np sh ans sp k):xo kx "answers" (.ref nr) H=some (.fls ans,H):=by
 have f:vc kx 1 "answers" = true:=by decide +kernel
 have a:(("answers":Str)=="shelves")=false:=by decide +kernel
 have b:(("answers":Str)=="answers")=true:=by decide +kernel
 simp only[xo,g.r,f,kE,kJ,a,b]
def Rg.fP(g:Rg H nr na np sh ans sp k):xo kx "spoken" (.ref nr) H=some (.ref np,H):=by
 have f:vc kx 1 "spoken" = true:=by decide +kernel
 have a:(("spoken":Str)=="shelves")=false:=by decide +kernel
 have b:(("spoken":Str)=="answers")=false:=by decide +kernel
 have c:(("spoken":Str)=="spoken")=true:=by decide +kernel
 simp only[xo,g.r,f,kE,kJ,a,b,c]
def Rg.fK(g:Rg H nr na np sh ans sp k):xo kx "asks" (.ref nr) H=some (.int k,H):=by
 have f:vc kx 1 "asks" = true:=by decide +kernel
 have a:(("asks":Str)=="shelves")=false:=by decide +kernel
 have b:(("asks":Str)=="answers")=false:=by decide +kernel
 have c:(("asks":Str)=="spoken")=false:=by decide +kernel
 have d:(("asks":Str)=="asks")=true:=by decide +kernel
 simp only[xo,g.r,f,kE,kJ,a,b,c,d]
def Rg.pK(g:Rg H nr na np sh ans sp k)(j:Int):gx kx "asks" (.ref nr) (.int j) H=some (.non,H.set nr (.ins 1 (uB na np ans j))):=by
 have f:vc kx 1 "asks" = true:=by decide +kernel
 have a:¬(("shelves":Str)="asks"):=by decide +kernel
 have b:¬(("answers":Str)="asks"):=by decide +kernel
 have c:¬(("spoken":Str)="asks"):=by decide +kernel
 simp only[gx,g.r,f,kE,xV,a,b,c,jj];rw[zY (by simp)]
def Rg.shelves(g:Rg H nr na np sh ans sp k)(sh2:List (Key×W)):Rg (H.set na (.dic sh2)) nr na np sh2 ans sp k:=
 ⟨by rw[zF (kY g.n1),g.r],zH (zS g.a),by rw[zF g.n3,g.p],g.n1,g.n2,g.n3⟩
def Rg.spoken(g:Rg H nr na np sh ans sp k)(sp2:List W):Rg (H.set np (.lst sp2)) nr na np sh ans sp2 k:=
 ⟨by rw[zF (kY g.n2),g.r],by rw[zF (kY g.n3),g.a],zH (zS g.p),g.n1,g.n2,g.n3⟩
def Rg.asks(g:Rg H nr na np sh ans sp k)(j:Nat):Rg (H.set nr (.ins 1 (uB na np ans j))) nr na np sh ans sp j:=
 ⟨zH (zS g.r),by rw[zF g.n1,g.a],by rw[zF g.n2,g.p],g.n1,g.n2,g.n3⟩
def iF:(("write":Str)=="read")=false/\(("say":Str)=="read")=false/\(("say":Str)=="write")=false/\(("ask":Str)=="read")=false/\(("ask":Str)=="write")=false/\(("ask":Str)=="say")=false:=by decide +kernel
def do_read(g:Rg H nr na np sh ans sp k)(hw:wf sh (.inr v)=some w)(hl:low H.length w=true):(step F).aX [.ref nr,.tup [.str "read",.str v]] H=some (.tup [.str "read",.str v,w],H):=by
 have c3:(3:Nat)<=cap:=by decide
 refine uX ?_ (by unfold low lows low lows low lows;rw[hl];unfold lows;rfl);have e1:=g.fS;have e2:=g.a;simp![aY,xZ,xt,yk,zv,c3,kG,e1,yn,xy,e2,keyOf,hw]
def do_write(g:Rg H nr na np sh ans sp k)(hs:sh.length<cap)(hl:low H.length w=true):(step F).aX [.ref nr,.tup [.str "write",.str v,w]] H=some (.tup [.str "write",.str v,w],H.set na (.dic (jv sh (.inr v) w))):=by
 refine l8 ?_ g.a (by unfold low lows low lows low lows;rw[hl];unfold lows;rfl);have e1:=g.fS;have e2:=g.a;have n:=iF.1;have n':¬(("write":Str)="read"):=λe=>by rw[e] at n;simp at n
 simp![aY,xZ,xt,g7,yk,n',aT,kG,e1,eM,e2,keyOf,hs]
end
section
variable{H:MH}{nr na np k:Nat}{sh:List (Key×W)}{ans sp:List W}
def do_say(g:Rg H nr na np sh ans sp k)(hs:sp.length<cap)(hl:low H.length v=true):(step F).aX [.ref nr,.tup [.str "say",v]] H=some (.tup [.str "say",v],H.set np (.lst (sp++[v]))):=by
 refine l8 ?_ g.p (by unfold low lows low lows;rw[hl];unfold lows;rfl);have e1:=g.fP;have e2:=g.p;have n1:¬(("say":Str)="read"):=λe=>by have:=iF.2.1;rw[e] at this;simp at this
 have n2:¬(("say":Str)="write"):=λe=>by have:=iF.2.2.1;rw[e] at this;simp at this
 simp![aY,xZ,xt,yk,n1,n2,kG,e1,kD,getL,e2,qf,hs]
noncomputable def bo(ans:List W)(k:Nat):W:=(ans[k]?).getD (.int 0)
def VY(g:Rg H nr na np sh ans sp k)(hl:low H.length (bo ans k)=true)(hc:ans.length<=cap):(step F).aR [.ref nr] H=some (bo ans k,H.set nr (.ins 1 (uB na np ans ((k+1:Nat):Int)))):=by
 refine l8 ?_ g.r hl;have e1:=g.fK;have g2:=g.asks (k+1);have e2:=g.pK ((k:Int)+1);have e3:xo kx "answers" (.ref nr) (H.set nr (.ins 1 (uB na np ans ((k:Int)+1))))=some (.fls ans,H.set nr (.ins 1 (uB na np ans ((k:Int)+1)))):=g2.fA;have c:ans.length<=cap:=zR hc (by decide);have e4:mO (.int k) (.int 1) H=some (.int ((k:Int)+1),H):=by
  simp[mO,addW,kU]
 have e6:clsOf (.ref nr) H=clsOf (.ref nr) H:=rfl;show _=some (_,H.set nr (.ins 1 (uB na np ans ((k:Int)+1))))
 generalize H.set nr (.ins 1 (uB na np ans ((k:Int)+1)))=H2 at e2 e3 ⊢;unfold bo;by_cases q:k<ans.length
 .have q':(k:Int)<(ans.length:Int):=by omega
  have e5:L2.atI ans (k:Int)=some ans[k]:=tO (zB q);rw[zB q];simp![aM,kG,e1,l7,e4,e2,e3,kT,getL,vE,q',zw,e5]
 .have q':¬((k:Int)<(ans.length:Int)):=by omega
  rw[jP ∅];simp![aM,kG,e1,l7,e4,e2,e3,kT,getL,vE,q']
def do_ask(g:Rg H nr na np sh ans sp k)(hl:low H.length (bo ans k)=true)(hc:ans.length<=cap):(step (step F)).aX [.ref nr,.tup [.str "ask"]] H=some (.tup [.str "ask",bo ans k],H.set nr (.ins 1 (uB na np ans ((k+1:Nat):Int)))):=by
 refine l8 ?_ g.r (by unfold low lows low lows;rw[hl];unfold lows;rfl);have e1:=VY (F:=F) g hl hc;have c2:(2:Nat)<=cap:=by decide
 have n1:¬(("ask":Str)="read"):=λe=>by have:=iF.2.2.2.1;rw[e] at this;simp at this
 have n2:¬(("ask":Str)="write"):=λe=>by have:=iF.2.2.2.2.1;rw[e] at this;simp at this
 have n3:¬(("ask":Str)="say"):=λe=>by have:=iF.2.2.2.2.2;rw[e] at this;simp at this
 have m1:(uB na np ans (k:Int)).lookup ("next_answer":Str)=none:=by
  have a:(("next_answer":Str)=="shelves")=false:=by decide +kernel
  have b:(("next_answer":Str)=="answers")=false:=by decide +kernel
  have c:(("next_answer":Str)=="spoken")=false:=by decide +kernel
  have d:(("next_answer":Str)=="asks")=false:=by decide +kernel
  simp only[kJ,yt,a,b,c,d]
 have m2:(mt (step F)).lookup (1,("next_answer":Str))=some (step F).aR:=by kernel_rfl
 have e2:=g.r;have em:kb (mt (step F)) "next_answer" (ze 0) [] [some (.ref nr),some (.tup [.str "ask"])] H=some (bo ans k,H.set nr (.ins 1 (uB na np ans ((k+1:Nat):Int)))):=by
  unfold kb;simp only[bnd,ze,zq,e2,m1,m2,ky,e1]
 generalize H.set nr (.ins 1 (uB na np ans ((k+1:Nat):Int)))=H2 at em ⊢;generalize bo ans k=A at em ⊢;generalize step F=G at em;simp![aY,xZ,yk,n1,n2,n3,zv,c2,em]
end
theorem so(hn:nw≠n0):∀(l vs:List W) (wo acc:List W) (H:MH) (o:Option W),l.length=vs.length->H[nw]?=some (.lst (wo++vs))->H[n0]?=some (.lst acc)->acc.length+vs.length<=1000->
  vv 1 (zC 0) kL (kD uI (ze 1) []) n0 l [o,some (.ref nw)] H=some ((H.set nw (.lst wo)).set n0 (.lst (acc++vs.reverse)))
 | [],vs,wo,acc,H,o,hl,h1,h2,_=>by
  have:vs=[]:=jJ.mp hl.symm;subst this;rw[z9] at h1;simp only[vv,List.reverse_nil,z9];rw[set_same h1,set_same h2]
 | w::l,vs,wo,acc,H,o,hl,h1,h2,hc=>by
  rcases List.eq_nil_or_concat vs with rfl | ⟨vs',v,rfl⟩
  .cases hl
  .rw[List.concat_eq_append] at h1 hl hc ⊢
   simp only[zN,zp,zV] at hl hc;rw[<-kj] at h1;have c:acc.length<cap:=zL (show acc.length<1001 by omega) (by decide);have ep:=last_at' (wo++vs') v;have h3:(H.set nw (.lst (wo++vs')))[n0]?=some (.lst acc):=by rw[zF hn,h2]
   have ih:=so hn l vs' wo (acc++[v]) ((H.set nw (.lst (wo++vs'))).set n0 (.lst (acc++[v]))) none ∅
    (by rw[zF (kY hn),zH (zS h1)]) (zH (by rw[kZ];exact zS h2)) (by simp;omega)
   have g:zC 0 w [o,some (.ref nw)] H=some ([some w,some (.ref nw)],H):=by simp[zC]
   have m:kD uI (ze 1) [] [some w,some (.ref nw)] H=some (v,H.set nw (.lst (wo++vs'))):=by
    simp[kD,ze,bnd,getL,h1,ky,uI,ep]
   unfold vv;simp only[g,kL,m,h3,c,kE];show vv 1 (zC 0) kL (kD uI (ze 1) []) n0 l [none,some (.ref nw)] _=_
   rw[ih];congr 1
   rw[List.reverse_append,kj];have s1:(((H.set nw (.lst (wo++vs'))).set n0 (.lst (acc++[v]))).set nw (.lst wo)).set n0 (.lst (acc++([v]++vs'.reverse)))=(H.set nw (.lst wo)).set n0 (.lst (acc++([v]++vs'.reverse))):=by
    rw[List.set_comm _ _ (kY hn),yS,yS]
   exact s1
where
 last_at' {α:Type} (l:List α) (x:α):(l++[x])[(l++[x]).length-1]?=some x:=by simp
def Zb(h:∀v∈l,low m v=true):low m (.fls l)=true:=by unfold low;exact y9 h
def Co{n:Nat}{ρ:En}{H:MH}(hn:n<=1000)(hv:ze 1 ρ H=some (.int (n:Int),H)):vw [ze 1] ρ H=some (.items (upto n),H):=by
 have q:-(2 ^ 62:Int)<=(n:Int)/\(n:Int)<2 ^ 62:=by omega
 have rw1:∀h,aI [.int (n:Int)] h=some (.items (upto n),h):=λh=>by
  unfold aI;simp only;rw[zY q,qe]
 simp only[vw,ky,bnd,hv,rw1]
def iY{ks:List Nat}{ρ ρ0:En}{h1:MH}(e:mi ρ h=some (.items l,h1))(er:(List.replicate nl none++ks.map λk=>(ρ[k]?).join)=ρ0)(ec:vv nl g t m h1.length l ρ0 (h1++[.lst []])=some h2):xO mi nl ks g t m ρ h=some (.ref h1.length,h2):=by
 subst er;unfold xO uY;rw[e];simp only[ec]
def ZR{H:MH}{nw n:Nat}{wo vs:List W}(h1:H[nw]?=some (.lst (wo++vs)))(hn:n=vs.length)(hl:n<=1000):xO (vw [ze 1]) 1 [0] (zC 0) kL (kD uI (ze 1) []) [some (.ref nw),some (.int (n:Int)),none] H=some (.ref H.length,H.set nw (.lst wo)++[.lst vs.reverse]):=by
 have lt:=zS h1;have hu:(upto n).length=vs.length:=by rw[<-hn];unfold upto;rw[zO,qX]
 have hp:=so (nw:=nw) (n0:=H.length) (zW lt) (upto n) vs wo [] (H++[.lst []]) none hu (by rw[zy lt,h1]) List.getElem?_concat_length (by rw[zV,Nat.zero_add,<-hn];exact hl);have hh:((H++[MO.lst []]).set nw (.lst wo)).set H.length (.lst ([]++vs.reverse))=H.set nw (.lst wo)++[.lst vs.reverse]:=by
  rw[List.set_append_left _ _ lt,jO _ _ (by rw[kZ];exact zj _),kZ,qP,kI];rfl
 rw[hh] at hp;exact iY (Co hl rfl) rfl hp
def JP{H:MH}{wo vs:List W}(hl:vs.length<=1000):nu (.ref H.length) (H.set nw (.lst wo)++[.lst vs.reverse])=some (.fls vs,H.set nw (.lst wo)++[.lst vs.reverse]):=by
 have:getL (H.set nw (.lst wo)++[.lst vs.reverse]) (.ref H.length)=some vs.reverse:=by
  simp only[getL];rw[zG (by rw[kZ];exact zj _),kZ,qP];rfl
 simp only[nu,this,qK,jW,List.reverse_reverse];rw[zY hl]
def Qj{H:MH}(cm:xO (vw [ze 1]) 1 [0] (zC 0) kL (kD uI (ze 1) []) [some (.ref nw),some j,none] H=some (.ref m,H2))(rv:nu (.ref m) H2=some (.fls vs,H2)):kd 2 1 (aC F) [.ref nw,j] H=some (.fls vs,H2):=by
 have row:aC F [some (.ref nw),some j,none] H=some (.ret (.fls vs),H2):=by
  unfold aC;rw[zt (ρ':=[some (.ref nw),some j,some (.ref m)]) (h':=H2) (by unfold zD;rw[cm];rfl)];simp only[ku,ug,bnd,ze,zE,zq,rv]
 simp only[kd,zp,zV,kE,zx,jh,List.replicate,jk,kI];simp only[row]
def mn{H:MH}{wo vs:List W}(h1:H[nw]?=some (.lst (wo++vs)))(hn:n=vs.length)(hl:n<=1000):kd 2 1 (aC F) [.ref nw,.int (n:Int)] H=some (.fls vs,H.set nw (.lst wo)++[.lst vs.reverse]):=
 Qj (ZR h1 hn hl) (JP (by rw[<-hn];exact hl))
theorem f_taken(F:Fs):(step F).aN=gc (kd 2 1 (aC F)):=rfl
def XG{H:MH}{wo vs:List W}(h1:H[nw]?=some (.lst (wo++vs)))(hn:n=vs.length)(hl:n<=1000)(hv:vs≠[]):(step F).aN [.ref nw,.int (n:Int)] H=some (.fls vs,H.set nw (.lst wo)++[.lst vs.reverse]):=by
 have e0:=mn (F:=F) h1 hn hl;rw[f_taken];generalize kd 2 1 (aC F)=f at e0 ⊢;refine yb e0 h1 ?_;rw[zy (by rw[kZ];exact zS h1),zH (zS h1)];intro e;injection e with e;injection e with e;have:=jR List.length e;simp only[zN] at this;exact hv (jJ.mp ∅)
def Vh{H:MH}{wo:List W}(h1:H[nw]?=some (.lst wo)):(step F).aN [.ref nw,.int ((0:Nat):Int)] H=some (.fls [],H):=by
 have e:=mn (F:=F) (n:=0) (vs:=[]) (wo:=wo) (by rw[z9];exact h1) rfl (qO _);rw[set_same h1] at e;rw[f_taken];generalize kd 2 1 (aC F)=f at e ⊢;exact xD e (by unfold low lows;rfl) (jl _ _)
def ya{fs:List (Str×W)}{c:Nat}{H:MH}(ho:H[n]?=some (.ins c fs))(hl:fs.lookup m=none)(hm:(mt F).lookup (c,m)=some g)(e1:mo ρ H0=some (.ref n,H))(e2:ky ms ρ H=some (ws,H1)):kb (mt F) m mo ms ρ H0=g (.ref n::ws) H1:=by
 unfold kb;simp only[bnd,e1,ho,hl,hm,e2]
def og(a:(m==("rules":Str))=false)(b:(m==("steps":Str))=false)(c:(m==("worths":Str))=false)(d:(m==("touch_ahead":Str))=false):(yA rl ns nw t).lookup m=none:=by
 simp only[kJ,yt,a,b,c,d]
theorem V8(F:Fs):(mt F).lookup (0,("bring":Str))=some F.bU:=by kernel_rfl
theorem VN(F:Fs):(mt F).lookup (0,("begin":Str))=some F.bV:=by kernel_rfl
theorem X8(F:Fs):(mt F).lookup (0,("rest_ahead_of":Str))=some F.aJ:=by kernel_rfl
theorem Y7(F:Fs):(mt F).lookup (0,("take_step":Str))=some F.aL:=by kernel_rfl
theorem Dy(F:Fs):(mt F).lookup (0,("go_on":Str))=some F.aK:=by kernel_rfl
theorem rW(F:Fs):(mt F).lookup (0,("do_touch":Str))=some F.aP:=by kernel_rfl
theorem YG(F:Fs):(mt F).lookup (0,("came_to":Str))=some F.aZ:=by kernel_rfl
theorem DV(F:Fs):(mt F).lookup (1,("do":Str))=some F.aX:=by kernel_rfl
theorem WA(F:Fs):(mt F).lookup (1,("store":Str))=some F.cD:=by kernel_rfl
theorem Xb(F:Fs):(mt F).lookup (1,("said":Str))=some F.cN:=by kernel_rfl
def yT{np:Nat}{ws:List W}{H:MH}(hl:ws.length=np)(hr:ws.map some++List.replicate k none=ρ)(e:b ρ H=some (.nx ρ',H')):kd np k b ws H=some (.non,H'):=by
 subst hr;unfold kd;rw[zY hl,e]
def xC{np:Nat}{ws:List W}{H:MH}(hl:ws.length=np)(hr:ws.map some++List.replicate k none=ρ)(e:b ρ H=some (.ret w,H')):kd np k b ws H=some (w,H'):=by
 subst hr;unfold kd;rw[zY hl,e]
def bg(e:t ρ h=some (true,h))(eA:A ρ h=some (.ret w,h')):zo (k8 t A kN) b ρ h=some (.ret w,h'):=by
 refine xi ?_;unfold k8;rw[e];simp only[kE];exact eA
theorem JS(e:t ρ h=some (false,h)):zo (k8 t A kN) b ρ h=b ρ h:=by
 refine zt ?_;unfold k8;rw[e];rfl
def rL{f:Fl}(e:t ρ h=some (true,h))(eA:A ρ h=some (f,h')):k8 t A kN ρ h=some (f,h'):=by
 unfold k8;rw[e];simp only[kE];exact eA
theorem iB(e:t ρ h=some (false,h)):k8 t A kN ρ h=some (.nx ρ,h):=by
 unfold k8;rw[e];rfl
def vb{H:MH}(e:m ρ H=some (w,H')):kr m ρ H=some (.nx ρ,H'):=by unfold kr;rw[e]
section
variable{H:MH}{nd ns nw:Nat}{rl st wo:List W}{t:W}{F:Fs}
def lA(g:Dg H nd ns nw rl st wo t)(v:W):(H.set nw (.lst (wo++[v])))[nw]?≠some (.lst wo):=by
 rw[zH (zS g.w)];intro e;injection e with e;injection e with e;exact mH _ _ e
def lJ(g:Dg H nd ns nw rl st wo t)(v:W):(H.set ns (.lst (st++[v])))[ns]?≠some (.lst st):=by
 rw[zH (zS g.s)];intro e;injection e with e;injection e with e;exact mH _ _ e
def ip(g:Dg H nd ns nw rl st wo t)(hw:wo.length<cap)(e1:mo ρ H=some (.ref nd,H))(e2:m ρ H=some (v,H)):kb (mt (step F)) "bring" mo [m] ρ H=some (.non,H.set nw (.lst (wo++[v]))):=by
 rw[ya g.d (og ⋯ ⋯ ⋯ ⋯) (V8 _) e1 (ws:=[v]) (H1:=H) (by simp only[ky,bnd,e2])];exact Xd g hw
def pW(g:Dg H nd ns nw rl st wo t)(hv:v≠t)(e1:mo ρ H=some (.ref nd,H))(e2:m ρ H=some (v,H)):kb (mt (step F)) "rest_ahead_of" mo [m] ρ H=some (.non,H.set nd (.ins 0 (yA rl ns nw v))):=by
 rw[ya g.d (og ⋯ ⋯ ⋯ ⋯) (X8 _) e1 (ws:=[v]) (H1:=H) (by simp only[ky,bnd,e2])];exact Bc g hv
def iK{H2:MH}(g0:Dg H nd ns nw rl st wo t)(g:Dg H2 nd ns nw rl st wo t)(hw:st.length<cap)(e1:mo ρ H=some (.ref nd,H))(e2:m ρ H=some (d,H1))(e3:m2 ρ H1=some (k,H2)):kb (mt (step F)) "begin" mo [m,m2] ρ H=some (.non,H2.set ns (.lst (st++[.tup [.bl false,d,k]]))):=by
 rw[ya g0.d (og ⋯ ⋯ ⋯ ⋯) (VN _) e1 (ws:=[d,k]) (H1:=H2) (by simp only[ky,bnd,e2,e3])];exact Ug g hw
def Dg.app(g:Dg H nd ns nw rl st wo t)(X:MH):Dg (H++X) nd ns nw rl st wo t:=
 ⟨by rw[zy (zS g.d)];exact g.d,by rw[zy (zS g.s)];exact g.s,by rw[zy (zS g.w)];exact g.w,g.n1,g.n2,g.n3⟩
def fe{r:List W}(g:Dg H nd ns nw rl st wo t)(hw:wo.length<cap)(hl:r.length=3)(e:m ((W.ref nd::r).map some++List.replicate k none) H=some (v,H)):gc (kd 4 k (kr (kb (mt (step F)) "bring" (ze 0) [m]))) (.ref nd::r) H=some (.non,H.set nw (.lst (wo++[v]))):=
 yb (yT (by simp[hl]) rfl (vb (ip g hw rfl e))) g.w (lA g v)
def ly(g:Dg H nd ns nw rl st wo t)(hv:v≠t):(H.set nd (.ins 0 (yA rl ns nw v)))[nd]?≠some (.ins 0 (yA rl ns nw t)):=by
 rw[zH (zS g.d)];intro e;injection e with e;injection e with _ e;simp only[jK,wQ] at e;exact hv e.2.2.2.1.2
def J0{r:List W}(g:Dg H nd ns nw rl st wo t)(hv:v≠t)(hl:r.length=3)(e:m ((W.ref nd::r).map some++List.replicate k none) H=some (v,H)):gc (kd 4 k (kr (kb (mt (step F)) "rest_ahead_of" (ze 0) [m]))) (.ref nd::r) H=some (.non,H.set nd (.ins 0 (yA rl ns nw v))):=
 yb (yT (by simp[hl]) rfl (vb (pW g hv rfl e))) g.d (ly g hv)
def nH(g:Dg H nd ns nw rl st wo t)(v:W):((H++X).set ns (.lst (st++[v])))[ns]?≠some (.lst st):=lJ (g.app X) v
def mZ{r:List W}{kn:W}(g:Dg H nd ns nw rl st wo t)(hw:st.length<cap)(hl:r.length=3)(e:m ((W.ref nd::r).map some++List.replicate k none) H=some (d,H))(e2:m2 ((W.ref nd::r).map some++List.replicate k none) H=some (kn,H++X)):gc (kd 4 k (kr (kb (mt (step F)) "begin" (ze 0) [m,m2]))) (.ref nd::r) H=some (.non,(H++X).set ns (.lst (st++[.tup [.bl false,d,kn]]))):=
 yb (yT (by simp[hl]) rfl (vb (iK g (g.app X) hw rfl e e2))) g.s (nH g _)
def do_number{i:Int}(g:Dg H nd ns nw rl st wo t)(hw:wo.length<cap):(step (step F)).bD [.ref nd,th "number" [.int i],kw,ww] H=some (.non,H.set nw (.lst (wo++[.int i]))):=
 fe g hw rfl (by simp![xt])
def do_name(g:Dg H nd ns nw rl st wo t)(hw:wo.length<cap)(hk:yn kw (.str v) H=some (w,H)):(step (step F)).cT [.ref nd,th "name" [.str v],kw,ww] H=some (.non,H.set nw (.lst (wo++[w]))):=
 fe g hw rfl (by simp![xt,hk])
def do_add(g:Dg H nd ns nw rl st wo t)(hw:wo.length<cap):(step (step F)).dC [.ref nd,d,kw,.fls [.int x,.int y]] H=some (.non,H.set nw (.lst (wo++[.int ((x+y)%1009)]))):=
 fe g hw rfl (by simp![uJ,pj,addW,kU,yv,io])
def do_less(g:Dg H nd ns nw rl st wo t)(hw:wo.length<cap):(step (step F)).cU [.ref nd,d,kw,.fls [.int x,.int y]] H=some (.non,H.set nw (.lst (wo++[.int (if x<y then 1 else 0)]))):=
 fe g hw rfl (by
  by_cases q:x<y
  .simp![uJ,pj,vE,q]
  .simp![uJ,pj,vE,q])
def do_then(g:Dg H nd ns nw rl st wo t)(hw:wo.length<cap):(step (step F)).cV [.ref nd,d,kw,.fls [x,y]] H=some (.non,H.set nw (.lst (wo++[y]))):=
 fe g hw rfl (by simp![pj])
def XX(g:Dg H nd ns nw rl st wo .non):(step (step F)).dq [.ref nd,d,kw,.fls [x]] H=some (.non,H.set nd (.ins 0 (yA rl ns nw (.tup [.str "say",x])))):=by
 have c2:(2:Nat)<=cap:=by decide
 exact J0 g nofun rfl (by simp![uJ,zv,c2])
def X3(g:Dg H nd ns nw rl st wo .non):(step (step F)).dm [.ref nd,d,kw,ww] H=some (.non,H.set nd (.ins 0 (yA rl ns nw (.tup [.str "ask"])))):=by
 have c1:(1:Nat)<=cap:=by decide
 exact J0 g nofun rfl (by simp![zv,c1])
def do_if{c:W}(g:Dg H nd ns nw rl st wo t)(hw:st.length<cap):(step (step F)).dJ [.ref nd,th "if" [a,b,c],kw,.fls [.int x]] H=some (.non,H.set ns (.lst (st++[.tup [.bl false,if x=0 then c else b,kw]]))):=by
 have:=mZ (F:=F) (X:=[]) (k:=0) (m:=(ZG (ke (zi (vn true) (zi zw (ze 3) (eC (.int 0))) (eC (.int 0)))) (zi zw (ze 1) (eC (.int 2))) (zi zw (ze 1) (eC (.int 3))))) (m2:=ze 2) (r:=[th "if" [a,b,c],kw,.fls [.int x]]) (d:=if x=0 then c else b) (kn:=kw) g hw rfl (by
  by_cases q:x=0
  .simp![uJ,g7,pO,vt,q]
  .simp![uJ,g7,pO,vt,q]) (by simp![])
 rw[z9] at this;exact this
end
def ZV(h:v∈SH):dt 1 (.str v)=true:=by
 simp only[SH,zb,zc,zM] at h;rcases h with rfl | rfl | rfl | rfl<;>decide +kernel
def oV{H:MH}(d:dt 1 (.str v)=true):inB H (.str v) qS=some (decide (v∈SH)):=by
 have e:=i5 (h:=H) (l:=SH) d ∅ ⋯;have e2:xU SH (.str v)=decide (v∈SH):=by
  unfold xU;rw[vD,qm,decide_eq_true_iff];constructor
  .rintro⟨x,hx,e⟩
   rw[<-eq_of_beq e];exact hx
  .intro h
   exact⟨v,h,beq_self_eq_true v⟩
 rw[<-e2];exact e
def Bf{f:List W->M W}{h:MH}(e:f ws h=some (.ref h.length,h++[.dic l])):gc f ws h=some (.ref h.length,h++[.dic l]):=by
 unfold gc;rw[e];have p:h<+:h++[MO.dic l]:=jl _ _;have q:low h.length (.ref h.length)=false:=by unfold low;simp
 have c:h<+:h++[MO.dic l]/\W.ref h.length≠.non:=⟨p,nofun⟩;simp only;rw[zY c];simp only[q,jE,jj,at0]
section
variable{H:MH}{nd ns nw:Nat}{rl st wo:List W}{t:W}{F:Fs}
theorem f_with(F:Fs):(step F).aW=gc (kd 3 1 (bz F)):=rfl
theorem K1{l:List (Key×W)}(hk:xy H kw=some l)(hl:l.length<cap):(step F).aW [kw,.str v,x] H=some (.ref H.length,H++[.dic (jv l (.inr v) x)]):=by
 rw[f_with];refine Bf (xC (ρ:=[some kw,some (.str v),some x,none]) rfl rfl ?_);unfold bz
 rw[zt (ρ':=[some kw,some (.str v),some x,some (.ref H.length)]) (h':=H++[.dic l]) (by
  simp only[zD,zh,ky,bnd,ze,zq,mB,hk,zC]
  rfl)]
 have e:eM (.ref H.length) (.str v) x (H++[.dic l])=some (.non,H++[.dic (jv l (.inr v) x)]):=by
  simp only[eM,at0,keyOf,hl,kE,rT]
 rw[zt (ρ':=[some kw,some (.str v),some x,some (.ref H.length)]) (h':=H++[.dic (jv l (.inr v) x)]) (by
  simp only[zD,ze,zq,zE,aT,bnd,e])]
 rfl
def QS(g:Dg H nd ns nw rl st wo .non)(h:v∈SH):(step (step F)).bW [.ref nd,th "read" [.str v],kw,ww] H=some (.non,H.set nd (.ins 0 (yA rl ns nw (.tup [.str "read",.str v])))):=by
 have c2:(2:Nat)<=cap:=by decide
 have e:=oV (H:=H) (ZV h);rw[qt h] at e;refine yb (yT (ρ:=[some (.ref nd),some (th "read" [.str v]),some kw,some ww]) (ρ':=[some (.ref nd),some (th "read" [.str v]),some kw,some ww]) rfl rfl ?_) g.d (ly g (v:=.tup [.str "read",.str v]) nofun);have e2:kr (kb (mt (step F)) "rest_ahead_of" (ze 0) [zh zv [eC (.str "read"),zi zw (ze 1) (eC (.int 1))]]) [some (.ref nd),some (th "read" [.str v]),some kw,some ww] H=some (.nx _,H.set nd (.ins 0 (yA rl ns nw (.tup [.str "read",.str v])))):=vb (pW g nofun rfl (by simp![xt,zv,c2]));unfold cO;unfold k8;rw[show ke (zi (u9 false) (zi zw (ze 1) (eC (.int 1))) (eC qS)) [some (.ref nd),some (th "read" [.str v]),some kw,some ww] H=some (true,H) by simp![xt,e]];exact e2
def Vv(g:Dg H nd ns nw rl st wo t)(hw:wo.length<cap)(h:v∉SH)(d:dt 1 (.str v)=true)(hk:yn kw (.str v) H=some (.ref n,H))(hn:H[n]?=some (.lst [w])):(step (step F)).bW [.ref nd,th "read" [.str v],kw,ww] H=some (.non,H.set nw (.lst (wo++[w]))):=by
 have e:=oV (H:=H) d;rw[jG h] at e;have ix:zw (.ref n) (.int 0) H=some (w,H):=by simp[zw,getL,hn,atI,xB]
 refine yb (yT (ρ:=[some (.ref nd),some (th "read" [.str v]),some kw,some ww]) (ρ':=[some (.ref nd),some (th "read" [.str v]),some kw,some ww]) rfl rfl ?_) g.w (lA g w);have e2:kr (kb (mt (step F)) "bring" (ze 0) [zi zw (zi yn (ze 2) (zi zw (ze 1) (eC (.int 1)))) (eC (.int 0))]) [some (.ref nd),some (th "read" [.str v]),some kw,some ww] H=some (.nx _,H.set nw (.lst (wo++[w]))):=vb (ip g hw rfl (by simp![xt,hk,ix]));unfold cO;unfold k8;rw[show ke (zi (u9 false) (zi zw (ze 1) (eC (.int 1))) (eC qS)) [some (.ref nd),some (th "read" [.str v]),some kw,some ww] H=some (false,H) by simp![xt,e]];exact e2
def K8(g:Dg H nd ns nw rl st wo .non)(h:v∈SH):(step (step F)).bw [.ref nd,th "write" [.str v,a],kw,.fls [x]] H=some (.non,H.set nd (.ins 0 (yA rl ns nw (.tup [.str "write",.str v,x])))):=by
 have c3:(3:Nat)<=cap:=by decide
 have e:=oV (H:=H) (ZV h);rw[qt h] at e;refine yb (yT (ρ:=[some (.ref nd),some (th "write" [.str v,a]),some kw,some (.fls [x])]) (ρ':=[some (.ref nd),some (th "write" [.str v,a]),some kw,some (.fls [x])]) rfl rfl ?_) g.d (ly g (v:=.tup [.str "write",.str v,x]) nofun);have e2:kr (kb (mt (step F)) "rest_ahead_of" (ze 0) [zh zv [eC (.str "write"),zi zw (ze 1) (eC (.int 1)),zi zw (ze 3) (eC (.int 0))]]) [some (.ref nd),some (th "write" [.str v,a]),some kw,some (.fls [x])] H=some (.nx _,H.set nd (.ins 0 (yA rl ns nw (.tup [.str "write",.str v,x])))):=vb (pW g nofun rfl (by simp![xt,uJ,zv,c3]));unfold b8;unfold k8;rw[show ke (zi (u9 false) (zi zw (ze 1) (eC (.int 1))) (eC qS)) [some (.ref nd),some (th "write" [.str v,a]),some kw,some (.fls [x])] H=some (true,H) by simp![xt,e]];exact e2
def Dg.cell(g:Dg H nd ns nw rl st wo t){n:Nat}{o:MO}(a:n≠nd)(b:n≠ns)(c:n≠nw):Dg (H.set n o) nd ns nw rl st wo t:=
 ⟨by rw[zF a,g.d],by rw[zF b,g.s],by rw[zF c,g.w],g.n1,g.n2,g.n3⟩
def Qt(g:Dg H nd ns nw rl st wo t)(hw:wo.length<cap)(h:v∉SH)(d:dt 1 (.str v)=true)(hk:yn kw (.str v) H=some (.ref n,H))(hn:H[n]?=some (.lst [w]))(na:n≠nd)(nb:n≠ns)(nc:n≠nw):(step (step F)).bw [.ref nd,th "write" [.str v,a],kw,.fls [x]] H=some (.non,(H.set n (.lst [x])).set nw (.lst (wo++[x]))):=by
 have e:=oV (H:=H) d;rw[jG h] at e;have g2:=g.cell (o:=.lst [x]) na nb nc;have ch:((H.set n (.lst [x])).set nw (.lst (wo++[x])))[nw]?≠some (.lst wo):=lA g2 x;refine yb (yT (ρ:=[some (.ref nd),some (th "write" [.str v,a]),some kw,some (.fls [x])]) (ρ':=[some (.ref nd),some (th "write" [.str v,a]),some kw,some (.fls [x])]) rfl rfl ?_) g.w ch;have pm:eM (.ref n) (.int 0) x H=some (.non,H.set n (.lst [x])):=by simp[eM,hn,xB]
 have e2:kr (kb (mt (step F)) "bring" (ze 0) [zi zw (ze 3) (eC (.int 0))]) [some (.ref nd),some (th "write" [.str v,a]),some kw,some (.fls [x])] (H.set n (.lst [x]))=some (.nx _,(H.set n (.lst [x])).set nw (.lst (wo++[x]))):=vb (ip g2 hw rfl (by simp![uJ]));unfold b8;unfold k8;rw[show ke (zi (u9 false) (zi zw (ze 1) (eC (.int 1))) (eC qS)) [some (.ref nd),some (th "write" [.str v,a]),some kw,some (.fls [x])] H=some (false,H) by simp![xt,e]];simp only[jE,jj];rw[zt (ρ':=[some (.ref nd),some (th "write" [.str v,a]),some kw,some (.fls [x])]) (h':=H.set n (.lst [x])) (by simp![uJ,aT,xt,hk,pm])];exact e2
theorem sZ:∀(l:List W) (j:Nat) (o:Option W),∃o',forL (zC 5) (zD (zh zv [eC (.str "then"),zi zw (ze 1) (eC (.int 2)),ze 4]) (zC 4)) l [some d,some (th "loop" [zk a,zk b]),some kw,some ww,some (zk (uE b j)),o] H=some (.nx [some d,some (th "loop" [zk a,zk b]),some kw,some ww,some (zk (uE b (j+l.length))),o'],H)
 | [],j,o=>⟨o,rfl⟩
 | w::l,j,o=>by
  obtain⟨o',ih⟩:=sZ l (j+1) (some w);refine⟨o',?_⟩;have c3:(3:Nat)<=cap:=by decide
  have e1:zC 5 w [some d,some (th "loop" [zk a,zk b]),some kw,some ww,some (zk (uE b j)),o] H=some ([some d,some (th "loop" [zk a,zk b]),some kw,some ww,some (zk (uE b j)),some w],H):=rfl;have e2:zD (zh zv [eC (.str "then"),zi zw (ze 1) (eC (.int 2)),ze 4]) (zC 4) [some d,some (th "loop" [zk a,zk b]),some kw,some ww,some (zk (uE b j)),some w] H=some (.nx [some d,some (th "loop" [zk a,zk b]),some kw,some ww,some (zk (uE b (j+1))),some w],H):=by
   simp only[uE,zk];simp![g7,zv,c3]
  unfold forL;rw[e1];simp only;rw[e2];simp only;rw[ih,show j+(w::l).length=j+1+l.length by simp only[zp];omega]
def do_loop(g:Dg H nd ns nw rl st wo t)(hw:st.length<cap):(step (step F)).cR [.ref nd,zk (.loop a b),kw,.fls [.int x]] H=some (.non,H.set ns (.lst (st++[.tup [.bl false,zk (uE b (x%4).toNat),kw]]))):=by
 have c2:(2:Nat)<=cap:=by decide
 simp only[zk];obtain⟨o',lr⟩:=sZ (a:=a) (b:=b) (H:=H) (kw:=kw) (ww:=.fls [.int x]) (d:=.ref nd) (upto (x%4).toNat) 0 none;have hu:(upto (x%4).toNat).length=(x%4).toNat:=by unfold upto;rw[zO,qX]
 rw[hu,Nat.zero_add] at lr;refine yb (yT (ρ:=[some (.ref nd),some (th "loop" [zk a,zk b]),some kw,some (.fls [.int x]),none,none]) (ρ':=[some (.ref nd),some (th "loop" [zk a,zk b]),some kw,some (.fls [.int x]),some (zk (uE b (x%4).toNat)),o']) rfl rfl ?_) g.s (lJ g _);unfold dH;rw[zt (ρ':=[some (.ref nd),some (th "loop" [zk a,zk b]),some kw,some (.fls [.int x]),some (zk (uE b 0)),none]) (h':=H) (by simp only[uE,zk];simp![zv,c2])];have rg:vw [zi yv (zi zw (ze 3) (eC (.int 0))) (eC x9)] [some (.ref nd),some (th "loop" [zk a,zk b]),some kw,some (.fls [.int x]),some (zk (uE b 0)),none] H=some (.items (upto (x%4).toNat),H):=by
  have q:-(2 ^ 62:Int)<=x%4/\x%4<2 ^ 62:=by omega
  simp only[vw,ky,bnd,zi,ze,zE,zq,eC,uJ,yv,x9,aI];simp only[show(0:Int)<4 by omega,kE];rw[zY q]
 rw[zt (ρ':=[some (.ref nd),some (th "loop" [zk a,zk b]),some kw,some (.fls [.int x]),some (zk (uE b (x%4).toNat)),o']) (h':=H) (by unfold xR;rw[rg];exact lr)];have:=iK (F:=F) (mo:=ze 0) (m:=ze 4) (m2:=ze 2) (ρ:=[some (.ref nd),some (th "loop" [zk a,zk b]),some kw,some (.fls [.int x]),some (zk (uE b (x%4).toNat)),o']) (d:=zk (uE b (x%4).toNat)) (k:=kw) (H1:=H) (H2:=H) g g hw rfl rfl rfl;exact vb this
def do_let{l:List (Key×W)}(g:Dg H nd ns nw rl st wo t)(hw:st.length<cap)(hk:xy H kw=some l)(hl:l.length<cap):(step (step F)).dw [.ref nd,th "let" [.str v,a,b],kw,.fls [x]] H=some (.non,(H++[.dic (jv l (.inr v) x)]:MH).set ns (.lst (st++[.tup [.bl false,b,.ref H.length]]))):=by
 have e:=K1 (F:=F) (v:=v) (x:=x) hk hl
 exact mZ (F:=F) (k:=0) g hw rfl (by simp![pO]) (by
  simp only[zh,ky,bnd,ze,zi,eC,zx,jh,List.replicate,z9,zE,zq,xt,uJ,e])
def do_own{l:List (Key×W)}(g:Dg H nd ns nw rl st wo t)(hw:st.length<cap)(hk:xy (H++[.lst [x]]) kw=some l)(hl:l.length<cap):(step (step F)).dB [.ref nd,th "own" [.str v,a,b],kw,.fls [x]] H=some (.non,(H++[.lst [x],.dic (jv l (.inr v) (.ref H.length))]:MH).set ns (.lst (st++[.tup [.bl false,b,.ref (H.length+1)]]))):=by
 have e:=K1 (F:=F) (v:=v) (x:=.ref H.length) hk hl;rw[kj,zN] at e;have c1:(1:Nat)<=cap:=by decide
 exact mZ (F:=F) (k:=0) g hw rfl (by simp![pO]) (by
  simp only[zh,ky,bnd,ze,zi,eC,zx,jh,List.replicate,z9,zE,zq,xt,uJ,xW,zp,zV,c1,kE]
  exact e)
def do_handed(g:Dg H nd ns nw rl st wo t)(hw:st.length<cap)(hk:yn kw (.str v) H=some (.tup [d',kw'],H)):(step (step F)).bG [.ref nd,th "do" [.str v],kw,ww] H=some (.non,H.set ns (.lst (st++[.tup [.bl false,d',kw']]))):=by
 refine yb (yT (ρ:=[some (.ref nd),some (th "do" [.str v]),some kw,some ww,none]) (ρ':=[some (.ref nd),some (th "do" [.str v]),some kw,some ww,some (.tup [d',kw'])]) rfl rfl ?_) g.s (lJ g _);unfold cW;rw[zt (ρ':=[some (.ref nd),some (th "do" [.str v]),some kw,some ww,some (.tup [d',kw'])]) (h':=H) (by simp![xt,hk])];exact vb (iK (F:=F) (H1:=H) g g hw rfl (by simp![xZ]) (by simp![xt]))
end
def cK{l:List (Key×W)}:(jv l k v).length<=l.length+1:=by
 unfold jv;split
 .rw[zO];omega
 .rw[zN];simp
noncomputable def u5(ps:List (Str×Int)):List (Key×W):=qE [] (ps.map λp=>(.inr p.1,.int p.2))
noncomputable def be(kw:W)(ps:List (Str×W))(l:List (Key×W)):List (Key×W):=ps.foldl (λl p=>jv l (.inr p.1) (.tup [p.2,kw])) l
theorem gO:∀(ps:List (Key×W)) (l:List (Key×W)),(qE l ps).length<=l.length+ps.length
 | [],l=>by simp[qE]
 | p::ps,l=>by
  have h1:=gO ps (jv l p.1 p.2);have h2:=cK (l:=l) (k:=p.1) (v:=p.2);have e:qE l (p::ps)=qE (jv l p.1 p.2) ps:=rfl;rw[e,zp];omega
theorem Zw:∀(ps:List (Str×W)) (l:List (Key×W)),(be kw ps l).length<=l.length+ps.length
 | [],l=>by simp[be]
 | p::ps,l=>by
  have h1:=Zw (kw:=kw) ps (jv l (.inr p.1) (.tup [p.2,kw]));have h2:=cK (l:=l) (k:=.inr p.1) (v:=.tup [p.2,kw]);have e:be kw (p::ps) l=be kw ps (jv l (.inr p.1) (.tup [p.2,kw])):=rfl;rw[e,zp];omega
theorem gv:∀(ns:List Str) (xs:List Int),keysOf ((zI ns).zip (xs.map W.int))=some ((ns.zip xs).map λp=>(.inr p.1,.int p.2))
 | [],_=>by simp[zI,keysOf]
 | _::_,[]=>by simp[zI,keysOf]
 | n::ns,x::xs=>by
  have ih:=gv ns xs;simp only[zI,zx,jq] at ih ⊢;unfold keysOf;rw[ih];rfl
section
variable{H:MH}{nd ns nw:Nat}{rl st wo:List W}{t:W}{F:Fs}
noncomputable abbrev ρq(nd:Nat)(d kw ww ru:W)(n:Nat)(o6 o7:Option W):En:=[some (.ref nd),some d,some kw,some ww,some ru,some (.ref n),o6,o7]
theorem rq:∀(ps:List (Str×W)) (L:List (Key×W)) (o6 o7:Option W),L.length+ps.length<=100->∃o6' o7',forL (bX [zC 6,zC 7]) (zD (zh zv [ze 7,ze 2]) (aT (ze 5) (ze 6))) (ps.map λp=>.tup [.str p.1,p.2]) (ρq nd d kw ww ru H.length o6 o7) (H++[.dic L])=some (.nx (ρq nd d kw ww ru H.length o6' o7'),H++[.dic (be kw ps L)])
 | [],L,o6,o7,_=>⟨o6,o7,rfl⟩
 | p::ps,L,o6,o7,hl=>by
  have c2:(2:Nat)<=cap:=by decide
  have lc:L.length<cap:=zL (show L.length<101 by omega) (by decide);have pl:=cK (l:=L) (k:=.inr p.1) (v:=.tup [p.2,kw]);simp only[zp] at hl;obtain⟨o6',o7',ih⟩:=rq ps (jv L (.inr p.1) (.tup [p.2,kw])) (some (.str p.1)) (some p.2) ∅;refine⟨o6',o7',?_⟩;have e1:bX [zC 6,zC 7] (.tup [.str p.1,p.2]) (ρq nd d kw ww ru H.length o6 o7) (H++[.dic L])=some (ρq nd d kw ww ru H.length (some (.str p.1)) (some p.2),H++[.dic L]):=by
   simp[bX,eK,zC,bnd]
  have pm:eM (.ref H.length) (.str p.1) (.tup [p.2,kw]) (H++[.dic L])=some (.non,H++[.dic (jv L (.inr p.1) (.tup [p.2,kw]))]):=by
   simp only[eM,at0,keyOf,lc,kE,rT]
  have e2:zD (zh zv [ze 7,ze 2]) (aT (ze 5) (ze 6)) (ρq nd d kw ww ru H.length (some (.str p.1)) (some p.2)) (H++[.dic L])=some (.nx (ρq nd d kw ww ru H.length (some (.str p.1)) (some p.2)),H++[.dic (jv L (.inr p.1) (.tup [p.2,kw]))]):=by
   simp only[zD,zh,ky,bnd,ze,zE,zq,zv,zp,zV,c2,kE,aT,pm]
  simp only[zx];unfold forL;rw[e1];simp only;rw[e2];simp only;exact ih
theorem f_call(F:Fs):(step F).bZ=gc (kd 4 4 (cL F)):=rfl
def do_call{i:Nat}{bs:List D}{r:Rule}{xs:List Int}(g:Dg H nd ns nw rl st wo t)(hw:st.length<cap)(hr:rl[i]?=some (cw r))(hx:r.ns.length<=10)(hb:r.hs.length<=10):(step (step F)).bZ [.ref nd,zk (.call i as bs),kw,.fls (xs.map .int)] H=some (.non,(H++[.dic (be kw (r.hs.zip (kg bs)) (u5 (r.ns.zip xs)))]:MH).set ns (.lst (st++[.tup [.bl false,zk r.body,.ref H.length]]))):=by
 have l0:(u5 (r.ns.zip xs)).length<=10:=by
  have:=gO ((r.ns.zip xs).map λp=>(.inr p.1,.int p.2)) [];rw[zO,qd,zV] at this;unfold u5;omega
 have l1:(r.hs.zip (kg bs)).length<=10:=by rw[qd];omega
 obtain⟨o6,o7,lp⟩:=rq (nd:=nd) (H:=H) (d:=zk (.call i as bs)) (kw:=kw) (ww:=.fls (xs.map .int)) (ru:=cw r) (r.hs.zip (kg bs)) (u5 (r.ns.zip xs)) none none ∅;simp only[zk] at lp ⊢;have g2:=g.app [.dic (be kw (r.hs.zip (kg bs)) (u5 (r.ns.zip xs)))];have ei:zw (.tup rl) (.int (i:Int)) H=some (cw r,H):=Cb ∅ (by have:=zS hr;omega) (by simpa using hr);have zd:mV [.tup (zI r.ns),.fls (xs.map .int)] H=some (.ref H.length,H++[.dic (u5 (r.ns.zip xs))]):=by
  have k:=gv r.ns xs;have kl:((r.ns.zip xs).map λp=>((.inr p.1:Key),W.int p.2)).length<=1000:=by rw[zO,qd];omega
  simp only[mV,u0,k,kl,kE];rfl
 have zz:∀H',sT [.tup (zI r.hs),.tup (kg bs)] H'=some (.items ((r.hs.zip (kg bs)).map λp=>.tup [.str p.1,p.2]),H'):=λH'=>by
  simp only[sT,u0,pJ,q9];rfl
 have e1:=g.fR;have r0:zw (cw r) (.int 0) H=some (.tup (zI r.ns),H):=xZ;have r1:∀H',zw (cw r) (.int 1) H'=some (.tup (zI r.hs),H'):=λH'=>xt
 have r2:∀H',zw (cw r) (.int 2) H'=some (zk r.body,H'):=λH'=>g7
 rw[f_call];refine yb (yT (ρ:=[some (.ref nd),some (th "call" [.int i,.tup (kg as),.tup (kg bs)]),some kw,some (.fls (xs.map .int)),none,none,none,none]) (ρ':=ρq nd (th "call" [.int i,.tup (kg as),.tup (kg bs)]) kw (.fls (xs.map .int)) (cw r) H.length o6 o7) rfl rfl ?_) g.s (nH g _);unfold cL;rw[zt (ρ':=[some (.ref nd),some (th "call" [.int i,.tup (kg as),.tup (kg bs)]),some kw,some (.fls (xs.map .int)),some (cw r),none,none,none]) (h':=H) (by simp![kG,e1,xt,ei])]
 rw[zt (ρ':=ρq nd (th "call" [.int i,.tup (kg as),.tup (kg bs)]) kw (.fls (xs.map .int)) (cw r) H.length none none) (h':=H++[.dic (u5 (r.ns.zip xs))]) (by
  simp only[zD,iP,zh,ky,bnd,ze,zi,eC,zE,zq,r0,zd,zC]
  rfl)]
 rw[zt (ρ':=ρq nd (th "call" [.int i,.tup (kg as),.tup (kg bs)]) kw (.fls (xs.map .int)) (cw r) H.length o6 o7) (h':=H++[.dic (be kw (r.hs.zip (kg bs)) (u5 (r.ns.zip xs)))]) (by
  unfold xR
  rw[show eu [zi zw (ze 4) (eC (.int 1)),zi zw (ze 1) (eC (.int 3))] (ρq nd (th "call" [.int i,.tup (kg as),.tup (kg bs)]) kw (.fls (xs.map .int)) (cw r) H.length none none) (H++[.dic (u5 (r.ns.zip xs))])=some (.items ((r.hs.zip (kg bs)).map λp=>.tup [.str p.1,p.2]),H++[.dic (u5 (r.ns.zip xs))]) by
   simp only[eu,ky,bnd,ze,zi,eC,zE,zq,r1,pO,zz]]
  exact lp)]
 exact vb (iK (F:=F) (H1:=H++[.dic (be kw (r.hs.zip (kg bs)) (u5 (r.ns.zip xs)))]) (H2:=H++[.dic (be kw (r.hs.zip (kg bs)) (u5 (r.ns.zip xs)))]) g2 g2 hw rfl (by simp![r2]) rfl)
end
mutual
inductive VlR(na:Nat)(H:MH)(ca:List Nat)(b:Nat):Vl->W->Prop
 | int (i:Int):VlR na H ca b (.int i) (.int i)
 | cell {c n:Nat} (h:ca[c]?=some n):VlR na H ca b (.cell c) (.ref n)
 | hd {d:D} {env:Ev} {w:W} (e:EvR na H ca b env w):VlR na H ca b (.hd d env) (.tup [zk d,w])
inductive EvR(na:Nat)(H:MH)(ca:List Nat)(b:Nat):Ev->W->Prop
 | nil:EvR na H ca b [] (.fdc [])
 | mk {env:Ev} {l:List (Key×W)} {n:Nat} (f:Str->W) (h:H[n]?=some (.dic l)) (hx:n≠na) (hl:l.length<=b) (r:∀v x,lk env v=some x->wf l (.inr v)=some (f v)) (q:∀v x,lk env v=some x->VlR na H ca b x (f v)):EvR na H ca b env (.ref n)
end
noncomputable def DicP(na:Nat)(H H':MH):Prop:=∀n l,n≠na->H[n]?=some (.dic l)->H'[n]?=some (.dic l)
section
variable{na:Nat}{H H':MH}{ca ca':List Nat}{b b':Nat}
mutual
theorem VlR.mono(p:DicP na H H')(hc:ca<+:ca')(hb:b<=b'):∀{x:Vl} {w:W},VlR na H ca b x w->VlR na H' ca' b' x w
 | _,_,.int i=>.int i
 | _,_,.cell h=>.cell (by
   obtain⟨t,rfl⟩:=hc
   rw[zy (zS h)];exact h)
 | _,_,.hd e=>.hd (EvR.mono p hc hb e)
theorem EvR.mono(p:DicP na H H')(hc:ca<+:ca')(hb:b<=b'):∀{x:Ev} {w:W},EvR na H ca b x w->EvR na H' ca' b' x w
 | _,_,.nil=>.nil
 | _,_,.mk f h hx hl r q=>.mk f (p _ _ hx h) hx (zR hl hb) r λv x e=>VlR.mono p hc hb (q v x e)
end
def EvR.di(e:EvR na H ca b env w):∃l,xy H w=some l/\l.length<=b/\∀v x,lk env v=some x->∃w',wf l (.inr v)=some w'/\VlR na H ca b x w':=by
 cases e with
 | nil=>exact⟨[],rfl,qO _,λv x h=>by cases h⟩
 | mk f h hx hl r q=>exact⟨_,by simp only[xy,h],hl,λv x e=>⟨f v,r v x e,q v x e⟩⟩
def EvR.get(e:EvR na H ca b env w)(h:lk env v=some x):∃w',yn w (.str v) H=some (w',H)/\VlR na H ca b x w':=by
 obtain⟨l,h1,h2,h3⟩:=e.di;obtain⟨w',h4,h5⟩:=h3 v x h;exact⟨w',by simp only[yn,h1,keyOf,h4],h5⟩
theorem EvR.low(e:EvR na H ca b env w):ML.low H.length w=true:=by
 cases e with
 | nil=>unfold ML.low;unfold nq;rfl
 | mk f h hx hl r q=>unfold ML.low;exact qt (zS h)
def uw{p:Key×W}:wf (p::r) k=if p.1=k then some p.2 else wf r k:=by
 unfold wf;rw[jB];by_cases q:p.1=k<;>simp[q]
def XO:wf (jv l k v) k'=if k=k' then some v else wf l k':=by
 have mp0:∀l:List (Key×W),¬k=k'->wf (l.map λkv=>if kv.1=k then (kv.1,v) else kv) k'=wf l k':=by
  intro l q;induction l with
  | nil=>rfl
  | cons p r ih=>
   rw[zx,uw,uw,ih];by_cases q1:p.1=k
   .have:¬p.1=k':=λz=>q (q1.symm.trans z)
    simp only[q1,kE,q,this,jj]
   .simp only[q1,jj]
 have mp:∀l:List (Key×W),(l.any λkv=>decide (kv.1=k))=true->wf (l.map λkv=>if kv.1=k then (kv.1,v) else kv) k=some v:=by
  intro l;induction l with
  | nil=>intro h;simp at h
  | cons p r ih=>
   intro h;rw[zx,uw];by_cases q1:p.1=k
   .simp only[q1,kE]
   .simp only[q1,jj]
    exact ih (by simpa[q1] using h)
 unfold jv;split
 .rename_i h
  by_cases q:k=k'
  .subst q;rw[zY rfl];exact mp l h
  .rw[kO q];exact mp0 l q
 .rename_i h
  have ap:∀l:List (Key×W),(l.any λkv=>decide (kv.1=k))≠true->wf (l++[(k,v)]) k'=if k=k' then some v else wf l k':=by
   intro l;induction l with
   | nil=>intro _;rw[kI,uw]
   | cons p r ih=>
    intro h;rw[jk,uw,uw,ih (λz=>h (by simp[z]))];by_cases q1:p.1=k'
    .have:¬k=k':=λz=>h (by simp[q1.trans z.symm])
     simp only[q1,kE,this,jj]
    .simp only[q1,jj]
  exact ap l h
noncomputable def LR(na:Nat)(H:MH)(ca:List Nat)(b:Nat)(l:List (Key×W))(env:Ev):Prop:=∀v x,lk env v=some x->∃w',wf l (.inr v)=some w'/\VlR na H ca b x w'
def LR.put(h:LR na H ca b l env)(r:VlR na H ca b x w):LR na H ca b (jv l (.inr v) w) ((v,x)::env):=by
 intro u y e;rw[xc] at e;rw[XO];by_cases q:v=u
 .subst q
  rw[zY rfl] at e;injection e with e;subst e;exact⟨w,by simp,r⟩
 .rw[kO q] at e
  obtain⟨w',h1,h2⟩:=h u y e;exact⟨w',by rw[kO (λz=>q (yp z)),h1],h2⟩
def LR.ev{l:List (Key×W)}(h:LR na H ca b l env)(hn:H[n]?=some (.dic l))(hx:n≠na)(hl:l.length<=b):EvR na H ca b env (.ref n):=
 .mk (λv=>(wf l (.inr v)).getD .non) hn hx hl (λv x e=>by obtain⟨w',h1,h2⟩:=h v x e;rw[h1];rfl) λv x e=>by obtain⟨w',h1,h2⟩:=h v x e;rw[h1];exact h2
theorem LR.mono(h:LR na H ca b l env)(p:DicP na H H')(hc:ca<+:ca')(hb:b<=b'):LR na H' ca' b' l env:=λv x e=>let ⟨w',h1,h2⟩:=h v x e;⟨w',h1,h2.mono p hc hb⟩
theorem LR.ints:∀(ps:List (Str×Int)) {l:List (Key×W)} {env:Ev},LR na H ca b l env->LR na H ca b (qE l (ps.map λp=>(.inr p.1,.int p.2))) (ps.foldl (λe p=>(p.1,.int p.2)::e) env)
 | [],l,env,h=>h
 | p::ps,l,env,h=>LR.ints ps (h.put (.int p.2))
theorem LR.hds{env0:Ev}(e0:EvR na H ca b env0 kw):∀(hs:List Str) (bs:List D) {l:List (Key×W)} {env:Ev},LR na H ca b l env->LR na H ca b (be kw (hs.zip (kg bs)) l) ((hs.zip bs).foldl (λe p=>(p.1,.hd p.2 env0)::e) env)
 | [],_,l,env,h=>h
 | _::_,[],l,env,h=>by simpa[kg,be] using h
 | x::hs,d::bs,l,env,h=>by
  simp only[kg,jq,jX,be];exact LR.hds e0 hs bs (h.put (.hd e0))
def uy(X:MH):DicP na H (H++X):=λn l _ h=>by rw[zy (zS h)];exact h
def uz(h:H[a]?=some o)(ho:∀l,o≠.dic l):DicP na H (H.set a o'):=λn l _ e=>by
 have:a≠n:=λz=>by subst z;rw[h] at e;injection e with e;exact ho l e
 rw[zF this];exact e
def DicP.trans(a:DicP na H H')(c:DicP na H' H''):DicP na H H'':=λn l hn e=>c n l hn (a n l hn e)
end
inductive StR(na:Nat)(H:MH)(ca:List Nat)(b:Nat):List vk->List W->Prop
 | nil:StR na H ca b [] []
 | cons {pd:Bool} {d:D} {env:Ev} {kw:W} {stk:List vk} {st:List W} (e:EvR na H ca b env kw) (r:StR na H ca b stk st):StR na H ca b ((pd,d,env)::stk) (st++[.tup [.bl pd,zk d,kw]])
theorem StR.mono{H:MH}(h:StR na H ca b stk st)(p:DicP na H H')(hc:ca<+:ca')(hb:b<=b'):StR na H' ca' b' stk st:=by
 induction h with
 | nil=>exact .nil
 | cons e r ih=>exact .cons (e.mono p hc hb) ih
def StR.len{H:MH}{stk:List vk}{st:List W}(h:StR na H ca b stk st):st.length=stk.length:=by
 induction h with
 | nil=>rfl
 | cons e r ih=>simp[ih]
noncomputable def vF(ws:List Int):List W:=ws.reverse.map .int
structure Sim(na:Nat)(rs:List Rule)(H:MH)(nd ns nw:Nat)(ca:List Nat)(s:Nat)(st:List W)(stk:List vk)(ws cs:List Int)(t:W):Prop where
 g:Dg H nd ns nw (ki rs) st (vF ws) t
 sr:StR na H ca s stk st
 cl:ca.length=cs.length
 ce:∀(c n:Nat) (i:Int),ca[c]?=some n->cs[c]?=some i->H[n]?=some (.lst [.int i])
 cn:ca.Nodup
 cx:∀n∈ca,n≠nd/\n≠ns/\n≠nw
 l1:stk.length<=s
 l2:ws.length<=s
structure Fm(A:List Nat)(H H':MH):Prop where
 l:H.length<=H'.length
 k:∀n o,n∉A->H[n]?=some o->H'[n]?=some o
def Fm.refl{H:MH}:Fm A H H:=⟨zj _,λ_ _ _ e=>e⟩
def Fm.trans{H:MH}(a:Fm A H H')(b:Fm A H' H''):Fm A H H'':=⟨zR a.l b.l,λn o h e=>b.k n o h (a.k n o h e)⟩
theorem Fm.set{H:MH}(h:a∈A):Fm A H (H.set a o):=⟨by rw[kZ];exact zj _,λn o' hn e=>by
 have q:a≠n:=λz=>hn (by rw[<-z];exact h)
 rw[zF q];exact e⟩
def Fm.app{H:MH}(X:MH):Fm A H (H++X):=⟨by rw[zN];omega,λn o _ e=>by rw[zy (zS e)];exact e⟩
def Fm.sub{H:MH}(a:Fm A H H')(h:∀n∈A,n∈B):Fm B H H':=⟨a.l,λn o hn e=>a.k n o (λz=>hn (h n z)) e⟩
section
variable{na:Nat}{rs:List Rule}{H:MH}{nd ns nw:Nat}{ca:List Nat}{s:Nat}{st:List W}{stk:List vk}{ws cs:List Int}{t:W}
def Sim.more(S:Sim na rs H nd ns nw ca s st stk ws cs t)(h:s<=s'):Sim na rs H nd ns nw ca s' st stk ws cs t:=⟨S.g,S.sr.mono (λ_ _ _ e=>e) (zP _) h,S.cl,S.ce,S.cn,S.cx,zR S.l1 h,zR S.l2 h⟩
theorem Sim.app(S:Sim na rs H nd ns nw ca s st stk ws cs t)(X:MH):Sim na rs (H++X) nd ns nw ca s st stk ws cs t:=
 ⟨S.g.app X,S.sr.mono (uy X) (zP _) (zj _),S.cl,λc n i a b=>by have:=S.ce c n i a b;rw[zy (zS this)];exact this,S.cn,S.cx,S.l1,S.l2⟩
def Sim.cnot(S:Sim na rs H nd ns nw ca s st stk ws cs t){c:Nat}(h:ca[c]?=some n)(ha:a=nd\/a=ns\/a=nw):a≠n:=by
 have:=S.cx n (ju h);rcases ha with rfl | rfl | rfl
 .exact this.1.symm
 .exact this.2.1.symm
 .exact this.2.2.symm
theorem Sim.worths(S:Sim na rs H nd ns nw ca s st stk ws cs t){ws':List Int}(h:ws'.length<=s):Sim na rs (H.set nw (.lst (vF ws'))) nd ns nw ca s st stk ws' cs t:=
 ⟨S.g.worths _,S.sr.mono (uz S.g.w (λ_=>nofun)) (zP _) (zj _),S.cl,λc n i a b=>by rw[zF (S.cnot a (.inr (.inr rfl)))];exact S.ce c n i a b,S.cn,S.cx,S.l1,h⟩
theorem Sim.ahead(S:Sim na rs H nd ns nw ca s st stk ws cs t)(t':W):Sim na rs (H.set nd (.ins 0 (yA (ki rs) ns nw t'))) nd ns nw ca s st stk ws cs t':=
 ⟨S.g.ahead _,S.sr.mono (uz S.g.d (λ_=>nofun)) (zP _) (zj _),S.cl,λc n i a b=>by rw[zF (S.cnot a (.inl rfl))];exact S.ce c n i a b,S.cn,S.cx,S.l1,S.l2⟩
theorem Sim.steps(S:Sim na rs H nd ns nw ca s st stk ws cs t){stk':List vk}(r:StR na H ca s stk' st')(h:stk'.length<=s):Sim na rs (H.set ns (.lst st')) nd ns nw ca s st' stk' ws cs t:=
 ⟨S.g.steps _,r.mono (uz S.g.s (λ_=>nofun)) (zP _) (zj _),S.cl,λc n i a b=>by rw[zF (S.cnot a (.inr (.inl rfl)))];exact S.ce c n i a b,S.cn,S.cx,h,S.l2⟩
theorem Sim.cell(S:Sim na rs H nd ns nw ca s st stk ws cs t){c n:Nat}{x:Int}(h:ca[c]?=some n)(hc:c<cs.length):Sim na rs (H.set n (.lst [.int x])) nd ns nw ca s st stk ws (cs.set c x) t:=by
 have old:=S.ce c n cs[c] h (zB hc);have nn:=S.cx n (ju h);refine⟨S.g.cell nn.1 nn.2.1 nn.2.2,S.sr.mono (uz old (λ_=>nofun)) (zP _) (zj _),by rw[kZ];exact S.cl,λc' n' i a b=>?_,S.cn,S.cx,S.l1,S.l2⟩;by_cases q:c'=c
 .subst q
  rw[h] at a;injection a with a;subst a;rw[zH hc] at b;injection b with b;subst b;exact zH (zS old)
 .rw[zF (kY q)] at b
  have:n≠n':=λz=>by
   subst z;have h1:=zS h;have h2:=zS a;rw[zB h1] at h;rw[zB h2] at a;injection h with h;injection a with a;exact q ((vf S.cn).mp (a.trans h.symm))
  rw[zF this];exact S.ce c' n' i a b
def Sim.newc(S:Sim na rs H nd ns nw ca s st stk ws cs t)(x:Int):Sim na rs (H++[.lst [.int x]]) nd ns nw (ca++[H.length]) s st stk ws (cs++[x]) t:=by
 have lt:∀n∈ca,n<H.length:=λn hn=>by
  obtain⟨c,hc⟩:=jA.mp hn;have h1:c<cs.length:=by rw[<-S.cl];exact zS hc
  exact zS (S.ce c n cs[c] hc (zB h1))
 refine⟨S.g.app _,S.sr.mono (uy _) (jl _ _) (zj _),by simp[S.cl],λc n i a b=>?_,?_,λn hn=>?_,S.l1,S.l2⟩
 .by_cases q:c<ca.length
  .rw[zy q] at a
   rw[zy (by rw[<-S.cl];exact q)] at b;have:=S.ce c n i a b;rw[zy (zS this)];exact this
  .rw[zG ∅] at a
   rw[zG (by rw[<-S.cl];omega)] at b;have z:c-ca.length=0:=by have:=zS a;simp at this;omega
   rw[z] at a;rw[<-S.cl,z] at b;simp at a b;subst a;subst b;exact at0 _ _
 .rw[wZ]
  exact⟨S.cn,by simp,λa ha b hb=>by simp at hb;subst hb;exact zW (lt a ha)⟩
 .rcases zU.mp hn with z | z
  .exact S.cx n z
  .simp at z
   subst z;have h1:=zS S.g.d;have h2:=zS S.g.s;have h3:=zS S.g.w;omega
end
noncomputable def tW:Tch->W
 | .read v=>.tup [.str "read",.str v]
 | .write v i=>.tup [.str "write",.str v,.int i]
 | .say i=>.tup [.str "say",.int i]
 | .ask=>.tup [.str "ask"]
def lU(t:Tch):tW t≠.non:=by cases t<;>exact nofun
section
variable{na:Nat}{rs:List Rule}{H:MH}{nd ns nw:Nat}{ca:List Nat}{s:Nat}{st:List W}{stk:List vk}{ws cs:List Int}{t:W}{G F:Fs}
def VU{d:D}{wo:List W}{f:List W->M W}(g:Dg H nd ns nw rl st wo t)(hf:G.au [zk d] H=some (.tup (kg d.first),H))(hp:pd=true\/d.first=[])(ht:G.aN [.ref nw,.int (d.first.length:Int)] H=some (.fls vs,H1))(hd:zk d=th x r)(hw:(qB G).lookup x=some f)(e:f [.ref nd,th x r,kw,.fls vs] H1=some (w,H2)):kd 4 1 (aq G) [.ref nd,.bl pd,zk d,kw] H=some (.non,H2):=by
 refine yT (ρ:=[some (.ref nd),some (.bl pd),some (zk d),some kw,none]) (ρ':=[some (.ref nd),some (.bl pd),some (zk d),some kw,some (.tup (kg d.first))]) rfl rfl ?_;unfold aq;rw[zt (ρ':=[some (.ref nd),some (.bl pd),some (zk d),some kw,some (.tup (kg d.first))]) (h':=H) (by simp![hf])];have lt:(kg d.first).length=d.first.length:=by rw[xM,zO]
 have tt:(hZ (ke (ze 1)) (ke (zi (vn false) (zh kT [ze 4]) (eC (.int 0))))) [some (.ref nd),some (.bl pd),some (zk d),some kw,some (.tup (kg d.first))] H=some (true,H):=by
  rcases hp with rfl | hp
  .simp![]
  .cases pd
   .rw[hp];simp![kg,kT,vt]
   .simp![]
 unfold k8;rw[tt];simp only[kE];refine vb (w:=w) ?_;have e1:=g.fW;unfold Kd;rw[hd];simp only[bnd,zi,ze,eC,zE,zq,xZ,hw,ky,zh,kG,e1,kT,xT,lt,ht,e]
def Je{d:D}{wo:List W}(g:Dg H nd ns nw rl st wo t)(hf:G.au [zk d] H=some (.tup (kg d.first),H))(hp:d.first≠[])(hl:d.first.length<=4)(hs:st.length+10<=cap)(lk':low H.length kw=true):kd 4 1 (aq G) [.ref nd,.bl false,zk d,kw] H=some (.non,H.set ns (.lst ((st++[.tup [.bl true,zk d,kw]])++(kg d.first).reverse.map λp=>.tup [.bl false,p,kw]))):=by
 refine yT (ρ:=[some (.ref nd),some (.bl false),some (zk d),some kw,none]) (ρ':=[some (.ref nd),some (.bl false),some (zk d),some kw,some (.tup (kg d.first))]) rfl rfl ?_;unfold aq;rw[zt (ρ':=[some (.ref nd),some (.bl false),some (zk d),some kw,some (.tup (kg d.first))]) (h':=H) (by simp![hf])];have c3:(3:Nat)<=cap:=by decide
 have lt:(kg d.first).length=d.first.length:=by rw[xM,zO]
 have n0:((((d.first.length:Nat):Int))==0)=false:=by
  rw[jr];intro z;exact hp (jJ.mp ∅)
 have tt:(hZ (ke (ze 1)) (ke (zi (vn false) (zh kT [ze 4]) (eC (.int 0))))) [some (.ref nd),some (.bl false),some (zk d),some kw,some (.tup (kg d.first))] H=some (false,H):=by
  simp![kT,lt,vt,n0]
 unfold k8;rw[tt];simp only[jE,jj];have e1:=g.fS;have e2:=g.s;have sl:st.length<cap:=by omega
 have a1:kr (kD qf (kG kx "steps" (ze 0)) [zh zv [eC (.bl true),ze 2,ze 3]]) [some (.ref nd),some (.bl false),some (zk d),some kw,some (.tup (kg d.first))] H=some (.nx [some (.ref nd),some (.bl false),some (zk d),some kw,some (.tup (kg d.first))],H.set ns (.lst (st++[.tup [.bl true,zk d,kw]]))):=by
  simp![kG,e1,kD,getL,e2,zv,c3,qf,sl]
 rw[zt a1];have g2:=g.steps (st++[.tup [.bl true,zk d,kw]]);have lk2:low (H.set ns (.lst (st++[.tup [.bl true,zk d,kw]]))).length kw=true:=by rw[kZ];exact lk'
 suffices fin:∀H2:MH,Dg H2 nd ns nw rl (st++[.tup [.bl true,zk d,kw]]) wo t->low H2.length kw=true->kr (kD uP (kG kx "steps" (ze 0)) [ja (nB [ze 4]) 1 [3] (zC 0) kL (zh zv [eC (.bl false),ze 0,ze 1])]) [some (.ref nd),some (.bl false),some (zk d),some kw,some (.tup (kg d.first))] H2=some (.nx [some (.ref nd),some (.bl false),some (zk d),some kw,some (.tup (kg d.first))],H2.set ns (.lst ((st++[.tup [.bl true,zk d,kw]])++(kg d.first).reverse.map λp=>.tup [.bl false,p,kw]))) by
  have:=fin _ g2 lk2;rw[yS] at this;exact this
 clear g2 lk2;intro H2 g2 lk2;have cp:=dA (mi:=nB [ze 4]) (ks:=[3]) (t:=kL) (m:=zh zv [eC (.bl false),ze 0,ze 1]) (ρ:=[some (.ref nd),some (.bl false),some (zk d),some kw,some (.tup (kg d.first))]) (h:=H2) (l:=(kg d.first).reverse) (λ_=>true) (λp=>.tup [.bl false,p,kw])
  (by simp only[nB,ky,bnd,ze,zE,zq,QZ]) (λw _ H'=>rfl) (λw _ _ H'=>by simp![zv,c3])
  (λw hw _=>by
   have:low H2.length w=true:=cq (c9 _ _) w (List.mem_reverse.mp hw);unfold low lows low lows;rw[this];unfold lows;rw[lk2];unfold lows
   rfl)
  (by rw[jW,lt];exact zR hl (by decide))
 rw[filter_true] at cp;have f1:=g2.fS;have f2:=g2.s;have sl2:st.length+1+d.first.length<=cap:=by omega
 unfold kr kD;simp only[bnd,kG,ze,zq,f1,getL,f2,vJ,kE,ky,cp,uP,xT,zN,zp,zV,zO,jW,lt,sl2]
theorem f_take(F:Fs):(step F).aL=gc (kd 4 1 (aq F)):=rfl
def eT(ws:List Int):(vF ws).length=ws.length:=by simp[vF]
def sU{f:List W->M W}{stk':List vk}{ws':List Int}(e:f as H=some (w,H2))(S:Sim na rs H nd ns nw ca s st stk ws cs t)(S2:Sim na rs H2 nd ns nw ca' s' st' stk' ws' cs' t')(h:ws.length≠ws'.length\/stk.length≠stk'.length\/t'≠t):gc f as H=some (w,H2):=by
 rcases h with h | h | h
 .refine yb e S.g.w ?_
  rw[S2.g.w];intro z;injection z with z;injection z with z;have:=jR List.length z;rw[eT,eT] at this;omega
 .refine yb e S.g.s ?_
  rw[S2.g.s];intro z;injection z with z;injection z with z;have:=jR List.length z;rw[S.sr.len,S2.sr.len] at this;omega
 .refine yb e S.g.d ?_
  rw[S2.g.d];intro z;injection z with z;injection z with _ z;simp only[jK,wQ] at z;exact h z.2.2.2.1.2
def YV(xs ws:List Int):vF (xs.reverse++ws)=vF ws++xs.map .int:=by simp[vF]
def DZ{xs:List Int}(S:Sim na rs H nd ns nw ca s st stk (xs.reverse++ws) cs t)(hl:xs.length<=1000):∃X,(step G).aN [.ref nw,.int (xs.length:Int)] H=some (.fls (xs.map .int),H.set nw (.lst (vF ws))++X):=by
 have h1:=S.g.w;rw[YV] at h1;by_cases q:xs=[]
 .subst q
  simp only[jh,z9] at h1;refine⟨[],?_⟩;rw[z9,set_same h1];exact Vh h1
 .exact⟨_,XG (n:=xs.length) h1 (by simp) hl (by simpa using q)⟩
end
def f7(v:Int)(ws:List Int):vF (v::ws)=vF ws++[.int v]:=by simp[vF]
section
variable{na:Nat}{rs:List Rule}{H:MH}{nd ns nw:Nat}{ca:List Nat}{s:Nat}{st:List W}{stk:List vk}{ws cs:List Int}{t:W}{F:Fs}
theorem sH(E:EvR na H ca b env kw):∀(l:List D) {st1:List W} {stk1:List vk},StR na H ca b stk1 st1->StR na H ca b (l.map (λa=>(false,a,env))++stk1) (st1++(kg l).reverse.map λp=>.tup [.bl false,p,kw])
 | [],st1,stk1,h=>by simpa[kg] using h
 | a::l,st1,stk1,h=>by
  have ih:=sH E l h;have e:st1++(kg (a::l)).reverse.map (λp=>W.tup [.bl false,p,kw])=(st1++(kg l).reverse.map λp=>W.tup [.bl false,p,kw])++[.tup [.bl false,zk a,kw]]:=by simp[kg]
  rw[e];exact .cons E ih
def gC{d:D}{f:List W->M W}{xs:List Int}(S:Sim na rs H nd ns nw ca s st stk (xs.reverse++ws) cs t)(hx:xs.length=d.first.length)(hl:d.first.length<=4)(hp:pd=true\/d.first=[])(hd:zk d=th x r)(hw:(qB (step (step (step F)))).lookup x=some f) :
  ∃X,∀w H2,f [.ref nd,th x r,kw,.fls (xs.map .int)] (H.set nw (.lst (vF ws))++X)=some (w,H2)->kd 4 1 (aq (step (step (step F)))) [.ref nd,.bl pd,zk d,kw] H=some (.non,H2):=by
 obtain⟨X,e⟩:=DZ (G:=step (step F)) S ∅;rw[hx] at e;exact⟨X,λw H2 h=>VU S.g (Zj d) hp e hd hw h⟩
noncomputable def lC(F:Fs)(na:Nat)(rs:List Rule)(H:MH)(nd ns nw:Nat)(ca:List Nat)(s:Nat)(pd:Bool)(d:D)(kw:W)(stk:List vk)(ws cs:List Int)(t:W):Prop:=
 ∃H' ca' st',(step (step (step (step F)))).aL [.ref nd,.bl pd,zk d,kw] H=some (.non,H')/\Sim na rs H' nd ns nw ca' (s+4) st' stk ws cs t/\Fm (nd::ns::nw::ca) H H'/\∀n∈ca',n∈ca\/H.length<=n
def took{stk':List vk}{ws':List Int}(S:Sim na rs H nd ns nw ca s st stk ws cs t)(e:kd 4 1 (aq (step (step (step F)))) [.ref nd,.bl pd,zk d,kw] H=some (.non,H2))(S2:Sim na rs H2 nd ns nw ca' (s+4) st' stk' ws' cs' t')(fm:Fm (nd::ns::nw::ca) H H2)(hc:∀n∈ca',n∈ca\/H.length<=n)(h:ws.length≠ws'.length\/stk.length≠stk'.length\/t'≠t):lC F na rs H nd ns nw ca s pd d kw stk' ws' cs' t':=
 ⟨H2,ca',st',by rw[f_take];exact sU e S S2 h,S2,fm,hc⟩
variable{pd:Bool}{d:D}{kw:W}{x:Str}{r:List W}{f:List W->M W}{xs:List Int}
def off_fm:Fm (nd::ns::nw::ca) H (H.set nw o++X):=(Fm.set (by simp)).trans (Fm.app X)
def fv(S:Sim na rs H nd ns nw ca s st stk (xs.reverse++ws) cs t)(X:MH):Sim na rs (H.set nw (.lst (vF ws))++X) nd ns nw ca s st stk ws cs t:=
 (S.worths (ws':=ws) (by have:=S.l2;simp at this;omega)).app X
def iL(S:Sim na rs H nd ns nw ca s st stk (xs.reverse++ws) cs t)(X:MH):DicP na H (H.set nw (.lst (vF ws))++X):=(uz S.g.w (λ_=>nofun)).trans (uy X)
def x8(S:Sim na rs H nd ns nw ca s st stk (xs.reverse++ws) cs t)(hx:xs.length=d.first.length)(hl:d.first.length<=4)(hp:pd=true\/d.first=[])(hd:zk d=th x r)(hw:(qB (step (step (step F)))).lookup x=some f)(hs:s+100<=cap)(h1:xs.length≠1)
  (h:∀X,Dg (H.set nw (.lst (vF ws))++X) nd ns nw (ki rs) st (vF ws) t->(vF ws).length<cap->f [.ref nd,th x r,kw,.fls (xs.map .int)] (H.set nw (.lst (vF ws))++X)=some (.non,(H.set nw (.lst (vF ws))++X:MH).set nw (.lst (vF ws++[.int v])))):lC F na rs H nd ns nw ca s pd d kw stk (v::ws) cs t:=by
 obtain⟨X,e⟩:=gC (F:=F) (kw:=kw) S hx hl hp hd hw;have S1':=fv S X;have wl:=S1'.l2;have e2:=e _ _ (h X S1'.g (by rw[eT];omega));rw[<-f7] at e2;refine took S e2 ((S1'.more (s':=s+4) ∅).worths (by simp;omega)) (off_fm.trans (Fm.set (by simp))) (λn hn=>.inl hn) (.inl ?_);simp only[zN,jW,zp];omega
def x6(S:Sim na rs H nd ns nw ca s st stk (xs.reverse++ws) cs t)(hx:xs.length=d.first.length)(hl:d.first.length<=4)(hp:pd=true\/d.first=[])(hd:zk d=th x r)(hw:(qB (step (step (step F)))).lookup x=some f)(hs:s+100<=cap)
  (h:∀X,st.length<cap->Sim na rs (H.set nw (.lst (vF ws))++X) nd ns nw ca s st stk ws cs t->DicP na H (H.set nw (.lst (vF ws))++X)->∃(Y:MH) (ca':List Nat) (kw':W),f [.ref nd,th x r,kw,.fls (xs.map .int)] (H.set nw (.lst (vF ws))++X)=some (.non,((H.set nw (.lst (vF ws))++X)++Y:MH).set ns (.lst (st++[.tup [.bl false,zk d',kw']])))/\Sim na rs ((H.set nw (.lst (vF ws))++X)++Y) nd ns nw ca' (s+4) st stk ws cs' t/\EvR na ((H.set nw (.lst (vF ws))++X)++Y) ca' (s+4) env' kw'/\∀n∈ca',n∈ca\/H.length<=n):lC F na rs H nd ns nw ca s pd d kw ((false,d',env')::stk) ws cs' t:=by
 obtain⟨X,e⟩:=gC (F:=F) (kw:=kw) S hx hl hp hd hw;have l1:=S.l1;obtain⟨Y,ca',kw',e2,S2,E2,hc⟩:=h X (by rw[S.sr.len];omega) (fv S X) (iL S X);refine took S (e _ _ e2) (S2.steps (.cons E2 S2.sr) (by simp;omega)) ((off_fm.trans (Fm.app Y)).trans (Fm.set (by simp))) hc (.inr (.inl (by simp)))
def dS(S:Sim na rs H nd ns nw ca s st stk (xs.reverse++ws) cs .non)(hx:xs.length=d.first.length)(hl:d.first.length<=4)(hp:pd=true\/d.first=[])(hd:zk d=th x r)(hw:(qB (step (step (step F)))).lookup x=some f)
  (h:∀X,Dg (H.set nw (.lst (vF ws))++X) nd ns nw (ki rs) st (vF ws) .non->f [.ref nd,th x r,kw,.fls (xs.map .int)] (H.set nw (.lst (vF ws))++X)=some (.non,(H.set nw (.lst (vF ws))++X:MH).set nd (.ins 0 (yA (ki rs) ns nw (tW tt))))):lC F na rs H nd ns nw ca s pd d kw stk ws cs (tW tt):=by
 obtain⟨X,e⟩:=gC (F:=F) (kw:=kw) S hx hl hp hd hw;have S1':=fv S X;exact took S (e _ _ (h X S1'.g)) ((S1'.more (s':=s+4) ∅).ahead _) (off_fm.trans (Fm.set (by simp))) (λn hn=>.inl hn) (.inr (.inr (lU tt)))
end
def Zi(G:Fs):(qB G).lookup ("number":Str)=some G.bD/\(qB G).lookup ("name":Str)=some G.cT/\(qB G).lookup ("read":Str)=some G.bW/\(qB G).lookup ("write":Str)=some G.bw/\(qB G).lookup ("add":Str)=some G.dC/\(qB G).lookup ("less":Str)=some G.cU/\(qB G).lookup ("then":Str)=some G.cV/\(qB G).lookup ("if":Str)=some G.dJ/\(qB G).lookup ("loop":Str)=some G.cR/\(qB G).lookup ("let":Str)=some G.dw/\(qB G).lookup ("own":Str)=some G.dB/\(qB G).lookup ("say":Str)=some G.dq/\(qB G).lookup ("ask":Str)=some G.dm/\(qB G).lookup ("do":Str)=some G.bG/\(qB G).lookup ("call":Str)=some G.bZ:=by
 refine⟨?_,?_,?_,?_,?_,?_,?_,?_,?_,?_,?_,?_,?_,?_,?_⟩<;>kernel_rfl
section
variable{na:Nat}{rs:List Rule}{H:MH}{nd ns nw:Nat}{ca:List Nat}{s:Nat}{st:List W}{stk:List vk}{ws cs:List Int}{F:Fs}{pd:Bool}{d:D}{env:Ev}{kw:W}
def VC(S:Sim na rs H nd ns nw ca s st stk ws cs .non)(h:S1 rs pd d env ws cs (.tch tt ws')):lC F na rs H nd ns nw ca s pd d kw stk ws' cs (tW tt):=by
 have wy:=Zi (step (step (step F)));obtain⟨w1,w2,w3,w4,w5,w6,w7,w8,w9,w10,w11,w12,w13,w14,w15⟩:=wy;cases h with
 | readS h=>exact dS (xs:=[]) (d:=.read _) S rfl (by simp[D.first]) (.inr rfl) rfl w3 λX g=>QS g h
 | ask=>exact dS (xs:=[]) (d:=.ask) S rfl (by simp[D.first]) (.inr rfl) rfl w13 λX g=>X3 g
 | writeS h=>exact dS (xs:=[_]) (d:=.write _ _) S rfl (by simp[D.first]) (.inl rfl) rfl w4 λX g=>K8 g h
 | say=>exact dS (xs:=[_]) (d:=.say _) S rfl (by simp[D.first]) (.inl rfl) rfl w12 λX g=>XX g
theorem oM{i:Nat}(h:rs[i]?=some r):(ki rs)[i]?=some (cw r):=by
 unfold ki;rw[je,h];rfl
def X5(hr:RsOk rs)(S:Sim na rs H nd ns nw ca s st stk ws cs .non)(E:EvR na H ca s env kw)(hs:s+100<=cap)(h8:10<=s)(hna:na<H.length)(h:S1 rs pd d env ws cs (.gg p ws' cs')):lC F na rs H nd ns nw ca s pd d kw (p++stk) ws' cs' .non:=by
 have wy:=Zi (step (step (step F)));obtain⟨w1,w2,w3,w4,w5,w6,w7,w8,w9,w10,w11,w12,w13,w14,w15⟩:=wy;have hnaX:∀(o:MO) (X:MH),na<(H.set nw o++X).length:=λo X=>by rw[zN,kZ];omega
 cases h with
 | number=>exact x8 (xs:=[]) (d:=.number _) S rfl (by simp[D.first]) (.inr rfl) rfl w1 hs (by simp) λX g hw=>do_number g hw
 | name h=>
  exact x8 (xs:=[]) (d:=.name _) S rfl (by simp[D.first]) (.inr rfl) rfl w2 hs (by simp) λX g hw=>by
   obtain⟨w',e1,e2⟩:=(E.mono (iL (xs:=[]) S X) (zP _) (zj _)).get h;cases e2;exact do_name g hw e1
 | readO h ds hv hc=>
  exact x8 (xs:=[]) (d:=.read _) S rfl (by simp[D.first]) (.inr rfl) rfl w3 hs (by simp) λX g hw=>by
   obtain⟨w',e1,e2⟩:=(E.mono (iL (xs:=[]) S X) (zP _) (zj _)).get hv;cases e2 with | cell hn=>
   exact Vv g hw h ds e1 ((fv (xs:=[]) S X).ce _ _ _ hn hc)
 | doo h=>
  exact x6 (xs:=[]) (d:=.doo _) S rfl (by simp[D.first]) (.inr rfl) rfl w14 hs λX hw S1' dp=>by
   obtain⟨w',e1,e2⟩:=(E.mono dp (zP _) (zj _)).get h;cases e2 with | hd e2=>
   refine⟨[],ca,_,?_,by rw[z9];exact S1'.more ∅,by rw[z9];exact e2.mono (λ_ _ _ e=>e) (zP _) ∅,λn hn=>.inl hn⟩;rw[z9];exact do_handed S1'.g hw e1
 | push h hl=>
  have raw:=Je (G:=step (step (step F))) S.g (Zj d) h ∅ (by rw[S.sr.len];have:=S.l1;omega) E.low;have sr:=sH E d.first (.cons (pd:=true) (d:=d) E S.sr);have l1:=S.l1;refine took S raw ((S.more (s':=s+4) ∅).steps (stk':=(d.first.map (λa=>(false,a,env))++[(true,d,env)])++stk) ?_ ?_) (Fm.set (by simp)) (λn hn=>.inl hn) (.inr (.inl ?_))
  .rw[kj]
   exact sr.mono (λ_ _ _ e=>e) (zP _) ∅
  .simp;omega
  .simp;omega
 | @writeO v a x c _ ws0 _ h ds hv hc=>
  obtain⟨X,e⟩:=gC (F:=F) (kw:=kw) (xs:=[x]) (pd:=true) (d:=.write v a) (ws:=ws0) S rfl (by simp[D.first]) (.inl rfl) rfl w4;have S1':=fv (xs:=[x]) (ws:=ws0) S X;have E1:=E.mono (iL (xs:=[x]) (ws:=ws0) S X) (zP _) (zj _);obtain⟨w',e1,e2⟩:=E1.get hv;cases e2 with | @cell _ n hn=>
  have lw:=S.l2;simp only[zp] at lw;have nn:=S.cx n (ju hn);have old:=S1'.ce c n cs[c] hn (zB hc);have raw:=e _ _ (Qt (x:=.int x) (a:=zk a) S1'.g (by rw[eT];omega) h ds e1 old nn.1 nn.2.1 nn.2.2);rw[<-f7] at raw;have S2:=(S1'.cell (x:=x) hn hc).worths (ws':=x::ws0) (by simp;omega);exact⟨_,ca,st,by rw[f_take];exact fw raw,S2.more ∅,(off_fm.trans (Fm.set (by simp[ju hn]))).trans (Fm.set (by simp)),λn hn=>.inl hn⟩
 | @add a b x y=>exact x8 (xs:=[x,y]) (d:=.add a b) S rfl (by simp[D.first]) (.inl rfl) rfl w5 hs (by simp) λX g hw=>do_add g hw
 | @less a b x y=>exact x8 (xs:=[x,y]) (d:=.less a b) S rfl (by simp[D.first]) (.inl rfl) rfl w6 hs (by simp) λX g hw=>do_less g hw
 | @thenn a b x y=>exact x8 (xs:=[x,y]) (d:=.thenn a b) S rfl (by simp[D.first]) (.inl rfl) rfl w7 hs (by simp) λX g hw=>do_then g hw
 | @iff a b c x=>
  exact x6 (xs:=[x]) (d:=.iff a b c) S rfl (by simp[D.first]) (.inl rfl) rfl w8 hs λX hw S1' dp=>by
   refine⟨[],ca,kw,?_,by rw[z9];exact S1'.more ∅,by rw[z9];exact E.mono dp (zP _) ∅,λn hn=>.inl hn⟩;rw[z9];have:=do_if (F:=step F) (x:=x) (a:=zk a) (b:=zk b) (c:=zk c) (kw:=kw) S1'.g hw;by_cases q:x=0
   .simp only[q,kE] at this ⊢;exact this
   .simp only[q,jj] at this ⊢;exact this
 | @loop a b x=>
  exact x6 (xs:=[x]) (d:=.loop a b) S rfl (by simp[D.first]) (.inl rfl) rfl w9 hs λX hw S1' dp=>by
   refine⟨[],ca,kw,?_,by rw[z9];exact S1'.more ∅,by rw[z9];exact E.mono dp (zP _) ∅,λn hn=>.inl hn⟩;rw[z9];have:=do_loop (F:=step F) (x:=x) (a:=a) (b:=b) (kw:=kw) S1'.g hw;simp only[zk] at this;exact this
 | @lett v a b x=>
  exact x6 (xs:=[x]) (d:=.lett v a b) S rfl (by simp[D.first]) (.inl rfl) rfl w10 hs λX hw S1' dp=>by
   have E1:=E.mono dp (zP _) (zj _);obtain⟨l,d1,d2,d3⟩:=E1.di;have h1:=hnaX (.lst (vF ws')) X;generalize H.set nw (.lst (vF ws'))++X=H1 at S1' E1 d1 d3 h1 ⊢;have pl:=cK (l:=l) (k:=.inr v) (v:=.int x);have L:LR na (H1++[.dic (jv l (.inr v) (.int x))]) ca (s+4) l env:=LR.mono (H:=H1) (ca:=ca) (b:=s) d3 (uy _) (zP _) ∅;exact⟨[.dic (jv l (.inr v) (.int x))],ca,.ref H1.length,do_let S1'.g hw d1 ∅,(S1'.app _).more ∅,(L.put (v:=v) (.int x)).ev (at0 _ _) ∅ ∅,λn hn=>.inl hn⟩
 | @own v a b x=>
  exact x6 (xs:=[x]) (d:=.own v a b) S rfl (by simp[D.first]) (.inl rfl) rfl w11 hs λX hw S1' dp=>by
   have E1:=E.mono dp (zP _) (zj _);have h1:=hnaX (.lst (vF ws')) X;have h2:H.length<=(H.set nw (.lst (vF ws'))++X).length:=by rw[zN,kZ];omega
   generalize H.set nw (.lst (vF ws'))++X=H1 at S1' E1 h1 h2 ⊢;obtain⟨l,d1,d2,d3⟩:=(E1.mono (uy [.lst [.int x]]) (zP _) (zj _)).di;have pl:=cK (l:=l) (k:=.inr v) (v:=.ref H1.length);have ap:H1++[.lst [.int x],.dic (jv l (.inr v) (.ref H1.length))]=(H1++[.lst [.int x]])++[.dic (jv l (.inr v) (.ref H1.length))]:=by rw[kj];rfl
   have L:LR na (H1++[.lst [.int x],.dic (jv l (.inr v) (.ref H1.length))]) (ca++[H1.length]) (s+4) l env:=by
    rw[ap];exact LR.mono (H:=H1++[MO.lst [.int x]]) (ca:=ca) (b:=s) d3 (uy _) (jl _ _) ∅
   have at1:(H1++[.lst [.int x],.dic (jv l (.inr v) (.ref H1.length))]:MH)[H1.length+1]?=some (.dic (jv l (.inr v) (.ref H1.length))):=by
    rw[zG ∅,show H1.length+1-H1.length=1 by omega];rfl
   have cc:(ca++[H1.length])[cs.length]?=some H1.length:=by rw[<-S1'.cl];exact at0 _ _
   refine⟨[.lst [.int x],.dic (jv l (.inr v) (.ref H1.length))],ca++[H1.length],.ref (H1.length+1),do_own S1'.g hw d1 ∅,?_,(L.put (v:=v) (.cell cc)).ev at1 ∅ ∅,λn hn=>?_⟩
   .rw[ap]
    exact((S1'.newc x).app _).more ∅
   .rcases zU.mp hn with z | z
    .exact .inl z
    .simp at z
     exact .inr ∅
 | @call pd i as bs r xs _ _ _ hp hri hx ha hb=>
  have rl:=hr.l i r hri;exact x6 (xs:=xs) (d:=.call i as bs) S hx (by simp only[D.first];omega) hp rfl w15 hs λX hw S1' dp=>by
   have E1:=E.mono dp (zP _) (zj _);have h1:=hnaX (.lst (vF ws')) X;generalize H.set nw (.lst (vF ws'))++X=H1 at S1' E1 h1 ⊢;have l0:=gO ((r.ns.zip xs).map λp=>(.inr p.1,.int p.2)) [];have l1:=Zw (kw:=kw) (r.hs.zip (kg bs)) (u5 (r.ns.zip xs));rw[zO,qd,zV] at l0;rw[qd] at l1;unfold u5 at l1;have L0:LR na (H1++[.dic (be kw (r.hs.zip (kg bs)) (u5 (r.ns.zip xs)))]) ca (s+4) [] []:=λv x h=>by cases h
   have E2:=E1.mono (b':=s+4) (uy [.dic (be kw (r.hs.zip (kg bs)) (u5 (r.ns.zip xs)))]) (zP _) ∅;have L1:=LR.hds E2 r.hs bs (LR.ints (r.ns.zip xs) L0);have dc:=do_call (F:=step F) (i:=i) (as:=as) (bs:=bs) (r:=r) (xs:=xs) (kw:=kw) S1'.g hw (oM hri) ∅ ∅;simp only[zk] at dc;refine⟨[.dic (be kw (r.hs.zip (kg bs)) (u5 (r.ns.zip xs)))],ca,.ref H1.length,dc,(S1'.app _).more ∅,LR.ev L1 (at0 _ _) ∅ ?_,λn hn=>.inl hn⟩;omega
end
noncomputable def WL:Tch->Prop
 | .read v=>v∈SH
 | .write v _=>v∈SH
 | _=>True
inductive Ac(na:Nat)(rs:List Rule)(H:MH)(nd ns nw:Nat)(ca:List Nat)(s:Nat)(T:Tr Int)(c:Nat):Prop
 | mk {st:List W} {stk:List vk} {ws cs:List Int} (S:Sim na rs H nd ns nw ca s st stk ws cs .non) (R:Rep rs stk ws cs T c)
inductive Rs(na:Nat)(rs:List Rule)(H:MH)(nd ns nw:Nat)(ca:List Nat)(s:Nat):Tr Int->Nat->W->Prop
 | ret {st:List W} {ws cs:List Int} {v:Int} {c:Nat} (S:Sim na rs H nd ns nw ca s st [] (v::ws) cs .non):Rs na rs H nd ns nw ca s (.ret v) c .non
 | tch {st:List W} {stk:List vk} {ws cs:List Int} {t:Tch} {k:Int->Tr Int} {c:Nat} (o:WL t) (S:Sim na rs H nd ns nw ca s st stk ws cs (tW t)) (R:∀v,Rep rs stk (v::ws) cs (k v) c):Rs na rs H nd ns nw ca s (.tch t k) c (tW t)
def D6(h:S1 rs b d env ws cs (.tch t ws')):WL t:=by
 cases h with
 | readS h=>exact h
 | ask=>trivial
 | writeS h=>exact h
 | say=>trivial
def Fm.trans2{H:MH}(a:Fm (nd::ns::nw::ca) H H')(b:Fm (nd::ns::nw::ca') H' H'')(h:∀n∈ca',n∈ca\/H.length<=n):Fm (nd::ns::nw::ca) H H'':=
 ⟨zR a.l b.l,λn o hn e=>b.k n o (λz=>by
  simp only[zb,j0] at hn z;rcases z with z | z | z | z
  .exact hn.1 z
  .exact hn.2.1 z
  .exact hn.2.2.1 z
  .rcases h n z with y | y
   .exact hn.2.2.2 y
   .have:=zS e;omega) (a.k n o hn e)⟩
noncomputable abbrev Qe:MT:=(dQ (ke (zi WH (zh kT [kG kx "steps" (ze 0)]) (eC (.int 0)))) (ke (zi (y0 true) (kG kx "touch_ahead" (ze 0)) (eC .non))))
noncomputable def Yt(F:Fs):MS:=(zo (zD (kD uI (kG kx "steps" (ze 0)) []) (zC 1))
 (kr (kb (mt F) "take_step" (ze 0) [zi zw (ze 1) (eC (.int 0)),zi zw (ze 1) (eC (.int 1)),zi zw (ze 1) (eC (.int 2))])))
theorem p9(F:Fs):aV F=ul Qe (Yt F):=rfl
section
variable{na:Nat}{rs:List Rule}{H:MH}{nd ns nw:Nat}{ca:List Nat}{s:Nat}{F:Fs}
def iD{wo:List W}(g:Dg H nd ns nw rl [] wo t):Qe [some (.ref nd),o] H=some (false,H):=by
 have e1:=g.fS;have e2:=g.s;simp![kG,e1,kT,getL,e2,vE]
def tQ{wo:List W}(g:Dg H nd ns nw rl st wo .non)(h:st≠[]):Qe [some (.ref nd),o] H=some (true,H):=by
 have e1:=g.fS;have e2:=g.s;have e3:=g.fA;cases st with
 | nil=>exact absurd rfl h
 | cons x st=>
  have q:(0:Int)<(st.length:Int)+1:=by omega
  simp![kG,e1,kT,getL,e2,vE,q,e3,y0]
def Um{wo:List W}(g:Dg H nd ns nw rl st wo (tW tt)):Qe [some (.ref nd),o] H=some (false,H):=by
 cases st with
 | nil=>exact iD g
 | cons x st=>
  have e1:=g.fS;have e2:=g.s;have e3:=g.fA;have q:(0:Int)<(st.length:Int)+1:=by omega
  cases tt<;>simp![kG,e1,kT,getL,e2,vE,q,e3,y0,tW]
def Jw(S:Sim na rs H nd ns nw ca s st ((pd,d,env)::stk) ws cs .non)
  (h:∀H1 st1 kw,Sim na rs H1 nd ns nw ca s st1 stk ws cs .non->EvR na H1 ca s env kw->H1.length=H.length->lC F na rs H1 nd ns nw ca s pd d kw stk' ws' cs' t') :
  ∃H' ca' st' o',Yt (step (step (step (step F)))) [some (.ref nd),o] H=some (.nx [some (.ref nd),o'],H')/\Sim na rs H' nd ns nw ca' (s+4) st' stk' ws' cs' t'/\Fm (nd::ns::nw::ca) H H'/\∀n∈ca',n∈ca\/H.length<=n:=by
 generalize hst:st=st0 at S;cases S.sr with
 | @cons _ _ _ kw _ st1 e r=>
  have l1:=S.l1;simp only[zp] at l1;have S1':=S.steps (st':=st1) (stk':=stk) r ∅;have E1:=e.mono (uz (na:=na) (o':=.lst st1) S.g.s (λ_=>nofun)) (zP _) (zj _);obtain⟨H',ca',st',e1,S2,fm,hc⟩:=h _ _ kw S1' E1 (by rw[kZ]);refine⟨H',ca',st',some (.tup [.bl pd,zk d,kw]),?_,S2,(Fm.set (by simp)).trans fm,λn hn=>by have:=hc n hn;rw[kZ] at this;exact this⟩;unfold Yt;have f1:=S.g.fS;have f2:=S.g.s;have lp:(st1++[W.tup [.bl pd,zk d,kw]])[(st1++[W.tup [.bl pd,zk d,kw]]).length-1]?=some (.tup [.bl pd,zk d,kw]):=by simp
  rw[zt (ρ':=[some (.ref nd),some (.tup [.bl pd,zk d,kw])]) (h':=H.set ns (.lst st1)) (by
   simp only[zD,kD,bnd,kG,ze,zq,f1,getL,f2,vJ,kE,ky,uI,lp,List.dropLast_concat,zC]
   rfl)]
  refine vb (w:=.non) ?_;rw[ya (F:=step (step (step (step F)))) S1'.g.d (og ⋯ ⋯ ⋯ ⋯) (Y7 _) (mo:=ze 0) rfl (ws:=[.bl pd,zk d,kw]) (H1:=H.set ns (.lst st1)) (by simp only[ky,bnd,zi,ze,eC,zE,zq,xZ,xt,g7])];exact e1
def YB(hr:RsOk rs)(h0:10<=s){T:Tr Int}{c:Nat}(R:Rep rs stk ws cs T c):∀{H:MH} {ca:List Nat} {s:Nat} {st:List W} (o:Option W),Sim na rs H nd ns nw ca s st stk ws cs .non->s+4*c+100<=cap->10<=s->na<H.length->
  ∃n H' ca' s' c' t' o',qo Qe (Yt (step (step (step (step F))))) n [some (.ref nd),o] H=some (.nx [some (.ref nd),o'],H')/\Rs na rs H' nd ns nw ca' s' T c' t'/\Fm (nd::ns::nw::ca) H H'/\(∀n∈ca',n∈ca\/H.length<=n)/\s'+4*c'<=s+4*c/\s<=s'/\(t'≠.non->s+4<=s'):=by
 induction R with
 | @done v ws cs c=>
  intro H ca s st o S hs h8 hna;have:st=[]:=jJ.mp (by rw[S.sr.len];rfl);subst this;have e:=iD (o:=o) S.g;refine⟨1,H,ca,s,c,.non,o,?_,.ret S,Fm.refl,λn hn=>.inl hn,zj _,zj _,λz=>absurd rfl z⟩;unfold qo;rw[e]
 | @gg b d env stk ws cs p ws' cs' T c h r ih=>
  intro H ca s st o S hs h8 hna;have ne:st≠[]:=λz=>by have:=S.sr.len;rw[z] at this;simp at this
  have e:=tQ (o:=o) S.g ne;obtain⟨H1,ca1,st1,o1,e1,S2,fm,hc⟩:=Jw (F:=F) (o:=o) (stk':=p++stk) (ws':=ws') (cs':=cs') (t':=.non) S λH1 st1 kw S1' E1 hl=>X5 hr S1' E1 ∅ h8 ∅ h
  obtain⟨n,H',ca',s',c',t',o',e2,R2,fm2,hc2,b1,b2,b3⟩:=ih o1 S2 ∅ ∅ (zL hna fm.l);refine⟨n+1,H',ca',s',c',t',o',?_,R2,fm.trans2 fm2 hc,λn hn=>?_,by omega,by omega,λz=>by have:=b3 z;omega⟩
  .unfold qo
   rw[e];simp only;rw[e1];exact e2
  .rcases hc2 n hn with z | z
   .exact hc n z
   .exact .inr (zR fm.l z)
 | @tch b d env stk ws cs t ws' k c h r ih=>
  intro H ca s st o S hs h8 hna;have ne:st≠[]:=λz=>by have:=S.sr.len;rw[z] at this;simp at this
  have e:=tQ (o:=o) S.g ne;obtain⟨H1,ca1,st1,o1,e1,S2,fm,hc⟩:=Jw (F:=F) (o:=o) (stk':=stk) (ws':=ws') (cs':=cs) (t':=tW t) S λH1 st1 kw S1' E1 hl=>VC S1' h
  have e2:=Um (o:=o1) S2.g;refine⟨2,H1,ca1,s+4,c,tW t,o1,?_,.tch (D6 h) S2 r,fm,hc,by omega,by omega,λ_=>zj _⟩;unfold qo;rw[e];simp only;rw[e1];simp only;unfold qo;rw[e2]
theorem f_go(F:Fs):(step F).aK=gc (kd 1 1 (aV F)):=rfl
def V6(hr:RsOk rs){T:Tr Int}{c:Nat}(A:Ac na rs H nd ns nw ca s T c)(hs:s+4*c+100<=cap)(h8:10<=s)(hna:na<H.length) :
  ∃H' ca' s' c' t',(step (step (step (step (step F))))).aK [.ref nd] H=some (.non,H')/\Rs na rs H' nd ns nw ca' s' T c' t'/\Fm (nd::ns::nw::ca) H H'/\(∀n∈ca',n∈ca\/H.length<=n)/\s'+4*c'<=s+4*c/\s<=s'/\(t'≠.non->s+4<=s'):=by
 obtain⟨S,R⟩:=A;rename_i st stk ws cs;cases stk with
 | nil=>
  cases R with
  | @done v ws _ _=>
  have:st=[]:=jJ.mp (by rw[S.sr.len];rfl);subst this;have e:=iD (o:=none) S.g;refine⟨H,ca,s,c,.non,?_,.ret S,Fm.refl,λn hn=>.inl hn,zj _,zj _,λz=>absurd rfl z⟩;rw[f_go];refine uX (yT (ρ:=[some (.ref nd),none]) (ρ':=[some (.ref nd),none]) rfl rfl ?_) (by unfold low;rfl);rw[p9];refine ah (n:=1) ?_;unfold qo;rw[e]
 | cons x stk=>
  obtain⟨n,H',ca',s',c',t',o',e,R2,fm,hc,b1,b2,b3⟩:=YB (F:=F) hr h8 R none S hs h8 hna;have raw:kd 1 1 (aV (step (step (step (step F))))) [.ref nd] H=some (.non,H'):=by
   refine yT (ρ:=[some (.ref nd),none]) (ρ':=[some (.ref nd),o']) rfl rfl ?_;rw[p9];exact ah e
  refine⟨H',ca',s',c',t',?_,R2,fm,hc,b1,b2,b3⟩;rw[f_go];cases R2 with
  | ret S2=>exact sU raw S S2 (.inr (.inl (by simp)))
  | tch o S2 R=>exact sU raw S S2 (.inr (.inr (lU _)))
end
structure Rm where
 st:Str->Int
 ans:List Int
 sp:List Int
 k:Nat
noncomputable def WI(st:Str->Int)(v:Str)(x:Int):Str->Int:=λu=>if u=v then x else st u
noncomputable def jI:Tch->Rm->Int×Rm
 | .read v,r=>(r.st v,r)
 | .write v x,r=>(x,{ r with st:=WI r.st v x })
 | .say x,r=>(x,{ r with sp:=r.sp++[x] })
 | .ask,r=>(r.ans.getD r.k 0,{ r with k:=r.k+1 })
noncomputable def dW:Tch->Int->W
 | .read v,x=>.tup [.str "read",.str v,.int x]
 | .write v y,_=>.tup [.str "write",.str v,.int y]
 | .say y,_=>.tup [.str "say",.int y]
 | .ask,x=>.tup [.str "ask",.int x]
noncomputable def xS(st:Str->Int):List (Key×W):=SH.map λv=>((.inr v:Key),W.int (st v))
def J5(h:v∈SH):wf (xS st) (.inr v)=some (.int (st v)):=by
 have:∀l:List Str,v∈l->wf (l.map λv=>((.inr v:Key),W.int (st v))) (.inr v)=some (.int (st v)):=by
  intro l;induction l with
  | nil=>intro h;simp at h
  | cons u l ih=>
   intro h;rw[zx,uw];by_cases q:u=v
   .subst q;simp
   .have:¬(Sum.inr u:Key)=.inr v:=λz=>q (yp z)
    simp only[this,jj];exact ih ((zb.mp h).resolve_left (kY q))
 exact this SH h
def UQ(h:v∈SH):jv (xS st) (.inr v) (.int x)=xS (WI st v x):=by
 have a:((xS st).any λkv=>decide (kv.1=(.inr v:Key)))=true:=by
  rw[qm];exact⟨(.inr v,.int (st v)),jd.mpr ⟨v,h,rfl⟩,by simp⟩
 unfold jv;rw[zY a];unfold xS;rw[q9];refine List.map_congr_left λu _=>?_
 simp only[Function.comp];unfold WI;by_cases q:u=v
 .subst q;simp
 .have:¬(Sum.inr u:Key)=.inr v:=λz=>q (yp z)
  simp only[this,jj,q]
noncomputable def RmR(H:MH)(nr na np:Nat)(r:Rm):Prop:=Rg H nr na np (xS r.st) (r.ans.map .int) (r.sp.map .int) r.k
theorem vT{i:Int}:low m (.int i)=true:=by unfold low;rfl
noncomputable def Ap(A B:List Nat):Prop:=∀n∈A,n∉B
def Qm{H:MH}(f:Fm A H H')(h:∀a∈A,a≠na->∀l,H[a]?≠some (.dic l)):DicP na H H':=λn l hn e=>by
 by_cases q:n∈A
 .exact absurd e (h n q hn l)
 .exact f.k n _ q e
section
variable{na:Nat}{rs:List Rule}{H H':MH}{nd ns nw nr np:Nat}{ca:List Nat}{s:Nat}{st:List W}{stk:List vk}{ws cs:List Int}{t:W}{F:Fs}{r:Rm}
def Sim.nodic(S:Sim na rs H nd ns nw ca s st stk ws cs t):∀a∈nd::ns::nw::ca,a≠na->∀l,H[a]?≠some (.dic l):=λa ha _ l=>by
 simp only[zb] at ha;rcases ha with rfl | rfl | rfl | ha
 .rw[S.g.d];exact nofun
 .rw[S.g.s];exact nofun
 .rw[S.g.w];exact nofun
 .obtain⟨c,hc⟩:=jA.mp ha
  have h1:c<cs.length:=by rw[<-S.cl];exact zS hc
  rw[S.ce c a cs[c] hc (zB h1)];exact nofun
def Sim.frame(S:Sim na rs H nd ns nw ca s st stk ws cs t)(f:Fm B H H')(p:DicP na H H')(ap:Ap (nd::ns::nw::ca) B):Sim na rs H' nd ns nw ca s st stk ws cs t:=
 ⟨⟨f.k _ _ (ap nd (by simp)) S.g.d,f.k _ _ (ap ns (by simp)) S.g.s,f.k _ _ (ap nw (by simp)) S.g.w,S.g.n1,S.g.n2,S.g.n3⟩,S.sr.mono p (zP _) (zj _),S.cl,λc n i a b=>f.k _ _ (ap n (by simp[ju a])) (S.ce c n i a b),S.cn,S.cx,S.l1,S.l2⟩
def RmR.frame(g:RmR H nr na np r)(f:Fm B H H')(ap:Ap [nr,na,np] B):RmR H' nr na np r:=
 ⟨f.k _ _ (ap nr (by simp)) g.r,f.k _ _ (ap na (by simp)) g.a,f.k _ _ (ap np (by simp)) g.p,g.n1,g.n2,g.n3⟩
def RmR.nodic(g:RmR H nr na np r):∀a∈[nr,na,np],a≠na->∀l,H[a]?≠some (.dic l):=λa ha hn l=>by
 simp only[zb,zc,zM] at ha;rcases ha with rfl | rfl | rfl
 .rw[g.r];exact nofun
 .exact absurd rfl hn
 .rw[g.p];exact nofun
def Xr(g:RmR H nr na np r)(o:WL tt)(hs:r.sp.length<cap)(ha:r.ans.length<=cap):∃H',(step (step F)).aX [.ref nr,tW tt] H=some (dW tt (jI tt r).1,H')/\RmR H' nr na np (jI tt r).2/\Fm [nr,na,np] H H'/\H'.length=H.length:=by
 cases tt with
 | read v=>exact⟨H,do_read g (J5 o) vT,g,Fm.refl,rfl⟩
 | write v x=>
  have c4:(4:Nat)<cap:=by decide
  have e:=do_write (F:=step F) (v:=v) (w:=.int x) g c4 vT;rw[UQ o] at e;exact⟨_,e,g.shelves _,Fm.set (by simp),by rw[kZ]⟩
 | say x=>
  have e:=do_say (F:=step F) (v:=.int x) g (by rw[zO];exact hs) vT;refine⟨_,e,?_,Fm.set (by simp),by rw[kZ]⟩;have:=g.spoken (r.sp.map .int++[.int x]);rw[show r.sp.map W.int++[.int x]=(r.sp++[x]).map .int by simp] at this ⊢;exact this
 | ask=>
  have ea:bo (r.ans.map W.int) r.k=.int (r.ans.getD r.k 0):=by
   unfold bo;rw[je,j5];cases r.ans[r.k]?<;>rfl
  have e:=do_ask (F:=F) g (by rw[ea];exact vT) (by rw[zO];exact ha);rw[ea] at e;exact⟨_,e,g.asks (r.k+1),Fm.set (by simp),by rw[kZ]⟩
def CH{np:Nat}(a:(m==("shelves":Str))=false)(b:(m==("answers":Str))=false)(c:(m==("spoken":Str))=false)(d:(m==("asks":Str))=false):(uB na np ans k).lookup m=none:=by
 simp only[kJ,yt,a,b,c,d]
def Xm:zw (dW tt (jI tt r).1) (.int (-1)) h=some (.int (jI tt r).1,h):=by
 cases tt<;>simp[dW,jI,zw,atI,xB]
theorem f_touch(F:Fs):(step F).aP=gc (kd 2 1 (aU F)):=rfl
theorem Zm(S:Sim na rs H nd ns nw ca s st stk ws cs (tW tt))(g:RmR H nr na np r)(o:WL tt)(hs:r.sp.length<cap)(ha:r.ans.length<=cap)(hw:s+100<=cap)(ap:Ap (nd::ns::nw::ca) [nr,na,np]) :
  ∃H',(step (step (step F))).aP [.ref nd,.ref nr] H=some (dW tt (jI tt r).1,H')/\Sim na rs H' nd ns nw ca (s+1) st stk ((jI tt r).1::ws) cs .non/\RmR H' nr na np (jI tt r).2/\Fm (nd::ns::nw::ca++[nr,na,np]) H H'/\H'.length=H.length:=by
 obtain⟨H1,e1,g1,f1,l1⟩:=Xr (F:=F) g o hs ha;have S1':=S.frame f1 (Qm f1 g.nodic) ap;have S2:=S1'.ahead .non;have wl:=S2.l2;have S3:=(S2.more (s':=s+1) ∅).worths (ws':=(jI tt r).1::ws) (by simp;omega);have f2:Fm [nd,nw] H1 ((H1.set nd (.ins 0 (yA (ki rs) ns nw .non))).set nw (.lst (vF ((jI tt r).1::ws)))):=(Fm.set (by simp)).trans (Fm.set (by simp));have ap2:Ap [nr,na,np] [nd,nw]:=λn hn z=>by
  simp only[zb,zc,zM] at z;rcases z with rfl | rfl
  .exact ap _ (by simp) hn
  .exact ap _ (by simp) hn
 refine⟨_,?_,S3,g1.frame f2 ap2,(f1.sub (λn hn=>by simp only[zU,jk,zb];simp only[zb] at hn;exact .inr (.inr (.inr (.inr hn))))).trans (f2.sub (λn hn=>by simp only[zb,zc,zM] at hn;rcases hn with rfl | rfl<;>simp)),by rw[kZ,kZ,l1]⟩;rw[f_touch];have ch:((H1.set nd (.ins 0 (yA (ki rs) ns nw .non))).set nw (.lst (vF ((jI tt r).1::ws))))[nd]?≠some (.ins 0 (yA (ki rs) ns nw (tW tt))):=by
  rw[S3.g.d];intro z;injection z with z;injection z with _ z;simp only[jK,wQ] at z;exact lU tt z.2.2.2.1.2.symm
 refine yb (xC (ρ:=[some (.ref nd),some (.ref nr),none]) rfl rfl ?_) S.g.d ch;unfold aU;have fa:=S.g.fA;have em:kb (mt (step (step F))) "do" (ze 1) [kG kx "touch_ahead" (ze 0)] [some (.ref nd),some (.ref nr),none] H=some (dW tt (jI tt r).1,H1):=by
  rw[ya (F:=step (step F)) g.r (CH ⋯ ⋯ ⋯ ⋯) (DV _) (mo:=ze 1) rfl (ws:=[tW tt]) (H1:=H) (by simp only[ky,bnd,kG,ze,zq,fa])];exact e1
 rw[zt (ρ':=[some (.ref nd),some (.ref nr),some (dW tt (jI tt r).1)]) (h':=H1) (by unfold zD;rw[em];rfl)];have pa:=S1'.g.pA .non;rw[zt (ρ':=[some (.ref nd),some (.ref nr),some (dW tt (jI tt r).1)]) (h':=H1.set nd (.ins 0 (yA (ki rs) ns nw .non))) (by simp only[zD,eC,ub,bnd,ze,zq,pa])];have br:=ip (F:=step F) (mo:=ze 0) (m:=zi zw (ze 2) (ug gU (eC (.int 1)))) (ρ:=[some (.ref nd),some (.ref nr),some (dW tt (jI tt r).1)]) (v:=.int (jI tt r).1) S2.g (by rw[eT];omega) rfl (by simp only[zi,ug,bnd,ze,eC,zE,zq,gU,Xm]);rw[zt (vb br),f7];rfl
end
noncomputable def kH{α:Type}:Tr α->Rm->α×Rm×List (Tch×Int)
 | .ret a,r=>(a,r,[])
 | .tch t k,r=>((kH (k (jI t r).1) (jI t r).2).1,(kH (k (jI t r).1) (jI t r).2).2.1,(t,(jI t r).1)::(kH (k (jI t r).1) (jI t r).2).2.2)
noncomputable def tX(l:List (Tch×Int)):List W:=l.map λp=>dW p.1 p.2
noncomputable def tC:MT:=(ke (zi (y0 false) (kG kx "touch_ahead" (ze 0)) (eC .non)))
noncomputable def tB(F:Fs):MS:=(zo (kr (kD qf (ze 2) [kb (mt F) "do_touch" (ze 0) [ze 1]]))
 (kr (kb (mt F) "go_on" (ze 0) [])))
theorem ni(t:Tch)(r:Rm):(jI t r).2.ans=r.ans:=by cases t<;>rfl
def pS(t:Tch)(r:Rm):(jI t r).2.sp.length<=r.sp.length+1:=by cases t<;>simp[jI]
section
variable{na:Nat}{rs:List Rule}{H:MH}{nd ns nw nr np nt:Nat}{ca:List Nat}{s:Nat}{F:Fs}{r:Rm}
def Km{wo:List W}(g:Dg H nd ns nw rl st wo .non):tC (some (.ref nd)::ρ) H=some (false,H):=by
 have e3:=g.fA;simp![tC,kG,e3,y0]
def Jh{wo:List W}(g:Dg H nd ns nw rl st wo (tW tt)):tC (some (.ref nd)::ρ) H=some (true,H):=by
 have e3:=g.fA;cases tt<;>simp![tC,kG,e3,y0,tW]
def Ku{wo:List W}(g:Dg H nd ns nw rl st wo t)(e1:mo ρ H=some (.ref nd,H))(e:(step F).aK [.ref nd] H=some (.non,H')):kr (kb (mt (step F)) "go_on" mo []) ρ H=some (.nx ρ,H'):=by
 refine vb (w:=.non) ?_;rw[ya (F:=step F) g.d (og ⋯ ⋯ ⋯ ⋯) (Dy _) e1 (ws:=[]) (H1:=H) rfl];exact e
structure Lp(H:MH)(na nd ns nw nr np nt:Nat)(ca:List Nat)(r:Rm)(acc:List W):Prop where
 g:RmR H nr na np r
 a:H[nt]?=some (.lst acc)
 ap:Ap (nd::ns::nw::ca) [nr,na,np]
 n1:nt∉nd::ns::nw::ca
 n2:nt∉[nr,na,np]
 an:r.ans.length<=cap
def Lp.lt(L:Lp H na nd ns nw nr np nt ca r acc):∀n∈[nr,na,np],n<H.length:=λn hn=>by
 simp only[zb,zc,zM] at hn;rcases hn with rfl | rfl | rfl
 .exact zS L.g.r
 .exact zS L.g.a
 .exact zS L.g.p
def Lp.mv(L:Lp H na nd ns nw nr np nt ca r acc)(fm:Fm (nd::ns::nw::ca) H H')(hc:∀n∈ca',n∈ca\/H.length<=n):Lp H' na nd ns nw nr np nt ca' r acc:=by
 have ap2:Ap [nr,na,np] (nd::ns::nw::ca):=λn hn z=>L.ap n z hn
 refine⟨L.g.frame fm ap2,fm.k _ _ L.n1 L.a,λn hn z=>?_,λz=>?_,L.n2,L.an⟩
 .simp only[zb] at hn
  rcases hn with h | h | h | h
  .exact L.ap n (by simp[h]) z
  .exact L.ap n (by simp[h]) z
  .exact L.ap n (by simp[h]) z
  .rcases hc n h with y | y
   .exact L.ap n (by simp[y]) z
   .have:=L.lt n z;omega
 .have n1:=L.n1
  simp only[zb,j0] at z n1;rcases z with h | h | h | h
  .exact n1.1 h
  .exact n1.2.1 h
  .exact n1.2.2.1 h
  .rcases hc nt h with y | y
   .exact n1.2.2.2 y
   .have:=zS L.a;omega
theorem sX(hr:RsOk rs):∀(T:Tr Int) {H:MH} {ca:List Nat} {s c:Nat} {t:W} {r:Rm} {acc:List W},Rs na rs H nd ns nw ca s T c t->Lp H na nd ns nw nr np nt ca r acc->10<=s->s+200<=cap->(t≠.non->s+5*c+201<=cap/\r.sp.length+c+1<cap/\acc.length+c+1<cap)->
  ∃n H' ca' s',qo tC (tB (step (step (step (step (step F)))))) n [some (.ref nd),some (.ref nr),some (.ref nt)] H=some (.nx [some (.ref nd),some (.ref nr),some (.ref nt)],H')/\Rs na rs H' nd ns nw ca' s' (.ret (kH T r).1) 0 .non/\Lp H' na nd ns nw nr np nt ca' (kH T r).2.1 (acc++tX (kH T r).2.2)/\Fm (nd::ns::nw::(ca++[nr,na,np,nt])) H H'/\(∀n∈ca',n∈ca\/H.length<=n)/\s<=s'/\s'+200<=cap
 | .ret v,H,ca,s,c,t,r,acc,R,L,h8,h2,hb=>by
  cases R with
  | ret S=>
  refine⟨1,H,ca,s,?_,.ret S,by simpa[kH,tX] using L,Fm.refl,λn hn=>.inl hn,zj _,h2⟩;unfold qo;rw[Km S.g]
 | .tch tt k,H,ca,s,c,t,r,acc,R,L,h8,h2,hb=>by
  cases R with
  | @tch st stk ws cs _ _ _ o S R=>
  obtain⟨b1,b2,b3⟩:=hb (lU tt);obtain⟨H1,e1,S1',g1,f1,l1⟩:=Zm (F:=step (step F)) S L.g o ∅ L.an ∅ L.ap
  have a1:H1[nt]?=some (.lst acc):=f1.k _ _ (by
   have n1:=L.n1;have n2:=L.n2;simp only[zb,zU,jk] at n1 n2 ⊢;rintro(h | h | h | h | h)
   .exact n1 (.inl h)
   .exact n1 (.inr (.inl h))
   .exact n1 (.inr (.inr (.inl h)))
   .exact n1 (.inr (.inr (.inr h)))
   .exact n2 h) L.a
  have f2:Fm [nt] H1 (H1.set nt (.lst (acc++[dW tt (jI tt r).1]))):=Fm.set (by simp);have apn:Ap (nd::ns::nw::ca) [nt]:=λn hn z=>by simp only[zb,zc,zM] at z;exact L.n1 (z▸hn)
  have apr:Ap [nr,na,np] [nt]:=λn hn z=>by simp only[zb (a:=n) (b:=nt),zc,zM] at z;exact L.n2 (z▸hn)
  have S2:=S1'.frame f2 (uz a1 (λ_=>nofun)) apn;have L2:Lp (H1.set nt (.lst (acc++[dW tt (jI tt r).1]))) na nd ns nw nr np nt ca (jI tt r).2 (acc++[dW tt (jI tt r).1]):=⟨g1.frame f2 apr,zH (zS a1),L.ap,L.n1,L.n2,by rw[ni];exact L.an⟩;have lna:na<(H1.set nt (.lst (acc++[dW tt (jI tt r).1]))).length:=zS L2.g.a;obtain⟨H3,ca3,s3,c3,t3,e3,R3,f3,hc3,q1,q2,q3⟩:=V6 (F:=F) hr (.mk S2 (R (jI tt r).1)) ∅ ∅ lna;have L3:=L2.mv f3 hc3;have spl:=pS tt r
  obtain⟨n,H',ca',s',e4,R4,L4,f4,hc4,q4,q5⟩:=sX hr (k (jI tt r).1) R3 L3 ∅ ∅ (λz=>by
   have:=q3 z;refine⟨by omega,by omega,?_⟩;simp only[zN,zp,zV]
   omega)
  have len1:H.length=(H1.set nt (.lst (acc++[dW tt (jI tt r).1]))).length:=by rw[kZ,l1]
  have hc5:∀n∈ca3,n∈ca\/H.length<=n:=λn hn=>by have:=hc3 n hn;rw[<-len1] at this;exact this
  refine⟨n+1,H',ca',s',?_,R4,?_,?_,λn hn=>?_,by omega,q5⟩
  .unfold qo
   rw[Jh S.g];simp only;have body:tB (step (step (step (step (step F))))) [some (.ref nd),some (.ref nr),some (.ref nt)] H=some (.nx [some (.ref nd),some (.ref nr),some (.ref nt)],H3):=by
    unfold tB;have ac:acc.length<cap:=by omega
    have em:kb (mt (step (step (step (step (step F)))))) "do_touch" (ze 0) [ze 1] [some (.ref nd),some (.ref nr),some (.ref nt)] H=some (dW tt (jI tt r).1,H1):=by
     rw[ya (F:=step (step (step (step (step F))))) S.g.d (og ⋯ ⋯ ⋯ ⋯) (rW _) (mo:=ze 0) rfl (ws:=[.ref nr]) (H1:=H) rfl];exact e1
    have la:=L.a
    rw[zt (ρ':=[some (.ref nd),some (.ref nr),some (.ref nt)]) (h':=H1.set nt (.lst (acc++[dW tt (jI tt r).1]))) (vb (w:=.non) (by
     unfold kD;simp only[bnd,ze,zE,zq,getL,la,vJ,kE,ky];rw[em]
     simp only[qf,a1,ac,kE]))]
    exact Ku S2.g rfl e3
   rw[body];exact e4
  .simp only[kH]
   have:acc++tX ((tt,(jI tt r).1)::(kH (k (jI tt r).1) (jI tt r).2).2.2)=(acc++[dW tt (jI tt r).1])++tX (kH (k (jI tt r).1) (jI tt r).2).2.2:=by simp[tX]
   rw[this];exact L4
  .have g1:Fm (nd::ns::nw::(ca++[nr,na,np,nt])) H H1:=f1.sub (λn hn=>(zU (s:=nd::ns::nw::ca) (t:=[nr,na,np])).mp hn |>.elim (λh=>jM [nr,na,np,nt] h) (λh=>jc (nd::ns::nw::ca) (jM [nt] h)))
   have g2:Fm (nd::ns::nw::(ca++[nr,na,np,nt])) H (H1.set nt (.lst (acc++[dW tt (jI tt r).1]))):=g1.trans (f2.sub (λn hn=>jc (nd::ns::nw::ca) (jc [nr,na,np] hn)));have g3:Fm (nd::ns::nw::(ca++[nr,na,np,nt])) H H3:=g2.trans (f3.sub (λn hn=>jM [nr,na,np,nt] hn));refine⟨zR g3.l f4.l,λn o hn e=>f4.k n o (λz=>?_) (g3.k n o hn e)⟩;simp only[zb,zU,zc,zM,j0] at hn z;rcases z with h | h | h | h | h
   .exact hn.1 h
   .exact hn.2.1 h
   .exact hn.2.2.1 h
   .rcases hc5 n h with y | y
    .exact hn.2.2.2.1 y
    .have:=zS e;omega
   .rcases h with h | h | h | h
    .exact hn.2.2.2.2.1 h
    .exact hn.2.2.2.2.2.1 h
    .exact hn.2.2.2.2.2.2.1 h
    .exact hn.2.2.2.2.2.2.2 h
  .rcases hc4 n hn with y | y
   .exact hc5 n y
   .exact .inr (by have:=f3.l;omega)
end
noncomputable def stepT:Tr Int->Rm->Tr Int×Rm
 | .ret v,r=>(.ret v,r)
 | .tch t k,r=>(k (jI t r).1,(jI t r).2)
section
variable{na:Nat}{rs:List Rule}{H:MH}{nd ns nw nr np:Nat}{ca:List Nat}{s c:Nat}{F:Fs}{r:Rm}{T:Tr Int}
theorem f_turn(F:Fs):(step F).bu=gc (kd 2 0 (bh F)):=rfl
theorem f_tte(F:Fs):(step F).aD=gc (kd 2 1 (aG F)):=rfl
theorem CM(F:Fs):aG F=zo (zD (zh xW []) (zC 2)) (zo (kr (kb (mt F) "go_on" (ze 0) [])) (zo (ul tC (tB F)) (ku (ze 2)))):=rfl
def B3(g:RmR H nr na np r)(ap:Ap (nd::ns::nw::ca) [nr,na,np])(hc:∀n∈ca',n∈ca\/H.length<=n):Ap (nd::ns::nw::ca') [nr,na,np]:=λn hn z=>by
 simp only[zb (a:=n) (b:=nd),zb (a:=n) (b:=ns),zb (a:=n) (b:=nw)] at hn;rcases hn with h | h | h | h
 .exact ap n (by simp[h]) z
 .exact ap n (by simp[h]) z
 .exact ap n (by simp[h]) z
 .rcases hc n h with y | y
  .exact ap n (by simp[y]) z
  .have h1:=zS g.r
   have h2:=zS g.a;have h3:=zS g.p;simp only[zb,zc,zM] at z;omega
def BG(hr:RsOk rs)(A:Ac na rs H nd ns nw ca s T c)(g:RmR H nr na np r)(ap:Ap (nd::ns::nw::ca) [nr,na,np])(hs:s+5*c+200<=cap)(h8:10<=s)(hp:r.sp.length+c<cap)(ha:r.ans.length<=cap) :
  ∃H' ca' s' c',(step (step (step (step (step (step F)))))).bu [.ref nd,.ref nr] H=some (.non,H')/\Ac na rs H' nd ns nw ca' s' (stepT T r).1 c'/\RmR H' nr na np (stepT T r).2/\Fm ((nd::ns::nw::ca)++[nr,na,np]) H H'/\(∀n∈ca',n∈ca\/H.length<=n)/\s'+5*c'<=s+5*c/\10<=s'/\(stepT T r).2.sp.length+c'<=r.sp.length+c/\(stepT T r).2.ans=r.ans:=by
 obtain⟨H1,ca1,s1,c1,t1,e1,R1,f1,hc1,q1,q2,q3⟩:=V6 (F:=F) hr A ∅ h8 (zS g.a);have f1':Fm ((nd::ns::nw::ca)++[nr,na,np]) H H1:=f1.sub λn hn=>jM _ hn
 have g1:RmR H1 nr na np r:=g.frame f1 λn hn z=>ap n z hn
 obtain⟨S0,R0⟩:=A;rw[f_turn];have first:kr (kb (mt (step (step (step (step (step F)))))) "go_on" (ze 0) []) [some (.ref nd),some (.ref nr)] H=some (.nx [some (.ref nd),some (.ref nr)],H1):=Ku S0.g rfl e1
 cases R1 with
 | @ret st ws cs v c S=>
  refine⟨H1,ca1,s1,0,fw (yT (ρ:=[some (.ref nd),some (.ref nr)]) (ρ':=[some (.ref nd),some (.ref nr)]) rfl rfl ?_),.mk S .done,g1,f1',hc1,by omega,by omega,by simp[stepT],rfl⟩;unfold bh;rw[zt first];exact iB (Km S.g)
 | @tch st stk ws cs tt k _ o S R=>
  have hq:=q3 (lU tt);obtain⟨H2,e2,S2,g2,f2,l2⟩:=Zm (F:=step (step F)) S g1 o ∅ ha ∅ (B3 g ap hc1);have spl:=pS tt r;refine⟨H2,ca1,s1+1,c1,fw (yT (ρ:=[some (.ref nd),some (.ref nr)]) (ρ':=[some (.ref nd),some (.ref nr)]) rfl rfl ?_),.mk S2 (R _),g2,?_,hc1,by omega,by omega,by simp only[stepT];omega,by simp only[stepT];exact ni tt r⟩
  .unfold bh
   rw[zt first];refine rL (Jh S.g) (vb (w:=dW tt (jI tt r).1) ?_);rw[ya (F:=step (step (step (step (step F))))) S.g.d (og ⋯ ⋯ ⋯ ⋯) (rW _) (mo:=ze 0) rfl (ws:=[.ref nr]) (H1:=H1) rfl];exact e2
  .refine⟨zR f1'.l f2.l,λn o hn e=>f2.k n o (λz=>?_) (f1'.k n o hn e)⟩
   rcases(zU (s:=nd::ns::nw::ca1) (t:=[nr,na,np])).mp z with z | z
   .simp only[zU,j0] at hn
    simp only[zb] at z;rcases z with h | h | h | h
    .exact hn.1 (by simp[h])
    .exact hn.1 (by simp[h])
    .exact hn.1 (by simp[h])
    .rcases hc1 n h with y | y
     .exact hn.1 (by simp[y])
     .have:=zS e;omega
   .exact hn (jc _ z)
def Y1(S:Sim na rs H nd ns nw ca s st [] ws cs t):(step F).aK [.ref nd] H=some (.non,H):=by
 have:st=[]:=jJ.mp (by rw[S.sr.len];rfl);subst this;have e:=iD (o:=none) S.g;rw[f_go];refine fw (yT (ρ:=[some (.ref nd),none]) (ρ':=[some (.ref nd),none]) rfl rfl ?_);rw[p9];refine ah (n:=1) ?_;unfold qo;rw[e]
noncomputable def DJ(H H':MH)(w:W)(l:List W):Prop:=w=.fls l\/∃n,w=.ref n/\H.length<=n/\H'[n]?=some (.lst l)
def D2(hr:RsOk rs)(A:Ac na rs H nd ns nw ca s T c)(g:RmR H nr na np r)(ap:Ap (nd::ns::nw::ca) [nr,na,np])(hs:s+5*c+200<=cap)(h8:10<=s)(hp:r.sp.length+c<cap)(ha:r.ans.length<=cap) :
  ∃w H' ca' s',(step (step (step (step (step (step F)))))).aD [.ref nd,.ref nr] H=some (w,H')/\DJ H H' w (tX (kH T r).2.2)/\Rs na rs H' nd ns nw ca' s' (.ret (kH T r).1) 0 .non/\RmR H' nr na np (kH T r).2.1/\Fm ((nd::ns::nw::ca)++[nr,na,np]) H H'/\(∀n∈ca',n∈ca\/H.length<=n)/\10<=s'/\s'+200<=cap:=by
 obtain⟨S0,R0⟩:=A;rename_i st stk ws cs;rw[f_tte];have c0:(0:Nat)<=cap:=by decide
 have s1:zD (zh xW []) (zC 2) [some (.ref nd),some (.ref nr),none] H=some (.nx [some (.ref nd),some (.ref nr),some (.ref H.length)],H++[.lst []]):=by
  simp[zD,zh,ky,bnd,xW,zC]
 cases stk with
 | nil=>
  cases R0 with
  | @done v ws _ _=>
  refine⟨.fls [],H,ca,s,UV (n:=H.length) (h':=H++[.lst []]) (xC (ρ:=[some (.ref nd),some (.ref nr),none]) rfl rfl ?_) (jl _ _) (zj _) (at0 _ _) (by unfold lows;rfl),.inl rfl,.ret S0,g,Fm.refl,λn hn=>.inl hn,h8,by omega⟩;have S1':=S0.app [.lst []];rw[CM,zt s1,zt (Ku S1'.g rfl (Y1 S1')),zt (ρ':=[some (.ref nd),some (.ref nr),some (.ref H.length)]) (h':=H++[.lst []]) (ah (n:=1) (by unfold qo;rw[Km S1'.g]))];rfl
 | cons x stk=>
  have S1':=S0.app [.lst []];have g1:RmR (H++[.lst []]) nr na np r:=g.frame (B:=[]) (Fm.app _) (λn _ z=>by simp at z);obtain⟨H1,ca1,s1',c1,t1,e1,R1,f1,hc1,q1,q2,q3⟩:=V6 (F:=F) hr (.mk S1' R0) ∅ h8 (by rw[zN];have:=zS g.a;omega);have own_lt:∀n∈nd::ns::nw::ca,n<H.length:=λn hn=>by
   simp only[zb] at hn;rcases hn with rfl | rfl | rfl | hn
   .exact zS S0.g.d
   .exact zS S0.g.s
   .exact zS S0.g.w
   .obtain⟨c,hc⟩:=jA.mp hn
    have h1:c<cs.length:=by rw[<-S0.cl];exact zS hc
    exact zS (S0.ce c n cs[c] hc (zB h1))
  have L0:Lp (H++[.lst []]) na nd ns nw nr np H.length ca r []:=⟨g1,at0 _ _,ap,λz=>jD _ (own_lt _ z),λz=>by
   have h1:=zS g.r;have h2:=zS g.a;have h3:=zS g.p;simp only[zb,zc,zM] at z
   omega,ha⟩
  have L1:=L0.mv f1 hc1;obtain⟨n,H',ca',s',e2,R2,L2,f2,hc2,q4,q5⟩:=sX (F:=F) hr T R1 L1 ∅ ∅ (λz=>by have:=q3 z;refine⟨by omega,by omega,?_⟩;simp only[zV];omega);rw[kI] at L2;have hcF:∀n∈ca',n∈ca\/H.length<=n:=λn hn=>by
   rcases hc2 n hn with y | y
   .rcases hc1 n y with z | z
    .exact .inl z
    .rw[zN] at z;exact .inr ∅
   .have:=f1.l;rw[zN] at this;exact .inr ∅
  have hcG:∀n∈ca1,n∈ca\/H.length<=n:=λn hn=>by
   rcases hc1 n hn with z | z
   .exact .inl z
   .rw[zN] at z;exact .inr ∅
  have raw:kd 2 1 (aG (step (step (step (step (step F)))))) [.ref nd,.ref nr] H=some (.ref H.length,H'):=by
   refine xC (ρ:=[some (.ref nd),some (.ref nr),none]) rfl rfl ?_;rw[CM,zt s1,zt (Ku S1'.g rfl e1),zt (ah e2)];rfl
  have ne:H'[ns]?≠some (.lst st):=by
   cases R2 with | @ret st2 _ _ _ _ S2=>
   have z2:st2=[]:=jJ.mp (by rw[S2.sr.len];rfl);rw[S2.g.s,z2];intro z;injection z with z;injection z with z;have:=S0.sr.len;rw[<-z] at this;simp at this
  refine⟨.ref H.length,H',ca',s',yb raw S0.g.s ne,.inr ⟨H.length,rfl,zj _,L2.a⟩,R2,L2.g,?_,hcF,by omega,q5⟩;have f0:Fm ((nd::ns::nw::ca)++[nr,na,np]) H H1:=(Fm.app _).trans (f1.sub λn hn=>jM _ hn);refine⟨zR f0.l f2.l,λn o hn e=>f2.k n o (λz=>?_) (f0.k n o hn e)⟩;have nl:=zS e;simp only[zU,j0] at hn;simp only[zb (a:=n) (b:=nd),zb (a:=n) (b:=ns),zb (a:=n) (b:=nw)] at z;rcases z with h | h | h | h
  .exact hn.1 (by simp[h])
  .exact hn.1 (by simp[h])
  .exact hn.1 (by simp[h])
  .rcases zU.mp h with h | h
   .rcases hcG n h with y | y
    .exact hn.1 (by simp[y])
    .omega
   .have:n∈[nr,na,np]\/n=H.length:=by simpa[or_assoc] using h
    rcases this with y | y
    .exact hn.2 y
    .omega
inductive Dp:Tr Int->Nat->Prop
 | ret {v:Int} {c:Nat}:Dp (.ret v) c
 | tch {t:Tch} {k:Int->Tr Int} {c:Nat} (h:∀v,Dp (k v) c):Dp (.tch t k) (c+1)
def Dp.up{T:Tr Int}{c:Nat}(h:Dp T c):Dp T (c+1):=by
 induction h with
 | ret=>exact .ret
 | tch _ ih=>exact .tch ih
def Rep.dp{T:Tr Int}{c:Nat}(h:Rep rs stk ws cs T c):Dp T c:=by
 induction h with
 | done=>exact .ret
 | gg _ _ ih=>exact ih.up
 | tch _ _ ih=>exact .tch ih
theorem Dp.sp{T:Tr Int}{c:Nat}(h:Dp T c):∀r,(kH T r).2.1.sp.length<=r.sp.length+c/\(kH T r).2.1.ans=r.ans:=by
 induction h with
 | ret=>intro r;exact⟨by simp[kH],rfl⟩
 | @tch t k c h ih=>
  intro r;have:=ih (jI t r).1 (jI t r).2;have sp:=pS t r;have an:=ni t r;simp only[kH];exact⟨by omega,this.2.trans an⟩
end
structure Do where
 nd:Nat
 ns:Nat
 nw:Nat
 ca:List Nat
 s:Nat
 T:Tr Int
 c:Nat
noncomputable abbrev Do.own(d:Do):List Nat:=d.nd::d.ns::d.nw::d.ca
structure Wd(B:MH)(na:Nat)(rs:List Rule)(H:MH)(nr np n0:Nat)(L:List Do)(r:Rm):Prop where
 ac:∀(j:Nat) (d:Do),L[j]?=some d->Ac na rs H d.nd d.ns d.nw d.ca d.s d.T d.c/\10<=d.s/\d.s+5*d.c+200<=cap
 dj:∀(i j:Nat) (d e:Do),i≠j->L[i]?=some d->L[j]?=some e->Ap d.own e.own
 rm:∀(j:Nat) (d:Do),L[j]?=some d->Ap d.own [nr,na,np]/\n0∉d.own
 g:RmR H nr na np r
 l:H[n0]?=some (.lst (L.map λd=>.ref d.nd))
 n:n0∉[nr,na,np]
 an:r.ans.length<=cap
 b:r.sp.length+(L.map Do.c).sum<cap
 p:B<+:H
 lo:∀(j:Nat) (d:Do),L[j]?=some d->∀n∈d.own,B.length<=n
 lr:∀n∈[nr,na,np],B.length<=n
section
variable{B:MH}{na:Nat}{rs:List Rule}{H H':MH}{nr np n0:Nat}{L:List Do}{r r':Rm}{F:Fs}
def Ac.lt{c:Nat}{T:Tr Int}(A:Ac na rs H nd ns nw ca s T c):∀n∈nd::ns::nw::ca,n<H.length:=λn hn=>by
 obtain⟨S0,R0⟩:=A;rename_i st stk ws cs;simp only[zb] at hn;rcases hn with rfl | rfl | rfl | hn
 .exact zS S0.g.d
 .exact zS S0.g.s
 .exact zS S0.g.w
 .obtain⟨c,hc⟩:=jA.mp hn
  have h1:c<cs.length:=by rw[<-S0.cl];exact zS hc
  exact zS (S0.ce c n cs[c] hc (zB h1))
theorem sum_set(f:Do->Nat):∀{L:List Do} {j:Nat} {d d':Do},L[j]?=some d->((L.set j d').map f).sum+f d=(L.map f).sum+f d'
 | [],_,_,_,h=>by simp at h
 | x::L,0,d,d',h=>by simp at h;subst h;simp;omega
 | x::L,j+1,d,d',h=>by
  have:=sum_set f (L:=L) (j:=j) (d:=d) (d':=d') (by simpa using h);simp only[List.set_cons_succ,zx,yJ];omega
def Fm.pre(f:Fm A H H')(p:B<+:H)(h:∀n∈A,B.length<=n):B<+:H':=by
 rw[List.prefix_iff_getElem?] at p ⊢;intro i hi;exact f.k i _ (λz=>by have:=h i z;omega) (p i hi)
def Wd.adv(w:Wd B na rs H nr np n0 L r){d:Do}(hj:L[j]?=some d)(A:Ac na rs H' d.nd d.ns d.nw ca' s' T' c')(h8:10<=s')(hs:s'+5*c'+200<=cap)(g:RmR H' nr na np r')(fm:Fm (d.own++[nr,na,np]) H H')(hc:∀n∈ca',n∈d.ca\/H.length<=n)(hb:r'.sp.length+c'<=r.sp.length+d.c)(ha:r'.ans=r.ans):Wd B na rs H' nr np n0 (L.set j ⟨d.nd,d.ns,d.nw,ca',s',T',c'⟩) r':=by
 have old:∀n∈(⟨d.nd,d.ns,d.nw,ca',s',T',c'⟩:Do).own,n∈d.own\/H.length<=n:=λn hn=>by
  simp only[zb] at hn ⊢;rcases hn with h | h | h | h
  .exact .inl (.inl h)
  .exact .inl (.inr (.inl h))
  .exact .inl (.inr (.inr (.inl h)))
  .rcases hc n h with y | y
   .exact .inl (.inr (.inr (.inr y)))
   .exact .inr y
 have dic:DicP na H H':=Qm fm λa ha hn l=>by
  rcases zU.mp ha with z | z
  .obtain⟨S,_⟩:=(w.ac j d hj).1
   exact S.nodic a z hn l
  .exact w.g.nodic a z hn l
 have other:∀i e,i≠j->L[i]?=some e->Ap e.own (d.own++[nr,na,np]):=λi e hi he n hn z=>by
  rcases zU.mp z with z | z
  .exact w.dj i j e d hi he hj n hn z
  .exact(w.rm i e he).1 n hn z
 have get:∀i e,(L.set j ⟨d.nd,d.ns,d.nw,ca',s',T',c'⟩)[i]?=some e->(i=j/\e=⟨d.nd,d.ns,d.nw,ca',s',T',c'⟩)\/(i≠j/\L[i]?=some e):=λi e h=>by
  by_cases q:i=j
  .subst q
   rw[zH (zS hj)] at h;injection h with h;exact .inl ⟨rfl,h.symm⟩
  .rw[zF (kY q)] at h
   exact .inr ⟨q,h⟩
 have n0lt:=zS w.l;refine⟨λi e h=>?_,λi k e1 e2 hik h1 h2=>?_,λi e h=>?_,g,?_,w.n,by rw[ha];exact w.an,?_,?_,λi e h=>?_,w.lr⟩
 .rcases get i e h with ⟨rfl,rfl⟩ | ⟨hi,he⟩
  .exact⟨A,h8,hs⟩
  .obtain⟨⟨S,R⟩,h1,h2⟩:=w.ac i e he
   exact⟨⟨S.frame fm dic (other i e hi he),R⟩,h1,h2⟩
 .rcases get i e1 h1 with ⟨rfl,rfl⟩ | ⟨hi,he⟩<;>rcases get k e2 h2 with ⟨rfl,rfl⟩ | ⟨hk,he2⟩
  .exact absurd rfl hik
  .intro n hn z
   rcases old n hn with y | y
   .exact w.dj i k d e2 (kY hk) hj he2 n y z
   .have:=(w.ac k e2 he2).1.lt n z;omega
  .intro n hn z
   rcases old n z with y | y
   .exact w.dj i k e1 d hi he hj n hn y
   .have:=(w.ac i e1 he).1.lt n hn;omega
  .exact w.dj i k e1 e2 hik he he2
 .rcases get i e h with ⟨rfl,rfl⟩ | ⟨hi,he⟩
  .refine⟨λn hn z=>?_,λz=>?_⟩
   .rcases old n hn with y | y
    .exact(w.rm i d hj).1 n y z
    .have h1:=zS w.g.r
     have h2:=zS w.g.a;have h3:=zS w.g.p;simp only[zb,zc,zM] at z;omega
   .rcases old n0 z with y | y
    .exact(w.rm i d hj).2 y
    .omega
  .exact w.rm i e he
 .have:(L.set j ⟨d.nd,d.ns,d.nw,ca',s',T',c'⟩).map (λd=>W.ref d.nd)=L.map λd=>.ref d.nd:=by
   rw[List.map_set];refine set_same ?_;rw[je,hj];rfl
  rw[this];refine fm.k _ _ (λz=>?_) w.l;rcases zU.mp z with z | z
  .exact(w.rm j d hj).2 z
  .exact w.n z
 .have:=sum_set Do.c (d':=⟨d.nd,d.ns,d.nw,ca',s',T',c'⟩) hj
  have:=w.b;simp only at *;omega
 .refine fm.pre w.p λn hn=>?_
  rcases zU.mp hn with z | z
  .exact w.lo j d hj n z
  .exact w.lr n z
 .rcases get i e h with ⟨rfl,rfl⟩ | ⟨hi,he⟩
  .intro n hn
   rcases old n hn with y | y
   .exact w.lo i d hj n y
   .exact zR w.p.length_le y
  .exact w.lo i e he
noncomputable def bE(p:List (Tr Int)×Rm)(n:Int):List (Tr Int)×Rm:=if 0<=n/\n<p.1.length then (match p.1[n.toNat]? with
 | some T=>(p.1.set n.toNat (stepT T p.2).1,(stepT T p.2).2)
 | none=>p) else p
noncomputable def bS:List (Tr Int)->Rm->List Int×Rm
 | [],r=>([],r)
 | T::Ts,r=>((kH T r).1::(bS Ts (kH T r).2.1).1,(bS Ts (kH T r).2.1).2)
noncomputable def trees(L:List Do):List (Tr Int):=L.map Do.T
def Wd.turn(hr:RsOk rs)(w:Wd B na rs H nr np n0 L r){d:Do}(hj:L[j]?=some d):∃H' d',(step (step (step (step (step (step F)))))).bu [.ref d.nd,.ref nr] H=some (.non,H')/\Wd B na rs H' nr np n0 (L.set j d') (stepT d.T r).2/\d'.T=(stepT d.T r).1:=by
 obtain⟨A,h8,hs⟩:=w.ac j d hj;have b:=w.b;have sl:=sum_set Do.c (d':=⟨0,0,0,[],0,.ret 0,0⟩) hj;obtain⟨H',ca',s',c',e,A',g',fm,hc,q1,q2,q3,q4⟩:=BG (F:=F) hr A w.g (w.rm j d hj).1 hs h8 (by simp only at sl;omega) w.an;exact⟨H',_,e,w.adv hj A' q2 ∅ g' fm hc q3 q4,rfl⟩
def Wd.end1(hr:RsOk rs)(w:Wd B na rs H nr np n0 L r){d:Do}(hj:L[j]?=some d):∃v H' d',(step (step (step (step (step (step F)))))).aD [.ref d.nd,.ref nr] H=some (v,H')/\Wd B na rs H' nr np n0 (L.set j d') (kH d.T r).2.1/\d'.T=.ret (kH d.T r).1/\d'.c=0:=by
 obtain⟨A,h8,hs⟩:=w.ac j d hj;have b:=w.b;have sl:=sum_set Do.c (d':=⟨0,0,0,[],0,.ret 0,0⟩) hj;obtain⟨v,H',ca',s',e,hh,R',g',fm,hc,z1,z2⟩:=D2 (F:=F) hr A w.g (w.rm j d hj).1 hs h8 (by simp only at sl;omega) w.an;obtain⟨S0,R0⟩:=A;have dp:=R0.dp.sp r;cases R' with | @ret st ws cs _ _ S=>
 exact⟨v,H',_,e,w.adv hj (c':=0) (T':=.ret (kH d.T r).1) (.mk S .done) z1 ∅ g' fm hc ∅ dp.2,rfl,rfl⟩
end
section
variable{B:MH}{na:Nat}{rs:List Rule}{H:MH}{nr np n0:Nat}{L:List Do}{r:Rm}{F:Fs}
noncomputable abbrev ρB(a b c d e:W)(nr n0:Nat)(o7 o8 o9:Option W):En:=[some a,some b,some c,some d,some e,some (.ref nr),some (.ref n0),o7,o8,o9]
noncomputable def G6(F:Fs):Fs:=step (step (step (step (step (step F)))))
theorem g9(hr:RsOk rs){c:W}:∀(ns:List Int) {H:MH} {L:List Do} {r:Rm} (o7:Option W),Wd B na rs H nr np n0 L r->∃H' L' r' o7',forL (zC 7) (Qn (G6 F)) (ns.map .int) (ρB a b c d e nr n0 o7 none none) H=some (.nx (ρB a b c d e nr n0 o7' none none),H')/\Wd B na rs H' nr np n0 L' r'/\(trees L',r')=ns.foldl bE (trees L,r)
 | [],H,L,r,o7,w=>⟨H,L,r,o7,rfl,w,rfl⟩
 | n::ns,H,L,r,o7,w=>by
  have e1:zC 7 (.int n) (ρB a b c d e nr n0 o7 none none) H=some (ρB a b c d e nr n0 (some (.int n)) none none,H):=rfl;have wl:=w.l;have len:(trees L).length=L.length:=by unfold trees;rw[zO]
  by_cases q:0<=n/\n<(L.length:Int)
  .have lt:n.toNat<L.length:=by omega
   have hj:L[n.toNat]?=some L[n.toNat]:=zB lt;obtain⟨H1,d',e2,w1,dT⟩:=w.turn (F:=F) hr hj;obtain⟨H',L',r',o7',e3,w2,tr⟩:=g9 hr ns (some (.int n)) w1;refine⟨H',L',r',o7',?_,w2,?_⟩
   .simp only[zx]
    unfold forL;rw[e1];simp only;have cond:ke (xk gK ie (eC (.int 0)) (ze 7) (zh kT [ze 6])) (ρB a b c d e nr n0 (some (.int n)) none none) H=some (true,H):=by
     simp![vE,q.1,kT,getL,wl,q.2]
    have ix:zw (.ref n0) (.int n) H=some (.ref L[n.toNat].nd,H):=by
     have:L2.atI (L.map λd=>W.ref d.nd) n=some (.ref L[n.toNat].nd):=by
      obtain⟨k,hk⟩:=qj q.1;subst hk;exact tO (by rw[je];simp only[qe] at hj ⊢;rw[hj];rfl)
     simp only[zw,getL,wl,this]
    have body:Qn (G6 F) (ρB a b c d e nr n0 (some (.int n)) none none) H=some (.nx (ρB a b c d e nr n0 (some (.int n)) none none),H1):=by
     refine rL cond (vb (w:=.non) ?_);simp only[zh,ky,bnd,zi,ze,zE,zq,ix];exact e2
    rw[body];exact e3
   .rw[tr,jX]
    congr 1
    unfold bE;have hT:(trees L)[n.toNat]?=some L[n.toNat].T:=by unfold trees;rw[je,hj];rfl
    simp only[len,q,and_self,kE,hT];congr 1
    unfold trees;rw[List.map_set,dT]
  .obtain⟨H',L',r',o7',e3,w2,tr⟩:=g9 hr ns (some (.int n)) w
   refine⟨H',L',r',o7',?_,w2,?_⟩
   .simp only[zx]
    unfold forL;rw[e1];simp only;have cond:ke (xk gK ie (eC (.int 0)) (ze 7) (zh kT [ze 6])) (ρB a b c d e nr n0 (some (.int n)) none none) H=some (false,H):=by
     by_cases q1:0<=n
     .have q2:¬n<(L.length:Int):=λz=>q ⟨q1,z⟩
      simp![vE,q1,kT,getL,wl,q2]
     .simp![vE,q1]
    have body:Qn (G6 F) (ρB a b c d e nr n0 (some (.int n)) none none) H=some (.nx (ρB a b c d e nr n0 (some (.int n)) none none),H):=iB cond;rw[body];exact e3
   .rw[tr,jX]
    congr 1
    unfold bE;simp only[len,q,jj]
theorem rC(hr:RsOk rs){c d:W}:∀(L2:List Do) {H:MH} {L1:List Do} {r:Rm} (o8:Option W) (k:Nat),Wd B na rs H nr np n0 (L1++L2) r->L2.length<k->(∀d∈L1,d.c=0)->∃H' L' o8',uT (.live n0) (zC 8) (WZ (G6 F)) k L1.length (ρB a b c d e nr n0 o7 o8 o9) H=some (.nx (ρB a b c d e nr n0 o7 o8' o9),H')/\Wd B na rs H' nr np n0 (L1++L') (bS (trees L2) r).2/\trees L'=(bS (trees L2) r).1.map .ret/\∀d∈L1++L',d.c=0
 | [],H,L1,r,o8,0,w,hk,h0=>by simp at hk
 | [],H,L1,r,o8,k+1,w,hk,h0=>by
  refine⟨H,[],o8,?_,w,rfl,by simpa using h0⟩;have wl:=w.l;rw[z9] at wl;unfold uT;simp only[xN,wl];rw[jP (by simp)]
 | x::L2,H,L1,r,o8,0,w,hk,h0=>by simp at hk
 | x::L2,H,L1,r,o8,k+1,w,hk,h0=>by
  have hj:(L1++x::L2)[L1.length]?=some x:=by rw[zG (zj _),qP];rfl
  obtain⟨v,H1,d',e2,w1,dT,dc⟩:=w.end1 (F:=F) hr hj;have st:(L1++x::L2).set L1.length d'=(L1++[d'])++L2:=by
   rw[jO _ _ (zj _),qP,kj];rfl
  rw[st] at w1
  obtain⟨H',L',o8',e3,w2,tr,z⟩:=rC hr L2 (some (.ref x.nd)) k w1 (by simp only[zp] at hk;omega) (λd hd=>by
   rcases zU.mp hd with y | y
   .exact h0 d y
   .simp at y;subst y;exact dc)
  refine⟨H',d'::L',o8',?_,?_,?_,?_⟩
  .have wl:=w.l
   have at_:((L1++x::L2).map λd=>W.ref d.nd)[L1.length]?=some (.ref x.nd):=by rw[je,hj];rfl
   unfold uT;simp only[xN,wl,at_];have e1:zC 8 (.ref x.nd) (ρB a b c d e nr n0 o7 o8 o9) H=some (ρB a b c d e nr n0 o7 (some (.ref x.nd)) o9,H):=rfl;rw[e1];simp only;have body:WZ (G6 F) (ρB a b c d e nr n0 o7 (some (.ref x.nd)) o9) H=some (.nx (ρB a b c d e nr n0 o7 (some (.ref x.nd)) o9),H1):=by
    refine vb (w:=v) ?_;simp only[zh,ky,bnd,ze,zE,zq];exact e2
   rw[body];simp only[zN,zp,zV] at e3;exact e3
  .rw[kj] at w2
   exact w2
  .simp only[trees,zx,bS,dT]
   congr 1
  .intro d hd
   exact z d (by rw[kj];exact hd)
theorem mG{h:MH}{l:List W}{f:W->W}(hn:h[n]?=some (.lst l))(hm:∀w∈l,∀X,m [some w] (h++X)=some (f w,h++X))(hl:l.length<=cap):∀(k i:Nat) (acc:List W) (o:Option W),i<=l.length->l.length<i+k->acc.length+(l.length-i)<=cap->xK (.live n) 1 (zC 0) kL m h.length k i [o] (h++[.lst acc])=some (h++[.lst (acc++(l.drop i).map f)])
 | 0,i,acc,o,hi,hk,ha=>by omega
 | k+1,i,acc,o,hi,hk,ha=>by
  have hn':(h++[MO.lst acc])[n]?=some (.lst l):=by rw[zy (zS hn)];exact hn
  unfold xK;simp only[xN,hn'];by_cases q:i<l.length
  .rw[zB q]
   have g:zC 0 l[i] [o] (h++[.lst acc])=some ([some l[i]],h++[.lst acc]):=rfl;simp only[g,kL,hm l[i] (List.getElem_mem q) [.lst acc],at0];rw[zY ∅,rT];show xK (.live n) 1 (zC 0) kL m h.length k (i+1) [none] _=_
   rw[mG hn hm hl k (i+1) (acc++[f l[i]]) none ∅ ∅ (by simp;omega)];rw[qJ q,zx,kj];rfl
  .rw[jP ∅,yN ∅,jh,z9]
def Jo{h:MH}{l:List W}{f:W->W}(hi:mi ρ h=some (.ref n,h))(hn:h[n]?=some (.lst l))(hm:∀w∈l,∀X,m [some w] (h++X)=some (f w,h++X))(hl:l.length<=cap)(hf:∀w∈l,low h.length (f w)=true):ja (qq mi) 1 [] (zC 0) kL m ρ h=some (.fls (l.map f),h):=by
 have e:=mG hn hm hl (l.length+1) 0 [] none ∅ ∅ (by simp;omega);rw[wG,kI] at e;unfold ja uY;have es:qq mi ρ h=some (.live n,h):=by simp only[qq,bnd,hi,srcOf,hn]
 rw[es];have sl:fq (.live n) h=l.length:=by simp only[fq,hn]
 simp only[sl];have er:(List.replicate 1 (none:Option W)++([]:List Nat).map λk=>(ρ[k]?).join)=[none]:=rfl;rw[er,e];simp only[at0];rw[zY];refine⟨jl _ _,y9 λw hw=>?_⟩;obtain⟨w',h1,rfl⟩:=jd.mp hw;exact hf w' h1
def Uu(A:Ac na rs H nd ns nw ca s (.ret v) 0)(X:MH):kb (mt (step F)) "came_to" (ze 0) [] [some (.ref nd)] (H++X)=some (.int v,H++X):=by
 obtain⟨S,R⟩:=A;cases R with | @done v ws cs _=>
 have S1':=S.app X;rw[ya (F:=step F) S1'.g.d (og ⋯ ⋯ ⋯ ⋯) (YG _) (mo:=ze 0) rfl (ws:=[]) (H1:=H++X) rfl];exact B6 S1'.g (f7 v ws) vT
def Vj(w:Wd B na rs H nr np n0 L r){vs:List Int}(ht:trees L=vs.map .ret)(h0:∀d∈L,d.c=0)(hi:ze 6 ρ H=some (.ref n0,H))(hl:L.length<=1000):ja (qq (ze 6)) 1 [] (zC 0) kL (kb (mt (step F)) "came_to" (ze 0) []) ρ H=some (.fls (vs.map .int),H):=by
 have hd:∀d∈L,∃v,d.T=.ret v/\∀X,kb (mt (step F)) "came_to" (ze 0) [] [some (.ref d.nd)] (H++X)=some (.int v,H++X):=λd hd=>by
  obtain⟨j,hj⟩:=jA.mp hd;have A:=(w.ac j d hj).1;have:(trees L)[j]?=some d.T:=by unfold trees;rw[je,hj];rfl
  rw[ht,je] at this;cases e:vs[j]? with
  | none=>rw[e] at this;cases this
  | some v=>
   rw[e] at this;injection this with this;rw[<-this,h0 d hd] at A;exact⟨v,this.symm,Uu A⟩
 have c:=Jo (h:=H) (n:=n0) (l:=L.map λd=>.ref d.nd) (m:=kb (mt (step F)) "came_to" (ze 0) []) (f:=λw=>match kb (mt (step F)) "came_to" (ze 0) [] [some w] H with | some (v,_)=>v | none=>.non) hi w.l (λx hx X=>by
  obtain⟨d,hm,rfl⟩:=jd.mp hx;obtain⟨v,_,e⟩:=hd d hm;have e0:=e [];rw[z9] at e0;rw[e X,e0]) (by rw[zO];exact zR hl (by decide)) (λx hx=>by
  obtain⟨d,hm,rfl⟩:=jd.mp hx;obtain⟨v,_,e⟩:=hd d hm;have e0:=e [];rw[z9] at e0;rw[e0]
  exact vT)
 rw[c];congr 2
 congr 1
 rw[q9];have:∀(L:List Do) (vs:List Int),L.map Do.T=vs.map .ret->(∀d∈L,∃v,d.T=.ret v/\∀X,kb (mt (step F)) "came_to" (ze 0) [] [some (.ref d.nd)] (H++X)=some (.int v,H++X))->L.map ((λw=>match kb (mt (step F)) "came_to" (ze 0) [] [some w] H with | some (v,_)=>v | none=>.non)∘λd=>.ref d.nd)=vs.map W.int:=by
  intro L;induction L with
  | nil=>intro vs h _;cases vs with
   | nil=>rfl
   | cons _ _=>simp at h
  | cons d L ih=>
   intro vs h hd;cases vs with
   | nil=>simp at h
   | cons v vs=>
    simp only[zx,jK] at h ⊢;obtain⟨v',e1,e2⟩:=hd d zX;have e0:=e2 [];rw[z9] at e0;rw[h.1] at e1;injection e1 with e1;refine⟨?_,ih vs h.2 λd hd'=>hd d (zJ _ hd')⟩;simp only[Function.comp,e0,e1]
 exact this L vs ht hd
theorem sk{h:MH}{f:W->W}:∀(l acc:List W) (o:Option W),(∀w∈l,∀X,m (some w::caps) (h++X)=some (f w,h++X))->acc.length+l.length<=cap->vv 1 (zC 0) kL m h.length l (o::caps) (h++[.lst acc])=some (h++[.lst (acc++l.map f)])
 | [],acc,o,_,_=>by simp[vv]
 | w::l,acc,o,hm,hl=>by
  simp only[zp] at hl;have g:zC 0 w (o::caps) (h++[.lst acc])=some (some w::caps,h++[.lst acc]):=by simp[zC]
  unfold vv;simp only[g,kL,hm w zX [.lst acc],at0];rw[zY ∅,rT];show vv 1 (zC 0) kL m h.length l (none::caps) _=_
  rw[sk l (acc++[f w]) none (λw hw=>hm w (zJ _ hw)) (by simp;omega),kj];rfl
def X6{h:MH}{ks:List Nat}{l:List W}{f:W->W}{ρ:En}(hi:mi ρ h=some (.items l,h))(hm:∀w∈l,∀X,m (some w::ks.map λk=>(ρ[k]?).join) (h++X)=some (f w,h++X))(hl:l.length<=cap)(hf:∀w∈l,low h.length (f w)=true):ja mi 1 ks (zC 0) kL m ρ h=some (.fls (l.map f),h):=by
 have e:=sk (caps:=ks.map λk=>(ρ[k]?).join) l [] none hm (by simpa using hl);unfold ja uY;rw[hi];simp only;have er:(List.replicate 1 (none:Option W)++ks.map λk=>(ρ[k]?).join)=none::ks.map λk=>(ρ[k]?).join:=rfl
 rw[er,e];simp only[kI,at0];rw[zY];refine⟨jl _ _,y9 λw hw=>?_⟩;obtain⟨w',h1,rfl⟩:=jd.mp hw;exact hf w' h1
noncomputable def qV(st:Str->Int):W:=.tup (SH.map λv=>.int (st v))
def iE:low m (qV st)=true:=by
 unfold qV low;exact y9 λw hw=>by obtain⟨v,_,rfl⟩:=jd.mp hw;exact vT
theorem f_store(F:Fs):(step F).cD=gc (kd 1 0 (bx F)):=rfl
theorem f_said(F:Fs):(step F).cN=gc (kd 1 0 (bR F)):=rfl
theorem YC(g:RmR H nr na np r)(e1:mo ρ H=some (.ref nr,H)):kb (mt (step F)) "store" mo [] ρ H=some (qV r.st,H):=by
 rw[ya (F:=step F) g.r (CH ⋯ ⋯ ⋯ ⋯) (WA _) e1 (ws:=[]) (H1:=H) rfl,f_store];refine uX (xC (ρ:=[some (.ref nr)]) rfl rfl ?_) iE;have c:=X6 (mi:=qq (eC qS)) (ks:=[0]) (m:=zi yn (kG kx "shelves" (ze 1)) (ze 0)) (ρ:=[some (.ref nr)]) (h:=H) (l:=SH.map .str) (f:=λw=>match w with | .str v=>.int (r.st v) | w=>w)
  (by simp only[qq,bnd,eC,qS,srcOf];rfl) (λw hw X=>by
   obtain⟨v,hv,rfl⟩:=jd.mp hw;have g1:RmR (H++X) nr na np r:=g.frame (B:=[]) (Fm.app _) (λn _ z=>by simp at z);have f1:=g1.fS;have f2:=g1.a;simp only[zi,bnd,kG,ze,zx,jh,zE,zq,v6,f1,yn,xy,f2,keyOf,J5 hv]) ⋯ (λw hw=>by
   obtain⟨v,_,rfl⟩:=jd.mp hw
   exact vT)
 unfold bx;simp only[ku,zh,ky,bnd,c,ue,getL];unfold qV;rw[q9];rfl
def UC(g:RmR H nr na np r)(e1:mo ρ H=some (.ref nr,H)):kb (mt (step F)) "said" mo [] ρ H=some (.fls (r.sp.map .int),H):=by
 rw[ya (F:=step F) g.r (CH ⋯ ⋯ ⋯ ⋯) (Xb _) e1 (ws:=[]) (H1:=H) rfl,f_said];have lw:low H.length (.fls (r.sp.map .int))=true:=Zb λw hw=>by obtain⟨v,_,rfl⟩:=jd.mp hw;exact vT
 refine uX (xC (ρ:=[some (.ref nr)]) rfl rfl ?_) lw;have f1:=g.fP;have f2:=g.p;unfold bR;simp only[ku,zh,ky,bnd,kG,ze,zq,f1,gu,xT,getL,f2]
end
theorem Kg{H:MH}:(H++o::X)[H.length]?=some o:=by rw[zG (zj _),qP];rfl
theorem U6{H:MH}:(H++o::X).set H.length o'=H++o'::X:=by rw[jO _ _ (zj _),qP];rfl
theorem nM:∀(ks l:List (Key×W)),((l++ks).map (·.1)).Nodup->qE l ks=l++ks
 | [],l,_=>by simp[qE]
 | p::ks,l,h=>by
  have na:(l.any λkv=>decide (kv.1=p.1))≠true:=λz=>by
   obtain⟨x,hx,e⟩:=qm.mp z;have e:=qy e;rw[vB,wZ] at h;exact h.2.2 x.1 (jd.mpr ⟨x,hx,rfl⟩) p.1 (by simp) e
  have e:qE l (p::ks)=qE (jv l p.1 p.2) ks:=rfl;have e2:jv l p.1 p.2=l++[p]:=by unfold jv;rw[kO na]
  rw[e,e2,nM ks (l++[p]) (by rw[kj];exact h),kj];rfl
def BL{H:MH}:mV [qS,qV st] H=some (.ref H.length,H++[.dic (xS st)]):=by
 have z:(SH.map W.str).zip (SH.map λv=>W.int (st v))=SH.map λv=>(.str v,.int (st v)):=by rw[List.zip_map']
 have k:keysOf (SH.map λv=>(W.str v,W.int (st v)))=some (xS st):=by
  unfold xS;generalize SH=l;induction l with
  | nil=>rfl
  | cons v l ih=>simp only[zx];unfold keysOf;rw[ih];rfl
 have m:qE [] (xS st)=xS st:=nM _ _ (by
  rw[kI];unfold xS;rw[q9];show(SH.map λv=>(.inr v:Key)).Nodup
  decide +kernel)
 have c:qS=.tup (SH.map .str):=rfl;have kl:(xS st).length<=1000:=by unfold xS;rw[zO];decide
 rw[c];unfold qV;simp only[mV,u0,z,k,kl,kE,m]
section
variable{B:MH}{na:Nat}{rs:List Rule}{H:MH}{nr np n0:Nat}{L:List Do}{r:Rm}{F:Fs}
def Gi:vc kx 1 "shelves" = true/\vc kx 1 "answers" = true/\vc kx 1 "spoken" = true/\vc kx 1 "asks" = true:=by decide +kernel
def Gm:(¬("shelves":Str)="answers")/\(¬("shelves":Str)="spoken")/\(¬("shelves":Str)="asks")/\(¬("answers":Str)="spoken")/\(¬("answers":Str)="asks")/\(¬("spoken":Str)="asks"):=by decide +kernel
def F5:(¬("rules":Str)="steps")/\(¬("rules":Str)="worths")/\(¬("rules":Str)="touch_ahead")/\(¬("steps":Str)="worths")/\(¬("steps":Str)="touch_ahead")/\(¬("worths":Str)="touch_ahead"):=by decide +kernel
theorem f_rinit(F:Fs):(step F).bC=gc (kd 3 0 (bN F)):=rfl
theorem f_dinit(F:Fs):(step F).bf=gc (kd 3 0 (bj F)):=rfl
def uD{f:Str}{H:MH}{c:Nat}{fs:List (Str×W)}(hp:xV f v fs=fs')(e:m (some (.ref H.length)::ρ) H1=some (v,H++.ins c fs::X))(hf:vc fl c f=true)(hl:fs.length<1000):zD m (ub fl f (ze 0)) (some (.ref H.length)::ρ) H1=some (.nx (some (.ref H.length)::ρ),H++.ins c fs'::X):=by
 subst hp;have a:(H++.ins c fs::X)[H.length]?=some (.ins c fs):=Kg;simp only[zD,e,ub,bnd,ze,zq,gx,a,hf,hl,kE,U6]
def Vi{ans:List Int}:(step F).bC [.ref H.length,qV st,.fls (ans.map .int)] (H++[.ins 1 []])=some (.non,H++[.ins 1 (uB (H.length+1) (H.length+2) (ans.map .int) 0),.dic (xS st),.lst []]):=by
 rw[f_rinit];obtain⟨f1,f2,f3,f4⟩:=Gi;obtain⟨n1,n2,n3,n4,n5,n6⟩:=Gm;refine fw (yT (ρ:=[some (.ref H.length),some (qV st),some (.fls (ans.map .int))]) (ρ':=[some (.ref H.length),some (qV st),some (.fls (ans.map .int))]) rfl rfl ?_);unfold bN;have z:=BL (st:=st) (H:=H++[.ins 1 []]);rw[zN,kj] at z
 rw[zt (uD (H:=H) (c:=1) (fs:=[]) (X:=[.dic (xS st)]) (v:=.ref (H.length+1)) (fs':=[("shelves",.ref (H.length+1))]) rfl (by
  simp only[iP,zh,ky,bnd,eC,ze,zE,zq]
  exact z) f1 (by simp))]
 rw[zt (uD (H:=H) (c:=1) (X:=[.dic (xS st)]) (v:=.fls (ans.map .int)) (fs:=[("shelves",.ref (H.length+1))]) (fs':=[("shelves",.ref (H.length+1)),("answers",.fls (ans.map .int))]) (by simp[xV,n1]) (by
  simp only[zh,ky,bnd,ze,zE,zq,gu,xT,getL]) f2 (by simp))]
 have c0:(0:Nat)<=cap:=by decide
 rw[zt (uD (H:=H) (c:=1) (X:=[.dic (xS st),.lst []]) (v:=.ref (H.length+2)) (fs:=[("shelves",.ref (H.length+1)),("answers",.fls (ans.map .int))]) (fs':=[("shelves",.ref (H.length+1)),("answers",.fls (ans.map .int)),("spoken",.ref (H.length+2))]) (by simp[xV,n2,n4]) (by
  simp only[zh,ky,bnd,xW,zV,c0,kE,zN,zp,kj,jk,kI]) f3 (by simp))]
 rw[uD (H:=H) (c:=1) (X:=[.dic (xS st),.lst []]) (v:=.int 0) (fs:=[("shelves",.ref (H.length+1)),("answers",.fls (ans.map .int)),("spoken",.ref (H.length+2))]) (fs':=uB (H.length+1) (H.length+2) (ans.map .int) 0) (by simp[xV,n3,n5,n6]) rfl f4 (by simp)]
def J7(hr:rl=.tup (ki rs)):(step F).bf [.ref H.length,rl,d] (H++[.ins 0 []])=some (.non,H++[.ins 0 (yA (ki rs) (H.length+1) (H.length+2) .non),.lst [.tup [.bl false,d,.fdc []]],.lst []]):=by
 subst hr;rw[f_dinit];obtain⟨n1,n2,n3,n4,n5,n6⟩:=F5;refine fw (yT (ρ:=[some (.ref H.length),some (.tup (ki rs)),some d]) (ρ':=[some (.ref H.length),some (.tup (ki rs)),some d]) rfl rfl ?_);unfold bj;have c0:(0:Nat)<=cap:=by decide
 have c1:(1:Nat)<=cap:=by decide
 have c3:(3:Nat)<=cap:=by decide
 rw[zt (uD (H:=H) (c:=0) (fs:=[]) (X:=[]) (v:=.tup (ki rs)) (fs':=[("rules",.tup (ki rs))]) rfl rfl f_rules (by simp))]
 rw[zt (uD (H:=H) (c:=0) (X:=[.lst [.tup [.bl false,d,.fdc []]]]) (v:=.ref (H.length+1)) (fs:=[("rules",.tup (ki rs))]) (fs':=[("rules",.tup (ki rs)),("steps",.ref (H.length+1))]) (by simp[xV,n1]) (by
  simp only[zh,ky,bnd,eC,ze,zE,zq,zv,zV,zp,c3,c1,kE,xW,zN,kj,jk,kI]) f_steps (by simp))]
 rw[zt (uD (H:=H) (c:=0) (X:=[.lst [.tup [.bl false,d,.fdc []]],.lst []]) (v:=.ref (H.length+2)) (fs:=[("rules",.tup (ki rs)),("steps",.ref (H.length+1))]) (fs':=[("rules",.tup (ki rs)),("steps",.ref (H.length+1)),("worths",.ref (H.length+2))]) (by simp[xV,n2,n4]) (by
  simp only[zh,ky,bnd,xW,zV,c0,kE,zN,zp,kj,jk,kI]) f_worths (by simp))]
 rw[uD (H:=H) (c:=0) (X:=[.lst [.tup [.bl false,d,.fdc []]],.lst []]) (v:=.non) (fs:=[("rules",.tup (ki rs)),("steps",.ref (H.length+1)),("worths",.ref (H.length+2))]) (fs':=yA (ki rs) (H.length+1) (H.length+2) .non) (by simp[xV,n3,n5,n6]) rfl f_ahead (by simp)]
def Y6{ans:List Int}(e1:m1 ρ H=some (qV st,H))(e2:m2 ρ H=some (.fls (ans.map .int),H)):uq 1 (step (step F)).dO [m1,m2] ρ H=some (.ref H.length,H++[.ins 1 (uB (H.length+1) (H.length+2) (ans.map .int) 0),.dic (xS st),.lst []]):=by
 have e:(step (step F)).dO [.ref H.length,qV st,.fls (ans.map .int)] (H++[.ins 1 []])=_:=Vi (F:=F) (H:=H) (st:=st) (ans:=ans);unfold uq;simp only[ky,bnd,e1,e2,e];rw[zY (by simp)]
def Ve(e1:m1 ρ H=some (.tup (ki rs),H))(e2:m2 ρ H=some (d,H)):uq 0 (step (step F)).cI [m1,m2] ρ H=some (.ref H.length,H++[.ins 0 (yA (ki rs) (H.length+1) (H.length+2) .non),.lst [.tup [.bl false,d,.fdc []]],.lst []]):=by
 have e:(step (step F)).cI [.ref H.length,.tup (ki rs),d] (H++[.ins 0 []])=_:=J7 (F:=F) (H:=H) (d:=d) rfl;unfold uq;simp only[ky,bnd,e1,e2,e];rw[zY (by simp)]
theorem Ub(rs:List Rule)(d:D)(H:MH):Sim na rs (H++[.ins 0 (yA (ki rs) (H.length+1) (H.length+2) .non),.lst [.tup [.bl false,zk d,.fdc []]],.lst []]) H.length (H.length+1) (H.length+2) [] 10 [.tup [.bl false,zk d,.fdc []]] [(false,d,[])] [] [] .non:=by
 refine⟨⟨Kg,?_,?_,by omega,by omega,by omega⟩,StR.cons (st:=[]) .nil .nil,rfl,λc n i a=>by simp at a,vL,λn hn=>by simp at hn,by simp,by simp⟩
 .rw[zG ∅,show H.length+1-H.length=1 by omega];rfl
 .rw[zG ∅,show H.length+2-H.length=2 by omega];rfl
theorem YD{ans:List Int}:RmR (H++[.ins 1 (uB (H.length+1) (H.length+2) (ans.map .int) 0),.dic (xS st),.lst []]) H.length (H.length+1) (H.length+2) ⟨st,ans,[],0⟩:=by
 refine⟨Kg,?_,?_,by omega,by omega,by omega⟩
 .rw[zG ∅,show H.length+1-H.length=1 by omega];rfl
 .rw[zG ∅,show H.length+2-H.length=2 by omega];rfl
end
section
variable{B:MH}{na:Nat}{rs:List Rule}{H:MH}{nr np n0:Nat}{L:List Do}{r:Rm}{F:Fs}
noncomputable abbrev blk(rs:List Rule)(d:D)(n:Nat):MH:=[.ins 0 (yA (ki rs) (n+1) (n+2) .non),.lst [.tup [.bl false,zk d,.fdc []]],.lst []]
def Wd.add(w:Wd B na rs H nr np n0 L r)(hn0:B.length<=n0){d:D}{T:Tr Int}{c:Nat}(R:Rep rs [(false,d,[])] [] [] T c)(hc:5*c+210<=cap)(hb:r.sp.length+((L.map Do.c).sum+c)<cap):Wd B na rs ((H++blk rs d H.length).set n0 (.lst ((L.map λd=>.ref d.nd)++[.ref H.length]))) nr np n0 (L++[⟨H.length,H.length+1,H.length+2,[],10,T,c⟩]) r:=by
 have n0lt:=zS w.l;have l1:(H++blk rs d H.length)[n0]?=some (.lst (L.map λd=>.ref d.nd)):=by rw[zy n0lt];exact w.l
 have f0:Fm [n0] (H++blk rs d H.length) ((H++blk rs d H.length).set n0 (.lst ((L.map λd=>.ref d.nd)++[.ref H.length]))):=Fm.set (by simp);have f1:Fm [n0] H ((H++blk rs d H.length).set n0 (.lst ((L.map λd=>.ref d.nd)++[.ref H.length]))):=(Fm.app _).trans f0;have d0:DicP na (H++blk rs d H.length) ((H++blk rs d H.length).set n0 (.lst ((L.map λd=>.ref d.nd)++[.ref H.length]))):=uz l1 (λ_=>nofun);have d1:DicP na H ((H++blk rs d H.length).set n0 (.lst ((L.map λd=>.ref d.nd)++[.ref H.length]))):=(uy _).trans d0
 have S:=(Ub (na:=na) rs d H).frame f0 d0 (λn hn z=>by
  simp only[zb,zc,zM] at hn z
  omega)
 have get:∀i e,(L++[⟨H.length,H.length+1,H.length+2,[],10,T,c⟩])[i]?=some e->(i=L.length/\e=⟨H.length,H.length+1,H.length+2,[],10,T,c⟩)\/(i<L.length/\L[i]?=some e):=λi e h=>by
  by_cases q:i<L.length
  .rw[zy q] at h
   exact .inr ⟨q,h⟩
  .rw[zG ∅] at h
   have z:i-L.length=0:=by have:=zS h;simp at this;omega
   rw[z] at h;injection h with h;exact .inl ⟨by omega,h.symm⟩
 have ap0:∀(i:Nat) (e:Do),L[i]?=some e->Ap e.own [n0]:=λi e he n hn z=>by
  simp only[zb (a:=n) (b:=n0),zc,zM] at z;exact(w.rm i e he).2 (z▸hn)
 have rlt:=λn hn=>Lp.lt' w.g n hn
 refine⟨λi e h=>?_,λi k e1 e2 hik h1 h2=>?_,λi e h=>?_,w.g.frame f1 (λn hn z=>?_),?_,w.n,w.an,?_,f1.pre w.p (λn hn=>?_),λi e h=>?_,w.lr⟩
 .rcases get i e h with ⟨rfl,rfl⟩ | ⟨hi,he⟩
  .exact⟨.mk S R,zj _,by simp only;omega⟩
  .obtain⟨⟨S,R⟩,h1,h2⟩:=w.ac i e he
   exact⟨⟨S.frame f1 d1 (ap0 i e he),R⟩,h1,h2⟩
 .rcases get i e1 h1 with ⟨rfl,rfl⟩ | ⟨hi,he⟩<;>rcases get k e2 h2 with ⟨rfl,rfl⟩ | ⟨hk,he2⟩
  .exact absurd rfl hik
  .intro n hn z
   have:=(w.ac k e2 he2).1.lt n z;simp only[zb,zc,zM] at hn;omega
  .intro n hn z
   have:=(w.ac i e1 he).1.lt n hn;simp only[zb,zc,zM] at z;omega
  .exact w.dj i k e1 e2 hik he he2
 .rcases get i e h with ⟨rfl,rfl⟩ | ⟨hi,he⟩
  .refine⟨λn hn z=>?_,λz=>?_⟩
   .have:=rlt n z
    simp only[zb,zc,zM] at hn;omega
   .simp only[zb,zc,zM] at z
    omega
  .exact w.rm i e he
 .simp only[zb (a:=n) (b:=n0),zc,zM] at z
  exact w.n (z▸hn)
 .rw[vB]
  exact zH (zS l1)
 .simp only[vB,List.sum_append,zx,jh,yJ,List.sum_nil]
  omega
 .simp only[zb,zc,zM] at hn
  omega
 .rcases get i e h with ⟨rfl,rfl⟩ | ⟨hi,he⟩
  .intro n hn
   have:=w.p.length_le;simp only[zb,zc,zM] at hn;omega
  .exact w.lo i e he
where
 Lp.lt' {H:MH} {nr na np:Nat} {r:Rm} (g:RmR H nr na np r):∀n∈[nr,na,np],n<H.length:=λn hn=>by
  simp only[zb,zc,zM] at hn;rcases hn with rfl | rfl | rfl
  .exact zS g.r
  .exact zS g.a
  .exact zS g.p
theorem ZK(hC:5*C+210<=cap):∀(ds:List D) {H:MH} {L:List Do} (o:Option W),Wd B na rs H nr np n0 L r->B.length<=n0->(∀d∈ds,Rep rs [(false,d,[])] [] [] (tr d) C)->r.sp.length+((L.map Do.c).sum+ds.length*C)<cap->L.length+ds.length<=1000->
  ∃H' L',vv 1 (zC 0) kL (uq 0 (step (step F)).cI [ze 1,ze 0]) n0 (ds.map zk) [o,some (.tup (ki rs))] H=some H'/\Wd B na rs H' nr np n0 L' r/\trees L'=trees L++ds.map tr/\L'.length=L.length+ds.length
 | [],H,L,o,w,hn,hR,hb,hl=>⟨H,L,by simp[vv],w,by simp,by simp⟩
 | d::ds,H,L,o,w,hn,hR,hb,hl=>by
  simp only[zp,vY,Nat.one_mul] at hb hl;have w1:=w.add hn (hR d zX) hC ∅;obtain⟨H',L',e,w2,tr2,ln⟩:=ZK hC ds none w1 hn (λd hd=>hR d (zJ _ hd)) (by simp only[vB,List.sum_append,zx,jh,yJ,List.sum_nil];omega) (by simp;omega);refine⟨H',L',?_,w2,?_,?_⟩
  .simp only[zx]
   unfold vv;have g:zC 0 (zk d) [o,some (.tup (ki rs))] H=some ([some (zk d),some (.tup (ki rs))],H):=rfl;have m:=Ve (F:=F) (rs:=rs) (H:=H) (d:=zk d) (ρ:=[some (zk d),some (.tup (ki rs))]) (m1:=ze 1) (m2:=ze 0) rfl rfl;have l1:(H++blk rs d H.length)[n0]?=some (.lst (L.map λd=>.ref d.nd)):=by rw[zy (zS w.l)];exact w.l
   simp only[g,kL];rw[m];simp only[l1];rw[zY (by rw[zO];exact zL (show L.length<1001 by omega) (by decide))];exact e
  .rw[tr2]
   simp[trees]
  .rw[ln]
   simp only[zN,zp,zV];omega
noncomputable def tf(q:List Int×Rm):W:=.tup [.fls (q.1.map .int),qV q.2.st,.fls (q.2.sp.map .int),.int q.2.k]
noncomputable def t9(Ts:List (Tr Int))(r:Rm)(ns:List Int):List Int×Rm:=bS (ns.foldl bE (Ts,r)).1 (ns.foldl bE (Ts,r)).2
def fN{l:List Int}:low m (.fls (l.map .int))=true:=Zb λw hw=>by obtain⟨v,_,rfl⟩:=jd.mp hw;exact vT
theorem pH{q:List Int×Rm}:low m (tf q)=true:=by
 unfold tf low lows;rw[fN];unfold lows;rw[iE];unfold lows;rw[fN];unfold lows;rw[vT];unfold lows;rfl
theorem f_by(F:Fs):(step F).cJ=gc (kd 5 5 (dg F)):=rfl
theorem UZ(F:Fs):dg F=zo (zD (uq 1 F.dO [ze 2,ze 3]) (zC 5)) (zo (zD (xO (qq (ze 1)) 1 [0] (zC 0) kL (uq 0 F.cI [ze 1,ze 0])) (zC 6)) (zo (xR (qq (ze 4)) (zC 7) (Qn F)) (zo (xR (qq (ze 6)) (zC 8) (WZ F)) (zo (zD (ja (qq (ze 6)) 1 [] (zC 0) kL (kb (mt F) "came_to" (ze 0) [])) (zC 9)) (ku (zh zv [ze 9,kb (mt F) "store" (ze 5) [],kb (mt F) "said" (ze 5) [],kG kx "asks" (ze 5)])))))):=rfl
theorem rO:∀(Ts:List (Tr Int)) (r:Rm),(bS Ts r).1.length=Ts.length
 | [],r=>rfl
 | T::Ts,r=>by simp only[bS,zp];rw[rO Ts]
theorem VL(p:List (Tr Int)×Rm)(n:Int):(bE p n).1.length=p.1.length:=by
 unfold bE;split
 .split
  .simp
  .rfl
 .rfl
theorem nV:∀(ns:List Int) (p:List (Tr Int)×Rm),(ns.foldl bE p).1.length=p.1.length
 | [],p=>rfl
 | n::ns,p=>by rw[jX,nV ns,VL]
theorem V9(hr:RsOk rs){ds:List D}{ans ns:List Int}(hC:5*C+210<=cap)(hR:∀d∈ds,Rep rs [(false,d,[])] [] [] (tr d) C)(hb:ds.length*C<cap)(hl:ds.length<=1000)(ha:ans.length<=cap)(H:MH) :
  (step (G6 F)).cJ [.tup (ki rs),.fls (ds.map zk),qV st,.fls (ans.map .int),.fls (ns.map .int)] H=some (tf (t9 (ds.map tr) ⟨st,ans,[],0⟩ ns),H):=by
 have c4:(4:Nat)<=cap:=by decide
 have g0:=YD (H:=H) (st:=st) (ans:=ans);have mr:=Y6 (F:=step (step (step (step F)))) (H:=H) (st:=st) (ans:=ans) (ρ:=[some (.tup (ki rs)),some (.fls (ds.map zk)),some (qV st),some (.fls (ans.map .int)),some (.fls (ns.map .int)),none,none,none,none,none]) (m1:=ze 2) (m2:=ze 3) rfl rfl;have p0:H<+:(H++[.ins 1 (uB (H.length+1) (H.length+2) (ans.map .int) 0),.dic (xS st),.lst []]:MH):=jl _ _;have len1:(H++[.ins 1 (uB (H.length+1) (H.length+2) (ans.map .int) 0),.dic (xS st),.lst []]:MH).length=H.length+3:=by rw[zN];rfl
 generalize (H++[.ins 1 (uB (H.length+1) (H.length+2) (ans.map .int) 0),.dic (xS st),.lst []]:MH)=H1 at g0 mr p0 len1;have w0:Wd H (H.length+1) rs (H1++[.lst []]) H.length (H.length+2) H1.length [] ⟨st,ans,[],0⟩:=
  ⟨λj d h=>by simp at h,λi j d e _ h=>by simp at h,λj d h=>by simp at h,g0.frame (B:=[]) (Fm.app _) (λn _ z=>by simp at z),at0 _ _,λz=>by simp only[zb,zc,zM] at z;omega,ha,by simp;decide,p0.trans (jl _ _),λj d h=>by simp at h,λn hn=>by simp only[zb,zc,zM] at hn;omega⟩
 obtain⟨H2,L,e2,w2,t2,l2⟩:=ZK (F:=step (step (step (step F)))) hC ds none w0 ∅ hR (by simpa using hb) (by simpa using hl);obtain⟨H3,L3,r3,o7,e3,w3,t3⟩:=g9 (F:=F) (a:=.tup (ki rs)) (b:=.fls (ds.map zk)) (c:=qV st) (d:=.fls (ans.map .int)) (e:=.fls (ns.map .int)) hr ns none w2;have t2':trees L=ds.map tr:=by rw[t2];rfl
 have len3:L3.length=ds.length:=by
  have:(trees L3).length=ds.length:=by
   rw[show trees L3=(ns.foldl bE (trees L,⟨st,ans,[],0⟩)).1 by rw[<-t3],nV,t2',zO]
  simpa[trees] using this
 obtain⟨H4,L4,o8,e4,w4,t4,z4⟩:=rC (F:=F) (a:=.tup (ki rs)) (b:=.fls (ds.map zk)) (c:=qV st) (d:=.fls (ans.map .int)) (e:=.fls (ns.map .int)) (o7:=o7) (o9:=none) hr L3 (L1:=[]) none (L3.length+1) (by simpa using w3) ∅ (λd hd=>by simp at hd);rw[kI] at w4;simp only[kI] at z4;have q:bS (trees L3) r3=t9 (ds.map tr) ⟨st,ans,[],0⟩ ns:=by
  unfold t9;rw[<-t2',<-t3]
 rw[q] at w4 t4;have ln4:L4.length=ds.length:=by
  have:(trees L4).length=ds.length:=by rw[t4,zO,<-q,rO];simpa[trees] using len3
  simpa[trees] using this
 have ca:=Vj (F:=step (step (step (step (step F))))) w4 t4 z4 (ρ:=ρB (.tup (ki rs)) (.fls (ds.map zk)) (qV st) (.fls (ans.map .int)) (.fls (ns.map .int)) H.length H1.length o7 o8 none) rfl ∅;have ms:=YC (F:=step (step (step (step (step F))))) (mo:=ze 5) (ρ:=ρB (.tup (ki rs)) (.fls (ds.map zk)) (qV st) (.fls (ans.map .int)) (.fls (ns.map .int)) H.length H1.length o7 o8 (some (.fls ((t9 (ds.map tr) ⟨st,ans,[],0⟩ ns).1.map .int)))) w4.g rfl;have md:=UC (F:=step (step (step (step (step F))))) (mo:=ze 5) (ρ:=ρB (.tup (ki rs)) (.fls (ds.map zk)) (qV st) (.fls (ans.map .int)) (.fls (ns.map .int)) H.length H1.length o7 o8 (some (.fls ((t9 (ds.map tr) ⟨st,ans,[],0⟩ ns).1.map .int)))) w4.g rfl;have mk:=w4.g.fK;have g6:step (step (step (step (step (step F)))))=G6 F:=rfl;rw[g6] at mr e2 ca ms md;rw[f_by];refine xD (xC (ρ:=[some (.tup (ki rs)),some (.fls (ds.map zk)),some (qV st),some (.fls (ans.map .int)),some (.fls (ns.map .int)),none,none,none,none,none]) rfl rfl ?_) pH w4.p (.inl nofun);rw[UZ];rw[zt (ρ':=[some (.tup (ki rs)),some (.fls (ds.map zk)),some (qV st),some (.fls (ans.map .int)),some (.fls (ns.map .int)),some (.ref H.length),none,none,none,none]) (h':=H1) (b9 mr rfl)];rw[zt (ρ':=ρB (.tup (ki rs)) (.fls (ds.map zk)) (qV st) (.fls (ans.map .int)) (.fls (ns.map .int)) H.length H1.length none none none) (h':=H2) (b9 (iY (h1:=H1) (l:=ds.map zk) rfl rfl e2) rfl)]
 rw[zt (ρ':=ρB (.tup (ki rs)) (.fls (ds.map zk)) (qV st) (.fls (ans.map .int)) (.fls (ns.map .int)) H.length H1.length o7 none none) (h':=H3) (by
  unfold xR;rw[show qq (ze 4) (ρB (.tup (ki rs)) (.fls (ds.map zk)) (qV st) (.fls (ans.map .int)) (.fls (ns.map .int)) H.length H1.length none none none) H2=some (.items (ns.map .int),H2) from rfl]
  exact e3)]
 have wl3:=w3.l
 rw[zt (ρ':=ρB (.tup (ki rs)) (.fls (ds.map zk)) (qV st) (.fls (ans.map .int)) (.fls (ns.map .int)) H.length H1.length o7 o8 none) (h':=H4) (by
  unfold xR;rw[show qq (ze 6) (ρB (.tup (ki rs)) (.fls (ds.map zk)) (qV st) (.fls (ans.map .int)) (.fls (ns.map .int)) H.length H1.length o7 none none) H3=some (.live H1.length,H3) by simp only[qq,bnd,ze,zE,zq,srcOf,wl3]];have sl:fq (.live H1.length) H3=L3.length:=by simp only[fq,wl3,zO]
  simp only[sl]
  exact e4)]
 rw[zt (ρ':=ρB (.tup (ki rs)) (.fls (ds.map zk)) (qV st) (.fls (ans.map .int)) (.fls (ns.map .int)) H.length H1.length o7 o8 (some (.fls ((t9 (ds.map tr) ⟨st,ans,[],0⟩ ns).1.map .int)))) (h':=H4) (b9 ca rfl)];unfold ku zh;simp only[ky,bnd,ze,zE,zq];rw[ms];simp only;rw[md];simp only[kG,bnd,ze,zE,zq,mk,zv,zp,zV,c4,kE];rfl
end
section
variable{rs:List Rule}{H:MH}{F:Fs}{tr:D->Tr Int}{C:Nat}{st:Str->Int}{ans:List Int}
theorem f_all(F:Fs):(step F).bY=gc (kd 4 0 (cM F)):=rfl
theorem aA(F:Fs):(step F).aA=gc (kd 4 1 (fu F)):=rfl
def J9(hr:RsOk rs){ds:List D}(hC:5*C+210<=cap)(hR:∀d∈ds,Rep rs [(false,d,[])] [] [] (tr d) C)(hb:ds.length*C<cap)(hl:ds.length<=1000)(ha:ans.length<=cap)(H:MH) :
  (step (step (G6 F))).bY [.tup (ki rs),.fls (ds.map zk),qV st,.fls (ans.map .int)] H=some (tf (bS (ds.map tr) ⟨st,ans,[],0⟩),H):=by
 have e:=V9 (F:=F) (st:=st) (ns:=[]) hr hC hR hb hl ha H;have c0:(0:Nat)<=cap:=by decide
 rw[f_all];generalize step (G6 F)=G at e ⊢;refine uX (xC (ρ:=[some (.tup (ki rs)),some (.fls (ds.map zk)),some (qV st),some (.fls (ans.map .int))]) rfl rfl ?_) pH;unfold cM ku zh;simp only[ky,bnd,ze,zE,zq,j2,zV,c0,kE];have e':G.cJ [.tup (ki rs),.fls (ds.map zk),qV st,.fls (ans.map .int),.fls []] H=some (tf (bS (ds.map tr) ⟨st,ans,[],0⟩),H):=e;rw[e']
noncomputable def lE(v:Int)(r:Rm):W:=.tup [.int v,qV r.st,.fls (r.sp.map .int),.int r.k]
theorem Va:low m (lE v r)=true:=by
 unfold lE low lows;rw[vT];unfold lows;rw[iE];unfold lows;rw[fN];unfold lows;rw[vT];unfold lows;rfl
def DO(hr:RsOk rs){T:Tr Int}(hC:5*C+210<=cap)(hR:Rep rs [(false,d,[])] [] [] T C)(hb:C<cap)(ha:ans.length<=cap)(H:MH) :
  (step (step (step (G6 F)))).aA [.tup (ki rs),zk d,qV st,.fls (ans.map .int)] H=some (lE (kH T ⟨st,ans,[],0⟩).1 (kH T ⟨st,ans,[],0⟩).2.1,H):=by
 have e:=J9 (F:=F) (st:=st) (tr:=λ_=>T) (ds:=[d]) hr hC (λx hx=>by simp at hx;subst hx;exact hR) (by simpa using hb) (by simp) ha H;have c1:(1:Nat)<=cap:=by decide
 have c4:(4:Nat)<=cap:=by decide
 rw[aA];generalize step (step (G6 F))=G at e ⊢;refine uX (xC (ρ:=[some (.tup (ki rs)),some (zk d),some (qV st),some (.fls (ans.map .int)),none]) rfl rfl ?_) Va;have e':G.bY [.tup (ki rs),.fls [zk d],qV st,.fls (ans.map .int)] H=some (.tup [.fls [.int (kH T ⟨st,ans,[],0⟩).1],qV (kH T ⟨st,ans,[],0⟩).2.1.st,.fls ((kH T ⟨st,ans,[],0⟩).2.1.sp.map .int),.int (kH T ⟨st,ans,[],0⟩).2.1.k],H):=e;unfold lE;generalize (kH T ⟨st,ans,[],0⟩).1=v at e' ⊢;generalize (kH T ⟨st,ans,[],0⟩).2.1=q at e' ⊢;simp![fu,j2,c1,e',xZ,xt,g7,pO,uJ,zv,c4]
end
theorem xY{α β:Type}(f:α->Tr β):∀(T:Tr α) (r:Rm),kH (T.bind f) r=((kH (f (kH T r).1) (kH T r).2.1).1,(kH (f (kH T r).1) (kH T r).2.1).2.1,(kH T r).2.2++(kH (f (kH T r).1) (kH T r).2.1).2.2)
 | .ret a,r=>by simp[Tr.bind,kH]
 | .tch t k,r=>by
  simp only[Tr.bind,kH];rw[xY f (k (jI t r).1) (jI t r).2];rfl
noncomputable def shf(pre:List Int)(T:Tc):Tc:=T.bind λp=>.ret (p.1,pre++p.2)
structure ShR(pre:List Int)(N O H:List Str)(ρ1 ρ2:Sv):Prop where
 nm:∀v∈N,∃i,ρ1 v=.int i/\ρ2 v=.int i
 ow:∀v∈O,∃c,ρ1 v=.cell c/\ρ2 v=.cell (pre.length+c)
 hd:∀v∈H,∃f g,ρ1 v=.fn f/\ρ2 v=.fn g/\∀cs,g (pre++cs)=shf pre (f cs)
section
variable{pre:List Int}{rs:List Rule}{R:Rn}
def ShR.lett{N O H:List Str}{ρ1 ρ2:Sv}{x:Str}{i:Int}(e:ShR pre N O H ρ1 ρ2)(ho:x∉O)(hh:x∉H):ShR pre (N++[x]) O H (us ρ1 x (.int i)) (us ρ2 x (.int i)):=by
 unfold us;refine⟨λv hv=>?_,λv hv=>?_,λv hv=>?_⟩
 .by_cases q:x=v
  .exact⟨i,zY q,zY q⟩
  .have:v∈N:=by
    rcases zU.mp hv with z | z
    .exact z
    .simp at z;exact absurd z.symm q
   obtain⟨j,a,b⟩:=e.nm v this;exact⟨j,by rw[kO q,a],by rw[kO q,b]⟩
 .have q:x≠v:=λz=>ho (z▸hv)
  obtain⟨c,a,b⟩:=e.ow v hv;exact⟨c,by rw[kO q,a],by rw[kO q,b]⟩
 .have q:x≠v:=λz=>hh (z▸hv)
  obtain⟨f,g,a,b,z⟩:=e.hd v hv;exact⟨f,g,by rw[kO q,a],by rw[kO q,b],z⟩
def ShR.own{N O H:List Str}{ρ1 ρ2:Sv}{x:Str}{c:Nat}(e:ShR pre N O H ρ1 ρ2)(ho:x∉N)(hh:x∉H):ShR pre N (O++[x]) H (us ρ1 x (.cell c)) (us ρ2 x (.cell (pre.length+c))):=by
 unfold us;refine⟨λv hv=>?_,λv hv=>?_,λv hv=>?_⟩
 .have q:x≠v:=λz=>ho (z▸hv)
  obtain⟨c,a,b⟩:=e.nm v hv;exact⟨c,by rw[kO q,a],by rw[kO q,b]⟩
 .by_cases q:x=v
  .exact⟨c,zY q,zY q⟩
  .have:v∈O:=by
    rcases zU.mp hv with z | z
    .exact z
    .simp at z;exact absurd z.symm q
   obtain⟨j,a,b⟩:=e.ow v this;exact⟨j,by rw[kO q,a],by rw[kO q,b]⟩
 .have q:x≠v:=λz=>hh (z▸hv)
  obtain⟨f,g,a,b,z⟩:=e.hd v hv;exact⟨f,g,by rw[kO q,a],by rw[kO q,b],z⟩
theorem Za:∀(l:List (Str×Int)) {ρ1 ρ2:Sv},ShR pre N [] [] ρ1 ρ2->ShR pre (N++l.map (·.1)) [] [] (l.foldl (λe p=>us e p.1 (.int p.2)) ρ1) (l.foldl (λe p=>us e p.1 (.int p.2)) ρ2)
 | [],ρ1,ρ2,e=>by simpa using e
 | (x,i)::r,ρ1,ρ2,e=>by
  have:=Za r (e.lett (x:=x) (i:=i) (by simp) (by simp));rw[kj] at this;exact this
theorem J1:∀(l:List (Str×(List Int->Tc)×(List Int->Tc))) (H:List Str) {ρ1 ρ2:Sv},(∀v∈N,v∉l.map (·.1))->(∀p∈l,∀cs,p.2.2 (pre++cs)=shf pre (p.2.1 cs))->ShR pre N [] H ρ1 ρ2->
  ShR pre N [] (H++l.map (·.1)) (l.foldl (λe p=>us e p.1 (.fn p.2.1)) ρ1) (l.foldl (λe p=>us e p.1 (.fn p.2.2)) ρ2)
 | [],H,ρ1,ρ2,_,_,e=>by simpa using e
 | (x,f,g)::r,H,ρ1,ρ2,hN,hB,e=>by
  have hx:∀v∈N,v≠x:=λv hv z=>hN v hv (by simp[z])
  have e2:ShR pre N [] (H++[x]) (us ρ1 x (.fn f)) (us ρ2 x (.fn g)):=by
   unfold us;refine⟨λv hv=>?_,λv hv=>by simp at hv,λv hv=>?_⟩
   .obtain⟨i,a,b⟩:=e.nm v hv
    have q:¬x=v:=λz=>hx v hv z.symm
    exact⟨i,by rw[kO q,a],by rw[kO q,b]⟩
   .by_cases q:x=v
    .exact⟨f,g,zY q,zY q,hB (x,f,g) zX⟩
    .have:v∈H:=by
      rcases zU.mp hv with z | z
      .exact z
      .simp at z;exact absurd z.symm q
     obtain⟨f',g',a,b,z⟩:=e.hd v this;exact⟨f',g',by rw[kO q,a],by rw[kO q,b],z⟩
  have:=J1 r (H++[x]) (λv hv z=>hN v hv (by simp only[zx];exact zJ _ z)) (λp hp=>hB p (zJ _ hp)) e2;rw[kj] at this;exact this
theorem Zo{σ:Type}(f:σ->Str×(List Int->Tc)->σ):∀(hs:List Str) (fs gs:List (List Int->Tc)) (s:σ),fs.length=gs.length->(hs.zip fs).foldl f s=(hs.zip (fs.zip gs)).foldl (λe p=>f e (p.1,p.2.1)) s
 | [],_,_,_,_=>rfl
 | _::_,[],[],_,_=>rfl
 | x::hs,b::bs,c::cs,s,h=>by simp only[jq,jX];exact Zo f hs bs cs _ (by simpa using h)
theorem ZL{σ:Type}(f:σ->Str×(List Int->Tc)->σ):∀(hs:List Str) (fs gs:List (List Int->Tc)) (s:σ),fs.length=gs.length->(hs.zip gs).foldl f s=(hs.zip (fs.zip gs)).foldl (λe p=>f e (p.1,p.2.2)) s
 | [],_,_,_,_=>rfl
 | _::_,[],[],_,_=>rfl
 | x::hs,b::bs,c::cs,s,h=>by simp only[jq,jX];exact ZL f hs bs cs _ (by simpa using h)
def Xy{r:Rule}{fs gs:List (List Int->Tc)}(hf:fs.length=r.hs.length)(hg:gs.length=r.hs.length)(hd:∀v∈r.ns,v∉r.hs)(hB:∀p∈fs.zip gs,∀cs,p.2 (pre++cs)=shf pre (p.1 cs)):ShR pre r.ns [] r.hs (cρ r xs fs) (cρ r xs gs):=by
 unfold cρ;rw[Zo (λe p=>us e p.1 (.fn p.2)) r.hs fs gs _ ∅,ZL (λe p=>us e p.1 (.fn p.2)) r.hs fs gs _ ∅];have e0:ShR pre r.ns [] [] ρ0 ρ0:=⟨λv hv=>⟨0,rfl,rfl⟩,λv hv=>by simp at hv,λv hv=>by simp at hv⟩;have e1':=Za (r.ns.zip xs) e0;have e1:ShR pre r.ns [] [] _ _:=⟨λv hv=>e1'.nm v (jM _ hv),e1'.ow,e1'.hd⟩;have zl:(r.hs.zip (fs.zip gs)).map (·.1)=r.hs:=iu (by rw[qd];omega);have e2:=J1 (r.hs.zip (fs.zip gs)) [] (by rw[zl];exact hd) (λp hp cs=>hB p.2 (j9 (a:=p.1) (b:=p.2) hp).2 cs) e1;rw[zl,kI] at e2;exact e2
noncomputable def W7(rs:List Rule)(pre:List Int)(R:Rn)(k:Nat):Prop:=∀i,i<k->∀r,rs[i]?=some r->∀(xs:List Int) (fs gs:List (List Int->Tc)) (cs:List Int),ShR pre r.ns [] r.hs (cρ r xs fs) (cρ r xs gs)->R i xs gs (pre++cs)=shf pre (R i xs fs cs)
theorem yy{β:Type}(T:Tc)(f:Int×List Int->Tr β):(shf pre T).bind f=T.bind λp=>f (p.1,pre++p.2):=by
 unfold shf;rw[Tr.bind_assoc];rfl
def y6{α:Type}(T:Tr α)(f:α->Tc):shf pre (T.bind f)=T.bind λp=>shf pre (f p):=by
 unfold shf;rw[Tr.bind_assoc]
theorem Yk{f:List Int->Tc}(h:∀cs,g (pre++cs)=shf pre (f cs)):∀(n:Nat) (cs:List Int),rp g n (pre++cs)=shf pre (rp f n cs)
 | 0,cs=>rfl
 | n+1,cs=>by
  simp only[rp];rw[h,yy,y6];congr 1
  funext p
  exact Yk h n p.2
def XI(cs:List Int)(c:Nat)(x:Int):(pre++cs).set (pre.length+c) x=pre++cs.set c x:=by
 rw[jO _ _ ∅,yI]
def X0(cs:List Int)(c:Nat):(pre++cs).getD (pre.length+c) 0=cs.getD c 0:=by
 rw[j5,j5,zG ∅,yI]
def Xo(cs:List Int):(pre++cs).length=pre.length+cs.length:=zN
theorem lf:∀(l:List D) (ρ:Sv),(xl R l ρ).length=l.length
 | [],_=>by simp[xl]
 | d::l,ρ=>by simp only[xl,zp];rw[lf l ρ]
mutual
theorem vS(HB:W7 rs pre R k)(hrs:RsOk rs):∀(d:D) {N O H:List Str} {ρ1 ρ2:Sv} (cs:List Int),Wf rs k d N O H->ShR pre N O H ρ1 ρ2->den R d ρ2 (pre++cs)=shf pre (den R d ρ1 cs)
 | .number i,N,O,H,ρ1,ρ2,cs,w,E=>by simp only[den,shf,Tr.bind]
 | .name v,N,O,H,ρ1,ρ2,cs,w,E=>by
  simp only[Wf] at w;obtain⟨i,a,b⟩:=E.nm v w;simp only[den,shf,Tr.bind,a,b]
 | .read v,N,O,H,ρ1,ρ2,cs,w,E=>by
  simp only[Wf] at w;by_cases q:v∈SH
  .simp only[den,q,kE,shf,Tr.bind]
  .obtain⟨c,a,b⟩:=E.ow v (w.resolve_left q)
   simp only[den,q,jj,shf,Tr.bind,a,b,SV.c,X0]
 | .doo v,N,O,H,ρ1,ρ2,cs,w,E=>by
  simp only[Wf] at w;obtain⟨f,g,a,b,z⟩:=E.hd v w;simp only[den,a,b,SV.f,z]
 | .ask,N,O,H,ρ1,ρ2,cs,w,E=>by simp only[den,shf,Tr.bind]
 | .write v a,N,O,H,ρ1,ρ2,cs,w,E=>by
  simp only[Wf] at w;simp only[den];rw[vS HB hrs a cs w.2 E,yy,y6];congr 1
  funext p
  by_cases q:v∈SH
  .simp only[q,kE,shf,Tr.bind]
  .obtain⟨c,a,b⟩:=E.ow v (w.1.resolve_left q)
   simp only[q,jj,shf,Tr.bind,a,b,SV.c,XI]
 | .say a,N,O,H,ρ1,ρ2,cs,w,E=>by
  simp only[Wf] at w;simp only[den];rw[vS HB hrs a cs w E,yy,y6];rfl
 | .lett v a b,N,O,H,ρ1,ρ2,cs,w,E=>by
  simp only[Wf] at w;simp only[den];rw[vS HB hrs a cs w.2.1 E,yy,y6];congr 1
  funext p
  exact vS HB hrs b p.2 w.2.2 (E.lett w.1.1 w.1.2.1)
 | .own v a b,N,O,H,ρ1,ρ2,cs,w,E=>by
  simp only[Wf] at w;simp only[den];rw[vS HB hrs a cs w.2.1 E,yy,y6];congr 1
  funext p
  rw[Xo,kj];exact vS HB hrs b (p.2++[p.1]) w.2.2 (E.own w.1.1 w.1.2.1)
 | .add a b,N,O,H,ρ1,ρ2,cs,w,E | .less a b,N,O,H,ρ1,ρ2,cs,w,E=>by
  simp only[Wf] at w;simp only[den];rw[vS HB hrs a cs w.1 E,yy,y6];congr 1
  funext p
  rw[vS HB hrs b p.2 w.2 E,yy,y6];rfl
 | .thenn a b,N,O,H,ρ1,ρ2,cs,w,E=>by
  simp only[Wf] at w;simp only[den];rw[vS HB hrs a cs w.1 E,yy,y6];congr 1
  funext p
  exact vS HB hrs b p.2 w.2 E
 | .loop a b,N,O,H,ρ1,ρ2,cs,w,E=>by
  simp only[Wf] at w;simp only[den];rw[vS HB hrs a cs w.1 E,yy,y6];congr 1
  funext p
  exact Yk (λcs=>vS HB hrs b cs w.2 E) _ _
 | .iff a b c,N,O,H,ρ1,ρ2,cs,w,E=>by
  simp only[Wf] at w;simp only[den];rw[vS HB hrs a cs w.1 E,yy,y6];congr 1
  funext p
  by_cases q:p.1=0
  .simp only[q,kE];exact vS HB hrs c p.2 w.2.2 E
  .simp only[q,jj];exact vS HB hrs b p.2 w.2.1 E
 | .call i as bs,N,O,H,ρ1,ρ2,cs,w,E=>by
  simp only[Wf] at w;obtain⟨hi,⟨r,hr,la,lb⟩,wa,wb⟩:=w;simp only[den];rw[tZ HB hrs as cs wa E,Tr.bind_assoc,y6];congr 1
  funext p
  exact HB i hi r hr p.1 (xl R bs ρ1) (xl R bs ρ2) p.2 (Xy (by rw[lf,lb]) (by rw[lf,lb]) (hrs.d i r hr) (ZC HB hrs bs wb E))
theorem tZ(HB:W7 rs pre R k)(hrs:RsOk rs):∀(l:List D) {N O H:List Str} {ρ1 ρ2:Sv} (cs:List Int),xw rs k l N O H->ShR pre N O H ρ1 ρ2->uL R l ρ2 (pre++cs)=(uL R l ρ1 cs).bind λp=>.ret (p.1,pre++p.2)
 | [],N,O,H,ρ1,ρ2,cs,w,E=>by simp only[uL,Tr.bind]
 | d::l,N,O,H,ρ1,ρ2,cs,w,E=>by
  simp only[xw] at w;simp only[uL];rw[vS HB hrs d cs w.1 E,yy,Tr.bind_assoc];congr 1
  funext p
  rw[tZ HB hrs l p.2 w.2 E,Tr.bind_assoc,Tr.bind_assoc];rfl
theorem ZC(HB:W7 rs pre R k)(hrs:RsOk rs):∀(l:List D) {N O H:List Str} {ρ1 ρ2:Sv},xw rs k l N O H->ShR pre N O H ρ1 ρ2->∀p∈(xl R l ρ1).zip (xl R l ρ2),∀cs,p.2 (pre++cs)=shf pre (p.1 cs)
 | [],N,O,H,ρ1,ρ2,w,E=>λp hp=>by simp[xl] at hp
 | d::l,N,O,H,ρ1,ρ2,w,E=>λp hp cs=>by
  simp only[xw] at w;simp only[xl,jq,zb] at hp;rcases hp with rfl | hp
  .exact vS HB hrs d cs w.1 E
  .exact ZC HB hrs l w.2 E p hp cs
end
theorem JO(hrs:RsOk rs):∀(k:Nat) {K:Nat},k<=K->W7 rs pre (ck rs K) k
 | 0,K,_=>λi hi=>by omega
 | k+1,K,hK=>by
  intro i hi r hr xs fs gs cs E;rw[ny hr (K:=K) ∅];exact vS (JO hrs i (K:=i) (zj _)) hrs r.body cs (hrs.w i r hr) E
termination_by k=>k
end
noncomputable abbrev Rr(rs:List Rule):Rn:=ck rs rs.length
noncomputable def treeOf(rs:List Rule)(d:D):Tr Int:=(den (Rr rs) d ρ0 []).bind λp=>.ret p.1
noncomputable abbrev cst(rs:List Rule)(d:D):Nat:=cost (y8 rs rs.length) 0 d
noncomputable abbrev Cd(rs:List Rule)(d:D):Prop:=Wf rs rs.length d [] [] []
section
variable{rs:List Rule}
def QP(hr:RsOk rs)(w:Cd rs d):Rep rs [(false,d,[])] [] [] (treeOf rs d) (cst rs d):=
 uh (bodies hr rs.length (zj _)) hr d w (env:=[]) (ρ:=ρ0) (h:=0) (m:=0) (cs:=[]) ⟨λv hv=>by simp at hv,λv hv=>by simp at hv,λv hv=>by simp at hv⟩ (zj _) [] [] (λp=>.ret p.1) 0 λv cs' _=>.done
theorem uO(hr:RsOk rs){d:D}(w:Cd rs d){β:Type}(cs:List Int)(f:Int->Tr β):((den (Rr rs) d ρ0 cs).bind λp=>f p.1)=(treeOf rs d).bind f:=by
 have:=vS (JO (pre:=cs) hr rs.length (zj _)) hr d (ρ1:=ρ0) (ρ2:=ρ0) [] w ⟨λv hv=>by simp at hv,λv hv=>by simp at hv,λv hv=>by simp at hv⟩;rw[z9] at this;unfold treeOf;rw[this,yy,Tr.bind_assoc];rfl
def Dr(hr:RsOk rs)(wa:Cd rs a)(wb:Cd rs b):treeOf rs (.add a b)=(treeOf rs a).bind λx=>(treeOf rs b).bind λy=>.ret ((x+y)%1009):=by
 rw[<-uO hr wa []];conv=>lhs;unfold treeOf
 simp only[den,Tr.bind_assoc];congr 1
 funext p
 exact uO hr wb p.2 λy=>.ret ((p.1+y)%1009)
noncomputable def asks:List (Tch×Int)->Nat
 | []=>0
 | (.ask,_)::l=>asks l+1
 | _::l=>asks l
end
noncomputable abbrev ok(i:Int):Prop:=0<=i/\i<=1008
def ok0:ok 0:=by decide
noncomputable def tok:Tch->Prop
 | .write _ x=>ok x
 | .say x=>ok x
 | _=>True
noncomputable def TI{α:Type}(P:α->Prop):Tr α->Prop
 | .ret a=>P a
 | .tch t k=>tok t/\∀v,ok v->TI P (k v)
noncomputable abbrev Pk(p:Int×List Int):Prop:=ok p.1/\∀x∈p.2,ok x
theorem TI.bind{α β:Type}{P:α->Prop}{Q:β->Prop}{f:α->Tr β}:∀{T:Tr α},TI P T->(∀a,P a->TI Q (f a))->TI Q (T.bind f)
 | .ret a,h,hf=>hf a h
 | .tch t k,h,hf=>⟨h.1,λv hv=>TI.bind (h.2 v hv) hf⟩
noncomputable def gF:SV->Prop
 | .int i=>ok i
 | .cell _=>True
 | .fn f=>∀cs,(∀x∈cs,ok x)->TI Pk (f cs)
def Ki(h:∀v,gF (ρ v))(ha:gF a)(v:Str):gF (us ρ x a v):=by
 unfold us;split
 .exact ha
 .exact h v
theorem mQ{α:Type}{g:α->SV}:∀{l:List (Str×α)} {ρ:Sv},(∀p∈l,gF (g p.2))->(∀v,gF (ρ v))->∀v,gF (l.foldl (λe p=>us e p.1 (g p.2)) ρ v)
 | [],ρ,_,h=>h
 | p::l,ρ,hl,h=>mQ (l:=l) (λq hq=>hl q (zJ _ hq)) (Ki h (hl p zX))
noncomputable abbrev okR(R:Rn):Prop:=∀i xs fs cs,(∀x∈xs,ok x)->(∀f∈fs,gF (.fn f))->(∀x∈cs,ok x)->TI Pk (R i xs fs cs)
def J2{cs:List Int}(h:∀x∈cs,ok x)(c:Nat):ok (cs.getD c 0):=by
 rw[j5];cases q:cs[c]? with
 | none=>exact ok0
 | some x=>exact h x (ju q)
def Bb{cs:List Int}{c:Nat}(h:∀x∈cs,ok x)(hx:ok x):∀y∈cs.set c x,ok y:=λy hy=>(List.mem_or_eq_of_mem_set hy).elim (h y) λe=>e▸hx
def X4(h:∀x∈cs,ok x)(hx:ok x):∀y∈cs++[x],ok y:=λy hy=>(zU.mp hy).elim (h y) λe=>xx.mp e▸hx
theorem W3{f:List Int->Tc}(hf:gF (.fn f)):∀(n:Nat) {cs:List Int},(∀x∈cs,ok x)->TI Pk (rp f n cs)
 | 0,cs,h=>⟨ok0,h⟩
 | n+1,cs,h=>(TI.bind (hf cs h) (λp hp=>W3 hf n hp.2))
section
variable{rs:List Rule}{R:Rn}{k:Nat}
mutual
theorem vj(HB:okR R):∀(d:D) {N O H:List Str} {ρ:Sv} {cs:List Int},Wf rs k d N O H->(∀v,gF (ρ v))->(∀x∈cs,ok x)->TI Pk (den R d ρ cs)
 | .number i,N,O,H,ρ,cs,w,E,h=>by
  simp only[Wf] at w;simp only[den];exact⟨w,h⟩
 | .name v,N,O,H,ρ,cs,w,E,h=>by
  simp only[den];have:=E v;cases q:ρ v with
  | int i=>rw[q] at this;exact⟨this,h⟩
  | _=>exact⟨ok0,h⟩
 | .read v,N,O,H,ρ,cs,w,E,h=>by
  simp only[den];split
  .exact⟨trivial,λx hx=>⟨hx,h⟩⟩
  .exact⟨J2 h _,h⟩
 | .doo v,N,O,H,ρ,cs,w,E,h=>by
  simp only[den];have:=E v;cases q:ρ v with
  | fn f=>rw[q] at this;exact this cs h
  | _=>exact⟨ok0,h⟩
 | .ask,N,O,H,ρ,cs,w,E,h=>by
  simp only[den];exact⟨trivial,λx hx=>⟨hx,h⟩⟩
 | .write v a,N,O,H,ρ,cs,w,E,h=>by
  simp only[Wf] at w;simp only[den];refine(TI.bind (vj HB a w.2 E h) (λp hp=>?_));split
  .exact⟨hp.1,λx hx=>⟨hx,hp.2⟩⟩
  .exact⟨hp.1,Bb hp.2 hp.1⟩
 | .say a,N,O,H,ρ,cs,w,E,h=>by
  simp only[Wf] at w;simp only[den];exact(TI.bind (vj HB a w E h) (λp hp=>⟨hp.1,λx hx=>⟨hx,hp.2⟩⟩))
 | .lett v a b,N,O,H,ρ,cs,w,E,h=>by
  simp only[Wf] at w;simp only[den];exact(TI.bind (vj HB a w.2.1 E h) (λp hp=>vj HB b w.2.2 (Ki E hp.1) hp.2))
 | .own v a b,N,O,H,ρ,cs,w,E,h=>by
  simp only[Wf] at w;simp only[den];exact(TI.bind (vj HB a w.2.1 E h) (λp hp=>vj HB b w.2.2 (Ki E (a:=.cell _) trivial) (X4 hp.2 hp.1)))
 | .add a b,N,O,H,ρ,cs,w,E,h=>by
  simp only[Wf] at w;simp only[den];exact(TI.bind (vj HB a w.1 E h) (λp hp=>(TI.bind (vj HB b w.2 E hp.2) (λq hq=>⟨⟨by omega,by omega⟩,hq.2⟩))))
 | .less a b,N,O,H,ρ,cs,w,E,h=>by
  simp only[Wf] at w;simp only[den];exact(TI.bind (vj HB a w.1 E h) (λp hp=>(TI.bind (vj HB b w.2 E hp.2) (λq hq=>⟨by show ok (if _ then _ else _);split<;>decide,hq.2⟩))))
 | .thenn a b,N,O,H,ρ,cs,w,E,h=>by
  simp only[Wf] at w;simp only[den];exact(TI.bind (vj HB a w.1 E h) (λp hp=>vj HB b w.2 E hp.2))
 | .loop a b,N,O,H,ρ,cs,w,E,h=>by
  simp only[Wf] at w;simp only[den];exact(TI.bind (vj HB a w.1 E h) (λp hp=>W3 (λcs hc=>vj HB b w.2 E hc) _ hp.2))
 | .iff a b c,N,O,H,ρ,cs,w,E,h=>by
  simp only[Wf] at w;simp only[den];refine(TI.bind (vj HB a w.1 E h) (λp hp=>?_));split
  .exact vj HB c w.2.2 E hp.2
  .exact vj HB b w.2.1 E hp.2
 | .call i as bs,N,O,H,ρ,cs,w,E,h=>by
  simp only[Wf] at w;simp only[den];exact(TI.bind (Zz HB as w.2.2.1 E h) (λp hp=>HB i _ _ _ hp.1 (Zp HB bs w.2.2.2 E) hp.2))
theorem Zz(HB:okR R):∀(l:List D) {N O H:List Str} {ρ:Sv} {cs:List Int},xw rs k l N O H->(∀v,gF (ρ v))->(∀x∈cs,ok x)->TI (λp=>(∀x∈p.1,ok x)/\∀x∈p.2,ok x) (uL R l ρ cs)
 | [],N,O,H,ρ,cs,w,E,h=>by
  simp only[uL];exact⟨by simp,h⟩
 | d::l,N,O,H,ρ,cs,w,E,h=>by
  simp only[xw] at w;simp only[uL];exact(TI.bind (vj HB d w.1 E h) (λp hp=>(TI.bind (Zz HB l w.2 E hp.2) (λq hq=>⟨λx hx=>(zb.mp hx).elim (λe=>e▸hp.1) (hq.1 x),hq.2⟩))))
theorem Zp(HB:okR R):∀(l:List D) {N O H:List Str} {ρ:Sv},xw rs k l N O H->(∀v,gF (ρ v))->∀f∈xl R l ρ,gF (.fn f)
 | [],N,O,H,ρ,w,E=>by simp[xl]
 | d::l,N,O,H,ρ,w,E=>by
  simp only[xw] at w;simp only[xl];exactλf hf=>(zb.mp hf).elim (λe=>e▸λcs h=>vj HB d w.1 E h) (Zp HB l w.2 E f)
end
theorem sv(hr:RsOk rs):∀k,okR (ck rs k)
 | 0=>λi xs fs cs _ _ h=>⟨ok0,h⟩
 | k+1=>λi xs fs cs hx hf h=>by
  simp only[ck];split
  .split
   .rename_i r e
    refine vj (sv hr k) r.body (hr.w k r e) (mQ (g:=.fn) (λp hp=>hf _ (j9 (a:=p.1) (b:=p.2) hp).2) (mQ (g:=.int) (λp hp=>hx _ (j9 (a:=p.1) (b:=p.2) hp).2) λv=>show ok 0 from ok0)) h
   .exact⟨ok0,h⟩
  .exact sv hr k i xs fs cs hx hf h
def Xv(hr:RsOk rs)(w:Cd rs d):TI ok (treeOf rs d):=
 TI.bind (vj (sv hr _) d w (λv=>show ok 0 from ok0) λx hx=>by simp at hx) λp hp=>hp.1
end
theorem gR:∀{T:Tr Int} {r:Rm},TI ok T->(∀v,ok (r.st v))->(∀x∈r.ans,ok x)->ok (kH T r).1
 | .ret a,r,h,_,_=>h
 | .tch t k,r,h,hs,ha=>by
  simp only[kH];cases t with
  | read v=>exact gR (h.2 _ (hs v)) hs ha
  | write v x=>exact gR (h.2 _ h.1) (λu=>by simp only[jI,WI];split;exact h.1;exact hs u) ha
  | ask=>exact gR (h.2 _ (J2 ha _)) hs ha
  | say x=>exact gR (h.2 _ h.1) hs ha
section
variable{rs:List Rule}
def C4(hr:RsOk rs)(wa:Cd rs a)(wb:Cd rs b):treeOf rs (.less a b)=(treeOf rs a).bind λx=>(treeOf rs b).bind λy=>.ret (if x<y then 1 else 0):=by
 rw[<-uO hr wa []];conv=>lhs;unfold treeOf
 simp only[den,Tr.bind_assoc];congr 1
 funext p
 exact uO hr wb p.2 λy=>.ret (if p.1<y then 1 else 0)
def Dw(hr:RsOk rs){c:D}(wa:Cd rs a)(wb:Cd rs b)(wc:Cd rs c):treeOf rs (.iff a b c)=(treeOf rs a).bind λx=>if x=0 then treeOf rs c else treeOf rs b:=by
 rw[<-uO hr wa []];conv=>lhs;unfold treeOf
 simp only[den,Tr.bind_assoc];congr 1
 funext p
 split
 .exact(uO hr wc p.2 .ret).trans (Tr.bind_ret _)
 .exact(uO hr wb p.2 .ret).trans (Tr.bind_ret _)
end
mutual
noncomputable def kf:D->Nat
 | .write _ a=>kf a+1
 | .say a=>kf a+1
 | .lett _ a b=>max (kf a) (kf b)+1
 | .own _ a b=>max (kf a) (kf b)+1
 | .add a b=>max (kf a) (kf b)+1
 | .less a b=>max (kf a) (kf b)+1
 | .thenn a b=>max (kf a) (kf b)+1
 | .loop a b=>max (kf a) (kf b)+1
 | .iff a b c=>max (kf a) (max (kf b) (kf c))+1
 | .call _ as bs=>max (ut as) (ut bs)+1
 | _=>0
noncomputable def ut:List D->Nat
 | []=>0
 | d::r=>max (kf d) (ut r)
end
noncomputable abbrev wS(l:List Str):Prop:=∀v∈l,dt 1 (.str v)=true
def ZJ(h:wS l)(hv:dt 1 (.str v)=true):wS (l++[v]):=by
 intro u hu;rcases zU.mp hu with z | z
 .exact h u z
 .simp at z;subst z;exact hv
def uo{r:List W}(hx:dt 1 (.str x)=true)(hl:r.length<=3)(h:∀w∈r,dt (n+1) w=true):dt (n+2) (th x r)=true:=dE (by simp;omega) λw hw=>by
 rcases zb.mp hw with rfl | z
 .exact jp hx ∅
 .exact h w z
def Zs(h:dt 1 (.str v)=true):dt (n+1) (.str v)=true:=jp h ∅
section
variable{rs:List Rule}{k:Nat}
def Yw(h:v∈SH\/v∈O)(hO:wS O):dt 1 (.str v)=true:=h.elim ZV (hO v)
def Bp(hx:dt 1 (.str x)=true)(ha:dt (2+2*m) u=true)(hb:dt (2+2*m) v=true):dt (2+2*(m+1)) (th x [u,v])=true:=by
 rw[show 2+2*(m+1)=(2+2*m)+2 by omega];refine uo hx (by simp) λw hw=>?_
 simp only[zb,zc,zM] at hw;rcases hw with rfl | rfl
 .exact jp ha ∅
 .exact jp hb ∅
mutual
theorem y7(hl:∀(i:Nat) (r:Rule),rs[i]?=some r->r.ns.length<=3/\r.hs.length<=3):∀(d:D) {N O H:List Str} {n:Nat},Wf rs k d N O H->wS N->wS O->wS H->kf d<=n->dt (2+2*n) (zk d)=true
 | .number i,N,O,H,n,w,hN,hO,hH,hd=>by
  rw[q8];exact uo ⋯ (by simp) (by simp[dt])
 | .name v,N,O,H,n,w,hN,hO,hH,hd=>by
  simp only[Wf] at w;rw[q8];exact uo ⋯ (by simp) (by simpa using Zs (hN v w))
 | .read v,N,O,H,n,w,hN,hO,hH,hd=>by
  simp only[Wf] at w;rw[q8];exact uo ⋯ (by simp) (by simpa using Zs (Yw w hO))
 | .doo v,N,O,H,n,w,hN,hO,hH,hd=>by
  simp only[Wf] at w;rw[q8];exact uo ⋯ (by simp) (by simpa using Zs (hH v w))
 | .ask,N,O,H,n,w,hN,hO,hH,hd=>by
  rw[q8];exact uo ⋯ (by simp) (by simp)
 | .write v a,N,O,H,n,w,hN,hO,hH,hd=>by
  simp only[Wf] at w;simp only[kf] at hd;obtain⟨m,rfl⟩:∃m,n=m+1:=⟨n-1,by omega⟩;have ha:=y7 hl a w.2 hN hO hH (show kf a<=m by omega);rw[show 2+2*(m+1)=(2+2*m)+2 by omega];refine uo ⋯ (by simp) λu hu=>?_
  simp only[zb,zc,zM] at hu;rcases hu with rfl | rfl
  .exact Zs (Yw w.1 hO)
  .exact jp ha ∅
 | .say a,N,O,H,n,w,hN,hO,hH,hd=>by
  simp only[Wf] at w;simp only[kf] at hd;obtain⟨m,rfl⟩:∃m,n=m+1:=⟨n-1,by omega⟩;have ha:=y7 hl a w hN hO hH (show kf a<=m by omega);rw[show 2+2*(m+1)=(2+2*m)+2 by omega];refine uo ⋯ (by simp) λu hu=>?_
  simp only[zb,zc,zM] at hu;subst hu;exact jp ha ∅
 | .lett v a b,N,O,H,n,w,hN,hO,hH,hd=>by
  simp only[Wf] at w;simp only[kf] at hd;obtain⟨m,rfl⟩:∃m,n=m+1:=⟨n-1,by omega⟩;have ha:=y7 hl a w.2.1 hN hO hH (show kf a<=m by omega);have hb:=y7 hl b w.2.2 (ZJ hN w.1.2.2) hO hH (show kf b<=m by omega);rw[show 2+2*(m+1)=(2+2*m)+2 by omega];refine uo ⋯ (by simp) λu hu=>?_
  simp only[zb,zc,zM] at hu;rcases hu with rfl | rfl | rfl
  .exact Zs w.1.2.2
  .exact jp ha ∅
  .exact jp hb ∅
 | .own v a b,N,O,H,n,w,hN,hO,hH,hd=>by
  simp only[Wf] at w;simp only[kf] at hd;obtain⟨m,rfl⟩:∃m,n=m+1:=⟨n-1,by omega⟩;have ha:=y7 hl a w.2.1 hN hO hH (show kf a<=m by omega);have hb:=y7 hl b w.2.2 hN (ZJ hO w.1.2.2) hH (show kf b<=m by omega);rw[show 2+2*(m+1)=(2+2*m)+2 by omega];refine uo ⋯ (by simp) λu hu=>?_
  simp only[zb,zc,zM] at hu;rcases hu with rfl | rfl | rfl
  .exact Zs w.1.2.2
  .exact jp ha ∅
  .exact jp hb ∅
 | .add a b,N,O,H,n,w,hN,hO,hH,hd | .less a b,N,O,H,n,w,hN,hO,hH,hd | .thenn a b,N,O,H,n,w,hN,hO,hH,hd | .loop a b,N,O,H,n,w,hN,hO,hH,hd=>by
  simp only[Wf] at w;simp only[kf] at hd;obtain⟨m,rfl⟩:∃m,n=m+1:=⟨n-1,by omega⟩;exact Bp ⋯ (y7 hl a w.1 hN hO hH (show kf a<=m by omega)) (y7 hl b w.2 hN hO hH (show kf b<=m by omega))
 | .iff a b c,N,O,H,n,w,hN,hO,hH,hd=>by
  simp only[Wf] at w;simp only[kf] at hd;obtain⟨m,rfl⟩:∃m,n=m+1:=⟨n-1,by omega⟩;have ha:=y7 hl a w.1 hN hO hH (show kf a<=m by omega);have hb:=y7 hl b w.2.1 hN hO hH (show kf b<=m by omega);have hc:=y7 hl c w.2.2 hN hO hH (show kf c<=m by omega);rw[show 2+2*(m+1)=(2+2*m)+2 by omega];refine uo ⋯ (by simp) λu hu=>?_
  simp only[zb,zc,zM] at hu;rcases hu with rfl | rfl | rfl
  .exact jp ha ∅
  .exact jp hb ∅
  .exact jp hc ∅
 | .call i as bs,N,O,H,n,w,hN,hO,hH,hd=>by
  simp only[Wf] at w;obtain⟨hi,⟨r,hr,la,lb⟩,wa,wb⟩:=w;simp only[kf] at hd;obtain⟨m,rfl⟩:∃m,n=m+1:=⟨n-1,by omega⟩;have hL:=hl i r hr;rw[show 2+2*(m+1)=(2+2*m)+2 by omega];refine uo ⋯ (by simp) λu hu=>?_
  simp only[zb,zc,zM] at hu;rcases hu with rfl | rfl | rfl
  .rfl
  .exact dE (by rw[xM,zO];omega) (mY hl as wa hN hO hH ∅)
  .exact dE (by rw[xM,zO];omega) (mY hl bs wb hN hO hH ∅)
theorem mY(hl:∀(i:Nat) (r:Rule),rs[i]?=some r->r.ns.length<=3/\r.hs.length<=3):∀(l:List D) {N O H:List Str} {n:Nat},xw rs k l N O H->wS N->wS O->wS H->ut l<=n->∀w∈kg l,dt (2+2*n) w=true
 | [],N,O,H,n,w,hN,hO,hH,hd=>λu hu=>by simp[kg] at hu
 | d::l,N,O,H,n,w,hN,hO,hH,hd=>λu hu=>by
  simp only[xw] at w;simp only[ut] at hd;simp only[kg,zb] at hu;rcases hu with rfl | hu
  .exact y7 hl d w.1 hN hO hH ∅
  .exact mY hl l w.2 hN hO hH ∅ u hu
end
noncomputable def D.parts:D->List D
 | .write _ a=>[a]
 | .say a=>[a]
 | .lett _ a b=>[a,b]
 | .own _ a b=>[a,b]
 | .add a b=>[a,b]
 | .less a b=>[a,b]
 | .thenn a b=>[a,b]
 | .loop a b=>[a,b]
 | .iff a b c=>[a,b,c]
 | .call _ as bs=>as++bs
 | _=>[]
def tup_of(d:D):∃l,zk d=.tup l:=by cases d<;>(simp only[zk];exact⟨_,rfl⟩)
def YM(d:D):vi (zk d)=d.parts.map zk:=by
 have key:∀(x:Str) (p:Int×Int),(x==("call":Str))=false->fm x=some p->∀r:List W,vi (th x r)=r.drop (p.2.toNat-1):=by
  intro x p hc hf r;simp only[vi,hc,hf];rfl
 cases d with
 | number i=>simp only[zk];rw[key _ (2,2) ⋯ ⋯];rfl
 | name i=>simp only[zk];rw[key _ (2,2) ⋯ ⋯];rfl
 | read i=>simp only[zk];rw[key _ (2,2) ⋯ ⋯];rfl
 | doo i=>simp only[zk];rw[key _ (2,2) ⋯ ⋯];rfl
 | ask=>simp only[zk];rw[key _ (1,1) ⋯ ⋯];rfl
 | write v a=>simp only[zk];rw[key _ (3,2) ⋯ ⋯];rfl
 | say a=>simp only[zk];rw[key _ (2,1) ⋯ ⋯];rfl
 | lett v a b=>simp only[zk];rw[key _ (4,2) ⋯ ⋯];rfl
 | own v a b=>simp only[zk];rw[key _ (4,2) ⋯ ⋯];rfl
 | add a b=>simp only[zk];rw[key _ (3,1) ⋯ ⋯];rfl
 | less a b=>simp only[zk];rw[key _ (3,1) ⋯ ⋯];rfl
 | thenn a b=>simp only[zk];rw[key _ (3,1) ⋯ ⋯];rfl
 | loop a b=>simp only[zk];rw[key _ (3,1) ⋯ ⋯];rfl
 | iff a b c=>simp only[zk];rw[key _ (4,1) ⋯ ⋯];rfl
 | call i as bs=>simp only[zk];rw[eJ,xM,xM,D.parts,vB]
def Df{H:List Str}(w:Wf rs k d N O H):Sh (ki rs) k H (zk d):=by
 cases d with
 | number i=>simp only[zk];exact .number i
 | name i=>simp only[zk];exact .name i
 | read i=>simp only[zk];exact .read i
 | doo i=>simp only[zk];simp only[Wf] at w;exact .doo i w
 | ask=>simp only[zk];exact .ask
 | write v a=>obtain⟨l,e⟩:=tup_of a;simp only[zk];rw[e];exact .write v l
 | say a=>obtain⟨l,e⟩:=tup_of a;simp only[zk];rw[e];exact .say l
 | lett v a b=>obtain⟨l,e⟩:=tup_of a;obtain⟨l',e'⟩:=tup_of b;simp only[zk];rw[e,e'];exact .lett v l l'
 | own v a b=>obtain⟨l,e⟩:=tup_of a;obtain⟨l',e'⟩:=tup_of b;simp only[zk];rw[e,e'];exact .own v l l'
 | add a b=>obtain⟨l,e⟩:=tup_of a;obtain⟨l',e'⟩:=tup_of b;simp only[zk];rw[e,e'];exact .add l l'
 | less a b=>obtain⟨l,e⟩:=tup_of a;obtain⟨l',e'⟩:=tup_of b;simp only[zk];rw[e,e'];exact .less l l'
 | thenn a b=>obtain⟨l,e⟩:=tup_of a;obtain⟨l',e'⟩:=tup_of b;simp only[zk];rw[e,e'];exact .thenn l l'
 | loop a b=>obtain⟨l,e⟩:=tup_of a;obtain⟨l',e'⟩:=tup_of b;simp only[zk];rw[e,e'];exact .loop l l'
 | iff a b c=>obtain⟨l,e⟩:=tup_of a;obtain⟨l',e'⟩:=tup_of b;obtain⟨l2,e2⟩:=tup_of c;simp only[zk];rw[e,e',e2];exact .iff l l' l2
 | call i as bs=>
  simp only[Wf] at w;obtain⟨hi,⟨r,hr,la,lb⟩,wa,wb⟩:=w;simp only[zk];exact .call i _ _ hi (zI r.ns) r.hs (zk r.body) (oM hr) (by rw[xM,zO];exact lb)
theorem nz:∀{l:List D} {N O H:List Str},xw rs k l N O H->∀d∈l,Wf rs k d N O H/\kf d<=ut l
 | [],N,O,H,w,d,hd=>by simp at hd
 | x::l,N,O,H,w,d,hd=>by
  simp only[xw] at w;simp only[ut];rcases zb.mp hd with rfl | z
  .exact⟨w.1,by omega⟩
  .have:=nz w.2 d z
   exact⟨this.1,by omega⟩
def Wx{d:D}{H:List Str}(w:Wf rs k d N O H):∀a∈d.parts,(∃N' O',Wf rs k a N' O' H)/\kf a+1<=kf d:=by
 intro p hp;cases d with
 | write v a=>simp only[D.parts,zb,zc,zM] at hp;subst hp;simp only[Wf] at w;exact⟨⟨_,_,w.2⟩,by simp only[kf];omega⟩
 | say a=>simp only[D.parts,zb,zc,zM] at hp;subst hp;simp only[Wf] at w;exact⟨⟨_,_,w⟩,by simp only[kf];omega⟩
 | lett v a b | own v a b=>simp only[D.parts,zb,zc,zM] at hp;simp only[Wf] at w;rcases hp with rfl | rfl;exact⟨⟨_,_,w.2.1⟩,by simp only[kf];omega⟩;exact⟨⟨_,_,w.2.2⟩,by simp only[kf];omega⟩
 | add a b | less a b | thenn a b | loop a b=>simp only[D.parts,zb,zc,zM] at hp;simp only[Wf] at w;rcases hp with rfl | rfl;exact⟨⟨_,_,w.1⟩,by simp only[kf];omega⟩;exact⟨⟨_,_,w.2⟩,by simp only[kf];omega⟩
 | iff a b c=>simp only[D.parts,zb,zc,zM] at hp;simp only[Wf] at w;rcases hp with rfl | rfl | rfl;exact⟨⟨_,_,w.1⟩,by simp only[kf];omega⟩;exact⟨⟨_,_,w.2.1⟩,by simp only[kf];omega⟩;exact⟨⟨_,_,w.2.2⟩,by simp only[kf];omega⟩
 | call i as bs=>
  simp only[Wf] at w;simp only[D.parts] at hp;rcases zU.mp hp with z | z
  .have:=nz w.2.2.1 p z
   exact⟨⟨_,_,this.1⟩,by simp only[kf];omega⟩
  .have:=nz w.2.2.2 p z
   exact⟨⟨_,_,this.1⟩,by simp only[kf];omega⟩
 | _=>simp[D.parts] at hp
theorem pX{H:List Str}:∀(n:Nat) {d:D} {N O:List Str},Wf rs k d N O H->kf d<=n->okd (ki rs) k H (n+1) (zk d)
 | n,d,N,O,w,hd=>by
  refine⟨Df w,λp hp=>?_⟩;rw[YM] at hp;obtain⟨a,ha,rfl⟩:=jd.mp hp;obtain⟨⟨N',O',w'⟩,hd'⟩:=Wx w a ha;cases n with
  | zero=>omega
  | succ n=>exact pX n w' ∅
end
theorem Dc(F:Fs):bc F=zo (Yp F) (zo (WS F) (zo (ZD F) (zo (sG F) (zo (sQ F) (zo (QG F) (zo (Jk F) (Ym F))))))):=rfl
noncomputable abbrev kn(N O H:List Str):W:=.tup [.tup (zI N),.tup (zI O),.tup (zI H)]
noncomputable abbrev ρF(ns:List Int)(a:Int)(N O H:List Str)(x y:Option W):En:=[some (kX ns),some (.int a),some (kn N O H),some (.tup (zI N)),some (.tup (zI O)),some (.tup (zI H)),x,y]
def Qg{l:List W}{i:Int}(h0:0<=i)(h1:i<l.length):∃v∈l,atI l i=some v:=by
 have hj:i.toNat<l.length:=by omega
 exact⟨l[i.toNat],List.getElem_mem hj,by unfold atI xB;rw[zY h0,zY h1];simp[hj]⟩
def aw{l:List W}{i:Int}(h0:0<=i)(h1:i<l.length):∃v∈l,∀h,zw (.fls l) (.int i) h=some (v,h):=by
 obtain⟨v,hv,e⟩:=Qg h0 h1;exact⟨v,hv,λh=>by simp[zw,getL,e]⟩
def rh{l:List W}{i:Int}(h0:0<=i)(h1:i<l.length):∃v∈l,∀h,zw (.tup l) (.int i) h=some (v,h):=by
 obtain⟨v,hv,e⟩:=Qg h0 h1;exact⟨v,hv,λh=>by simp[zw,e]⟩
def iO{l:List Str}{i:Int}(h0:0<=i)(h1:i<l.length):∃v∈l,∀h,zw (.tup (zI l)) (.int i) h=some (.str v,h):=by
 obtain⟨v,hv,e⟩:=rh (l:=zI l) h0 (by rw[we];exact h1);unfold zI at hv;obtain⟨x,hx,rfl⟩:=jd.mp hv;exact⟨x,hx,e⟩
def mW{l:List Str}(h:wS l)(hl:l.length<=1000):dt 2 (.tup (zI l))=true:=by
 refine dE (by rw[we];exact hl) λw hw=>?_
 unfold zI at hw;obtain⟨x,hx,rfl⟩:=jd.mp hw;exact h x hx
theorem KL(l:List Str):l9 (.tup (zI l))=l.isEmpty:=by cases l<;>rfl
def iS{l:List Str}(hw:wS l)(hl:l.length<=1000):eqB h (.tup (zI l)) (.tup [])=some l.isEmpty:=by
 rw[Zr (mW hw hl) ∅,KL]
noncomputable def wn(l:List Str):Prop:=∀v∈l,v="x" \/ v="y" \/ v="x1"
noncomputable def wo(l:List Str):Prop:=∀v∈l,v="p" \/ v="q"
noncomputable def wh(l:List Str):Prop:=∀v∈l,v="f" \/ v="g1"
def pE(h:wn l):wS l:=λv hv=>by rcases h v hv with rfl | rfl | rfl<;>decide +kernel
def FI(h:wo l):wS l:=λv hv=>by rcases h v hv with rfl | rfl<;>decide +kernel
def sW(h:wh l):wS l:=λv hv=>by rcases h v hv with rfl | rfl<;>decide +kernel
def F0{l:List Str}{v:Str}(h:wo l)(hv:v="x" \/ v="y" \/ v="x1"):v∉l:=λz=>by
 have:=h v z;rcases hv with rfl | rfl | rfl<;>revert this<;>decide +kernel
def BY{l:List Str}{v:Str}(h:wh l)(hv:v="x" \/ v="y" \/ v="x1"):v∉l:=λz=>by
 have:=h v z;rcases hv with rfl | rfl | rfl<;>revert this<;>decide +kernel
def F2{l:List Str}{v:Str}(h:wn l)(hv:v="p" \/ v="q"):v∉l:=λz=>by
 have:=h v z;rcases hv with rfl | rfl<;>revert this<;>decide +kernel
def FH{l:List Str}{v:Str}(h:wh l)(hv:v="p" \/ v="q"):v∉l:=λz=>by
 have:=h v z;rcases hv with rfl | rfl<;>revert this<;>decide +kernel
def Xi{l:List Str}{v:Str}(h:wn l)(hv:v="x" \/ v="y" \/ v="x1"):wn (l++[v]):=λu hu=>by
 rcases zU.mp hu with z | z
 .exact h u z
 .simp at z;subst z;exact hv
def Up{l:List Str}{v:Str}(h:wo l)(hv:v="p" \/ v="q"):wo (l++[v]):=λu hu=>by
 rcases zU.mp hu with z | z
 .exact h u z
 .simp at z;subst z;exact hv
noncomputable def xQ(O:List Str):List Str:=([("a":Str),"b","c","d"]:List Str)++(O++(O++O))
def Zd(O:List Str):[W.str "a",.str "b",.str "c",.str "d"]++(List.replicate 3 (zI O)).flatten=zI (xQ O):=by
 simp[xQ,zI,List.replicate]
def Ze(hv:v∈xQ O):v∈SH\/v∈O:=by
 unfold xQ at hv;rcases zU.mp hv with z | z
 .exact .inl z
 .rcases zU.mp z with z | z
  .exact .inr z
  .rcases zU.mp z with z | z<;>exact .inr z
def rP(O:List Str):(xQ O).length=4+3*O.length:=by simp[xQ];omega
structure RG(rs:List Rule):Prop where
 l:rs.length<=2
 g:RsOk rs
 b:∀(i:Nat) (r:Rule),rs[i]?=some r->(r.ns.length<=2/\r.hs.length<=2)/\wn r.ns/\wh r.hs/\kf r.body<=2
def RG.dt1{rs:List Rule}(h:RG rs){H:List Str}(w:Wf rs rs.length d N O H)(hN:wn N)(hO:wo O)(hH:wh H)(hd:kf d<=n):dt (2+2*n) (zk d)=true:=y7 h.g.l d w (pE hN) (FI hO) (sW hH) hd
theorem RG.dt(h:RG rs):ML.dt 8 (.tup (ki rs))=true:=by
 refine dE (by unfold ki;rw[zO];have:=h.l;omega) λw hw=>?_
 obtain⟨r,hr,rfl⟩:=jd.mp hw;obtain⟨i,hi⟩:=jA.mp hr;obtain⟨⟨l1,l2⟩,w1,w2,d2⟩:=h.b i r hi;refine dE (by simp) λv hv=>?_
 simp only[zb,zc,zM] at hv;rcases hv with rfl | rfl | rfl
 .exact jp (mW (pE w1) ∅) ∅
 .exact jp (mW (sW w2) ∅) ∅
 .exact y7 (n:=2) h.g.l r.body (h.g.w i r hi) (pE w1) (λv hv=>by simp at hv) (sW w2) d2
def K0{ns:List Int}{N O H:List Str}{rs:List Rule}(hr:RG rs)(hl:ns.length<=63)(hN':wn N)(hO':wo O)(hH':wh H)(lN:N.length<=100)(lO:O.length<=100)(lH:H.length<=100) :
  ∃x:D,(∀h,(step (step (step F))).cY [kX ns,.int a,kn N O H] h=some (zk x,h))/\Wf rs rs.length x N O H/\kf x<=0:=by
 have hN:=pE hN';have hH:=sW hH';have e:=λ(k many:Int) (h:MH) (hm:0<many)=>uV (F:=F) (k:=k) (many:=many) (h:=h) hl hm
 generalize step (step F)=G at e;suffices hs:∃x:D,(∀h,bc G [some (kX ns),some (.int a),some (kn N O H),none,none,none,none,none] h=some (.ret (zk x),h))/\Wf rs rs.length x N O H/\kf x<=0 by
  obtain⟨x,e,w,d⟩:=hs;refine⟨x,λh=>bi (n:=2) ?_ (hr.dt1 w hN' hO' hH' d),w,d⟩;simp only[kd,zp,zV,kE,zx,jh,List.replicate,jk,kI];simp only[e h]
 have c1':(1:Nat)<=cap:=by decide
 have c2':(2:Nat)<=cap:=by decide
 have c4':(4:Nat)<=cap:=by decide
 have c6':(6:Nat)<=cap:=by decide
 have s0:∀h,Yp G [some (kX ns),some (.int a),some (kn N O H),none,none,none,none,none] h=some (.nx (ρF ns a N O H none none),h):=λh=>by
  simp![Yp]
 have s1:∀h,WS G (ρF ns a N O H none none) h=some (.nx (ρF ns a N O H (some (.int (qv ns a 8))) none),h):=λh=>by
  simp![WS,e a 8 _ ∅]
 generalize qv ns a 8=d at s1;have row:∀h,bc G [some (kX ns),some (.int a),some (kn N O H),none,none,none,none,none] h=zo (ZD G) (zo (sG G) (zo (sQ G) (zo (QG G) (zo (Jk G) (Ym G))))) (ρF ns a N O H (some (.int d)) none) h:=λh=>by
  rw[Dc,zt (s0 h),zt (s1 h)]
 by_cases k2:d<2
 .obtain⟨v,hv,ev⟩:=aw (l:=[.int 0,.int 1,.int 2,.int 3,.int 7,.int 1008]) (kz (ns:=ns) (k:=a+1) (many:=6) ∅).1 (by simpa using (kz (ns:=ns) (k:=a+1) (many:=6) ∅).2)
  have:∃i:Int,v=.int i/\0<=i/\i<=1008:=by
   simp only[zb,zc,zM] at hv;rcases hv with rfl | rfl | rfl | rfl | rfl | rfl<;>exact⟨_,rfl,by omega,by omega⟩
  obtain⟨i,rfl,hi⟩:=this;refine⟨.number i,λh=>?_,by simp only[Wf];exact hi,by simp only[kf,zj]⟩;rw[row];refine xi ?_;simp![ZD,vE,k2,j2,c6',addW,kU,e (a+1) 6 _ ∅,ev,zv,c2',zk]
 have p2:∀h,ZD G (ρF ns a N O H (some (.int d)) none) h=some (.nx (ρF ns a N O H (some (.int d)) none),h):=λh=>by
  simp![ZD,vE,k2]
 have eN:=λh=>iS (h:=h) hN ∅
 have eH:=λh=>iS (h:=h) hH ∅
 by_cases k3:(d==2)=true/\N.isEmpty=false
 .have hp:(0:Int)<(N.length:Int):=by
   cases N with
   | nil=>simp at k3
   | cons _ _=>simp only[zp];omega
  obtain⟨v,hv,ev⟩:=iO (l:=N) (kz (ns:=ns) (k:=a+1) (many:=N.length) hp).1 (kz (ns:=ns) (k:=a+1) (many:=N.length) hp).2;refine⟨.name v,λh=>?_,by simp only[Wf];exact hv,by simp only[kf,zj]⟩;rw[row,zt (p2 h)];refine xi ?_;simp![sG,vt,k3.1,k3.2,eN,zv,kT,we,addW,kU,e (a+1) N.length _ hp,ev,c2',zk]
 have p3:∀h,sG G (ρF ns a N O H (some (.int d)) none) h=some (.nx (ρF ns a N O H (some (.int d)) none),h):=λh=>by
  cases q1:(d==2) with
  | false=>simp![sG,vt,q1]
  | true=>
   have q2:N.isEmpty=true:=by
    cases q:N.isEmpty with
    | true=>rfl
    | false=>exact absurd ⟨q1,q⟩ k3
   simp![sG,vt,q1,eN,zv,q2]
 by_cases k4:(d==3)=true/\H.isEmpty=false
 .have hp:(0:Int)<(H.length:Int):=by
   cases H with
   | nil=>simp at k4
   | cons _ _=>simp only[zp];omega
  obtain⟨v,hv,ev⟩:=iO (l:=H) (kz (ns:=ns) (k:=a+1) (many:=H.length) hp).1 (kz (ns:=ns) (k:=a+1) (many:=H.length) hp).2;refine⟨.doo v,λh=>?_,by simp only[Wf];exact hv,by simp only[kf,zj]⟩;rw[row,zt (p2 h),zt (p3 h)];refine xi ?_;simp![sQ,vt,k4.1,k4.2,eH,zv,kT,we,addW,kU,e (a+1) H.length _ hp,ev,c2',zk]
 have p4:∀h,sQ G (ρF ns a N O H (some (.int d)) none) h=some (.nx (ρF ns a N O H (some (.int d)) none),h):=λh=>by
  cases q1:(d==3) with
  | false=>simp![sQ,vt,q1]
  | true=>
   have q2:H.isEmpty=true:=by
    cases q:H.isEmpty with
    | true=>rfl
    | false=>exact absurd ⟨q1,q⟩ k4
   simp![sQ,vt,q1,eH,zv,q2]
 cases k5:(d==4) with
 | true=>
  refine⟨.ask,λh=>?_,by simp only[Wf],by simp only[kf,zj]⟩;rw[row,zt (p2 h),zt (p3 h),zt (p4 h)];refine xi ?_;simp![QG,vt,k5,zv,c1',zk]
 | false=>
  have hp:(0:Int)<((xQ O).length:Int):=by rw[rP];omega
  obtain⟨v,hv,ev⟩:=iO (l:=xQ O) (kz (ns:=ns) (k:=a+1) (many:=(xQ O).length) hp).1 (kz (ns:=ns) (k:=a+1) (many:=(xQ O).length) hp).2;have c7:4+(List.replicate 3 (zI O)).flatten.length<=cap:=by
   have:(List.replicate 3 (zI O)).flatten.length=3*O.length:=by simp[List.replicate,zI];omega
   rw[this];exact zR (show 4+3*O.length<=400 by omega) (by decide)
  have hs3:(zI O).length<=1000:=by rw[we];omega
  refine⟨.read v,λh=>?_,by simp only[Wf];exact Ze hv,by simp only[kf,zj]⟩;have p6:Jk G (ρF ns a N O H (some (.int d)) none) h=some (.nx (ρF ns a N O H (some (.int d)) (some (.tup (zI (xQ O))))),h):=by
   rw[<-Zd];have m:∀h,kC (.tup (zI O)) (.int 3) h=some (.tup (List.replicate 3 (zI O)).flatten,h):=λh=>by
    simp only[kC];rw[zY ⟨by omega,by omega,hs3⟩];rfl
   have ad:∀h,addW (.tup [.str "a",.str "b",.str "c",.str "d"]) (.tup (List.replicate 3 (zI O)).flatten) h=some (.tup ([.str "a",.str "b",.str "c",.str "d"]++(List.replicate 3 (zI O)).flatten),h):=λh=>by
    simp only[addW,kU,zp,zV];rw[zY c7]
   generalize (List.replicate 3 (zI O)).flatten=Z at m ad;simp![Jk,zv,c4',m,ad]
  rw[row,zt (p2 h),zt (p3 h),zt (p4 h),zt (ρ':=(ρF ns a N O H (some (.int d)) none)) (h':=h) (by simp![QG,vt,k5]),zt p6];simp![Ym,kT,we,addW,kU,e (a+1) (xQ O).length _ hp,ev,zv,c2',zk]
theorem Cw(F:Fs):aH F=zo (Qy F) (zo (ph F) (zo (nZ F) (zo (t7 F) (zo (pN F) (zo (Zu F) (zo (tP F) (zo (Zt F) (zo (rK F) (zo (rR F) (i7 F)))))))))):=rfl
noncomputable def dn(G:Fs)(ns:List Int)(rs:List Rule)(d:Nat):Prop:=∀(a:Int) (N O H:List Str),wn N->wo O->wh H->N.length+d<=20->O.length+d<=20->H.length<=20->
 ∃x:D,(∀h,G.az [kX ns,.int a,.int (d:Int),kn N O H,.tup (ki rs)] h=some (zk x,h))/\Wf rs rs.length x N O H/\kf x<=d
noncomputable def Jb(G:Fs)(ns:List Int)(rs:List Rule)(d:Nat):Prop:=∀(a:Int) (N O H:List Str),wn N->wo O->wh H->N.length+d<=20->O.length+d<=20->H.length<=20->
 ∃x:D,(∀h,G.cZ [kX ns,.int a,.int ((d:Int)+1),kn N O H,.tup (ki rs)] h=some (zk x,h))/\Wf rs rs.length x N O H/\kf x<=d+1
def mz(l:List Str)(v:Str):zI l++[.str v]=zI (l++[v]):=by simp[zI]
noncomputable abbrev ρD(ns:List Int)(a:Int)(d:Int)(K:W)(rl:List W)(o5 o6 o7 o8 o9 o10:Option W):En:=[some (kX ns),some (.int a),some (.int d),some K,some (.tup rl),o5,o6,o7,o8,o9,o10]
noncomputable abbrev ρE(ns:List Int)(a:Int)(d:Nat)(N O H:List Str)(rl:List W)(y:Int)(o6 o7 o8 o9 o10:Option W):En:=ρD ns a ((d:Int)+1) (kn N O H) rl (some (.int y)) o6 o7 o8 o9 o10
def UT{i j:Nat}{ρ:En}(e:ρ[i]?=some (some (.int d))):ke (zi ie (ze i) (eC (.int m))) ρ h=some (decide (d<m),h):=by simp![e,vE]
def gZ{i:Nat}{ρ:En}(e:ρ[i]?=some (some (.int d))):ke (zi (vn false) (ze i) (eC (.int m))) ρ h=some (d==m,h):=by simp![e,vt]
def m3:kC (.int a) (.int 3) h=some (.int (a*3),h):=by
 have:(small a||small 3)=true:=by rw[show small 3=true by decide];simp
 simp only[kC,this,kE]
def Qs{ns:List Int}(hr:RG rs)(hl:ns.length<=63)(hd:d+1<=5)(HD:dn (step (step (step F))) ns rs d)(HC:ki rs≠[]->Jb (step (step (step F))) ns rs d):dn (step (step (step (step F)))) ns rs (d+1):=by
 intro a N O H hN hO' hH lN lO lH;have hrl:=hr.dt;have e:=λ(k many:Int) (h:MH) (hm:0<many)=>uV (F:=step F) (k:=k) (many:=many) (h:=h) hl hm
 have eL:=λ(a:Int)=>K0 (F:=F) (ns:=ns) (a:=a) (N:=N) (O:=O) (H:=H) hr hl hN hO' hH ∅ ∅ ∅
 have rlE:∃rl,rl=ki rs:=⟨_,rfl⟩;obtain⟨rl,erl⟩:=rlE;rw[<-erl] at hrl HC;generalize step (step (step F))=G at e HD HC eL;have ed:((d+1:Nat):Int)=(d:Int)+1:=by omega
 rw[ed];suffices hs:∃x:D,(∀h,aH G (ρD ns a ((d:Int)+1) (kn N O H) rl none none none none none none) h=some (.ret (zk x),h))/\Wf rs rs.length x N O H/\kf x<=d+1 by
  obtain⟨x,e,w,o⟩:=hs;refine⟨x,λh=>bi (n:=2+2*(d+1)) ?_ (hr.dt1 w hN hO' hH o),w,o⟩;rw[<-erl];simp only[kd,zp,zV,kE,zx,jh,List.replicate,jk,kI];have:=e h;simp only[ρD] at this;simp only[this]
 have c1:(1:Nat)<=cap:=by decide
 have c2:(2:Nat)<=cap:=by decide
 have c3:(3:Nat)<=cap:=by decide
 have c4:(4:Nat)<=cap:=by decide
 have c5:(5:Nat)<=cap:=by decide
 have s0:∀h,Qy G (ρD ns a ((d:Int)+1) (kn N O H) rl none none none none none none) h=some (.nx (ρD ns a ((d:Int)+1) (kn N O H) rl (some (.int (qv ns a 15))) none none none none none),h):=λh=>by
  simp![Qy,e a 15 _ ∅]
 have rg:=kz (ns:=ns) (k:=a) (many:=15) ∅;generalize qv ns a 15=y at s0 rg;have row:∀h,aH G (ρD ns a ((d:Int)+1) (kn N O H) rl none none none none none none) h=zo (ph G) (zo (nZ G) (zo (t7 G) (zo (pN G) (zo (Zu G) (zo (tP G) (zo (Zt G) (zo (rK G) (zo (rR G) (i7 G))))))))) (ρE ns a d N O H rl y none none none none none) h:=λh=>by
  rw[Cw,zt (s0 h)]
 have dz:(((d:Int)+1)==0)=false:=by rw[jr];omega
 by_cases k1:y<2
 .obtain⟨x,ew,p,o⟩:=eL (a+1)
  refine⟨x,λh=>?_,p,by omega⟩;rw[row];refine xi ?_;simp![ph,vt,dz,vE,k1,addW,kU,ew]
 have p1:∀h,ph G (ρE ns a d N O H rl y none none none none none) h=some (.nx (ρE ns a d N O H rl y none none none none none),h):=λh=>by
  simp![ph,vt,dz,vE,k1]
 have eR:=λh=>Zr (h:=h) hrl ∅
 have iR:l9 (.tup rl)=rl.isEmpty:=by cases rl<;>rfl
 by_cases k2:y<4/\rl≠[]
 .obtain⟨x,ew,p,o⟩:=HC k2.2 a N O H hN hO' hH ∅ ∅ lH
  rw[<-erl] at ew;refine⟨x,λh=>?_,p,o⟩;have q:rl.isEmpty=false:=by
   cases rl with
   | nil=>exact absurd rfl k2.2
   | cons _ _=>rfl
  rw[row,zt (p1 h)];refine xi ?_;simp![nZ,vE,k2.1,eR,iR,q,zv,ew]
 have p2:∀h,nZ G (ρE ns a d N O H rl y none none none none none) h=some (.nx (ρE ns a d N O H rl y none none none none none),h):=λh=>by
  by_cases q1:y<4
  .have q:rl.isEmpty=true:=by
    cases rl with
    | nil=>rfl
    | cons _ _=>exact absurd ⟨q1,by simp⟩ k2
   simp![nZ,vE,q1,eR,iR,q,zv]
  .simp![nZ,vE,q1]
 obtain⟨x1,e1,wf1,o1⟩:=HD (a*3+7) N O H hN hO' hH ∅ ∅ lH;rw[<-erl] at e1;have p3:∀h,t7 G (ρE ns a d N O H rl y none none none none none) h=some (.nx (ρE ns a d N O H rl y (some (zk x1)) none none none none),h):=λh=>by
  simp![t7,m3,addW,kU,xJ,e1]
 have row3:∀h,aH G (ρD ns a ((d:Int)+1) (kn N O H) rl none none none none none none) h=zo (pN G) (zo (Zu G) (zo (tP G) (zo (Zt G) (zo (rK G) (zo (rR G) (i7 G)))))) (ρE ns a d N O H rl y (some (zk x1)) none none none none) h:=λh=>by
  rw[row,zt (p1 h),zt (p2 h),zt (p3 h)]
 by_cases k4:y<6
 .have hp:(0:Int)<((xQ O).length:Int):=by rw[rP];omega
  obtain⟨v,hv,ev⟩:=iO (l:=xQ O) (kz (ns:=ns) (k:=a+3) (many:=(xQ O).length) hp).1 (kz (ns:=ns) (k:=a+3) (many:=(xQ O).length) hp).2;have c7:4+(List.replicate 3 (zI O)).flatten.length<=cap:=by
   have:(List.replicate 3 (zI O)).flatten.length=3*O.length:=by simp[List.replicate,zI];omega
   rw[this];exact zR (show 4+3*O.length<=400 by omega) (by decide)
  have hs3:(zI O).length<=1000:=by rw[we];omega
  refine⟨.write v x1,λh=>?_,by simp only[Wf];exact⟨Ze hv,wf1⟩,by simp only[kf];omega⟩
  .rw[row3]
   refine xi ?_;have m:∀h,kC (.tup (zI O)) (.int 3) h=some (.tup (List.replicate 3 (zI O)).flatten,h):=λh=>by
    simp only[kC];rw[zY ⟨by omega,by omega,hs3⟩];rfl
   have ad:∀h,addW (.tup [.str "a",.str "b",.str "c",.str "d"]) (.tup (List.replicate 3 (zI O)).flatten) h=some (.tup ([.str "a",.str "b",.str "c",.str "d"]++(List.replicate 3 (zI O)).flatten),h):=λh=>by
    simp only[addW,kU,zp,zV];rw[zY c7]
   rw[Zd] at ad;generalize (List.replicate 3 (zI O)).flatten=Z at m ad;have a3:∀h,addW (.int a) (.int 3) h=some (.int (a+3),h):=λh=>by simp[addW,kU]
   unfold pN;refine rL ((UT (j:=0) rfl).trans (by simp[k4])) ?_;rw[zt (ρ':=ρE ns a d N O H rl y (some (zk x1)) (some (.tup (zI (xQ O)))) none none none) (h':=h) (by simp![zv,c4,xt,m,ad])];simp![kT,we,a3,e (a+3) (xQ O).length _ hp,ev,zv,c3,zk]
 have p4:∀h,pN G (ρE ns a d N O H rl y (some (zk x1)) none none none none) h=some (.nx (ρE ns a d N O H rl y (some (zk x1)) none none none none),h):=λh=>
  iB ((UT (j:=0) rfl).trans (by simp[k4]))
 cases k5:(y==6) with
 | true=>
  refine⟨.say x1,λh=>?_,by simp only[Wf];exact wf1,by simp only[kf];omega⟩;rw[row3,zt (p4 h)];refine bg ((gZ rfl).trans (by rw[k5])) ?_;simp![zv,c2,zk]
 | false=>
 have p5:∀h,Zu G (ρE ns a d N O H rl y (some (zk x1)) none none none none) h=some (.nx (ρE ns a d N O H rl y (some (zk x1)) none none none none),h):=λh=>
  iB ((gZ rfl).trans (by rw[k5]))
 have a3:∀h,addW (.int a) (.int 3) h=some (.int (a+3),h):=λh=>by simp[addW,kU]
 cases k6:(y==7) with
 | true=>
  obtain⟨v',hv,ev⟩:=aw (l:=[.str "x",.str "y",.str "x1"]) (kz (ns:=ns) (k:=a+3) (many:=3) ∅).1 (by simpa using (kz (ns:=ns) (k:=a+3) (many:=3) ∅).2);have:∃v:Str,v'=.str v/\(v="x" \/ v="y" \/ v="x1"):=by
   simp only[zb,zc,zM] at hv;rcases hv with rfl | rfl | rfl
   .exact⟨_,rfl,.inl rfl⟩
   .exact⟨_,rfl,.inr (.inl rfl)⟩
   .exact⟨_,rfl,.inr (.inr rfl)⟩
  obtain⟨v,rfl,pv⟩:=this;obtain⟨x2,e2,wf2,o2⟩:=HD (a*3+23) (N++[v]) O H (Xi hN pv) hO' hH (by simp;omega) ∅ lH;rw[<-erl] at e2;have dv:dt 1 (.str v)=true:=by rcases pv with rfl | rfl | rfl<;>decide +kernel
  have a4:∀h,addW (.tup (zI N)) (.tup [.str v]) h=some (.tup (zI (N++[v])),h):=λh=>by
   rw[<-mz];simp only[addW,kU,zp,zV,we];rw[zY (zR (show N.length+(0+1)<=100 by omega) (by decide))]
  have a5:∀h,gS (kn N O H) (some 1) none h=some (.tup [.tup (zI O),.tup (zI H)],h):=λh=>by simp[gS,WQ]
  have a6:∀h,addW (.tup [.tup (zI (N++[v]))]) (.tup [.tup (zI O),.tup (zI H)]) h=some (kn (N++[v]) O H,h):=λh=>by
   simp only[addW,kU,zp,zV];rw[zY (by decide)];rfl
  have a7:∀h,addW (.int (a*3)) (.int 23) h=some (.int (a*3+23),h):=λh=>by simp[addW,kU]
  refine⟨.lett v x1 x2,λh=>?_,by simp only[Wf];exact⟨⟨F0 hO' pv,BY hH pv,dv⟩,wf1,wf2⟩,by simp only[kf];omega⟩
  .rw[row3,zt (p4 h),zt (p5 h)]
   refine bg ((gZ rfl).trans (by rw[k6])) ?_;rw[zt (ρ':=ρE ns a d N O H rl y (some (zk x1)) none (some (.str v)) none none) (h':=h) (by simp![j2,c3,a3,e (a+3) 3 _ ∅,ev])];simp![m3,a7,xJ,xZ,zv,c1,c4,a4,ba,bp,a5,a6,e2,zk]
 | false=>
 have p6:∀h,tP G (ρE ns a d N O H rl y (some (zk x1)) none none none none) h=some (.nx (ρE ns a d N O H rl y (some (zk x1)) none none none none),h):=λh=>
  iB ((gZ rfl).trans (by rw[k6]))
 cases k7:(y==8) with
 | true=>
  obtain⟨v',hv,ev⟩:=aw (l:=[.str "p",.str "q"]) (kz (ns:=ns) (k:=a+3) (many:=2) ∅).1 (by simpa using (kz (ns:=ns) (k:=a+3) (many:=2) ∅).2);have:∃v:Str,v'=.str v/\(v="p" \/ v="q"):=by
   simp only[zb,zc,zM] at hv;rcases hv with rfl | rfl
   .exact⟨_,rfl,.inl rfl⟩
   .exact⟨_,rfl,.inr rfl⟩
  obtain⟨v,rfl,vpq⟩:=this;have dv:dt 1 (.str v)=true:=by rcases vpq with rfl | rfl<;>decide +kernel
  obtain⟨x2,e2,wf2,o2⟩:=HD (a*3+23) N (O++[v]) H hN (Up hO' vpq) hH ∅ (by simp;omega) lH;rw[<-erl] at e2;have a4:∀h,addW (.tup (zI O)) (.tup [.str v]) h=some (.tup (zI (O++[v])),h):=λh=>by
   rw[<-mz];simp only[addW,kU,zp,zV,we];rw[zY (zR (show O.length+(0+1)<=100 by omega) (by decide))]
  have a7:∀h,addW (.int (a*3)) (.int 23) h=some (.int (a*3+23),h):=λh=>by simp[addW,kU]
  refine⟨.own v x1 x2,λh=>?_,by simp only[Wf];exact⟨⟨F2 hN vpq,FH hH vpq,dv⟩,wf1,wf2⟩,by simp only[kf];omega⟩
  .rw[row3,zt (p4 h),zt (p5 h),zt (p6 h)]
   refine bg ((gZ rfl).trans (by rw[k7])) ?_;rw[zt (ρ':=ρE ns a d N O H rl y (some (zk x1)) none (some (.str v)) none none) (h':=h) (by simp![j2,c2,a3,e (a+3) 2 _ ∅,ev])];rw[zt (ρ':=ρE ns a d N O H rl y (some (zk x1)) none (some (.str v)) (some (kn N (O++[v]) H)) none) (h':=h) (by simp![zv,c1,c3,xZ,xt,g7,a4])];simp![m3,a7,xJ,zv,c4,e2,zk]
 | false=>
 have p7:∀h,Zt G (ρE ns a d N O H rl y (some (zk x1)) none none none none) h=some (.nx (ρE ns a d N O H rl y (some (zk x1)) none none none none),h):=λh=>
  iB ((gZ rfl).trans (by rw[k7]))
 obtain⟨x2,e2,wf2,o2⟩:=HD (a*3+41) N O H hN hO' hH ∅ ∅ lH;rw[<-erl] at e2;have a8:∀h,addW (.int (a*3)) (.int 41) h=some (.int (a*3+41),h):=λh=>by simp[addW,kU]
 have p8:∀h,rK G (ρE ns a d N O H rl y (some (zk x1)) none none none none) h=some (.nx (ρE ns a d N O H rl y (some (zk x1)) none none none (some (zk x2))),h):=λh=>by
  simp![rK,m3,a8,xJ,e2]
 have row8:∀h,aH G (ρD ns a ((d:Int)+1) (kn N O H) rl none none none none none none) h=zo (rR G) (i7 G) (ρE ns a d N O H rl y (some (zk x1)) none none none (some (zk x2))) h:=λh=>by
  rw[row3,zt (p4 h),zt (p5 h),zt (p6 h),zt (p7 h),zt (p8 h)]
 cases k9:(y==9) with
 | true=>
  obtain⟨x3,e3,wf3,o3⟩:=HD (a*3+61) N O H hN hO' hH ∅ ∅ lH;rw[<-erl] at e3;have a9:∀h,addW (.int (a*3)) (.int 61) h=some (.int (a*3+61),h):=λh=>by simp[addW,kU]
  refine⟨.iff x1 x2 x3,λh=>?_,by simp only[Wf];exact⟨wf1,wf2,wf3⟩,by simp only[kf];omega⟩
  .rw[row8]
   refine bg ((gZ rfl).trans (by rw[k9])) ?_;simp![m3,a9,xJ,zv,c4,e3,zk]
 | false=>
 have g10:0<=y-10/\y-10<5:=by
  rw[jr] at k5 k6 k7 k9;omega
 obtain⟨v',hv,ev⟩:=aw (l:=[.tup [.str "then"],.tup [.str "add"],.tup [.str "less"],.tup [.str "loop"],.tup [.str "then"]]) (i:=y-10) g10.1 (by simpa using g10.2);have:∃(x:Str) (y2:D),v'=.tup [.str x]/\zk y2=th x [zk x1,zk x2]/\Wf rs rs.length y2 N O H/\kf y2<=d+1:=by
  simp only[zb,zc,zM] at hv;rcases hv with rfl | rfl | rfl | rfl | rfl
  .exact⟨_,.thenn x1 x2,rfl,by simp only[zk],by simp only[Wf];exact⟨wf1,wf2⟩,by simp only[kf];omega⟩
  .exact⟨_,.add x1 x2,rfl,by simp only[zk],by simp only[Wf];exact⟨wf1,wf2⟩,by simp only[kf];omega⟩
  .exact⟨_,.less x1 x2,rfl,by simp only[zk],by simp only[Wf];exact⟨wf1,wf2⟩,by simp only[kf];omega⟩
  .exact⟨_,.loop x1 x2,rfl,by simp only[zk],by simp only[Wf];exact⟨wf1,wf2⟩,by simp only[kf];omega⟩
  .exact⟨_,.thenn x1 x2,rfl,by simp only[zk],by simp only[Wf];exact⟨wf1,wf2⟩,by simp only[kf];omega⟩
 obtain⟨x,y2,rfl,ty,ww,dd⟩:=this;refine⟨y2,λh=>?_,ww,dd⟩
 .rw[row8,ty]
  unfold rR;rw[JS ((gZ rfl).trans (by rw[k9]))];have a10:∀h,addW (.tup [.str x]) (.tup [zk x1,zk x2]) h=some (th x [zk x1,zk x2],h):=λh=>by
   simp only[addW,kU,zp,zV];rw[zY (by decide)];rfl
  simp![i7,zv,j2,c1,c2,c5,xJ,ev,a10]
def Js{ns:List Int}(hr:RG rs)(hl:ns.length<=63):dn (step (step (step (step F)))) ns rs 0:=by
 intro a N O H hN hO' hH lN lO lH;have e:=λ(k many:Int) (h:MH) (hm:0<many)=>uV (F:=step F) (k:=k) (many:=many) (h:=h) hl hm
 obtain⟨x,ew,p,o⟩:=K0 (F:=F) (ns:=ns) (a:=a+1) (N:=N) (O:=O) (H:=H) hr hl hN hO' hH ∅ ∅ ∅;generalize step (step (step F))=G at e ew;refine⟨x,λh=>bi (n:=2) ?_ (hr.dt1 p hN hO' hH o),p,o⟩;simp![aH,Qy,ph,nZ,t7,pN,Zu,tP,Zt,rK,rR,i7,e a 15 _ ∅,vt,addW,kU,ew]
theorem C5(F:Fs):cj F=zo (WW F) (zo (Ye F) (zo (Yo F) (zo (WT F) (WM F)))):=rfl
theorem Cu(F:Fs):bT F=zo (Yi F) (zo (CT F) (CP F)):=rfl
def m5:kC (.int 5) (.int a) h=some (.int (5*a),h):=by
 have:(small 5||small a)=true:=by rw[show small 5=true by decide];rfl
 simp only[kC,this,kE]
def m7:kC (.int 7) (.int a) h=some (.int (7*a),h):=by
 have:(small 7||small a)=true:=by rw[show small 7=true by decide];rfl
 simp only[kC,this,kE]
noncomputable abbrev ρC(ns:List Int)(a d:Int)(K:W)(rl:List W)(o5 o6 o7 o8:Option W):En:=[some (kX ns),some (.int a),some (.int d),some K,some (.tup rl),o5,o6,o7,o8]
theorem nJ{G:Fs}{rs:List Rule}{N O H:List Str}(HD:dn G ns rs d)(hN:wn N)(hO:wo O)(hH:wh H)(lN:N.length+d<=20)(lO:O.length+d<=20)(lH:H.length<=20) :
  ∀is:List Int,∃xs:List D,xs.length=is.length/\(∀x∈xs,Wf rs rs.length x N O H/\kf x<=d)/\∀(h0:MH) (acc:List W) (o5 o6 o8:Option W),acc.length+is.length<=1000->
   ∃o,forL (zC 8) (kr (kD qf (ze 7) [zh G.az [ze 0,zi addW (zi addW (zi kC (ze 1) (eC (.int 3))) (eC (.int 7))) (zi kC (eC (.int 5)) (ze 8)),zi xJ (ze 2) (eC (.int 1)),ze 3,ze 4]])) (is.map W.int) (ρC ns a ((d:Int)+1) (kn N O H) (ki rs) o5 o6 (some (.ref h0.length)) o8) (h0++[.lst acc]) =
    some (.nx (ρC ns a ((d:Int)+1) (kn N O H) (ki rs) o5 o6 (some (.ref h0.length)) o),h0++[.lst (acc++xs.map zk)])
 | []=>⟨[],rfl,λw hw=>by simp at hw,λh0 acc o5 o6 o8 _=>⟨o8,by simp[forL]⟩⟩
 | i::is=>by
  obtain⟨xs,h1,h2,h3⟩:=nJ (a:=a) HD hN hO hH lN lO lH is;obtain⟨x,ew,p,o⟩:=HD (a*3+7+5*i) N O H hN hO hH lN lO lH;refine⟨x::xs,by simp[h1],λv hv=>?_,λh0 acc o5 o6 o8 hc=>?_⟩
  .rcases zb.mp hv with rfl | z
   .exact⟨p,o⟩
   .exact h2 v z
  .simp only[zp] at hc
   obtain⟨o',e⟩:=h3 h0 (acc++[zk x]) o5 o6 (some (.int i)) (by simp;omega);refine⟨o',?_⟩;simp only[zx];generalize ki rs=rl at ew e ⊢;unfold forL;have g:zC 8 (.int i) (ρC ns a ((d:Int)+1) (kn N O H) rl o5 o6 (some (.ref h0.length)) o8) (h0++[.lst acc])=some (ρC ns a ((d:Int)+1) (kn N O H) rl o5 o6 (some (.ref h0.length)) (some (.int i)),h0++[.lst acc]):=by simp[zC]
   rw[g];have hcap:acc.length<cap:=zL (show acc.length<1000 by omega) (by decide);have b:(kr (kD qf (ze 7) [zh G.az [ze 0,zi addW (zi addW (zi kC (ze 1) (eC (.int 3))) (eC (.int 7))) (zi kC (eC (.int 5)) (ze 8)),zi xJ (ze 2) (eC (.int 1)),ze 3,ze 4]])) (ρC ns a ((d:Int)+1) (kn N O H) rl o5 o6 (some (.ref h0.length)) (some (.int i))) (h0++[.lst acc])=some (.nx (ρC ns a ((d:Int)+1) (kn N O H) rl o5 o6 (some (.ref h0.length)) (some (.int i))),h0++[.lst (acc++[zk x])]):=by
    simp![kD,getL,at0,qf,rT,m3,m5,addW,kU,xJ,ew,hcap]
   simp only[b];rw[e];simp
theorem pb{H:List Str}:∀{l:List D},(∀x∈l,Wf rs k x N O H/\kf x<=n)->xw rs k l N O H/\ut l<=n
 | [],_=>by simp[xw,ut]
 | x::l,h=>by
  have h1:=h x zX;have h2:=pb (l:=l) λy hy=>h y (zJ _ hy)
  simp only[xw,ut];exact⟨⟨h1.1,h2.1⟩,by omega⟩
def oo(n:Nat):upto n=((_root_.List.range n).map λ(i:Nat)=>(i:Int)).map W.int:=by simp[upto]
def Jy{ns:List Int}(hl:ns.length<=63)(hrg:RG rs)(hne:ki rs≠[])(HD:dn (step (step F)) ns rs d):Jb (step (step (step F))) ns rs d:=by
 intro a N O H hN hO hH lN lO lH;have e:=λ(k many:Int) (h:MH) (hm:0<many)=>uV (F:=F) (k:=k) (many:=many) (h:=h) hl hm
 generalize step (step F)=G at e HD;have hp:(0:Int)<((ki rs).length:Int):=by
  cases h:ki rs with
  | nil=>exact absurd h hne
  | cons _ _=>simp only[zp];omega
 have rg:=kz (ns:=ns) (k:=a+3) (many:=(ki rs).length) hp;have er:=λh=>e (a+3) (ki rs).length h hp
 obtain⟨j,hj⟩:=qj rg.1;rw[hj] at rg er;have hjr:(ki rs).length=rs.length:=by unfold ki;rw[zO]
 have hjl:j<rs.length:=by omega
 obtain⟨r,hr⟩:∃r,rs[j]?=some r:=⟨rs[j],zB hjl⟩;obtain⟨⟨b1,b2⟩,b3,b4,b5⟩:=hrg.b j r hr;have ei:∀h,zw (.tup (ki rs)) (.int (j:Int)) h=some (.tup [.tup (zI r.ns),.tup (zI r.hs),zk r.body],h):=λh=>Cb ∅ ∅ (by have:=oM hr;simpa[cw] using this)
 obtain⟨xs,h1,h2,h3⟩:=nJ (a:=a) HD hN hO hH lN lO lH ((_root_.List.range (r.ns.length+r.hs.length)).map λ(i:Nat)=>(i:Int));simp only[zO,qX] at h1 h3;have wt:=pb (l:=xs.take r.ns.length) λx hx=>h2 x (List.mem_of_mem_take hx)
 have wd:=pb (l:=xs.drop r.ns.length) λx hx=>h2 x (qG hx)
 have ww:Wf rs rs.length (.call j (xs.take r.ns.length) (xs.drop r.ns.length)) N O H:=by
  simp only[Wf];exact⟨hjl,⟨r,hr,by rw[qL];omega,by rw[vd];omega⟩,wt.1,wd.1⟩
 have dd:kf (.call j (xs.take r.ns.length) (xs.drop r.ns.length))<=d+1:=by simp only[kf];omega
 refine⟨.call j (xs.take r.ns.length) (xs.drop r.ns.length),λh=>?_,ww,dd⟩
 .have pw:=hrg.dt1 ww hN hO hH dd
  simp only[zk,xM,List.map_take,List.map_drop] at pw ⊢;refine B5 (t:=[.lst (xs.map zk)]) ?_ pw;clear pw ww wt wd;generalize ki rs=rl at er ei h3 ⊢;obtain⟨o,e3⟩:=h3 h [] (some (.int (j:Int))) (some (.int (r.ns.length:Int))) none (by simp;omega);rw[kI] at e3;suffices hs:cj G (ρC ns a ((d:Int)+1) (kn N O H) rl none none none none) h=some (.ret (th "call" [.int (j:Int),.tup ((xs.map zk).take r.ns.length),.tup ((xs.map zk).drop r.ns.length)]),h++[.lst (xs.map zk)]) by
   simp only[kd,zp,zV,kE,zx,jh,List.replicate,jk,kI];simp only[ρC] at hs;simp only[hs]
  have c0:(0:Nat)<=cap:=by decide
  have c4:(4:Nat)<=cap:=by decide
  have s0:WW G (ρC ns a ((d:Int)+1) (kn N O H) rl none none none none) h=some (.nx (ρC ns a ((d:Int)+1) (kn N O H) rl (some (.int (j:Int))) none none none),h):=by
   simp![WW,addW,kU,kT,er]
  have s1:Ye G (ρC ns a ((d:Int)+1) (kn N O H) rl (some (.int (j:Int))) none none none) h=some (.nx (ρC ns a ((d:Int)+1) (kn N O H) rl (some (.int (j:Int))) (some (.int (r.ns.length:Int))) none none),h):=by
   simp![Ye,ei,xZ,kT,we]
  have s2:Yo G (ρC ns a ((d:Int)+1) (kn N O H) rl (some (.int (j:Int))) (some (.int (r.ns.length:Int))) none none) h=some (.nx (ρC ns a ((d:Int)+1) (kn N O H) rl (some (.int (j:Int))) (some (.int (r.ns.length:Int))) (some (.ref h.length)) none),h++[.lst []]):=by
   simp![Yo,xW,c0]
  have s3:WT G (ρC ns a ((d:Int)+1) (kn N O H) rl (some (.int (j:Int))) (some (.int (r.ns.length:Int))) (some (.ref h.length)) none) (h++[.lst []])=some (.nx (ρC ns a ((d:Int)+1) (kn N O H) rl (some (.int (j:Int))) (some (.int (r.ns.length:Int))) (some (.ref h.length)) o),h++[.lst (xs.map zk)]):=by
   rw[<-e3];have ir:(vw [zi addW (ze 6) (zh kT [zi zw (zi zw (ze 4) (ze 5)) (eC (.int 1))])]) (ρC ns a ((d:Int)+1) (kn N O H) rl (some (.int (j:Int))) (some (.int (r.ns.length:Int))) (some (.ref h.length)) none) (h++[.lst []])=some (.items (upto (r.ns.length+r.hs.length)),h++[.lst []]):=by
    have q:-(2 ^ 62:Int)<=(r.ns.length:Int)+(r.hs.length:Int)/\(r.ns.length:Int)+(r.hs.length:Int)<2 ^ 62:=by omega
    have q2:((r.ns.length:Int)+(r.hs.length:Int)).toNat=r.ns.length+r.hs.length:=by omega
    have lw:∀h,kT [.tup (zI r.hs)] h=some (.int (r.hs.length:Int),h):=λh=>by simp[kT,we]
    have ad:∀h,addW (.int (r.ns.length:Int)) (.int (r.hs.length:Int)) h=some (.int ((r.ns.length:Int)+(r.hs.length:Int)),h):=λh=>by simp[addW,kU]
    have rw1:∀h,aI [.int ((r.ns.length:Int)+(r.hs.length:Int))] h=some (.items (upto (r.ns.length+r.hs.length)),h):=λh=>by
     unfold aI;simp only;rw[zY q,q2]
    simp![vw,ei,xt,lw,ad,rw1]
   unfold WT xR;rw[ir];simp only;rw[oo]
  have s4:WM G (ρC ns a ((d:Int)+1) (kn N O H) rl (some (.int (j:Int))) (some (.int (r.ns.length:Int))) (some (.ref h.length)) o) (h++[.lst (xs.map zk)])=some (.ret (th "call" [.int (j:Int),.tup ((xs.map zk).take r.ns.length),.tup ((xs.map zk).drop r.ns.length)]),h++[.lst (xs.map zk)]):=by
   have t1:=sd (l:=xs.map zk) (k:=r.ns.length) (by rw[zO];omega);have t2:=lm (l:=xs.map zk) (k:=r.ns.length);simp![WM,ba,bp,gS,getL,at0,ue,zv,c4,t1,t2]
  rw[C5,zt s0,zt s1,zt s2,zt s3,s4]
theorem Fj(m:Nat)(F:Fs):up (m+4) F=step (step (step (step (up m F)))):=rfl
theorem fF{ns:List Int}(hl:ns.length<=63)(hrg:RG rs)(F:Fs):∀(d:Nat),d<=4->∀m,4+2*d<=m->dn (up m F) ns rs d
 | 0,_,m,hm=>by
  obtain⟨m',rfl⟩:∃m',m=m'+4:=⟨m-4,by omega⟩;rw[Fj];exact Js hrg hl
 | d+1,hd,m,hm=>by
  obtain⟨m',rfl⟩:∃m',m=m'+4:=⟨m-4,by omega⟩;rw[Fj];exact Qs hrg hl ∅ (fF hl hrg F d ∅ (m'+3) ∅) λhne=>Jy hl hrg hne (fF hl hrg F d ∅ (m'+2) ∅)
mutual
theorem xh:∀(d:D) {N O H:List Str},Wf rs k d N O H->Wf (rs++[r]) k d N O H
 | .number i,N,O,H,w=>by simp only[Wf] at w ⊢;exact w
 | .name v,N,O,H,w | .read v,N,O,H,w | .doo v,N,O,H,w=>by simp only[Wf] at w ⊢;exact w
 | .ask,N,O,H,w=>by simp only[Wf]
 | .write v a,N,O,H,w=>by simp only[Wf] at w ⊢;exact⟨w.1,xh a w.2⟩
 | .say a,N,O,H,w=>by simp only[Wf] at w ⊢;exact xh a w
 | .lett v a b,N,O,H,w | .own v a b,N,O,H,w=>by simp only[Wf] at w ⊢;exact⟨w.1,xh a w.2.1,xh b w.2.2⟩
 | .add a b,N,O,H,w | .less a b,N,O,H,w | .thenn a b,N,O,H,w | .loop a b,N,O,H,w=>by simp only[Wf] at w ⊢;exact⟨xh a w.1,xh b w.2⟩
 | .iff a b c,N,O,H,w=>by simp only[Wf] at w ⊢;exact⟨xh a w.1,xh b w.2.1,xh c w.2.2⟩
 | .call i as bs,N,O,H,w=>by
  simp only[Wf] at w ⊢;obtain⟨hi,⟨r',hr,la,lb⟩,wa,wb⟩:=w;exact⟨hi,⟨r',by rw[zy (zS hr)];exact hr,la,lb⟩,lG as wa,lG bs wb⟩
theorem lG:∀(l:List D) {N O H:List Str},xw rs k l N O H->xw (rs++[r]) k l N O H
 | [],N,O,H,w=>by simp only[xw]
 | d::l,N,O,H,w=>by simp only[xw] at w ⊢;exact⟨xh d w.1,lG l w.2⟩
end
def RG.snoc{rs:List Rule}(h:RG rs)(hl:rs.length<=1){r:Rule}(ln:r.ns.length<=2/\r.hs.length<=2)(w1:wn r.ns)(w2:wh r.hs)(w:Wf rs rs.length r.body r.ns [] r.hs)(hd:kf r.body<=2):RG (rs++[r]):=by
 have get:∀(i:Nat) (r':Rule),(rs++[r])[i]?=some r'->(i=rs.length/\r'=r)\/rs[i]?=some r':=λi r' e=>by
  by_cases q:i<rs.length
  .rw[zy q] at e;exact .inr e
  .rw[zG ∅] at e
   have z:i-rs.length=0:=by have:=zS e;simp at this;omega
   rw[z] at e;injection e with e;exact .inl ⟨by omega,e.symm⟩
 refine⟨by simp;omega,⟨λi r' e=>?_,λi r' e=>?_,λi r' e=>?_⟩,λi r' e=>?_⟩
 .rcases get i r' e with ⟨rfl,rfl⟩ | z
  .exact xh _ w
  .exact xh _ (h.g.w i r' z)
 .rcases get i r' e with ⟨rfl,rfl⟩ | z
  .exact λv hv=>BY w2 (w1 v hv)
  .exact h.g.d i r' z
 .rcases get i r' e with ⟨rfl,rfl⟩ | z
  .omega
  .exact h.g.l i r' z
 .rcases get i r' e with ⟨rfl,rfl⟩ | z
  .exact⟨ln,w1,w2,hd⟩
  .exact h.b i r' z
noncomputable abbrev ρR(ns:List Int)(a:Int)(rl:List W)(o3 o4 o5 o6:Option W):En:=[some (kX ns),some (.int a),some (.tup rl),o3,o4,o5,o6]
noncomputable def Qo(F:Fs):MS:=(zo (zD (zi zw (zh j2 [zh zv [],zh zv [eC (.str "x")],zh zv [eC (.str "y"),eC (.str "x")]]) (zh F.aa [ze 0,zi addW (zi addW (ze 1) (eC (.int 1))) (zi kC (eC (.int 5)) (ze 3)),eC (.int 3)])) (zC 4))
 (zo (zD (zi zw (zh j2 [zh zv [],zh zv [eC (.str "f")],zh zv [eC (.str "f"),eC (.str "g1")]]) (zh F.aa [ze 0,zi addW (zi addW (ze 1) (eC (.int 2))) (zi kC (eC (.int 5)) (ze 3)),eC (.int 3)])) (zC 5))
 (zo (zD (zh F.az [ze 0,zi addW (zi addW (ze 1) (eC (.int 20))) (zi kC (eC (.int 7)) (ze 3)),eC (.int 2),zh zv [ze 4,zh zv [],ze 5],ze 2]) (zC 6))
 (zD (zi addW (ze 2) (zh zv [zh zv [ze 4,ze 5,ze 6]])) (zC 2)))))
theorem mD{G:Fs}(e:∀(k many:Int) (h:MH),0<many->G.aa [kX ns,.int k,.int many] h=some (.int (qv ns k many),h))(HD:∀rs,RG rs->dn G ns rs 2) :
  ∀(is:List Int) (rs:List Rule),RG rs->rs.length+is.length<=2->∃rs',RG rs'/\∀(h:MH) (o3 o4 o5 o6:Option W),∃p3 p4 p5 p6,forL (zC 3) (Qo G) (is.map W.int) (ρR ns a (ki rs) o3 o4 o5 o6) h=some (.nx (ρR ns a (ki rs') p3 p4 p5 p6),h)
 | [],rs,hr,_=>⟨rs,hr,λh o3 o4 o5 o6=>⟨o3,o4,o5,o6,by simp[forL]⟩⟩
 | i::is,rs,hr,hl=>by
  simp only[zp] at hl;have c0:(0:Nat)<=cap:=by decide
  have c1:(1:Nat)<=cap:=by decide
  have c2:(2:Nat)<=cap:=by decide
  have c3:(3:Nat)<=cap:=by decide
  obtain⟨v1,hv1,ev1⟩:=aw (l:=[.tup [],.tup [.str "x"],.tup [.str "y",.str "x"]]) (kz (ns:=ns) (k:=a+1+5*i) (many:=3) ∅).1 (by simpa using (kz (ns:=ns) (k:=a+1+5*i) (many:=3) ∅).2);have:∃N:List Str,v1=.tup (zI N)/\N.length<=2/\wn N:=by
   simp only[zb,zc,zM] at hv1;rcases hv1 with rfl | rfl | rfl
   .exact⟨[],rfl,by simp,λv hv=>by simp at hv⟩
   .exact⟨["x"],rfl,by simp,λv hv=>by simp only[zb,zc,zM] at hv;exact .inl hv⟩
   .exact⟨["y","x"],rfl,by simp,λv hv=>by simp only[zb,zc,zM] at hv;rcases hv with hv | hv;exact .inr (.inl hv);exact .inl hv⟩
  obtain⟨N,rfl,lN,wN⟩:=this;obtain⟨v2,hv2,ev2⟩:=aw (l:=[.tup [],.tup [.str "f"],.tup [.str "f",.str "g1"]]) (kz (ns:=ns) (k:=a+2+5*i) (many:=3) ∅).1 (by simpa using (kz (ns:=ns) (k:=a+2+5*i) (many:=3) ∅).2);have:∃N:List Str,v2=.tup (zI N)/\N.length<=2/\wh N:=by
   simp only[zb,zc,zM] at hv2;rcases hv2 with rfl | rfl | rfl
   .exact⟨[],rfl,by simp,λv hv=>by simp at hv⟩
   .exact⟨["f"],rfl,by simp,λv hv=>by simp only[zb,zc,zM] at hv;exact .inl hv⟩
   .exact⟨["f","g1"],rfl,by simp,λv hv=>by simp only[zb,zc,zM] at hv;exact hv⟩
  obtain⟨H,rfl,lH,wH⟩:=this;obtain⟨x,ew,wx,dx⟩:=HD rs hr (a+20+7*i) N [] H wN (λv hv=>by simp at hv) wH ∅ (by simp) ∅;obtain⟨rs',hr',ih⟩:=mD (a:=a) e HD is (rs++[⟨N,H,x⟩]) (hr.snoc ∅ ⟨lN,lH⟩ wN wH wx dx) (by simp;omega);refine⟨rs',hr',λh o3 o4 o5 o6=>?_⟩;obtain⟨p3,p4,p5,p6,e6⟩:=ih h (some (.int i)) (some (.tup (zI N))) (some (.tup (zI H))) (some (zk x));refine⟨p3,p4,p5,p6,?_⟩;have rw1:ki (rs++[⟨N,H,x⟩])=ki rs++[.tup [.tup (zI N),.tup (zI H),zk x]]:=by simp[ki,cw]
  have rl:(ki rs).length=rs.length:=by unfold ki;rw[zO]
  rw[rw1] at e6;simp only[zx];unfold forL;have g:zC 3 (.int i) (ρR ns a (ki rs) o3 o4 o5 o6) h=some (ρR ns a (ki rs) (some (.int i)) o4 o5 o6,h):=by simp[zC]
  rw[g];have cr:(ki rs).length+1<=cap:=zR (show(ki rs).length+1<=10 by omega) (by decide);generalize ki rs=rl at ew e6 cr ⊢;have a1:∀x y:Int,∀h,addW (.int x) (.int y) h=some (.int (x+y),h):=λx y h=>by simp[addW,kU]
  have a2:∀w h,addW (.tup rl) (.tup [w]) h=some (.tup (rl++[w]),h):=λw h=>by
   simp only[addW,kU,zp,zV];rw[zY (by simpa using cr)]
  have ew':∀h,G.az [kX ns,.int (a+20+7*i),.int 2,.tup [.tup (zI N),.tup [],.tup (zI H)],.tup rl] h=some (zk x,h):=λh=>ew h
  have b:Qo G (ρR ns a rl (some (.int i)) o4 o5 o6) h=some (.nx (ρR ns a (rl++[.tup [.tup (zI N),.tup (zI H),zk x]]) (some (.int i)) (some (.tup (zI N))) (some (.tup (zI H))) (some (zk x))),h):=by
   unfold Qo;rw[zt (ρ':=ρR ns a rl (some (.int i)) (some (.tup (zI N))) o5 o6) (h':=h) (by simp![zv,j2,c0,c1,c2,c3,a1,m5,e (a+1+5*i) 3 _ ∅,ev1])];rw[zt (ρ':=ρR ns a rl (some (.int i)) (some (.tup (zI N))) (some (.tup (zI H))) o6) (h':=h) (by simp![zv,j2,c0,c1,c2,c3,a1,m5,e (a+2+5*i) 3 _ ∅,ev2])];rw[zt (ρ':=ρR ns a rl (some (.int i)) (some (.tup (zI N))) (some (.tup (zI H))) (some (zk x))) (h':=h) (by simp![zv,c0,c3,a1,m7,ew'])];simp![zv,c1,c3,a2]
  simp only[b];rw[e6]
def Y4{ns:List Int}(hl:ns.length<=63)(hm:8<=m):∃rs,RG rs/\∀h,(step (up m F)).bI [kX ns,.int 1] h=some (.tup (ki rs),h):=by
 have HD:=λrs (hr:RG rs)=>fF hl hr F 2 ∅ m ∅
 have e:∀(k many:Int) (h:MH),0<many->(up m F).aa [kX ns,.int k,.int many] h=some (.int (qv ns k many),h):=by
  obtain⟨m',rfl⟩:∃m',m=m'+2:=⟨m-2,by omega⟩;exactλk many h hm=>uV (F:=up m' F) hl hm
 generalize up m F=G at e HD;have rg:=kz (ns:=ns) (k:=1) (many:=3) ∅;have e1:=λh=>e 1 3 h ∅
 obtain⟨j,hj⟩:=qj rg.1;rw[hj] at rg e1;obtain⟨rs',hr',ih⟩:=mD (a:=1) e HD ((_root_.List.range j).map λ(i:Nat)=>(i:Int)) [] ⟨by simp,⟨λi r hi=>by simp at hi,λi r hi=>by simp at hi,λi r hi=>by simp at hi⟩,λi r hi=>by simp at hi⟩ (by simp;omega);refine⟨rs',hr',λh=>bi (n:=8) ?_ hr'.dt⟩;obtain⟨p3,p4,p5,p6,e6⟩:=ih h none none none none;have e6:forL (zC 3) (Qo G) (((_root_.List.range j).map λ(i:Nat)=>(i:Int)).map W.int) (ρR ns 1 [] none none none none) h=_:=e6;have c0:(0:Nat)<=cap:=by decide
 have s0:Yi G [some (kX ns),some (.int 1),none,none,none,none,none] h=some (.nx (ρR ns 1 [] none none none none),h):=by
  simp![Yi,zv,c0]
 have s1:CT G (ρR ns 1 [] none none none none) h=some (.nx (ρR ns 1 (ki rs') p3 p4 p5 p6),h):=by
  rw[<-e6];have ir:(vw [zh G.aa [ze 0,ze 1,eC (.int 3)]]) (ρR ns 1 [] none none none none) h=some (.items (upto j),h):=by
   have q:-(2 ^ 62:Int)<=(j:Int)/\(j:Int)<2 ^ 62:=by omega
   have rw1:∀h,aI [.int (j:Int)] h=some (.items (upto j),h):=λh=>by
    unfold aI;simp only;rw[zY q,qe]
   simp![vw,e1,rw1]
  show(xR _ _ (Qo G)) _ _=_
  unfold xR;rw[ir];simp only;rw[oo]
 have hs:bT G [some (kX ns),some (.int 1),none,none,none,none,none] h=some (.ret (.tup (ki rs')),h):=by
  rw[Cu,zt s0,zt s1];simp![CP]
 simp only[kd,zp,zV,kE,zx,jh,List.replicate,jk,kI];simp only[hs]
def RG.good(h:RG rs):RulesGood (ki rs):=⟨λi hi=>by
 have hi':i<rs.length:=by unfold ki at hi;rw[zO] at hi;exact hi
 have hr:rs[i]?=some rs[i]:=zB hi';obtain⟨⟨l1,l2⟩,w1,w2,d2⟩:=h.b i _ hr
 exact⟨zI rs[i].ns,rs[i].hs,zk rs[i].body,oM hr,jp (y7 (n:=2) h.g.l rs[i].body (h.g.w i _ hr) (pE w1) (λv hv=>by simp at hv) (sW w2) d2) ∅,pX 2 (h.g.w i _ hr) d2,by omega⟩⟩
def ZN(h0:0<=y)(h1:y<4):∃c:Str,c∈SH/\∀h,zw (.str "abcd") (.int y) h=some (.str c,h):=by
 have hy:y=0\/y=1\/y=2\/y=3:=by omega
 have hc:(("abcd":Str).length<=cap):=by decide +kernel
 have hx:("abcd":Str).cps.toList=[97,98,99,100]:=by decide +kernel
 rcases hy with rfl | rfl | rfl | rfl
 .exact⟨⟨#[97]⟩,by decide +kernel,λh=>by simp[zw,hc,hx,atI,xB]⟩
 .exact⟨⟨#[98]⟩,by decide +kernel,λh=>by simp[zw,hc,hx,atI,xB]⟩
 .exact⟨⟨#[99]⟩,by decide +kernel,λh=>by simp[zw,hc,hx,atI,xB]⟩
 .exact⟨⟨#[100]⟩,by decide +kernel,λh=>by simp[zw,hc,hx,atI,xB]⟩
def Ur{ns:List Int}(hl:ns.length<=63)(hm:15<=m)(hr:RG rs):∃x:D,Cd rs x/\kf x<=2/\∀h,(step (up m F)).bH [kX ns,.int a,.int 2,.tup (ki rs)] h=some (zk x,h):=by
 have n0:wn []:=λv hv=>by simp at hv
 have o0:wo []:=λv hv=>by simp at hv
 have h0:wh []:=λv hv=>by simp at hv
 obtain⟨x,ew,p,o⟩:=fF hl hr F 2 ∅ m ∅ a [] [] [] n0 o0 h0 (by simp) (by simp) (by simp);have rlen:(ki rs).length=rs.length:=by unfold ki;rw[zO]
 obtain⟨v,ev⟩:=fy hr.good F m (ki rs).length 3 (by have:=hr.l;omega) ∅ ∅ [] (zk x) [] (by rw[rlen];exact pX 2 p o) (jp (hr.dt1 p n0 o0 h0 o) ∅) (λp hp=>by simp at hp);have e:∀(k many:Int) (h:MH),0<many->(up m F).aa [kX ns,.int k,.int many] h=some (.int (qv ns k many),h):=by
  obtain⟨m',rfl⟩:∃m',m=m'+2:=⟨m-2,by omega⟩;exactλk many h hm=>uV (F:=up m' F) hl hm
 generalize up m F=G at e ew ev;have c0:(0:Nat)<=cap:=by decide
 have c2:(2:Nat)<=cap:=by decide
 have c3:(3:Nat)<=cap:=by decide
 have ew':∀h,G.az [kX ns,.int a,.int 2,.tup [.tup [],.tup [],.tup []],.tup (ki rs)] h=some (zk x,h):=λh=>ew h
 by_cases k:80<v
 .have rg:=kz (ns:=ns) (k:=a) (many:=4) ∅
  have e1:=λh=>e a 4 h ∅
  generalize qv ns a 4=y at rg e1;obtain⟨c,c6,ec⟩:=ZN rg.1 rg.2;have wr:Cd rs (.read c):=by simp only[Wf];exact .inl c6
  refine⟨.read c,wr,by simp only[kf];omega,λh=>bi (n:=2) ?_ (hr.dt1 (n:=0) wr n0 o0 h0 (by simp only[kf,zj]))⟩;simp![bK,zv,c0,c2,c3,ew',ev,vE,k,e1,ec,zk]
 .refine⟨x,p,o,λh=>bi (n:=6) ?_ (hr.dt1 p n0 o0 h0 o)⟩
  simp![bK,zv,c0,c2,c3,ew',ev,vE,k]
noncomputable def FF(P Q h:Nat):Nat->Nat
 | 0=>1+h
 | n+1=>(P+2)*FF P Q h n+Q
theorem WR:∀n,1+h<=FF P Q h n
 | 0=>zj _
 | n+1=>by
  have:=WR (P:=P) (Q:=Q) (h:=h) n;simp only[FF,vY];omega
section
variable{rs:List Rule}{B:Nat->Nat->Nat}{P Q h k:Nat}
def fb(hP:2<=P)(hQ:9<=Q)(h1:y<=4*x+9):y<=(P+2)*x+Q:=by
 have:=wC x hP;rw[vY];omega
mutual
theorem yY(hr:∀(i:Nat) (r:Rule),rs[i]?=some r->r.ns.length<=2)(hP:2<=P)(hQ:9<=Q)(hB:∀i,i<k->∀m,B i m+2<=P*m+Q):∀(d:D) {N O H:List Str} {n:Nat},Wf rs k d N O H->kf d<=n->cost B h d<=FF P Q h n
 | .number i,N,O,H,n,w,hd | .name v,N,O,H,n,w,hd | .read v,N,O,H,n,w,hd | .doo v,N,O,H,n,w,hd | .ask,N,O,H,n,w,hd=>by have:=WR (P:=P) (Q:=Q) (h:=h) n;simp only[cost];omega
 | .write v a,N,O,H,n,w,hd=>by
  simp only[Wf] at w;simp only[kf] at hd;obtain⟨m,rfl⟩:∃m,n=m+1:=⟨n-1,by omega⟩;have:=yY hr hP hQ hB a w.2 (show kf a<=m by omega);exact fb hP hQ (by simp only[cost];omega)
 | .say a,N,O,H,n,w,hd=>by
  simp only[Wf] at w;simp only[kf] at hd;obtain⟨m,rfl⟩:∃m,n=m+1:=⟨n-1,by omega⟩;have:=yY hr hP hQ hB a w (show kf a<=m by omega);exact fb hP hQ (by simp only[cost];omega)
 | .lett v a b,N,O,H,n,w,hd | .own v a b,N,O,H,n,w,hd=>by
  simp only[Wf] at w;simp only[kf] at hd;obtain⟨m,rfl⟩:∃m,n=m+1:=⟨n-1,by omega⟩;have:=yY hr hP hQ hB a w.2.1 (show kf a<=m by omega);have:=yY hr hP hQ hB b w.2.2 (show kf b<=m by omega);exact fb hP hQ (by simp only[cost];omega)
 | .add a b,N,O,H,n,w,hd | .less a b,N,O,H,n,w,hd | .thenn a b,N,O,H,n,w,hd | .loop a b,N,O,H,n,w,hd=>by
  simp only[Wf] at w;simp only[kf] at hd;obtain⟨m,rfl⟩:∃m,n=m+1:=⟨n-1,by omega⟩;have:=yY hr hP hQ hB a w.1 (show kf a<=m by omega);have:=yY hr hP hQ hB b w.2 (show kf b<=m by omega);exact fb hP hQ (by simp only[cost];omega)
 | .iff a b c,N,O,H,n,w,hd=>by
  simp only[Wf] at w;simp only[kf] at hd;obtain⟨m,rfl⟩:∃m,n=m+1:=⟨n-1,by omega⟩;have:=yY hr hP hQ hB a w.1 (show kf a<=m by omega);have:=yY hr hP hQ hB b w.2.1 (show kf b<=m by omega);have:=yY hr hP hQ hB c w.2.2 (show kf c<=m by omega);exact fb hP hQ (by simp only[cost];omega)
 | .call i as bs,N,O,H,n,w,hd=>by
  simp only[Wf] at w;obtain⟨hi,⟨r,hri,la,lb⟩,wa,wb⟩:=w;simp only[kf] at hd;obtain⟨m,rfl⟩:∃m,n=m+1:=⟨n-1,by omega⟩;have h1:=(lF hr hP hQ hB as wa (show ut as<=m by omega)).1;have h2:=(lF hr hP hQ hB bs wb (show ut bs<=m by omega)).2;have h3:=hB i hi (ua B h bs);have h4:=Nat.mul_le_mul_left P h2;have h5:=wC (FF P Q h m) (show as.length<=2 by have:=hr i r hri;omega);simp only[cost,FF,vY];omega
theorem lF(hr:∀(i:Nat) (r:Rule),rs[i]?=some r->r.ns.length<=2)(hP:2<=P)(hQ:9<=Q)(hB:∀i,i<k->∀m,B i m+2<=P*m+Q):∀(l:List D) {N O H:List Str} {n:Nat},xw rs k l N O H->ut l<=n->uH B h l<=l.length*FF P Q h n/\ua B h l<=FF P Q h n
 | [],N,O,H,n,w,hd=>by simp[uH,ua]
 | d::l,N,O,H,n,w,hd=>by
  simp only[xw] at w;simp only[ut] at hd;have h1:=yY hr hP hQ hB d w.1 (show kf d<=n by omega);have h2:=lF hr hP hQ hB l w.2 (show ut l<=n by omega);simp only[uH,ua,zp,vY,Nat.one_mul];omega
end
end
theorem RG.cost(h:RG rs)(w:Cd rs d)(hd:kf d<=2):cst rs d<=604297:=by
 have ln:∀(i:Nat) (r:Rule),rs[i]?=some r->r.ns.length<=2:=λi r e=>(h.b i r e).1.1
 have b0:∀K,∀r,rs[0]?=some r->0<K->∀m,y8 rs K 0 m+2<=16*m+63:=λK r e hK m=>by
  rw[gD e hK];show K17.cost (y8 rs 0) m r.body+2<=_
  have:=yY (B:=y8 rs 0) (P:=2) (Q:=9) (h:=m) (k:=0) ln ∅ ∅ (λi hi=>by omega) r.body (n:=2) (h.g.w 0 r e) (h.b 0 r e).2.2.2;simp only[FF] at this;omega
 have b1:∀K,∀r,rs[1]?=some r->1<K->∀m,y8 rs K 1 m+2<=324*m+1523:=λK r e hK m=>by
  rw[gD e hK];show K17.cost (y8 rs 1) m r.body+2<=_
  have:=yY (B:=y8 rs 1) (P:=16) (Q:=63) (h:=m) (k:=1) ln ∅ ∅ (λi hi m=>by
   have:i=0:=by omega
   subst this;have l0:0<rs.length:=by have:=zS e;omega
   exact b0 1 _ (zB l0) ∅ m) r.body (n:=2) (h.g.w 1 r e) (h.b 1 r e).2.2.2
  simp only[FF] at this;omega
 have:=yY (B:=y8 rs rs.length) (P:=324) (Q:=1523) (h:=0) (k:=rs.length) ln ∅ ∅ (λi hi m=>by
  have hl:=h.l;have e:=zB hi;have:i=0\/i=1:=by omega
  rcases this with rfl | rfl
  .have:=b0 rs.length _ e hi m;omega
  .exact b1 rs.length _ e hi m) d (n:=2) w hd
 simp only[FF] at this;omega
noncomputable def gd:Nat->W->Bool
 | 0,_=>false
 | _+1,.int _=>true
 | n+1,.tup l=>l.all (gd n)
 | n+1,.fls l=>l.all (gd n)
 | _+1,_=>false
theorem nA{f:W->Option PyData}:∀{l:List W},(∀w∈l,∃d,f w=some d/\PyData.eqv d d=true)->∃ds,ve f l=some ds/\PyData.eqvAll ds ds=true
 | [],_=>⟨[],rfl,by simp[PyData.eqvAll]⟩
 | w::l,h=>by
  obtain⟨d,e1,e2⟩:=h w zX;obtain⟨ds,e3,e4⟩:=nA (l:=l) λw hw=>h w (zJ _ hw)
  exact⟨d::ds,by unfold ve;rw[e1,e3],by simp[PyData.eqvAll,e2,e4]⟩
theorem nv:∀{n m:Nat} {w:W},gd n w=true->n<=m->∃d,kR m h w=some d/\PyData.eqv d d=true
 | 0,_,_,g,_=>by cases g
 | n+1,0,_,_,hm=>by omega
 | n+1,m+1,.int i,_,_=>⟨.int i,rfl,by simp[PyData.eqv]⟩
 | n+1,m+1,.tup l,g,hm=>by
  unfold gd at g;obtain⟨ds,e1,e2⟩:=nA (f:=kR m h) (l:=l) λw hw=>nv (kW.mp g w hw) ∅
  exact⟨.tuple ds,by unfold kR;rw[e1];rfl,by simp only[PyData.eqv];exact e2⟩
 | n+1,m+1,.fls l,g,hm=>by
  unfold gd at g;obtain⟨ds,e1,e2⟩:=nA (f:=kR m h) (l:=l) λw hw=>nv (kW.mp g w hw) ∅
  exact⟨.list ds,by unfold kR;rw[e1];rfl,by simp only[PyData.eqv];exact e2⟩
 | n+1,_,.non,g,_=>by cases g
 | n+1,_,.bl _,g,_=>by cases g
 | n+1,_,.str _,g,_=>by cases g
 | n+1,_,.ref _,g,_=>by cases g
 | n+1,_,.fdc _,g,_=>by cases g
 | n+1,_,.fn _,g,_=>by cases g
def Jn(g:gd n w=true)(hn:n<=60):eqB h w w=some true:=by
 obtain⟨d,e1,e2⟩:=nv (h:=h) g (show n<=deep from hn);unfold eqB;cases w with
 | int i=>simp[nP]
 | tup l=>simp only[nP,e1,e2]
 | fls l=>simp only[nP,e1,e2]
 | _=>cases n<;>cases g
theorem tU(l:List Int):gd (n+2) (.fls (l.map .int))=true:=by
 unfold gd;rw[List.all_map];exact kW.mpr λx _=>rfl
theorem DI(st:Str->Int):gd (n+2) (qV st)=true:=by
 unfold qV gd;rw[List.all_map];exact kW.mpr λx _=>rfl
theorem C9:gd 3 (lE v r)=true:=by
 unfold lE gd;simp only[jt,List.all_nil,DI,tU,Bool.true_and,Bool.and_true];rfl
noncomputable def stOf(a b c d:Int):Str->Int:=λv=>if v="a" then a else if v="b" then b else if v="c" then c else d
def CI(a b c d:Int):qV (stOf a b c d)=.tup [.int a,.int b,.int c,.int d]:=by
 have n1:¬("b":Str)="a":=by decide +kernel
 have n2:¬("c":Str)="a":=by decide +kernel
 have n3:¬("c":Str)="b":=by decide +kernel
 have n4:¬("d":Str)="a":=by decide +kernel
 have n5:¬("d":Str)="b":=by decide +kernel
 have n6:¬("d":Str)="c":=by decide +kernel
 simp only[qV,SH,zx,jh,stOf,n1,n2,n3,n4,n5,n6,kE,jj]
section
variable{G F:Fs}{ns:List Int}
def X9(e:∀(k many:Int) (h:MH),0<many->G.aa [kX ns,.int k,.int many] h=some (.int (qv ns k many),h)):∃st:Str->Int,(∀v,0<=st v/\st v<=1008)/\∀h,(step G).bJ [kX ns,.int a] h=some (qV st,h):=by
 refine⟨stOf (qv ns (a+0) 6) (qv ns (a+1) 6) (qv ns (a+2) 6) (qv ns (a+3) 6),λv=>?_,λh=>?_⟩
 .have r:=λk=>kz (ns:=ns) (k:=k) (many:=6) ∅
  have r0:=r (a+0);have r1:=r (a+1);have r2:=r (a+2);have r3:=r (a+3);unfold stOf;repeat' split
  all_goals omega
 show gc (kd 2 0 (bQ G)) _ _=_
 refine xD (h':=h) (xC (ρ:=[some (kX ns),some (.int a)]) rfl rfl ?_) iE (zP _);have rg:vw [eC (.int 4)] [some (kX ns),some (.int a)] h=some (.items [.int 0,.int 1,.int 2,.int 3],h):=by
  simp only[vw,ky,bnd,eC,aI];rw[zY ∅];rfl
 have c:=dA (mi:=vw [eC (.int 4)]) (ks:=[0,1]) (t:=kL) (m:=zh G.aa [ze 1,zi addW (ze 2) (ze 0),eC (.int 6)]) (ρ:=[some (kX ns),some (.int a)]) (h:=h) (l:=[.int 0,.int 1,.int 2,.int 3]) (λ_=>true) (λw=>match w with | .int i=>.int (qv ns (a+i) 6) | w=>w)
  rg (λw _ H'=>rfl) (λw hw _ H'=>by
   have:∃i,w=.int i:=by
    simp only[zb,zc,zM] at hw;rcases hw with rfl | rfl | rfl | rfl<;>exact⟨_,rfl⟩
   obtain⟨i,rfl⟩:=this;simp only[zh,ky,bnd,zi,ze,eC,zx,jh,zE,zq,v6,addW,kU];exact e _ _ _ ∅) (λw hw _=>by
   simp only[zb,zc,zM] at hw
   rcases hw with rfl | rfl | rfl | rfl<;>exact vT) (by decide)
 rw[filter_true] at c;unfold bQ;simp only[ku,zh,ky,bnd,zi,ze,eC] at c ⊢;simp only[c,ue,getL,CI,zx,jh]
theorem YY(e:∀(k many:Int) (h:MH),0<many->G.aa [kX ns,.int k,.int many] h=some (.int (qv ns k many),h)):∃ans:List Int,ans.length<=4/\(∀x∈ans,0<=x/\x<=1008)/\∀h,(step G).bF [kX ns,.int a] h=some (.fls (ans.map .int),h):=by
 have rgn:=kz (ns:=ns) (k:=a) (many:=4) ∅;obtain⟨j,hj⟩:=qj rgn.1;refine⟨(_root_.List.range j).map λ(i:Nat)=>qv ns (a+1+(i:Int)) 9,by simp;omega,λx hx=>?_,λh=>?_⟩
 .obtain⟨i,_,rfl⟩:=jd.mp hx
  have:=kz (ns:=ns) (k:=a+1+(i:Int)) (many:=9) ∅;exact⟨this.1,by omega⟩
 show gc (kd 2 0 (bL G)) _ _=_
 refine xD (h':=h) (xC (ρ:=[some (kX ns),some (.int a)]) rfl rfl ?_) fN (zP _);have rg:vw [zh G.aa [ze 0,ze 1,eC (.int 4)]] [some (kX ns),some (.int a)] h=some (.items (upto j),h):=by
  have q:-(2 ^ 62:Int)<=(j:Int)/\(j:Int)<2 ^ 62:=by omega
  simp only[vw,ky,bnd,zh,ze,eC,zE,zq,e a 4 h ∅,hj,aI];rw[zY q,qe]
 have c:=dA (mi:=vw [zh G.aa [ze 0,ze 1,eC (.int 4)]]) (ks:=[0,1]) (t:=kL) (m:=zh G.aa [ze 1,zi addW (zi addW (ze 2) (eC (.int 1))) (ze 0),eC (.int 9)]) (ρ:=[some (kX ns),some (.int a)]) (h:=h) (l:=upto j) (λ_=>true) (λw=>match w with | .int i=>.int (qv ns (a+1+i) 9) | w=>w)
  rg (λw _ H'=>rfl) (λw hw _ H'=>by
   obtain⟨i,_,rfl⟩:=jd.mp hw;simp only[zh,ky,bnd,zi,ze,eC,zx,jh,zE,zq,v6,addW,kU];exact e _ _ _ ∅) (λw hw _=>by
   obtain⟨i,_,rfl⟩:=jd.mp hw
   exact vT) (by unfold upto;rw[zO,qX];exact zR (show j<=4 by omega) (by decide))
 rw[filter_true] at c;unfold bL;unfold ku;rw[c];simp only[upto,q9];rfl
end
noncomputable def QT(T:Tr Int):Prop:=∀st,∃v,∀r:Rm,r.st=st->(kH T r).1=v/\(kH T r).2.1=r
theorem QT.ret{v:Int}:QT (.ret v):=λst=>⟨v,λr _=>⟨rfl,rfl⟩⟩
theorem QT.bind{T:Tr Int}{f:Int->Tr Int}(h:QT T)(hf:∀a,QT (f a)):QT (T.bind f):=λst=>by
 obtain⟨v,hv⟩:=h st;obtain⟨u,hu⟩:=hf v st;refine⟨u,λr hr=>?_⟩;rw[xY,(hv r hr).1,(hv r hr).2];exact hu r hr
structure Lf(x:D)(T:Tr Int):Prop where
 q:QT T
 e:∀(R:Rn) (ρ:Sv) (cs:List Int),den R x ρ cs=T.bind λv=>.ret (v,cs)
 w:∀(rs:List Rule) (k:Nat) (N O H:List Str),Wf rs k x N O H
 c:∀(B:Nat->Nat->Nat) (h:Nat),cost B h x=1
def XC(h:v∈SH):Lf (.read v) (.tch (.read v) .ret):=
 ⟨λst=>⟨st v,λr hr=>by subst hr;exact⟨rfl,rfl⟩⟩,λR ρ cs=>by simp only[den,h,kE,Tr.bind],λrs k N O H=>by simp only[Wf];exact .inl h,λB h=>by simp only[cost]⟩
def Qw(h:ok n):Lf (.number n) (.ret n):=
 ⟨QT.ret,λR ρ cs=>by simp only[den,Tr.bind],λrs k N O H=>by simp only[Wf];exact h,λB h=>by simp only[cost]⟩
structure Qd(rs:List Rule)(x:D):Prop where
 w:Cd rs x
 c:cst rs x<=60
 q:QT (treeOf rs x)
section
variable{rs:List Rule}{x y:D}{T U:Tr Int}
def DE(h:Lf x T):Qd rs x:=⟨h.w ..,by rw[cst,h.c];omega,by
 unfold treeOf;rw[h.e,Tr.bind_assoc]
 exact h.q.bind λa=>QT.ret⟩
def DK(h:Lf x T)(g:Lf y U):Qd rs (.add x y):=⟨by simp only[Wf];exact⟨h.w ..,g.w ..⟩,by simp only[cost,h.c,g.c];omega,by
 unfold treeOf;simp only[den,h.e,g.e,Tr.bind_assoc,Tr.bind]
 exact h.q.bind λa=>g.q.bind λb=>QT.ret⟩
def np:¬(("p":Str)∈SH):=by decide +kernel
def DP(h:Lf x T)(g:Lf y U):Qd rs (.own "p" x (.write "p" (.add (.read "p") y))):=⟨by
 simp only[Wf];exact⟨⟨by simp,by simp,by decide +kernel⟩,h.w ..,.inr (by simp),.inr (by simp),g.w ..⟩,by simp only[cost,h.c,g.c];omega,by
 unfold treeOf;simp only[den,h.e,g.e,Tr.bind_assoc,Tr.bind,np,jj]
 exact h.q.bind λa=>g.q.bind λb=>QT.ret⟩
def DB(h:Lf x T):Qd rs (.lett "x" x (.add (.name "x") (.name "x"))):=⟨by
 simp only[Wf];exact⟨⟨by simp,by simp,by decide +kernel⟩,h.w ..,by simp,by simp⟩,by simp only[cost,h.c];omega,by
 unfold treeOf;simp only[den,h.e,Tr.bind_assoc,Tr.bind]
 exact h.q.bind λa=>QT.ret⟩
def Dt(h:Lf x T)(g:Lf y U):Qd rs (.iff x y (.number 4)):=⟨by
 simp only[Wf];exact⟨h.w ..,g.w ..,by decide,by decide⟩,by simp only[cost,h.c,g.c];omega,by
 unfold treeOf;simp only[den,h.e,g.e,Tr.bind_assoc,Tr.bind];refine h.q.bind λa=>?_
 split
 .exact QT.ret
 .rw[Tr.bind_assoc]
  exact g.q.bind λb=>QT.ret⟩
def mJ{G:Fs}(e:∀(k many:Int) (h:MH),0<many->G.aa [kX ns,.int k,.int many] h=some (.int (qv ns k many),h)):∃x,Qd rs x/\∀h,(step G).aF [kX ns,.int a] h=some (zk x,h):=by
 have rg:=λ(k many:Int) (h:0<many)=>kz (ns:=ns) (k:=k) (many:=many) h
 obtain⟨c,hc,ec⟩:=ZN (rg (a+1) 4 ∅).1 (rg (a+1) 4 ∅).2;have hn:=rg (a+2) 1009 ∅;generalize en:qv ns (a+2) 1009=n at hn;have leaf:∀k,∃x T,Lf x T/\∀h,zw (.fls [zk (.read c),zk (.number n)]) (.int (qv ns k 2)) h=some (zk x,h):=λk=>by
  obtain⟨v,hv,ev⟩:=aw (l:=[zk (.read c),zk (.number n)]) (rg k 2 ∅).1 (rg k 2 ∅).2;simp only[zb,zc,zM] at hv;rcases hv with rfl | rfl
  .exact⟨_,_,XC hc,ev⟩
  .exact⟨_,_,Qw ⟨hn.1,by omega⟩,ev⟩
 obtain⟨p,T,lp,e3⟩:=leaf (a+3);obtain⟨q,U,lq,e4⟩:=leaf (a+4);obtain⟨v,hv,ev⟩:=aw (l:=[p,.add p q,.own "p" p (.write "p" (.add (.read "p") q)),.lett "x" p (.add (.name "x") (.name "x")),.iff p q (.number 4)].map zk) (rg a 5 ∅).1 (rg a 5 ∅).2;have:∃x,Qd rs x/\v=zk x:=by
  simp only[zx,jh,zb,zc,zM] at hv;rcases hv with rfl | rfl | rfl | rfl | rfl
  .exact⟨_,DE lp,rfl⟩
  .exact⟨_,DK lp lq,rfl⟩
  .exact⟨_,DP lp lq,rfl⟩
  .exact⟨_,DB lp,rfl⟩
  .exact⟨_,Dt lp lq,rfl⟩
 obtain⟨x,hx,rfl⟩:=this;have c2:(2:Nat)<=cap:=by decide
 have c3:(3:Nat)<=cap:=by decide
 have c4:(4:Nat)<=cap:=by decide
 have c5:(5:Nat)<=cap:=by decide
 simp only[zx,jh,zk] at ev e3 e4;refine⟨x,hx,λh=>?_⟩;show gc (kd 2 4 (bO G)) _ _=_
 refine uX (xC (ρ:=[some (kX ns),some (.int a),none,none,none,none]) rfl rfl ?_) (kP _ _);unfold bO;rw[zt (ρ':=[some (kX ns),some (.int a),some (.fls [th "read" [.str c],th "number" [.int n]]),none,none,none]) (h':=h) (by simp![j2,zv,c2,addW,kU,e (a+1) 4 _ ∅,e (a+2) 1009 _ ∅,ec,en])];rw[zt (ρ':=[some (kX ns),some (.int a),some (.fls [th "read" [.str c],th "number" [.int n]]),some (zk p),none,none]) (h':=h) (by simp![addW,kU,e (a+3) 2 _ ∅,e3])];rw[zt (ρ':=[some (kX ns),some (.int a),some (.fls [th "read" [.str c],th "number" [.int n]]),some (zk p),some (zk q),none]) (h':=h) (by simp![addW,kU,e (a+4) 2 _ ∅,e4])];rw[zt (ρ':=[some (kX ns),some (.int a),some (.fls [th "read" [.str c],th "number" [.int n]]),some (zk p),some (zk q),some (.fls [zk p,th "add" [zk p,zk q],th "own" [.str "p",zk p,th "write" [.str "p",th "add" [th "read" [.str "p"],zk q]]]])]) (h':=h) (by simp![j2,zv,c2,c3,c4])];rw[zt (ρ':=[some (kX ns),some (.int a),some (.fls [th "read" [.str c],th "number" [.int n]]),some (zk p),some (zk q),some (.fls [zk p,th "add" [zk p,zk q],th "own" [.str "p",zk p,th "write" [.str "p",th "add" [th "read" [.str "p"],zk q]]],th "let" [.str "x",zk p,th "add" [th "name" [.str "x"],th "name" [.str "x"]]],th "if" [zk p,zk q,th "number" [.int 4]]])]) (h':=h) (by simp![j2,zv,c2,c3,c4,c5,addW,kU,getL])];simp![e a 5 _ ∅,ev]
end
section
variable{rs:List Rule}{a b c:D}{r:Rm}{u v z:Int}
noncomputable abbrev St(rs:List Rule)(r:Rm)(d:D)(v:Int):Prop:=(kH (treeOf rs d) r).1=v/\(kH (treeOf rs d) r).2.1=r
def fx(hr:RsOk rs)(wa:Cd rs a)(wb:Cd rs b)(ha:St rs r a u)(hb:St rs r b v):St rs r (.add a b) ((u+v)%1009):=by
 unfold St at ha hb ⊢;rw[Dr hr wa wb,xY,ha.1,ha.2,xY,hb.1,hb.2];exact⟨rfl,rfl⟩
def lI(hr:RsOk rs)(wa:Cd rs a)(wb:Cd rs b)(ha:St rs r a u)(hb:St rs r b v):St rs r (.less a b) (if u<v then 1 else 0):=by
 unfold St at ha hb ⊢;rw[C4 hr wa wb,xY,ha.1,ha.2,xY,hb.1,hb.2];exact⟨rfl,rfl⟩
def Us(hr:RsOk rs)(wa:Cd rs a)(wb:Cd rs b)(wc:Cd rs c)(ha:St rs r a u)(hb:St rs r b v)(hc:St rs r c z):St rs r (.iff a b c) (if u=0 then z else v):=by
 unfold St at ha hb hc ⊢;rw[Dw hr wa wb wc,xY,ha.1,ha.2];split
 .exact hc
 .exact hb
end
theorem DG(F:Fs):dh F=zo (Q0 F) (zo (Q1 F) (zo (Q2 F) (zo (Q3 F) (zo (Q4 F) (zo (Q5 F) (zo (Q6 F) (zo (Q7 F) (zo (Q8 F) (zo (Q9 F) (zo (Cv F) (zo (BB F) (zo (U2 F) (zo (CN F) (zo (BV F) (zo (Bt F) (zo (Bn F) (C7 F))))))))))))))))):=rfl
noncomputable abbrev one(S:W)(v:Int):W:=.tup [.int v,S,.fls [],.int 0]
structure LawF(G:Fs)(s R a b c d S A:W)(M4:List W)(v1 v2 v3 i4:Int):Prop where
 rules:∀h,G.bI [s,.int 1] h=some (R,h)
 qa:∀h,G.aF [s,.int (200+10*0)] h=some (a,h)
 qb:∀h,G.aF [s,.int (200+10*1)] h=some (b,h)
 qc:∀h,G.aF [s,.int (200+10*2)] h=some (c,h)
 wa:∀m,low m a=true
 wb:∀m,low m b=true
 wc:∀m,low m c=true
 st:∀h,G.bJ [s,.int 70] h=some (S,h)
 ak:∀h,G.bF [s,.int 75] h=some (A,h)
 ra:∀h,G.aA [R,a,S,A] h=some (one S v1,h)
 rb:∀h,G.aA [R,b,S,A] h=some (one S v2,h)
 rc:∀h,G.aA [R,c,S,A] h=some (one S v3,h)
 r1:∀h,G.aA [R,th "add" [a,th "add" [b,c]],S,A] h=some (one S ((v1+v2+v3)%1009),h)
 r2:∀h,G.aA [R,th "add" [th "add" [c,a],b],S,A] h=some (one S ((v1+v2+v3)%1009),h)
 r3:∀h,G.aA [R,th "add" [a,th "number" [.int 0]],S,A] h=some (one S v1,h)
 r4:∀h,G.aA [R,th "less" [a,b],S,A] h=some (one S (if v1<v2 then 1 else 0),h)
 r5:∀h,G.aA [R,th "less" [b,a],S,A] h=some (one S (if v2<v1 then 1 else 0),h)
 r6:∀h,G.aA [R,th "if" [th "less" [a,b],a,b],S,A] h=some (one S (if v2<v1 then v2 else v1),h)
 ld:∀h,G.bH [s,.int 90,.int 2,R] h=some (d,h)
 r7:∀h,G.aA [R,d,S,A] h=some (.tup (.int i4::M4),h)
 o1:ok v1
 o2:ok v2
 o3:ok v3
 o4:ok i4
 eo:∀v h,eqB h (one S v) (one S v)=some true
noncomputable abbrev ρa(s R a b c S A:W)(o7 o8 o9 o10 o11 o12 o13:Option W):En:=[some s,some R,some a,some b,some c,some S,some A,o7,o8,o9,o10,o11,o12,o13]
section
variable{G:Fs}{s R a b c d S A:W}{M4:List W}{v1 v2 v3 i4:Int}
def Gj{i:Int}:kC (.int 10) (.int i) h=some (.int (10*i),h):=by
 have:(small 10||small i)=true:=by rw[show small 10=true by decide];rfl
 simp only[kC,this,kE]
def U3(L:LawF G s R a b c d S A M4 v1 v2 v3 i4)(h:MH):ja (vw [eC (.int 3)]) 1 [0] (zC 0) kL (zh G.aF [ze 1,zi addW (eC (.int 200)) (zi kC (eC (.int 10)) (ze 0))]) (some s::some R::List.replicate 12 none) h=some (.fls [a,b,c],h):=by
 have rg:vw [eC (.int 3)] (some s::some R::List.replicate 12 none) h=some (.items [.int 0,.int 1,.int 2],h):=by
  simp only[vw,ky,bnd,eC,aI];rw[zY ∅];rfl
 have k:=dA (mi:=vw [eC (.int 3)]) (ks:=[0]) (t:=kL) (m:=zh G.aF [ze 1,zi addW (eC (.int 200)) (zi kC (eC (.int 10)) (ze 0))]) (ρ:=some s::some R::List.replicate 12 none) (h:=h) (l:=[.int 0,.int 1,.int 2]) (λ_=>true) (λw=>match w with | .int 0=>a | .int 1=>b | _=>c)
  rg (λw _ H'=>rfl) (λw hw _ H'=>by
   simp only[zb,zc,zM] at hw;rcases hw with rfl | rfl | rfl<;>simp only[zh,ky,bnd,zi,ze,eC,zx,jh,zE,zq,v6,addW,kU,Gj]
   .exact L.qa _
   .exact L.qb _
   .exact L.qc _) (λw hw _=>by
   simp only[zb,zc,zM] at hw;rcases hw with rfl | rfl | rfl
   .exact L.wa _
   .exact L.wb _
   .exact L.wc _) (by decide)
 rw[filter_true] at k;exact k
noncomputable def Yn(G:Fs)(R S A w:W):W:=match G.aA [R,w,S,A] [] with
 | some (.tup (x::_),_)=>x
 | _=>w
def worths(L:LawF G s R a b c d S A M4 v1 v2 v3 i4)(h:MH):ja (qq (zh zv [ze 2,ze 3,ze 4])) 1 [1,5,6] (zC 0) kL (zi zw (zh G.aA [ze 1,ze 0,ze 2,ze 3]) (eC (.int 0))) (ρa s R a b c S A none none none none none none none) h=some (.fls [.int v1,.int v2,.int v3],h):=by
 have c3:(3:Nat)<=cap:=by decide
 have k:=dA (mi:=qq (zh zv [ze 2,ze 3,ze 4])) (ks:=[1,5,6]) (t:=kL) (m:=zi zw (zh G.aA [ze 1,ze 0,ze 2,ze 3]) (eC (.int 0))) (ρ:=ρa s R a b c S A none none none none none none none) (h:=h) (l:=[a,b,c]) (λ_=>true) (Yn G R S A)
  (by simp![zv,c3,qq,srcOf]) (λw _ H'=>rfl) (λw hw _ H'=>by
   simp only[zb,zc,zM] at hw;rcases hw with rfl | rfl | rfl<;>simp![L.ra,L.rb,L.rc,Yn,xZ]) (λw hw _=>by
   simp only[zb,zc,zM] at hw
   rcases hw with rfl | rfl | rfl<;>simp only[Yn,L.ra,L.rb,L.rc]<;>exact vT) c3
 rw[filter_true] at k;simp only[zx,jh,Yn,L.ra,L.rb,L.rc] at k;exact k
def QW(e:m ρ h=some (.fls [.int v1,.int v2,.int v3],h))(o1:ok v1)(o2:ok v2)(o3:ok v3):ja (qq m) 1 [] (zC 0) (iG (ke (xk gK gK (eC (.int 0)) (ze 0) (eC (.int 1008))))) (ze 0) ρ h=some (.fls [],h):=
 dA (mi:=qq m) (ks:=[]) (t:=iG (ke (xk gK gK (eC (.int 0)) (ze 0) (eC (.int 1008))))) (m:=ze 0) (ρ:=ρ) (h:=h) (l:=[.int v1,.int v2,.int v3]) (λ_=>false) id
  (by simp only[qq,bnd,e,srcOf]) (λw hw H'=>by
   simp only[zb,zc,zM] at hw
   rcases hw with rfl | rfl | rfl<;>simp![iG,xk,vE,rH,o1.1,o1.2,o2.1,o2.2,o3.1,o3.2]) (λw _ z=>by cases z) (λw _ z=>by cases z) (show(3:Nat)<=cap by decide)
def uQ{a b:MS}{ρ:En}(e:a ρ h=some (.nx ρ,h)):zo a b ρ h=b ρ h:=zt e
def Xu(L:LawF G s R a b c d S A M4 v1 v2 v3 i4)(h:MH):dh G (some s::List.replicate 13 none) h=some (.ret (.bl true),h):=by
 have c0:(0:Nat)<=cap:=by decide
 have c2:(2:Nat)<=cap:=by decide
 have c3:(3:Nat)<=cap:=by decide
 have c4:(4:Nat)<=cap:=by decide
 have nil:∀h,eqB h (.fls []) (.fls [])=some true:=λh=>Jn (tU (n:=0) []) ∅
 have sm:∀h,eD [.fls [.int v1,.int v2,.int v3]] h=some (.int (v1+v2+v3),h):=λh=>jR (λx=>some (W.int x,h)) (show v1+(v2+(v3+0))=v1+v2+v3 by omega)
 have mi:∀h,gS (.fls [.int v1,.int v2,.int v3]) none (some 2) h=some (.fls [.int v1,.int v2],h):=λh=>by
  simp only[gS,getL];have:=sd (l:=[W.int v1,.int v2,.int v3]) (k:=2) (by simp);simpa using this
 have adI:∀(i j:Int) h,addW (.int i) (.int j) h=some (.int (i+j),h):=λi j h=>by simp[addW,kU]
 rw[DG];rw[zt (ρ':=some s::some R::List.replicate 12 none) (h':=h) (by simp![Q0,L.rules])];rw[zt (ρ':=[some s,some R,some a,some b,some c,none,none,none,none,none,none,none,none,none]) (h':=h) (by unfold Q1;exact b9 (U3 L h) rfl)];rw[zt (ρ':=[some s,some R,some a,some b,some c,some S,none,none,none,none,none,none,none,none]) (h':=h) (by simp![Q2,L.st])];rw[zt (ρ':=ρa s R a b c S A none none none none none none none) (h':=h) (by simp![Q3,L.ak])];rw[zt (ρ':=ρa s R a b c S A (some (.fls [.int v1,.int v2,.int v3])) none none none none none none) (h':=h) (by unfold Q4;exact b9 (worths L h) rfl)];have n5:=QW (m:=ze 7) (ρ:=ρa s R a b c S A (some (.fls [.int v1,.int v2,.int v3])) none none none none none none) (h:=h) rfl L.o1 L.o2 L.o3;refine(uQ (by unfold Q5;simp![n5,j2,c0,nil])).trans ?_;rw[zt (ρ':=ρa s R a b c S A (some (.fls [.int v1,.int v2,.int v3])) (some (one S ((v1+v2+v3)%1009))) none none none none none) (h':=h) (by simp![Q6,zv,c3,L.r1])];refine(uQ (by simp![Q7,sm,yv,j2,zv,c0,c4,L.eo])).trans ?_;refine(uQ (by simp![Q8,zv,c3,L.r2,L.eo])).trans ?_;refine(uQ (by simp![Q9,zv,c2,c3,L.r3,L.ra,L.eo])).trans ?_;rw[zt (ρ':=ρa s R a b c S A (some (.fls [.int v1,.int v2,.int v3])) (some (one S ((v1+v2+v3)%1009))) (some (.int (if v1<v2 then 1 else 0))) none none none none) (h':=h) (by simp![Cv,zv,c3,L.r4,xZ])];rw[zt (ρ':=ρa s R a b c S A (some (.fls [.int v1,.int v2,.int v3])) (some (one S ((v1+v2+v3)%1009))) (some (.int (if v1<v2 then 1 else 0))) (some (.int (if v2<v1 then 1 else 0))) none none none) (h':=h) (by simp![BB,zv,c3,L.r5,xZ])];have i1:∀h,addW (.int (if v1<v2 then 1 else 0)) (.int (if v2<v1 then 1 else 0)) h=some (.int (if v1=v2 then 0 else 1),h):=λh=>by
  rw[adI];congr 3
  by_cases q:v1<v2<;>by_cases q':v2<v1<;>simp[q,q']<;>omega
 have i2:∀h,mU [.bl (!(v1==v2))] h=some (.int (if v1=v2 then 0 else 1),h):=λh=>by
  by_cases q:v1=v2<;>simp[mU,q]
 have i3:∀h,inB h (.int (if v1<v2 then 1 else 0)) (.tup [.int 0,.int 1])=some true:=λh=>by
  split<;>rfl
 have i0:∀h,zw (.fls [.int v1,.int v2,.int v3]) (.int 0) h=some (.int v1,h):=λh=>rfl
 have i9:∀h,zw (.fls [.int v1,.int v2,.int v3]) (.int 1) h=some (.int v2,h):=λh=>rfl
 refine(uQ (by simp![U2,i1,i0,i9,vt,i2,zv,c2,u9,i3])).trans ?_;rw[zt (ρ':=ρa s R a b c S A (some (.fls [.int v1,.int v2,.int v3])) (some (one S ((v1+v2+v3)%1009))) (some (.int (if v1<v2 then 1 else 0))) (some (.int (if v2<v1 then 1 else 0))) (some (th "if" [th "less" [a,b],a,b])) none none) (h':=h) (by simp![CN,zv,c3,c4])];rw[zt (ρ':=ρa s R a b c S A (some (.fls [.int v1,.int v2,.int v3])) (some (one S ((v1+v2+v3)%1009))) (some (.int (if v1<v2 then 1 else 0))) (some (.int (if v2<v1 then 1 else 0))) (some (th "if" [th "less" [a,b],a,b])) (some (one S (if v2<v1 then v2 else v1))) none) (h':=h) (by simp![BV,L.r6])];have m2:∀h,pT [.fls [.int v1,.int v2]] h=some (.int (if v2<v1 then v2 else v1),h):=λh=>rfl
 refine(uQ (by simp![Bt,ba,bp,mi,m2,j2,zv,c0,c4,L.eo])).trans ?_;rw[zt (ρ':=ρa s R a b c S A (some (.fls [.int v1,.int v2,.int v3])) (some (one S ((v1+v2+v3)%1009))) (some (.int (if v1<v2 then 1 else 0))) (some (.int (if v2<v1 then 1 else 0))) (some (th "if" [th "less" [a,b],a,b])) (some (one S (if v2<v1 then v2 else v1))) (some d)) (h':=h) (by simp![Bn,L.ld])];simp![C7,xk,L.r7,xZ,vE,rH,L.o4.1,L.o4.2]
end
def D7{ns:List Int}(hl:ns.length<=63)(h:MH):(up 31 F).fY [kX ns] h=some (.bl true,h):=by
 obtain⟨rs,hr,eR⟩:=Y4 (F:=F) (m:=29) hl ∅;have e:∀(k many:Int) (h:MH),0<many->(up 29 F).aa [kX ns,.int k,.int many] h=some (.int (qv ns k many),h):=λk many h hm=>uV (F:=up 27 F) hl hm
 obtain⟨x1,q1,e1⟩:=mJ (rs:=rs) (a:=200+10*0) e;obtain⟨x2,q2,e2⟩:=mJ (rs:=rs) (a:=200+10*1) e;obtain⟨x3,q3,e3⟩:=mJ (rs:=rs) (a:=200+10*2) e;obtain⟨x4,w4,d4,l4⟩:=Ur (F:=F) (m:=29) (a:=90) hl ∅ hr;obtain⟨st,os,eS⟩:=X9 (ns:=ns) (a:=70) e;obtain⟨ans,la,oa,eA⟩:=YY (ns:=ns) (a:=75) e;have c4:cst rs x4<=604297:=hr.cost w4 d4;have cz:(5*604297+210:Nat)<=cap:=by decide
 have cz2:(1300000:Nat)<cap:=by decide
 have run:∀d,Cd rs d->cst rs d<=604297->∀h,(up 30 F).aA [.tup (ki rs),zk d,qV st,.fls (ans.map .int)] h=some (lE (kH (treeOf rs d) ⟨st,ans,[],0⟩).1 (kH (treeOf rs d) ⟨st,ans,[],0⟩).2.1,h):=λd w c h=>
  DO (F:=up 21 F) hr.g cz ((QP hr.g w).mono c) ∅ ∅ h
 have quiet:∀d v,Cd rs d->cst rs d<=604297->St rs ⟨st,ans,[],0⟩ d v->∀h,(up 30 F).aA [.tup (ki rs),zk d,qV st,.fls (ans.map .int)] h=some (one (qV st) v,h):=λd v w c s h=>by
  rw[run d w c,s.1,s.2];rfl
 have rok:∀d,Cd rs d->ok (kH (treeOf rs d) ⟨st,ans,[],0⟩).1:=λd w=>gR (Xv hr.g w) os oa
 have k1:cost (y8 rs rs.length) 0 x1<=60:=q1.c;have k2:cost (y8 rs rs.length) 0 x2<=60:=q2.c;have k3:cost (y8 rs rs.length) 0 x3<=60:=q3.c;have w1:=q1.w;have w2:=q2.w;have w3:=q3.w;obtain⟨v1,t1⟩:=q1.q st;obtain⟨v2,t2⟩:=q2.q st;obtain⟨v3,t3⟩:=q3.q st;have t1:St rs ⟨st,ans,[],0⟩ x1 v1:=t1 _ rfl;have t2:St rs ⟨st,ans,[],0⟩ x2 v2:=t2 _ rfl;have t3:St rs ⟨st,ans,[],0⟩ x3 v3:=t3 _ rfl;have o1:=rok x1 w1;have o2:=rok x2 w2;have o3:=rok x3 w3;rw[t1.1] at o1;rw[t2.1] at o2;rw[t3.1] at o3;have wn:Cd rs (.number 0):=by simp only[Wf];decide
 have t0:St rs ⟨st,ans,[],0⟩ (.number 0) 0:=by unfold St treeOf;simp only[den,Tr.bind,kH,and_self]
 have w23:Cd rs (.add x2 x3):=by simp only[Wf];exact⟨w2,w3⟩
 have w31:Cd rs (.add x3 x1):=by simp only[Wf];exact⟨w3,w1⟩
 have w12:Cd rs (.less x1 x2):=by simp only[Wf];exact⟨w1,w2⟩
 have r1:=quiet (.add x1 (.add x2 x3)) _ (by simp only[Wf];exact⟨w1,w2,w3⟩) (by simp only[cost];omega) (fx hr.g w1 w23 t1 (fx hr.g w2 w3 t2 t3));have r2:=quiet (.add (.add x3 x1) x2) _ (by simp only[Wf];exact⟨⟨w3,w1⟩,w2⟩) (by simp only[cost];omega) (fx hr.g w31 w2 (fx hr.g w3 w1 t3 t1) t2);have r3:=quiet (.add x1 (.number 0)) _ (by simp only[Wf];exact⟨w1,by decide⟩) (by simp only[cost];omega) (fx hr.g w1 wn t1 t0);have r4:=quiet (.less x1 x2) _ w12 (by simp only[cost];omega) (lI hr.g w1 w2 t1 t2);have r5:=quiet (.less x2 x1) _ (by simp only[Wf];exact⟨w2,w1⟩) (by simp only[cost];omega) (lI hr.g w2 w1 t2 t1);have r6:=quiet (.iff (.less x1 x2) x1 x2) _ (by simp only[Wf];exact⟨⟨w1,w2⟩,w1,w2⟩) (by simp only[cost];omega) (Us hr.g w12 w1 w2 (lI hr.g w1 w2 t1 t2) t1 t2);rw[show(v1+(v2+v3)%1009)%1009=(v1+v2+v3)%1009 by omega] at r1;rw[show((v3+v1)%1009+v2)%1009=(v1+v2+v3)%1009 by omega] at r2;rw[show(v1+0)%1009=v1 by omega] at r3
 rw[show(if (if v1<v2 then (1:Int) else 0)=0 then v2 else v1)=if v2<v1 then v2 else v1 by
  by_cases q:v1<v2<;>by_cases q':v2<v1<;>simp[q,q']<;>omega] at r6
 simp only[zk] at r1 r2 r3 r4 r5 r6;have L:LawF (up 30 F) (kX ns) (.tup (ki rs)) (zk x1) (zk x2) (zk x3) (zk x4) (qV st) (.fls (ans.map .int)) _ v1 v2 v3 (kH (treeOf rs x4) ⟨st,ans,[],0⟩).1:=
  { rules:=eR,qa:=e1,qb:=e2,qc:=e3,wa:=λm=>kP m x1,wb:=λm=>kP m x2,wc:=λm=>kP m x3,st:=eS,ak:=eA,ra:=quiet x1 v1 w1 (zR k1 ∅) t1,rb:=quiet x2 v2 w2 (zR k2 ∅) t2,rc:=quiet x3 v3 w3 (zR k3 ∅) t3,r1:=r1,r2:=r2,r3:=r3,r4:=r4,r5:=r5,r6:=r6,ld:=l4,r7:=run x4 w4 c4,o1:=o1,o2:=o2,o3:=o3,o4:=rok x4 w4,eo:=λv h=>Jn (C9 (v:=v) (r:=⟨st,[],[],0⟩)) ∅ }
 show gc (kd 1 13 (dh (up 30 F))) _ _=_
 exact uX (xC (ρ:=some (kX ns)::List.replicate 13 none) rfl rfl (Xu L h)) (by unfold low;rfl)
theorem W4:∀n,lv n=up n Fs.bot
 | 0=>rfl
 | n+1=>by show step (lv n)=step (up n Fs.bot);rw[W4 n]
def main(ns:List Int)(hl:ns.length<=63):∃h',(lv 200).fY [.fls (ns.map W.int)] []=some (.bl true,h'):=by
 refine⟨[],?_⟩;rw[W4];exact D7 (F:=up 169 Fs.bot) hl []
end K17
namespace K17
open PySem PySem.W PyProof.Rows ML
set_option maxHeartbeats 0 in
def txt {XP : (Str -> Option Value) -> Heap -> Prop} {w : World} {s₀ : Shared} {mg mb : Str -> Option Value} {h : Heap} (G : Ground q ["FORMS", "WAYS"] [] XP w s₀ mg mb h) : Wn (iC (Kw h) mg) defs :=
  ⟨j3 G (d := fc) (by kernel_rfl) rfl (ML.hb1 λ_ _ _ _ _ _ _ => by kernel_rfl) rfl,
   j3 G (d := dZ) (by kernel_rfl) rfl (ML.hb2 λ_ _ _ _ _ _ _ _ => by kernel_rfl) rfl,
   j3 G (d := cH) (by kernel_rfl) rfl (ML.hb1 λ_ _ _ _ _ _ _ => by kernel_rfl) rfl,
   j3 G (d := dN) (by kernel_rfl) rfl (ML.hb3 λ_ _ _ _ _ _ _ _ _ => by kernel_rfl) rfl,
   j3 G (d := dU) (by kernel_rfl) rfl (ML.hb4 λ_ _ _ _ _ _ _ _ _ _ => by kernel_rfl) rfl,
   j3 G (d := fD) (by kernel_rfl) rfl (ML.hb4 λ_ _ _ _ _ _ _ _ _ _ => by kernel_rfl) rfl,
   j3 G (d := fU) (by kernel_rfl) rfl (ML.hb4 λ_ _ _ _ _ _ _ _ _ _ => by kernel_rfl) rfl,
   j3 G (d := eY) (by kernel_rfl) rfl (ML.hb4 λ_ _ _ _ _ _ _ _ _ _ => by kernel_rfl) rfl,
   j3 G (d := fV) (by kernel_rfl) rfl (ML.hb4 λ_ _ _ _ _ _ _ _ _ _ => by kernel_rfl) rfl,
   j3 G (d := fG) (by kernel_rfl) rfl (ML.hb4 λ_ _ _ _ _ _ _ _ _ _ => by kernel_rfl) rfl,
   j3 G (d := fH) (by kernel_rfl) rfl (ML.hb4 λ_ _ _ _ _ _ _ _ _ _ => by kernel_rfl) rfl,
   j3 G (d := gw) (by kernel_rfl) rfl (ML.hb4 λ_ _ _ _ _ _ _ _ _ _ => by kernel_rfl) rfl,
   j3 G (d := fJ) (by kernel_rfl) rfl (ML.hb4 λ_ _ _ _ _ _ _ _ _ _ => by kernel_rfl) rfl,
   j3 G (d := gf) (by kernel_rfl) rfl (ML.hb4 λ_ _ _ _ _ _ _ _ _ _ => by kernel_rfl) rfl,
   j3 G (d := gh) (by kernel_rfl) rfl (ML.hb4 λ_ _ _ _ _ _ _ _ _ _ => by kernel_rfl) rfl,
   j3 G (d := gm) (by kernel_rfl) rfl (ML.hb4 λ_ _ _ _ _ _ _ _ _ _ => by kernel_rfl) rfl,
   j3 G (d := gj) (by kernel_rfl) rfl (ML.hb4 λ_ _ _ _ _ _ _ _ _ _ => by kernel_rfl) rfl,
   j3 G (d := d7) (by kernel_rfl) rfl (ML.hb4 λ_ _ _ _ _ _ _ _ _ _ => by kernel_rfl) rfl,
   j3 G (d := fO) (by kernel_rfl) rfl (ML.hb4 λ_ _ _ _ _ _ _ _ _ _ => by kernel_rfl) rfl,
   j3 G (d := eV) (by kernel_rfl) rfl (ML.hb2 λ_ _ _ _ _ _ _ _ => by kernel_rfl) rfl,
   j3 G (d := cQ) (by kernel_rfl) rfl (ML.hb2 λ_ _ _ _ _ _ _ _ => by kernel_rfl) rfl,
   j3 G (d := gA) (by kernel_rfl) rfl (ML.hb4 λ_ _ _ _ _ _ _ _ _ _ => by kernel_rfl) rfl,
   j3 G (d := fC) (by kernel_rfl) rfl (ML.hb4 λ_ _ _ _ _ _ _ _ _ _ => by kernel_rfl) rfl,
   j3 G (d := gk) (by kernel_rfl) rfl (ML.hb5 λ_ _ _ _ _ _ _ _ _ _ _ => by kernel_rfl) rfl,
   j3 G (d := eZ) (by kernel_rfl) rfl (ML.hb2 λ_ _ _ _ _ _ _ _ => by kernel_rfl) rfl,
   j3 G (d := eO) (by kernel_rfl) rfl (ML.hb3 λ_ _ _ _ _ _ _ _ _ => by kernel_rfl) rfl,
   j3 G (d := eU) (by kernel_rfl) rfl (ML.hb3 λ_ _ _ _ _ _ _ _ _ => by kernel_rfl) rfl,
   j3 G (d := fj) (by kernel_rfl) rfl (ML.hb5 λ_ _ _ _ _ _ _ _ _ _ _ => by kernel_rfl) rfl,
   j3 G (d := eX) (by kernel_rfl) rfl (ML.hb5 λ_ _ _ _ _ _ _ _ _ _ _ => by kernel_rfl) rfl,
   j3 G (d := dY) (by kernel_rfl) rfl (ML.hb2 λ_ _ _ _ _ _ _ _ => by kernel_rfl) rfl,
   j3 G (d := d8) (by kernel_rfl) rfl (ML.hb2 λ_ _ _ _ _ _ _ _ => by kernel_rfl) rfl,
   j3 G (d := eQ) (by kernel_rfl) rfl (ML.hb2 λ_ _ _ _ _ _ _ _ => by kernel_rfl) rfl,
   j3 G (d := d9) (by kernel_rfl) rfl (ML.hb2 λ_ _ _ _ _ _ _ _ => by kernel_rfl) rfl,
   j3 G (d := dI) (by kernel_rfl) rfl (ML.hb3 λ_ _ _ _ _ _ _ _ _ => by kernel_rfl) rfl,
   j3 G (d := dX) (by kernel_rfl) rfl (ML.hb4 λ_ _ _ _ _ _ _ _ _ _ => by kernel_rfl) rfl,
   j3 G (d := gq) (by kernel_rfl) rfl (ML.hb1 λ_ _ _ _ _ _ _ => by kernel_rfl) rfl, trivial⟩
set_option maxHeartbeats 0 in
def seen {XP : (Str -> Option Value) -> Heap -> Prop} {w : World} {s₀ : Shared} {mg mb : Str -> Option Value} {h : Heap} (G : Ground q ["FORMS", "WAYS"] [] XP w s₀ mg mb h) (Y : H.says w h) : ∃ cl, T pw (Kw h) w mg cl := by
  obtain ⟨c0, C0, e0, g0⟩ := JU (x := "Doing") G (by kernel_rfl);obtain ⟨c1, C1, e1, g1⟩ := JU (x := "Room") G (by kernel_rfl);obtain ⟨h2, h3, h4, h5⟩ := XT Y G.T.g
  refine ⟨⟨λn => if n = 0 then C0 else if n = 1 then C1 else 0, pw, w⟩, txt G, ?_, ?_, h4, ⟨rfl, rfl⟩, ?_, ⟨uK (q := q) (loose := ["FORMS", "WAYS"]) (x := "Doing") (d := dG) g0 e0 (by kernel_rfl) ⋯ (ML.hb3 λ_ _ _ _ _ _ _ _ _ => by kernel_rfl),
   uK (q := q) (loose := ["FORMS", "WAYS"]) (x := "Doing") (d := dF) g0 e0 (by kernel_rfl) ⋯ (ML.hb2 λ_ _ _ _ _ _ _ _ => by kernel_rfl),
   uK (q := q) (loose := ["FORMS", "WAYS"]) (x := "Doing") (d := bA) g0 e0 (by kernel_rfl) ⋯ (ML.hb2 λ_ _ _ _ _ _ _ _ => by kernel_rfl),
   uK (q := q) (loose := ["FORMS", "WAYS"]) (x := "Doing") (d := dD) g0 e0 (by kernel_rfl) ⋯ (ML.hb1 λ_ _ _ _ _ _ _ => by kernel_rfl),
   uK (q := q) (loose := ["FORMS", "WAYS"]) (x := "Doing") (d := cG) g0 e0 (by kernel_rfl) ⋯ (ML.hb4 λ_ _ _ _ _ _ _ _ _ _ => by kernel_rfl),
   uK (q := q) (loose := ["FORMS", "WAYS"]) (x := "Doing") (d := cP) g0 e0 (by kernel_rfl) ⋯ (ML.hb2 λ_ _ _ _ _ _ _ _ => by kernel_rfl),
   uK (q := q) (loose := ["FORMS", "WAYS"]) (x := "Doing") (d := cX) g0 e0 (by kernel_rfl) ⋯ (ML.hb1 λ_ _ _ _ _ _ _ => by kernel_rfl),
   uK (q := q) (loose := ["FORMS", "WAYS"]) (x := "Room") (d := fB) g1 e1 (by kernel_rfl) ⋯ (ML.hb2 λ_ _ _ _ _ _ _ _ => by kernel_rfl),
   uK (q := q) (loose := ["FORMS", "WAYS"]) (x := "Room") (d := cg) g1 e1 (by kernel_rfl) ⋯ (ML.hb1 λ_ _ _ _ _ _ _ => by kernel_rfl),
   uK (q := q) (loose := ["FORMS", "WAYS"]) (x := "Room") (d := dR) g1 e1 (by kernel_rfl) ⋯ (ML.hb1 λ_ _ _ _ _ _ _ => by kernel_rfl),
   uK (q := q) (loose := ["FORMS", "WAYS"]) (x := "Room") (d := eE) g1 e1 (by kernel_rfl) ⋯ (ML.hb1 λ_ _ _ _ _ _ _ => by kernel_rfl),
   trivial⟩, ⟨WN (q := q) (loose := ["FORMS", "WAYS"]) (x := "Doing") (d := dM) g0 e0 (by kernel_rfl) ⋯ (ML.hb3 λ_ _ _ _ _ _ _ _ _ => by kernel_rfl) rfl,
   WN (q := q) (loose := ["FORMS", "WAYS"]) (x := "Room") (d := eF) g1 e1 (by kernel_rfl) ⋯ (ML.hb3 λ_ _ _ _ _ _ _ _ _ => by kernel_rfl) rfl,
   trivial⟩, h5⟩
  · have e : toT Yl = cons := by kernel_rfl
    rw [<- e];exact h2
  · have e : (tabsC.map λp => (p.1, toT p.2)) = tabs := by kernel_rfl
    rw [<- e];exact h3
  · refine Vn λp hp f hf => ?_
    simp only [kx, zb, zc, zM] at hp;rcases hp with rfl | rfl
    · exact Zy (q := q) (loose := ["FORMS", "WAYS"]) (x := "Doing") (fs := ["rules", "steps", "worths", "touch_ahead"]) g0 e0 (by kernel_rfl) f hf
    · exact Zy (q := q) (loose := ["FORMS", "WAYS"]) (x := "Room") (fs := ["shelves", "answers", "spoken", "asks"]) g1 e1 (by kernel_rfl) f hf
end K17
open PySem PySem.W PyProof.Rows ML
set_option maxRecDepth 100000 in
set_option maxHeartbeats 0 in
theorem PySem.Challenge.cw_shelfwork_k17_whole_reckoning_holds : PySem.Challenge.rw_shelfwork_k17_whole_reckoning.Holds := by
 refine holds_law K17.said λsaid=>?_
 refine holds_open (q:=K17.q) (loose:=["FORMS","WAYS"]) (Xt:=λs=>xlAt K17.q [] s&&recOk [] s) (XP:=XL K17.q []) (Yf:=K17.H.obs) (Ya:=K17.H.val) (YP:=K17.H.says) (N:=8000) K17.left (Hook.of K17.H) (Hook.keeps K17.H) (λs e=>xl_of s (jw.mp e).1) XL.keeps rfl rfl rfl (λs e=>recFacts_of (jw.mp e).2) rfl said ⋯ ⟨rfl,rfl,rfl,rfl,rfl,by decide +kernel⟩ ?hw ?hc
 case hw=>w_witness2
 case hc=>
  exact ML.walk_lawD (l:=PySem.Challenge.rw_shelfwork_k17_whole_reckoning) (D:=K17.gq) (g:=(K17.lv 200).fY) (b:=K17.dh (K17.lv 199)) (Γ:=K17.rc (K17.lv 199)) (y:="_law_script") (room:=199) (K17.T K17.pw) rfl rfl ⟨rfl,by decide,by decide⟩ rfl rfl (ML.hb1 λ_ _ _ _ _ _ _=>by kernel_rfl) (by kernel_rfl) rfl (by kernel_rfl) rfl K17.main (λw K mg base cl t=>(K17.lvl t 199).1) λw s₀ mg mb h G Y=>(let ⟨cl,t⟩:=K17.seen G Y;⟨cl,(K17.txt G).2.2.2.2.2.2.2.2.2.2.2.2.2.2.2.2.2.2.2.2.2.2.2.2.2.2.2.2.2.2.2.2.2.2.2.1,t⟩)

import PyProof.Rows.All
import KE.KDictOf
import KE.KIsAll
import PySem.Challenge.RW_shelfwork_k16_whole_asked
import KE.KItem
import KE.KRevIter
set_option compiler.extract_closed false
set_option Elab.async false
set_option linter.all false
set_option maxRecDepth 100000
set_option maxHeartbeats 1000000
def za:=@PySem.wpAny_bind
def zb:=@List.mem_cons
def zc:=@List.not_mem_nil
def zf:=@PySem.Heap.get?_push_of_some
def zg:=@Option.map_eq_some_iff
def zj:=@Nat.le_refl
def zm:=@List.length_cons
def zp:=@Option.bind_eq_some_iff
def zq:=@List.getElem?_cons_zero
def zr:=@PySem.wpAny_pure
def zu:=@List.getElem?_append_left
def zx:=@Bool.and_eq_true
def zy:=@List.map_cons
def zA:=@List.getElem?_eq_getElem
def zB:=@PySem.Heap.lt_size
def zE:=@List.getElem?_append_right
def zF:=@List.length_append
def zG:=@List.getElem?_cons_succ
def zH:=@List.length_map
def zJ:=@List.getElem?_set_ne
def zK:=@List.getElem?_set_self
def zL:=@List.size_toArray
def zM:=@Nat.lt_of_lt_of_le
def zN:=@List.mem_cons_of_mem
def zO:=@or_false
def zP:=@List.length_nil
def zQ:=@Nat.le_trans
def zR:=@List.prefix_refl
def zT:=@PySem.Heap.get?_push_size
def zU:=@List.getElem?_eq_some_iff
def zV:=@List.mem_append
def zW:=@Nat.ne_of_lt
def zX:=@if_pos
def zY:=@List.nil_append
def zZ:=@List.mem_cons_self
def z9:=@Bool.false_ne_true
def kh:=@List.append_nil
def kj:=@Option.some.inj
def kE:=@List.append_assoc
def kI:=@if_true
def kJ:=@List.lookup_cons
def kO:=@if_neg
def kW:=@List.all_eq_true
def kY:=@Ne.symm
def kZ:=@List.mem_map
def jb:=@List.length_set
def jc:=@PySem.wpAny_holding
def jd:=@List.mem_append_right
def je:=@List.getElem?_map
def jf:=@PySem.W.kia_one
def jh:=@List.prefix_append
def ji:=@List.map_nil
def jj:=@List.getD_eq_getElem?_getD
def jk:=@List.cons_append
def jl:=@PySem.wpAny_field
def jm:=@if_false
def jn:=@PySem.wpAny_newObj_type
def jo:=@PySem.wpAny_callSpecial?_slot
def jq:=@PyProof.Rows.callWith_type1
def jr:=@List.zip_cons_cons
def jt:=@beq_eq_false_iff_ne
def ju:=@List.all_cons
def jw:=@Bool.and_eq_true_iff
def jx:=@PySem.wpAny_call_entry
def jy:=@PySem.wpAny_Call_Name_kw
def jz:=@List.nodup_cons
def jA:=@List.mem_iff_getElem?
def jB:=@List.getElem?_eq_none
def jC:=@List.find?_cons
def jD:=@PyProof.Rows.slot_tuple_getitem
def jE:=@Nat.lt_irrefl
def jF:=@List.mem_of_getElem?
def jG:=@Bool.false_eq_true
def jH:=@List.replicate_succ
def jJ:=@PySem.wpAny_seqItems
def jK:=@List.length_replicate
def jL:=@decide_eq_false
def jM:=@PySem.builtinLookup_eq_fast
def jN:=@List.length_eq_zero_iff
def jO:=@List.cons.injEq
def jP:=@PySem.Heap.get?_update_self
def jQ:=@List.mem_append_left
def jR:=@List.getElem?_eq_none_iff
def jT:=@List.set_append_right
def jU:=@List.map_append
def jV:=@PySem.wpAny_of_eq
def jW:=@congrArg
def jX:=@Nat.lt_succ_self
def jY:=@List.getElem?_replicate
def jZ:=@PySem.wpAny_isInstance
def j0:=@Int.toNat_natCast
def j4:=@List.length_reverse
def j5:=@List.foldl_cons
def j6:=@PySem.wpAny_attempt
def j7:=@PySem.wpAny_typeOf
def j8:=@not_or
def j9:=@PySem.Heap.size_push
def qb:=@PySem.wpAny_setField_rec
def qd:=@beq_iff_eq
def qe:=@Option.isSome_iff_exists
def qg:=@List.length_zip
def qi:=@List.flatten_cons
def qj:=@Nat.ne_of_gt
def ql:=@Int.eq_ofNat_of_zero_le
def qm:=@PySem.typeLookup_type
def qp:=@List.length_take
def qt:=@List.any_eq_true
def qu:=@PySem.F.slot_zip_next
def qw:=@decide_eq_true
def qx:=@PySem.Heap.SameBut.update
def qy:=@PySem.wpAny_rule
def qz:=@of_decide_eq_true
def qC:=@PySem.Heap.get?_update_other
def qD:=@PySem.Obj.data_mapFields
def qF:=@PySem.Calls.spliced_cons
def qG:=@List.mem_of_mem_drop
def qH:=@PySem.wpAny_passesOwn
def qI:=@Option.isNone_iff_eq_none
def qJ:=@List.drop_eq_getElem_cons
def qK:=@Option.bind_some
def qL:=@List.length_drop
def qM:=@PySem.wpAny_mono
def qN:=@PySem.mem_of_lookup
def qO:=@Nat.zero_le
def qP:=@Nat.sub_self
def qQ:=@PySem.F.slot_tuple_iterator_next
def qR:=@PySem.Around.under_plainId
def qT:=@List.of_mem_zip
def qU:=@List.forIn_cons
def qW:=@Int.emod_lt_of_pos
def qX:=@List.reverse_cons
def qY:=@List.length_range
def qZ:=@Bool.not_eq_true'
def q8:=@PySem.plainId_quiet
def q9:=@Nat.zero_add
def vd:=@Nat.add_comm
def vf:=@List.map_map
def vg:=@Option.join_some
def vh:=@List.getElem_inj
def vm:=@List.filter_cons
def vo:=@PySem.wpAny_truthy_bool
def vp:=@PySem.wpAny_pyIter_list
def vq:=@PySem.sizeLine_eq
def vA:=@PySem.call_meets
def vB:=@PySem.Calls.spliced_nil
def vC:=@Nat.le_succ
def vD:=@List.mem_filter
def vG:=@Int.emod_nonneg
def vH:=@Bool.eq_iff_iff
def vI:=@PySem.F.slot_tuple_mul
def vJ:=@PySem.AutoSeq1.idx_int
def vK:=@PySem.W.callWith_K
def vL:=@Option.isSome_some
def vM:=@PySem.Heap.get?_none_of_le
def vN:=@List.nodup_nil
def vO:=@List.mem_of_find?_eq_some
def vP:=@PySem.wpAny_updateSeq
def vQ:=@PySem.wpAny_specialOf
def vR:=@decide_eq_true_eq
def vU:=@PySem.codeAny_builtin
def vV:=@PySem.W.kitx_list
def vW:=@PySem.F.args_tuple_add_2
def vX:=@Nat.lt_succ_of_lt
def vY:=@PySem.F.plainAttrs_list
def vZ:=@PySem.F.entry_tuple_add
def v6:=@Nat.add_mul
def v7:=@List.any_cons
def v8:=@PySem.wpAny_setField
def v9:=@PySem.isSubtype_type
def wg:=@PySem.F.slot_tuple_add
def wj:=@PySem.F.slot_dict_get
def wu:=@Nat.le_of_lt
def wz:=@PySem.F.slot_list_getattribute
def wB:=@PySem.F.args_zip_next_1
def wC:=@PySem.wpAny_throw
def wD:=@Nat.mul_le_mul_right
def wF:=@PySem.F.slot_zip_getattribute
def wG:=@List.forIn_nil
def wI:=@List.drop_zero
def wJ:=@PySem.F.entry_zip_next
def wK:=@PySem.W.plainGet_of
def wL:=@List.filterMap_cons
def wM:=@PySem.Calls.callWith_builtin
def wO:=@Array.length_toList
def wQ:=@PySem.wpAny_execs_nil
def wR:=@Prod.mk.injEq
def wU:=@PySem.PassesOwn.never
def wV:=@PySem.Obj.isFreed_of_fields
def wW:=@PySem.F.slot_int_rmul
def wX:=@Array.find?_toList
def wY:=@PySem.wpAny_updateSeq_pair
def wZ:=@PySem.W.kitx_dict
def yc:=@List.nodup_append
def yd:=@PySem.F.plain_reversed_new
def ye:=@PyProof.Rows.tupleItemsOf_
def yf:=@PySem.callType_codes
def yg:=@List.take_length
def yh:=@List.drop_length
def yj:=@PySem.wpAny_standAt
def ym:=@PySem.wpAny_pyIter_tuple
def yo:=@PySem.wpAny_onRaise
def yp:=@PySem.tupleKind_room_in1
def yq:=@Sum.inr.inj
def yr:=@Prod.mk.inj
def yt:=@Option.map_some
def yu:=@List.lookup_nil
def yw:=@PySem.F.args_tuple_mul_2
def yx:=@PySem.typeIs_int
def yz:=@PySem.F.plain_extend_loop
def yC:=@List.mem_range
def yD:=@PySem.F.entry_tuple_mul
def yE:=@PySem.concat_meets
def yF:=@PySem.codeAny_mono
def yG:=@PySem.wpAny_pyIter_zip
def yH:=@PySem.noFill_tuple_add
def yI:=@PySem.F.args_dict_get_3
def yJ:=@Nat.add_sub_cancel_left
def yK:=@List.sum_cons
def yL:=@PySem.W.cellsFrom_some
def yM:=@PySem.F.entry_dict_get
def yN:=@List.take_of_length_le
def yO:=@List.drop_of_length_le
def yP:=@PySem.F.args_tuple_iterator_next_1
def yQ:=@PySem.wpAny_letGo
def yR:=@PySem.W.methodCall_KW
def yS:=@Nat.mul_comm
def yU:=@List.set_set
def yV:=@PySem.Heap.DictOf.new
def yW:=@PySem.F.entry_tuple_iterator_next
def yX:=@PySem.Calls.Name_function_global
def yZ:=@Array.mem_toList_iff
def xf:=@PySem.wpAny_dictSetHashed_pairs
def xg:=@PySem.wpAny_binaryOp_repeat_ref
def xj:=@PySem.isSubtype_stop
def xm:=@PySem.W.callWith_K0
def xn:=@Int.toNat_of_nonneg
def xq:=@Bool.or_eq_true_iff
def xr:=@PySem.Walks.list
def xu:=@PySem.W.kitx_tuple
def xx:=@Option.isNone_none
def xF:=@List.mem_filterMap
def xG:=@List.getElem?_drop
def xH:=@PySem.AutoSeq1.sub_tuple_tuple
def xJ:=@Array.forIn_toList
local macro_rules|`(⋯)=>`(by decide +kernel)
local macro_rules|`(∅)=>`(by omega)
namespace ML
open PySem PySem.W PyProof.Rows
inductive Cn where
 | int (i:Int) | str (x:Str) | tup (l:List Cn)
noncomputable def ze3(h:Heap)(v:Value):Option (Array Value):=match v with
 | .ref a=>(h.get? a).bind λo=>match o.cls with
  | .type t=>if t="tuple" then (match o.data with | .seq its _=>if o.dict.isNone then some its else none | _=>none) else none
  | _=>none
 | _=>none
noncomputable def isI(i:Int)(v:Value):Bool:=match v with | .int j _=>i==j | _=>false
noncomputable def isS(x:Str)(v:Value):Bool:=match v with | .str y _=>x==y | _=>false
noncomputable def za4{α β:Type}(p:α->β->Bool):List α->List β->Bool
 | [],[]=>true
 | a::l,b::r=>p a b&&za4 p l r
 | _,_=>false
noncomputable def zbT(h:Heap):Nat->Cn->Value->Bool
 | 0,_,_=>false
 | n+1,w,v=>match w with
  | .int i=>isI i v
  | .str x=>isS x v
  | .tup l=>(ze3 h v).any λits=>decide (its.size<=sizeLine)&&za4 (zbT h n) l its.toList
noncomputable def dictAt(h:Heap)(v:Value):Option (Array DictEntry):=match v with
 | .ref a=>(h.get? a).bind λo=>match o.cls with
  | .type t=>if t="dict" then (match o.data with | .dict es _=>if o.dict.isNone&&o.slots.isEmpty&&a != sysModules then some es else none | _=>none) else none
  | _=>none
 | _=>none
noncomputable def tabB(h:Heap)(l:List (Str×Cn))(v:Option Value):Bool×List Int:=match v.bind (dictAt h) with
 | some es=>(za4 (λp (e:DictEntry)=>isS p.1 e.key&&zbT h 9 p.2 e.val) l es.toList,es.toList.map (·.hash))
 | none=>(false,[])
noncomputable def seeB(cons:List (Str×Cn))(bins:List Str)(h:Heap):Bool:=h.isNs mainGlobals&&cons.all (λp=>(h.nsMap mainGlobals p.1).any λv=>zbT h 9 p.2 v)&&bins.all λx=>(h.nsMap mainGlobals x).isNone
noncomputable def seeT(tabs:List (Str×List (Str×Cn)))(h:Heap):List (Bool×List Int):=tabs.map λp=>tabB h p.2 (h.nsMap mainGlobals p.1)
noncomputable def zdo(tabs:List (Str×List (Str×Cn)))(w:World):List (Bool×List Int):=tabs.map λp=>(true,p.2.map λk=>PyData.keyHash w.params k.1)
noncomputable def zo1(cons:List (Str×Cn))(tabs:List (Str×List (Str×Cn)))(bins:List Str):PySem.W.Hook:=
 ⟨Bool×List (Bool×List Int),λs=>(seeB cons bins s.heap,seeT tabs s.heap),λw=>(true,zdo tabs w),
  λw h=>∃h₀:Heap,(∀b o,h₀.get? b=some o->h.get? b=some o)/\seeB cons bins h₀=true/\seeT tabs h₀=zdo tabs w,
  λw s e=>⟨s.heap,λ_ _ z=>z,jW Prod.fst e,jW Prod.snd e⟩,λw h h' ⟨h₀,a,b⟩ k=>⟨h₀,λ_ _ z=>k _ _ (a _ _ z),b⟩⟩
def zmH{p q:Program}{loose:List Str}{Xt:Shared->Bool}{α:Type}{Yf:Shared->α}{Ya:World->α}{N:Nat}{g0:Bool}(row:String)
  (hf:∀w:World,(openEnds treeTable p (w.withFollow row false) N).map (λs=>(openSeen q loose (importedModules p.main.body) Xt g0 s,Yf s))=some (openGood q loose,Ya (w.withFollow row false)))
  (ht:∀w:World,(openEnds treeTable p (w.withFollow row true) N).map (λs=>(openSeen q loose (importedModules p.main.body) Xt g0 s,Yf s))=some (openGood q loose,Ya (w.withFollow row true))):LeftO p q loose Xt Yf Ya N g0:=
 byRow2 row (P:=λw=>(openEnds treeTable p w N).map (λs=>(openSeen q loose (importedModules p.main.body) Xt g0 s,Yf s))=some (openGood q loose,Ya w)) hf ht
noncomputable def refB(h:Heap)(x:Str)(v:Value):Bool:=match v,h.nsMap mainGlobals x with
 | .ref a,some (.ref b)=>a==b
 | _,_=>false
noncomputable def wayB(h:Heap)(l:List (Str×Str))(v:Option Value):Bool×List Int:=match v.bind (dictAt h) with
 | some es=>(za4 (λp (e:DictEntry)=>isS p.1 e.key&&refB h p.2 e.val) l es.toList,es.toList.map (·.hash))
 | none=>(false,[])
noncomputable def seeW(ways:List (Str×List (Str×Str)))(h:Heap):List (Bool×List Int):=ways.map λp=>wayB h p.2 (h.nsMap mainGlobals p.1)
noncomputable def goodW(ways:List (Str×List (Str×Str)))(w:World):List (Bool×List Int):=ways.map λp=>(true,p.2.map λk=>PyData.keyHash w.params k.1)
noncomputable def zk0(cons:List (Str×Cn))(tabs:List (Str×List (Str×Cn)))(bins:List Str)(ways:List (Str×List (Str×Str))):PySem.W.Hook:=
 ⟨(Bool×List (Bool×List Int))×List (Bool×List Int),λs=>((seeB cons bins s.heap,seeT tabs s.heap),seeW ways s.heap),λw=>((true,zdo tabs w),goodW ways w),
  λw h=>∃h₀:Heap,(∀b o,h₀.get? b=some o->h.get? b=some o)/\seeB cons bins h₀=true/\seeT tabs h₀=zdo tabs w/\seeW ways h₀=goodW ways w,
  λw s e=>⟨s.heap,λ_ _ z=>z,jW (·.1.1) e,jW (·.1.2) e,jW (·.2) e⟩,λw h h' ⟨h₀,a,b⟩ k=>⟨h₀,λ_ _ z=>k _ _ (a _ _ z),b⟩⟩
end ML
namespace K16
open PySem PySem.W PyProof.Rows ML
def pw:Program:=PySem.Challenge.pw_shelfwork_k16_whole_asked
def isNm(x:String):Expr->Bool | .Name y ..=>y==x | _=>false
def drops:Stmt->Bool
 | .Assign [t] ..=>isNm "FORMS" t||isNm "WAYS" t||isNm "__name__" t
 | _=>false
def q:Program:={ pw with main:={ pw.main with body:=pw.main.body.filter λs=>!drops s } }
def zlf:List (Str×Cn):=[("SHELVES",(.tup [.str "a",.str "b",.str "c",.str "d"])),("MODULUS",(.int 1009)),("LOOP_MODULUS",(.int 4))]
def tabsC:List (Str×List (Str×Cn)):=[("FORMS",[("number",(.tup [.int 2,.int 2])),("name",(.tup [.int 2,.int 2])),("read",(.tup [.int 2,.int 2])),("write",(.tup [.int 3,.int 2])),("add",(.tup [.int 3,.int 1])),("less",(.tup [.int 3,.int 1])),("then",(.tup [.int 3,.int 1])),("if",(.tup [.int 4,.int 1])),("loop",(.tup [.int 3,.int 1])),("let",(.tup [.int 4,.int 2])),("own",(.tup [.int 4,.int 2])),("say",(.tup [.int 2,.int 1])),("ask",(.tup [.int 1,.int 1])),("do",(.tup [.int 2,.int 2])),("call",(.tup [.int 4,.int 2]))])]
def zpD:List Str:=["dict","isinstance","len","list","range","reversed","sum","tuple","zip"]
def zpe:List (Str×List (Str×Str)):=[("WAYS",[("number","do_number"),("name","do_name"),("read","do_read"),("write","do_write"),("add","do_add"),("less","do_less"),("then","do_then"),("if","do_if"),("loop","do_loop"),("let","do_let"),("own","do_own"),("say","do_say"),("ask","do_ask"),("do","do_handed"),("call","do_call")])]
noncomputable def H:Hook:=zk0 zlf tabsC zpD zpe
set_option maxHeartbeats 0 in
theorem said:PySem.Challenge.rw_shelfwork_k16_whole_asked.wellSaid=true:=by kernel_rfl
set_option maxHeartbeats 0 in
theorem leftF(w:World):(openEnds treeTable pw (w.withFollow "special-get-raises" false) 8000).map (λs=>(openSeen q ["FORMS","WAYS"] (importedModules pw.main.body) (λs=>xlAt q [] s&&recOk [] s) true s,H.obs s))=some (openGood q ["FORMS","WAYS"],H.val (w.withFollow "special-get-raises" false)):=by kernel_rfl
set_option maxHeartbeats 0 in
theorem leftT(w:World):(openEnds treeTable pw (w.withFollow "special-get-raises" true) 8000).map (λs=>(openSeen q ["FORMS","WAYS"] (importedModules pw.main.body) (λs=>xlAt q [] s&&recOk [] s) true s,H.obs s))=some (openGood q ["FORMS","WAYS"],H.val (w.withFollow "special-get-raises" true)):=by kernel_rfl
def left:LeftO pw q ["FORMS","WAYS"] (λs=>xlAt q [] s&&recOk [] s) H.obs H.val 8000:=zmH "special-get-raises" leftF leftT
end K16
section
namespace L2
open PySem PySem.Spec PyProof.Rows
abbrev Key:=Sum Int Str
def zcQ:Key->Value->Bool
 | .inl k,v=>Value.isInt k v
 | .inr x,v=>Value.isStrOf x v
def keyH(w:World):Key->Int
 | .inl k=>hashInt k
 | .inr x=>hashStr w x
def uN:∀{k:Key} {v:Value},zcQ k v=true->(∃i t,k=Sum.inl i/\v=Value.int i t)\/(∃x t,k=Sum.inr x/\v=Value.str x t)
 | .inl i,v,h=>by
  obtain⟨t,e⟩:=Value.isInt_shape (k:=i) (v:=v) h;exact .inl ⟨i,t,rfl,e⟩
 | .inr x,v,h=>by
  obtain⟨t,e⟩:=Value.isStrOf_shape (x:=x) (v:=v) h;exact .inr ⟨x,t,rfl,e⟩
def zi9(i:Int)(t:Tok):zcQ (.inl i) (.int i t)=true:=by simp[zcQ,Value.isInt]
def zh2(x:Str)(t:Tok):zcQ (.inr x) (.str x t)=true:=by simp[zcQ,Value.isStrOf]
def zoz(a b:Int):decide ((Sum.inl a:Key)=Sum.inl b)=(a==b):=by
 by_cases e:a=b
 .subst e; simp
 .have h:¬(Sum.inl a:Key)=Sum.inl b:=λq=>e (Sum.inl.inj q)
  rw[jL h];exact(jt.mpr e).symm
def zoa(a b:Str):decide ((Sum.inr a:Key)=Sum.inr b)=decide (a=b):=by
 by_cases e:a=b
 .subst e; simp
 .have h:¬(Sum.inr a:Key)=Sum.inr b:=λq=>e (yq q)
  rw[jL h,jL e]
def znE(a:Int)(b:Str):decide ((Sum.inl a:Key)=Sum.inr b)=false:=jL (λq=>nomatch q)
def zm9(a:Str)(b:Int):decide ((Sum.inr a:Key)=Sum.inl b)=false:=jL (λq=>nomatch q)
def uy(prog:Program)(w:World):PySem.KeyKind prog w Key where
 is:=zcQ
 hash:=keyH w
 inj:=λv a b ha hb=>by
  rcases uN ha with ⟨i,t,rfl,rfl⟩ | ⟨x,t,rfl,rfl⟩
  .rcases uN hb with ⟨j,u,rfl,e⟩ | ⟨y,u,rfl,e⟩
   .injection e with e1 _; rw[e1]
   .exact nomatch e
  .rcases uN hb with ⟨j,u,rfl,e⟩ | ⟨y,u,rfl,e⟩
   .exact nomatch e
   .injection e with e1 _; rw[e1]
 byValue:=λk v h=>by
  rcases uN h with ⟨i,t,rfl,rfl⟩ | ⟨x,t,rfl,rfl⟩<;>rfl
 pyHash:=λhv h=>by
  rcases uN hv with ⟨i,t,rfl,rfl⟩ | ⟨x,t,rfl,rfl⟩
  .exact wpAny_pyHash_int h
  .exact wpAny_pyHash_str h
 eqBool:=λhu hv h=>by
  rcases uN hu with ⟨i,t,rfl,rfl⟩ | ⟨x,t,rfl,rfl⟩
  .rcases uN hv with ⟨j,u,rfl,rfl⟩ | ⟨y,u,rfl,rfl⟩
   .rw[zoz] at h; exact wpAny_eqBool_int h
   .rw[znE] at h; exact SeqAt.EqAt.int_str i t y u _ _ _ _ h
  .rcases uN hv with ⟨j,u,rfl,rfl⟩ | ⟨y,u,rfl,rfl⟩
   .rw[zm9] at h; exact SeqAt.EqAt.str_int x t j u _ _ _ _ h
   .rw[zoa] at h; exact wpAny_eqBool_str h
 «strs»:=λk x t v h=>by
  rcases uN h with ⟨i,u,rfl,e⟩ | ⟨y,u,rfl,e⟩
  .exact nomatch e
  .injection e with e1 _
   subst e1;cases v<;>rfl
def zgl(prog:Program)(w:World)(i:Int)(t:Tok):(uy prog w).is (.inl i) (.int i t)=true:=zi9 i t
def zgf(prog:Program)(w:World)(x:Str)(t:Tok):(uy prog w).is (.inr x) (.str x t)=true:=zh2 x t
end L2
namespace L2
open PySem PySem.Spec PyProof.Rows
inductive V where
 | non | bl (b:Bool) | int (i:Int) | str (x:Str) | byt (b:Array UInt8) | flt (b:UInt64) | ref (a:Addr) | ty (n:String)
 deriving DecidableEq
def RelV:V->Value->Prop
 | .non,u=>u=Value.none
 | .bl b,u=>u=Value.bool b
 | .int i,u=>∃t,u=Value.int i t
 | .str x,u=>∃t,u=Value.str x t
 | .byt b,u=>∃t,u=Value.bytes b t
 | .flt b,u=>∃t,u=Value.float b t
 | .ref a,u=>u=Value.ref a
 | .ty n,u=>u=Value.type n
abbrev Vals:List V->List Value->Prop:=Paired RelV
theorem Vals.length{xs:List V}{us:List Value}(r:Vals xs us):xs.length=us.length:=Paired.length r
theorem Vals.get:∀{xs:List V} {us:List Value} {i:Nat} {x:V},Vals xs us->xs[i]?=some x->∃u,us[i]?=some u/\RelV x u
 | _,_,_,_,.nil,e=>by simp at e
 | _,_,0,_,.cons r _,e=>by simp at e; subst e; exact⟨_,rfl,r⟩
 | _,_,i+1,x,.cons _ t,e=>by
  obtain⟨u,h1,h2⟩:=Vals.get (i:=i) (x:=x) t (by simpa using e);exact⟨u,by simpa using h1,h2⟩
theorem Vals.set{x:V}{u:Value}(r:RelV x u):∀{xs:List V} {us:List Value} (i:Nat),Vals xs us->Vals (xs.set i x) (us.set i u)
 | _,_,_,.nil=>.nil
 | _,_,0,.cons _ t=>.cons r t
 | _,_,i+1,.cons q t=>.cons q (Vals.set r i t)
theorem Vals.append:∀{xs ys:List V} {us ws:List Value},Vals xs us->Vals ys ws->Vals (xs++ys) (us++ws)
 | _,_,_,_,.nil,s=>s
 | _,_,_,_,.cons r t,s=>.cons r (Vals.append t s)
theorem Vals.take:∀{xs:List V} {us:List Value} (n:Nat),Vals xs us->Vals (xs.take n) (us.take n)
 | _,_,0,_=>.nil
 | _,_,_+1,.nil=>.nil
 | _,_,n+1,.cons r t=>.cons r (Vals.take n t)
theorem Vals.drop:∀{xs:List V} {us:List Value} (n:Nat),Vals xs us->Vals (xs.drop n) (us.drop n)
 | _,_,0,r=>r
 | _,_,_+1,.nil=>.nil
 | _,_,n+1,.cons _ t=>Vals.drop n t
def RelO:Option V->Option Value->Prop
 | some v,some u=>RelV v u
 | none,none=>True
 | _,_=>False
def KV{κ:Type}:List (κ×V)->List (κ×Value)->Prop:=Paired λ(p:κ×V) (q:κ×Value)=>p.1=q.1/\RelV p.2 q.2
def kV:Key->V
 | .inl i=>.int i
 | .inr x=>.str x
inductive HO where
 | lst (xs:List V)
 | tup (xs:List V)
 | dK (kvs:List (Key×V)) | dT (kvs:List (List Key×V))
 | set (S:Int->Bool) (n:Nat)
 | ins (C dx:Addr) (fs:List (Str×V))
 | own (x:Addr)
 | xd (fs:List (Str×V))
 | met (f x:Addr)
 | rng (lo hi:Int)
 | frz (o:Obj) (u:HO)
 | tbl (ps:Array Value)
 | ext (φ:Heap->Prop)
abbrev Hp:=Addr->Option HO
def upd(H:Hp)(a:Addr)(o:HO):Hp:=λb=>if b=a then some o else H b
def uv{H:Hp}{a:Addr}{o:HO}:upd H a o a=some o:=by unfold upd; rw[zX rfl]
def uc{H:Hp}{a b:Addr}{o:HO}(h:b≠a):upd H a o b=H b:=by unfold upd; rw[kO h]
def zpG{H:Hp}{a b:Addr}{o u:HO}(h:H a=some o)(h':H b=some u)(d:o≠u):a≠b:=by
 intro e; subst e; rw[h] at h'; exact d (kj h')
def ux{H:Hp}{a b:Addr}{o:HO}(h:H a=some o)(h':H b=none):a≠b:=by
 intro e; subst e; rw[h] at h'; cases h'
def NoDi(h:Heap)(a:Addr):Prop:=∃o,h.get? a=some o/\o.dict=none
def NoDi.new(h:Heap)(o:Obj)(n:o.dict=none:=by rfl)(f:o.isFreed=false:=by rfl):NoDi (h.push o) h.objs.size:=⟨o,zT _ f,n⟩
section
variable(P:Program)(w:World)
def ObjOk(H:Hp)(h:Heap)(a:Addr):HO->Prop
 | .lst xs=>xs.length<=sizeLine/\∃(its:List Value) (n:Nat),Vals xs its/\h.get? a=some { cls:=.type "list",data:=.seq its.toArray n }
 | .tup xs=>xs.length<=sizeLine/\∃its:List Value,Vals xs its/\IsTup h a its.toArray/\NoDi h a
 | .dK kvs=>kvs.length<=sizeLine/\(a==sysModules)=false/\∃vs,KV kvs vs/\h.DictOf (uy P w) a vs
 | .dT kvs=>kvs.length<=sizeLine/\(a==sysModules)=false/\∃xs:List (List Key×Addr×Value),
   Paired (λ(p:List Key×V) (q:List Key×Addr×Value)=>p.1=q.1/\H q.2.1=some (.tup (p.1.map kV))/\RelV p.2 q.2.2) kvs xs /\
   ∃o es ep,h.get? a=some o/\o.ExactDict/\o.data=.dict es ep/\es.toList=xs.map (entryOfKey (tupleKind (uy P w)))/\(xs.map (·.1)).Nodup
 | .set S n=>h.SetOf (intKind P w) a S n
 | .ins C dx fs=>H dx=some (.own a)/\fs.length<=1000/\dx≠a/\h.get? a=some (PySem.W.instObj C dx) /\
   ∃mA,h.Ns1 dx mA/\(∀f,RelO (fs.lookup f) (mA f))/\PySem.Within mA (fs.map (·.1))
 | .own _=>∃o,h.get? a=some o
 | .xd fs=>∃mA,h.Ns1 a mA/\∀f,RelO (fs.lookup f) (mA f)
 | .rng lo hi=>∃t u v,h.get? a=some { cls:=.type "range",data:=.fields #[.int lo t,.int hi u,.int 1 v] }
 | .frz o u=>h.get? a=some o/\ObjOk H h a u
 | .tbl ps=>h.get? a=some { cls:=.none,data:=.fields ps }
 | .met f x=>h.get? a=some (PySem.W.methodObj (.ref f) (.ref x))
 | .ext φ=>φ h/\(∃o,h.get? a=some o)/\∀h1 h2:Heap,φ h1->(∀o,h1.get? a=some o->h2.get? a=some o)->φ h2
def HOk(H:Hp)(h:Heap):Prop:=∀a o,H a=some o->ObjOk P w H h a o
end
section
variable{P:Program}{w:World}{H H':Hp}{h h':Heap}{a:Addr}{o:HO}
theorem ObjOk.lt(x:ObjOk P w H h a o):a<h.objs.size:=by
 cases o with
 | lst xs=>obtain⟨_,_,_,_,e⟩:=x; exact zB e
 | tup xs=>obtain⟨_,_,_,p,_⟩:=x; exact p.lt
 | dK kvs=>obtain⟨_,_,_,_,o,_,_,e,_⟩:=x; exact zB e
 | dT kvs=>obtain⟨_,_,_,_,o,_,_,e,_⟩:=x; exact zB e
 | set S n=>obtain⟨o,_,_,_,e,_⟩:=x; exact zB e
 | ins C dx fs=>obtain⟨_,_,_,e,_⟩:=x; exact zB e
 | own y=>obtain⟨_,e⟩:=x; exact zB e
 | xd fs=>obtain⟨_,⟨_,_,_,e,_⟩,_⟩:=x; exact zB e
 | rng lo hi=>obtain⟨_,_,_,e⟩:=x; exact zB e
 | frz ob u=>obtain⟨e,_⟩:=x; exact zB e
 | tbl ps=>exact zB (show h.get? a=some _ from x)
 | met f y=>exact zB (show h.get? a=some _ from x)
 | ext φ=>obtain⟨_,⟨_,e⟩,_⟩:=x; exact zB e
theorem Paired.mapP{α β:Type}{F G:α->β->Prop}:∀{l₁:List α} {l₂:List β},Paired F l₁ l₂->(∀a b,F a b->G a b)->Paired G l₁ l₂
 | _,_,.nil,_=>.nil
 | _,_,.cons r t,f=>.cons (f _ _ r) (Paired.mapP t f)
def ObjOk.stay(x:ObjOk P w H h a o)(k:∀b u,(b=a\/H b=some (.own a))->h.get? b=some u->h'.get? b=some u)
  (ho:∀b,H b=some (.own a)->H' b=some (.own a)) (ht:∀b xs,H b=some (.tup xs)->H' b=some (.tup xs)):ObjOk P w H' h' a o:=by
 induction o with
 | lst xs=>obtain⟨z,its,n,r,e⟩:=x; exact⟨z,its,n,r,k _ _ (.inl rfl) e⟩
 | tup xs=>obtain⟨z,its,r,⟨ob,e,c⟩,o2,e2,d2⟩:=x; exact⟨z,its,r,⟨ob,k _ _ (.inl rfl) e,c⟩,o2,k _ _ (.inl rfl) e2,d2⟩
 | dK kvs=>obtain⟨z,y,vs,r,ob,es,ep,e,c⟩:=x; exact⟨z,y,vs,r,ob,es,ep,k _ _ (.inl rfl) e,c⟩
 | dT kvs=>
  obtain⟨z,y,xs,r,ob,es,ep,e,c⟩:=x;exact⟨z,y,xs,Paired.mapP r λp q z=>⟨z.1,ht _ _ z.2.1,z.2.2⟩,ob,es,ep,k _ _ (.inl rfl) e,c⟩
 | set S n=>obtain⟨ob,es,ep,t,e,c⟩:=x; exact⟨ob,es,ep,t,k _ _ (.inl rfl) e,c⟩
 | ins C dx fs=>
  obtain⟨d,z,ne,e,mA,⟨od,es,ep,e2,c⟩,r⟩:=x;exact⟨ho _ d,z,ne,k _ _ (.inl rfl) e,mA,⟨od,es,ep,k _ _ (.inr d) e2,c⟩,r⟩
 | own y=>obtain⟨ob,e⟩:=x; exact⟨ob,k _ _ (.inl rfl) e⟩
 | xd fs=>obtain⟨mA,⟨od,es,ep,e,c⟩,r⟩:=x; exact⟨mA,⟨od,es,ep,k _ _ (.inl rfl) e,c⟩,r⟩
 | rng lo hi=>obtain⟨t,u,v,e⟩:=x; exact⟨t,u,v,k _ _ (.inl rfl) e⟩
 | frz ob u ih=>obtain⟨e,q⟩:=x; exact⟨k _ _ (.inl rfl) e,ih q⟩
 | tbl ps=>
  have e:h.get? a=some { cls:=.none,data:=.fields ps }:=x;show h'.get? a=some { cls:=.none,data:=.fields ps }
  exact k a _ (.inl rfl) e
 | met f y=>
  have e:h.get? a=some (PySem.W.methodObj (.ref f) (.ref y)):=x;show h'.get? a=some (PySem.W.methodObj (.ref f) (.ref y))
  exact k a _ (.inl rfl) e
 | ext φ=>obtain⟨p,⟨o,e⟩,st⟩:=x; exact⟨st _ _ p λo q=>k _ _ (.inl rfl) q,⟨o,k _ _ (.inl rfl) e⟩,st⟩
theorem HOk.lt(x:HOk P w H h)(e:H a=some o):a<h.objs.size:=(x a o e).lt
def HOk.fresh(x:HOk P w H h)(e:h.objs.size<=a):H a=none:=by
 cases q:H a with
 | none=>rfl
 | some u=>exact absurd (zM (x.lt q) e) (jE _)
def HOk.kept(x:HOk P w H h)(k:∀b u,h.get? b=some u->h'.get? b=some u):HOk P w H h':=λa o e=>
 (x a o e).stay (λb u _ q=>k b u q) (λ_ q=>q) λ_ _ q=>q
def HOk.laid(x:HOk P w H h)(k:∀b u,h.get? b=some u->h'.get? b=some u)(hp:h.objs.size<=a)(new:ObjOk P w (upd H a o) h' a o):HOk P w (upd H a o) h':=λb u e=>by
 have hn:=x.fresh hp;by_cases hb:b=a
 .subst hb; rw[uv] at e; cases e; exact new
 .rw[uc hb] at e
  exact(x b u e).stay (λc v _ q=>k c v q) (λc q=>by rw[uc (ux q hn)]; exact q) λc xs q=>by rw[uc (ux q hn)]; exact q
end
def Rd(H:Hp)(a:Addr)(u:HO):Prop:=H a=some u\/∃o,H a=some (.frz o u)
def Rd.ok{P:Program}{w:World}{H:Hp}{h:Heap}{a:Addr}{u:HO}(r:Rd H a u)(x:HOk P w H h):ObjOk P w H h a u:=by
 rcases r with r | ⟨o,r⟩
 .exact x a u r
 .obtain⟨_,q⟩:=x a _ r
  exact q
def Mut:Option HO->Prop
 | some (.lst _)=>True
 | some (.dK _)=>True
 | some (.dT _)=>True
 | some (.set _ _)=>True
 | some (.ins _ _ _)=>True
 | some (.ext _)=>True
 | _=>False
section
variable{P:Program}{w:World}{H:Hp}{h h':Heap}{x e:Addr}{o':HO}
theorem HOk.write(ok:HOk P w H h)(mu:Mut (H x))(he:e=x\/H e=some (.own x))(k:∀b u,b≠e->h.get? b=some u->h'.get? b=some u)(heo:∃u,h'.get? e=some u)
  (new:ObjOk P w (upd H x o') h' x o'):HOk P w (upd H x o') h':=λb u q=>by
 have nown:∀c y,H c=some (.own y)->c≠x:=λc y r z=>by subst z; rw[r] at mu; exact mu
 have ntup:∀c xs,H c=some (.tup xs)->c≠x:=λc xs r z=>by subst z; rw[r] at mu; exact mu
 by_cases hb:b=x
 .subst hb; rw[uv] at q; cases q; exact new
 .rw[uc hb] at q
  by_cases hbe:b=e
  .have q':H b=some (.own x):=by
    rcases he with z | z
    .exact absurd (hbe.trans z) hb
    .rw[hbe]; exact z
   rw[q] at q'; cases q';obtain⟨v,hv⟩:=heo;exact⟨v,by rw[hbe]; exact hv⟩
  .refine(ok b u q).stay (λc v hc r=>k c v ?_ r) (λc r=>by rw[uc (nown c b r)]; exact r) λc xs r=>by rw[uc (ntup c xs r)]; exact r
   rcases hc with rfl | hc
   .exact hbe
   .rintro rfl
    rcases he with z | z
    .exact nown c b hc z
    .rw[hc] at z; cases z; exact hb rfl
end
structure Un(fs ex:List Addr)(H H':Hp)(h h':Heap):Prop where
 keep:∀b o,h.get? b=some o->H b=none->b∉fs->b∉ex->h'.get? b=some o
 slot:∀b o,h.get? b=some o->H b=none->b∈fs->b∉ex->∃sl,h'.get? b=some { o with slots:=sl }
 free:∀b o,h.get? b=some o->H b=none->b∉ex->H' b=none
 there:∀b o,h.get? b=some o->b∉ex->∃o',h'.get? b=some o'
 tups:∀b xs,H b=some (.tup xs)->H' b=some (.tup xs)
 frzs:∀b o u,H b=some (.frz o u)->H' b=some (.frz o u)
 tbls:∀b ps,H b=some (.tbl ps)->∃more,H' b=some (.tbl (ps++more))
section
variable{fs fs' ex ex':List Addr}{H H1 H2:Hp}{h h1 h2 h':Heap}{a x e:Addr}{o:HO}
def Un.any(u:Un fs ex H H1 h h1){b:Addr}{ob:Obj}(q:h.get? b=some ob)(n:H b=none)(hx:b∉ex):∃sl,h1.get? b=some { ob with slots:=sl }:=by
 by_cases hb:b∈fs
 .exact u.slot b ob q n hb hx
 .exact⟨ob.slots,u.keep b ob q n hb hx⟩
def Un.kept(k:∀b u,h.get? b=some u->h'.get? b=some u):Un fs ex H H h h':=
 ⟨λb ob q _ _ _=>k b ob q,λb ob q _ _ _=>⟨ob.slots,k b ob q⟩,λ_ _ _ n _=>n,λb ob q _=>⟨ob,k b ob q⟩,λ_ _ q=>q,λ_ _ _ q=>q,λ_ ps q=>⟨#[],by rw[q]; simp⟩⟩
def Un.refl:Un fs ex H H h h:=Un.kept λ_ _ q=>q
def Un.laid(k:∀b u,h.get? b=some u->h'.get? b=some u)(hp:h.objs.size<=a)(hn:H a=none):Un fs ex H (upd H a o) h h' where
 keep:=λb u q _ _ _=>k b u q
 slot:=λb u q _ _ _=>⟨u.slots,k b u q⟩
 free:=λb u q n _=>by rw[uc (zW (zM (zB q) hp))]; exact n
 there:=λb u q _=>⟨u,k b u q⟩
 tups:=λb xs q=>by rw[uc (ux q hn)]; exact q
 frzs:=λb u xs q=>by rw[uc (ux q hn)]; exact q
 tbls:=λb ps q=>⟨#[],by rw[uc (ux q hn),q]; simp⟩
def Un.write(mu:Mut (H x))(he:e=x\/H e=some (.own x))(k:∀b u,b≠e->h.get? b=some u->h'.get? b=some u)(heo:∃u,h'.get? e=some u):Un fs ex H (upd H x o) h h':=by
 have hx:∀b,H b=none->b≠x:=λb n z=>by subst z; rw[n] at mu; exact mu
 have hb:∀b,H b=none->b≠e:=λb n z=>by
  subst z;rcases he with r | r
  .exact hx b n r
  .rw[n] at r; cases r
 have hm:∀b u,H b=some u->¬Mut (some u)->b≠x:=λb u q nm z=>by subst z; rw[q] at mu; exact nm mu
 refine⟨λb u q n _ _=>k b u (hb b n) q,λb u q n _ _=>⟨u.slots,k b u (hb b n) q⟩,λb u q n _=>by rw[uc (hx b n)]; exact n,λb u q _=>?_,
  λb xs q=>by rw[uc (hm b _ q λz=>z)]; exact q,λb u xs q=>by rw[uc (hm b _ q λz=>z)]; exact q,λb ps q=>⟨#[],by rw[uc (hm b _ q λz=>z),q]; simp⟩⟩
 by_cases hbe:b=e
 .subst hbe; exact heo
 .exact⟨u,k b u hbe q⟩
end
def trk(h:Heap)(H:Hp):List Addr:=(List.range h.objs.size).filter λa=>(H a).isSome
def hidT(h:Heap)(H:Hp):Heap:=PySem.W.hideAll h (trk h H)
def zh4(h:Heap)(H:Hp):(hidT h H).objs.size=h.objs.size:=PySem.W.hideAll_size _ _
def zkp{h:Heap}{H:Hp}{b:Addr}{o:Obj}(e:h.get? b=some o)(n:H b=none):(hidT h H).get? b=some o:=
 PySem.W.hideAll_get _ e λhm=>by
  have q:(H b).isSome=true:=(vD.mp hm).2;rw[n] at q; simp at q
def zmq{h:Heap}{H:Hp}{b:Addr}{o:Obj}(e:(hidT h H).get? b=some o):h.get? b=some o/\H b=none:=by
 have e':h.get? b=some o:=PySem.W.of_hideAll (trk h H) e;refine⟨e',?_⟩;cases q:H b with
 | none=>rfl
 | some x=>
  have hm:b∈trk h H:=vD.mpr ⟨yC.mpr (zB e'),by simp[q]⟩;have z:(hidT h H).get? b=none:=PySem.W.hideAll_none (trk h H) hm;rw[z] at e; cases e
end L2
namespace L2
open PySem PySem.Spec PyProof.Rows
structure Mod(K:PySem.W.Frag)(mg:Str->Option Value)(base:Heap):Prop where
 kin:K.In base
 glob:base.Ns mainGlobals mg
 blt:∃mb,base.Ns builtinsNs mb/\∀x:Str,x≠"__name__"->mb x=bootBuiltins x
 nolimit:base.NoLimit
structure Cx where
 prog:Program
 w:World
 K:PySem.W.Frag
 mg:Str->Option Value
 base:Heap
 A:Around
 N:List Str
 s₀:Shared
 H₀:Hp
 env:Env
 outer:List Env
 stack:List Env
 ex:List Addr
 fn:Str->Bool
 calm:Bool
 pn:List (Addr×Obj)
 xe:Value->Shared->Prop
def frs(l:List Env):List Addr:=l.filterMap (·.frame)
abbrev Cx.fs(X:Cx):List Addr:=frs X.outer
def Vis(sc:Scope)(x:Str):Prop:=sc.names.lookup x=some .local\/sc.names.lookup x=some .cell\/sc.names.lookup x=some .free
def Loc(sc:Scope)(x:Str):Prop:=sc.names.lookup x=some .local\/sc.names.lookup x=some .cell
def Look(env:Env)(h:Heap)(m:Str->Option Value)(x:Str)(u:Value):Prop:=
 (env.kindOf x=some .local/\m x=some u)\/((env.kindOf x=some .cell\/env.kindOf x=some .free)/\∃c,env.cells.lookup x=some c/\h.IsCell c (some u))
structure Cx.Ok(X:Cx):Prop where
 mod:Mod X.K X.mg X.base
 kind:X.env.scope.kind=.function
 glob:X.env.globals=mainGlobals
 blt:X.env.builtins=builtinsNs
 above:X.s₀.heap.objs.size<=X.env.locals
 inj:∀x y c,X.env.cells.lookup x=some c->X.env.cells.lookup y=some c->x=y
 has:∀x,(X.env.kindOf x=some .cell\/X.env.kindOf x=some .free)->∃c,X.env.cells.lookup x=some c
 cab:∀x c,X.fn x=true->X.env.cells.lookup x=some c->X.s₀.heap.objs.size<=c
 hd:X.calm=true->X.A.handled=none
 frames:X.A.frames=some X.stack
 stk:X.stack=X.outer\/(X.stack=X.env::X.outer/\X.env.frame=some X.env.locals)
 exf:∀b∈X.ex,b≠X.env.locals/\∀x c,X.env.cells.lookup x=some c->c≠b
 bs:∀b o,X.base.get? b=some o->X.s₀.heap.get? b=some o/\X.H₀ b=none
 bsz:X.base.objs.size<=X.s₀.heap.objs.size
 noex:∀b o,X.base.get? b=some o->b∉X.ex
 exfs:∀b∈X.ex,b∉X.fs
 funs:X.s₀.heap.FunFrames X.base X.outer
 frf:∀b∈X.fs,X.H₀ b=none
structure Inv(X:Cx)(pins:List (Addr×Obj))(σ:List (Option V))(H:Hp)(s:Shared):Prop where
 ok:X.Ok
 os:s.os=X.s₀.os
 bare:AllBare s.gens
 base:Un X.fs X.ex X.H₀ H X.s₀.heap s.heap
 loc:∃m,s.heap.Ns X.env.locals m/\∀(i:Nat) (x:Str) (v:V),X.N[i]?=some x->σ[i]?=some (some v)->Vis X.env.scope x->∃u,RelV v u/\Look X.env s.heap m x u
 cell:∀x c,X.env.cells.lookup x=some c->∃v,s.heap.IsCell c v
 free:H X.env.locals=none
 freeC:∀x c,X.env.cells.lookup x=some c->H c=none
 pin:∀p∈X.pn++pins,s.heap.get? p.1=some p.2/\H p.1=none/\p.1≠X.env.locals/\p.1∉X.fs/\∀v,p.2.data≠.cell v
 hok:HOk X.prog X.w H s.heap
 len:σ.length=X.N.length
section
variable{X:Cx}{pins:List (Addr×Obj)}{σ:List (Option V)}{H H':Hp}{s:Shared}{h':Heap}
def Cx.Ok.nofr(ok:X.Ok){b:Addr}{o:Obj}(e:X.base.get? b=some o):b∉X.fs:=λhb=>by
 have:=(ok.funs.mem hb).1;rw[e] at this; cases this
theorem Inv.bs(I:Inv X pins σ H s):∀b o,X.base.get? b=some o->s.heap.get? b=some o/\H b=none:=λb o e=>
 ⟨I.base.keep b o (I.ok.bs b o e).1 (I.ok.bs b o e).2 (I.ok.nofr e) (I.ok.noex b o e),I.base.free b o (I.ok.bs b o e).1 (I.ok.bs b o e).2 (I.ok.noex b o e)⟩
def Inv.bk(I:Inv X pins σ H s):∀b o,X.base.get? b=some o->s.heap.get? b=some o:=λb o e=>(I.bs b o e).1
theorem Inv.mod(I:Inv X pins σ H s):Mod X.K X.mg X.base:=I.ok.mod
def Inv.kIn(I:Inv X pins σ H s):X.K.In s.heap:=I.ok.mod.kin.keeps I.bk
theorem Inv.lt(I:Inv X pins σ H s):X.env.locals<s.heap.objs.size:=let ⟨_,hn,_⟩:=I.loc; hn.lt
def Inv.sz(I:Inv X pins σ H s):X.s₀.heap.objs.size<=s.heap.objs.size:=zQ I.ok.above (wu I.lt)
def Inv.nofs(I:Inv X pins σ H s){a:Addr}(h:s.heap.objs.size<=a):a∉X.fs:=λhb=>by
 obtain⟨_,o,ho,_⟩:=I.ok.funs.mem hb;exact absurd (zM (zB ho) (zQ I.sz h)) (jE _)
def Inv.cne(I:Inv X pins σ H s):∀x c,X.env.cells.lookup x=some c->c≠X.env.locals:=λx c e z=>by
 obtain⟨v,o,ho,hd⟩:=I.cell x c e;obtain⟨m,⟨o',es,ep,ho',hd',_⟩,_⟩:=I.loc;rw[z,ho'] at ho; cases ho; rw[hd'] at hd; cases hd
theorem Inv.funs(I:Inv X pins σ H s):s.heap.FunFrames X.base X.outer:=by
 have all:∀(l:List Env),(∀b∈frs l,b∈X.fs)->X.s₀.heap.FunFrames X.base l->s.heap.FunFrames X.base l:=by
  intro l;induction l with
  | nil=>intro _ _; trivial
  | cons env r ih=>
   intro hs hl;obtain⟨hk,⟨L,o,hf,hn,ho,hd⟩,hr⟩:=hl;have hL:L∈X.fs:=hs L (by unfold frs; rw[wL,hf]; exact zZ);obtain⟨sl,e⟩:=I.base.slot L o ho (I.ok.frf L hL) hL λz=>I.ok.exfs L z hL
   exact⟨hk,⟨L,_,hf,hn,e,hd⟩,ih (λb hb=>hs b (by unfold frs; rw[wL,hf]; exact zN _ hb)) hr⟩
 exact all X.outer (λ_ hb=>hb) I.ok.funs
theorem Inv.stack(I:Inv X pins σ H s):s.heap.FunFrames X.base X.stack:=by
 rcases I.ok.stk with e | ⟨e,hf⟩
 .rw[e]; exact I.funs
 .rw[e]
  obtain⟨m,hn,_⟩:=I.loc;refine .cons (by rw[I.ok.kind]; decide) hf hn ?_ I.funs;exact vM (zQ I.ok.bsz I.ok.above)
def Inv.stkSub(I:Inv X pins σ H s):∀b∈frs X.stack,b∈X.env.locals::X.fs:=λb hb=>by
 rcases I.ok.stk with e | ⟨e,hf⟩
 .rw[e] at hb; exact zN _ hb
 .rw[e] at hb
  unfold frs at hb;rw[wL,hf] at hb;exact hb
def Inv.stkFree(I:Inv X pins σ H s):∀b∈frs X.stack,H b=none:=λb hb=>by
 rcases zb.mp (I.stkSub b hb) with e | hb
 .rw[e]; exact I.free
 .obtain⟨_,o,ho,_⟩:=I.ok.funs.mem hb
  exact I.base.free b o ho (I.ok.frf b hb) λz=>I.ok.exfs b z hb
def Inv.step{g':Array GenState}{t':Nat}{d':Drawn}{ch:List Addr}(I:Inv X pins σ H s)
  (hch:∀b∈ch,(b∈X.ex\/X.s₀.heap.objs.size<=b)/\b≠X.env.locals/\(∀x c,X.env.cells.lookup x=some c->c≠b)/\∀p∈X.pn++pins,p.1≠b)
  (keep:∀b o,b≠X.env.locals->b∉X.fs->b∉ch->s.heap.get? b=some o->H b=none->h'.get? b=some o)
  (slot:∀b o,b≠X.env.locals->b∈X.fs->b∉ch->s.heap.get? b=some o->H b=none->∃sl,h'.get? b=some { o with slots:=sl }) (free:∀b o,b∉ch->s.heap.get? b=some o->H b=none->H' b=none)
  (there:∀b o,b∉ch->s.heap.get? b=some o->∃o',h'.get? b=some o')
  (tups:∀b xs,H b=some (.tup xs)->H' b=some (.tup xs)) (frzs:∀b o u,H b=some (.frz o u)->H' b=some (.frz o u)) (tbls:∀b ps,H b=some (.tbl ps)->∃more,H' b=some (.tbl (ps++more)))
  (ns:∀m,s.heap.Ns X.env.locals m->h'.Ns X.env.locals m) (hok:HOk X.prog X.w H' h') (hg:AllBare g') :
  Inv X pins σ H' { s with heap:=h',gens:=g',drawn:=d',toks:=t' }:=by
 have neL:∀b o,X.s₀.heap.get? b=some o->b≠X.env.locals:=λb o e=>zW (zM (zB e) I.ok.above)
 have neC:∀b o,X.s₀.heap.get? b=some o->b∉X.ex->b∉ch:=λb o e hx hb=>by
  rcases(hch b hb).1 with z | z
  .exact hx z
  .exact absurd (zM (zB e) z) (jE _)
 have cellK:∀x c,X.env.cells.lookup x=some c->∀v,s.heap.IsCell c v->h'.IsCell c v:=λx c e v ⟨o,ho,hd⟩=>by
  have nch:c∉ch:=λz=>(hch c z).2.2.1 x c e rfl
  by_cases hc:c∈X.fs
  .obtain⟨sl,q⟩:=slot c o (I.cne x c e) hc nch ho (I.freeC x c e)
   exact⟨_,q,hd⟩
  .exact⟨o,keep c o (I.cne x c e) hc nch ho (I.freeC x c e),hd⟩
 refine⟨I.ok,I.os,hg,⟨λb o e n hb hx=>?_,λb o e n hb hx=>?_,λb o e n hx=>?_,λb o e hx=>?_,λb xs e=>tups b xs (I.base.tups b xs e),λb o xs e=>frzs b o xs (I.base.frzs b o xs e),λb ps e=>?_⟩,?_,λx c e=>?_,?_,λx c e=>?_,λp hp=>?_,hok,I.len⟩
 .exact keep b o (neL b o e) hb (neC b o e hx) (I.base.keep b o e n hb hx) (I.base.free b o e n hx)
 .obtain⟨sl,e1⟩:=I.base.slot b o e n hb hx
  obtain⟨sl',e2⟩:=slot b _ (neL b o e) hb (neC b o e hx) e1 (I.base.free b o e n hx);exact⟨sl',e2⟩
 .obtain⟨o',e1⟩:=I.base.there b o e hx
  exact free b o' (neC b o e hx) e1 (I.base.free b o e n hx)
 .obtain⟨o',e1⟩:=I.base.there b o e hx
  exact there b o' (neC b o e hx) e1
 .obtain⟨m1,e1⟩:=I.base.tbls b ps e
  obtain⟨m2,e2⟩:=tbls b _ e1;exact⟨m1++m2,by rw[e2,Array.append_assoc]⟩
 .obtain⟨m,hn,hl⟩:=I.loc
  refine⟨m,ns m hn,λi x v e1 e2 e3=>?_⟩;obtain⟨u,r,l⟩:=hl i x v e1 e2 e3;refine⟨u,r,?_⟩;rcases l with l | ⟨k,c,e,z⟩
  .exact .inl l
  .exact .inr ⟨k,c,e,cellK x c e _ z⟩
 .obtain⟨v,z⟩:=I.cell x c e
  exact⟨v,cellK x c e v z⟩
 .obtain⟨m,⟨o,_,_,ho,_⟩,_⟩:=I.loc
  exact free _ o (λz=>(hch _ z).2.1 rfl) ho I.free
 .obtain⟨v,o,ho,hd⟩:=I.cell x c e
  exact free c o (λz=>(hch c z).2.2.1 x c e rfl) ho (I.freeC x c e)
 .obtain⟨e,n,ne,nf,d⟩:=I.pin p hp
  have nch:p.1∉ch:=λz=>(hch p.1 z).2.2.2 p hp rfl
  exact⟨keep p.1 p.2 ne nf nch e n,free p.1 p.2 nch e n,ne,nf,d⟩
def Inv.un{t':Nat}(I:Inv X pins σ H s)(u:Un X.fs [] H H' s.heap h')(hok:HOk X.prog X.w H' h'):Inv X pins σ H' { s with heap:=h',toks:=t' }:=by
 obtain⟨m,⟨o,es,ep,ho,r⟩,_⟩:=id I.loc;obtain⟨sl,hL⟩:=u.any ho I.free (by simp)
 exact I.step (g':=s.gens) (d':=s.drawn) (ch:=[]) (λ_ z=>nomatch z) (λb o _ hb _ e n=>u.keep b o e n hb (by simp)) (λb o _ hb _ e n=>u.slot b o e n hb (by simp)) (λb o _ e n=>u.free b o e n (by simp)) (λb o _ e=>u.there b o e (by simp)) u.tups u.frzs u.tbls (λm' hm=>by
  obtain⟨o',es',ep',ho',r'⟩:=hm;rw[ho] at ho'; cases ho'
  exact⟨_,es',ep',hL,r'⟩) hok I.bare
def Inv.call{g':Array GenState}{t':Nat}{d':Drawn}{ch:List Addr}(I:Inv X pins σ H s)(u:Un (frs X.stack) ch H H' s.heap h')(hok:HOk X.prog X.w H' h')(hg:AllBare g')
  (hch:∀b∈ch,(b∈X.ex\/X.s₀.heap.objs.size<=b)/\b≠X.env.locals/\(∀x c,X.env.cells.lookup x=some c->c≠b)/\∀p∈X.pn++pins,p.1≠b) :
  Inv X pins σ H' { s with heap:=h',gens:=g',drawn:=d',toks:=t' }:=by
 obtain⟨m,⟨o,es,ep,ho,r⟩,_⟩:=id I.loc;obtain⟨sl,hL⟩:=u.any ho I.free λz=>(hch _ z).2.1 rfl
 exact I.step (ch:=ch) hch (λb o hL hb hc e n=>u.keep b o e n (λz=>(zb.mp (I.stkSub b z)).elim hL hb) hc) (λb o _ _ hc e n=>u.any e n hc) (λb o hc e n=>u.free b o e n hc) (λb o hc e=>u.there b o e hc) u.tups u.frzs u.tbls (λm' hm=>by
  obtain⟨o',es',ep',ho',r'⟩:=hm;rw[ho] at ho'; cases ho'
  exact⟨_,es',ep',hL,r'⟩) hok hg
def Inv.turned{t':Nat}{it:Addr}(I:Inv X pins σ H s)(k:∀b o,b≠it->s.heap.get? b=some o->h'.get? b=some o)(hn:H it=none)(hL:it≠X.env.locals)
  (h1:it∈X.ex\/X.s₀.heap.objs.size<=it) (h2:∀x c,X.env.cells.lookup x=some c->c≠it) (h3:∀p∈X.pn++pins,p.1≠it):Inv X pins σ H { s with heap:=h',toks:=t' }:=by
 have nit:∀b u,H b=some u->b≠it:=λb u e z=>by rw[z,hn] at e; cases e
 refine I.step (g':=s.gens) (d':=s.drawn) (ch:=[it]) (λb hb=>?_) (λb o _ _ hc e _=>k b o (λz=>hc (by simp[z])) e) (λb o _ _ hc e _=>⟨o.slots,k b o (λz=>hc (by simp[z])) e⟩) (λ_ _ _ _ n=>n)
  (λb o hc e=>⟨o,k b o (λz=>hc (by simp[z])) e⟩) (λ_ _ e=>e) (λ_ _ _ e=>e) (λb ps e=>⟨#[],by rw[e]; simp⟩) (λm hm=>?_) (λb u e=>?_) I.bare
 .have e:b=it:=by simpa using hb
  subst e;exact⟨h1,hL,h2,h3⟩
 .obtain⟨o,es,ep,ho,r⟩:=hm
  exact⟨o,es,ep,k _ o (kY hL) ho,r⟩
 .refine(I.hok b u e).stay (λc v hc q=>k c v ?_ q) (λ_ q=>q) λ_ _ q=>q
  rcases hc with z | z
  .rw[z]; exact nit b u e
  .exact nit c _ z
def Inv.tok(I:Inv X pins σ H s)(t:Nat):Inv X pins σ H { s with toks:=t }:=I.un (h':=s.heap) (t':=t) Un.refl I.hok
theorem Inv.kept{t':Nat}(I:Inv X pins σ H s)(k:∀b u,s.heap.get? b=some u->h'.get? b=some u):Inv X pins σ H { s with heap:=h',toks:=t' }:=I.un (Un.kept k) (I.hok.kept k)
theorem Inv.laid{a:Addr}{o:HO}{t':Nat}(I:Inv X pins σ H s)(k:∀b u,s.heap.get? b=some u->h'.get? b=some u)(hp:s.heap.objs.size<=a)(new:ObjOk X.prog X.w (upd H a o) h' a o) :
  Inv X pins σ (upd H a o) { s with heap:=h',toks:=t' }:=I.un (Un.laid k hp (I.hok.fresh hp)) (I.hok.laid k hp new)
theorem Inv.write{x e:Addr}{o:HO}{t':Nat}(I:Inv X pins σ H s)(mu:Mut (H x))(he:e=x\/H e=some (.own x))(k:∀b u,b≠e->s.heap.get? b=some u->h'.get? b=some u)(heo:∃u,h'.get? e=some u)
  (new:ObjOk X.prog X.w (upd H x o) h' x o):Inv X pins σ (upd H x o) { s with heap:=h',toks:=t' }:=I.un (Un.write mu he k heo) (I.hok.write mu he k heo new)
def Inv.pins_of{pins':List (Addr×Obj)}(I:Inv X pins σ H s)(h:∀p∈pins',s.heap.get? p.1=some p.2/\H p.1=none/\p.1≠X.env.locals/\p.1∉X.fs/\∀v,p.2.data≠.cell v):Inv X pins' σ H s:=
 ⟨I.ok,I.os,I.bare,I.base,I.loc,I.cell,I.free,I.freeC,λp hp=>(zV.mp hp).elim (λz=>I.pin p (jQ _ z)) (h p),I.hok,I.len⟩
def zfr{N:List Str}(hN:N.Nodup){i j:Nat}{x:Str}(a:N[i]?=some x)(b:N[j]?=some x):i=j:=by
 obtain⟨h1,e1⟩:=zU.mp a;obtain⟨h2,e2⟩:=zU.mp b;exact(vh hN).mp (e1.trans e2.symm)
def zeo{M:Model}{A:Around}{E:Value->Shared->Prop}{i:Nat}{x:Str}{v:V}{u:Value}{Q:Unit->Shared->Prop}(I:Inv X pins σ H s)(hN:X.N.Nodup)(hi:X.N[i]?=some x)(hx:Loc X.env.scope x)(r:RelV v u)
  (h:∀s',Inv X pins (σ.set i (some v)) H s'->(∃a,Heap.SameBut a s.heap s'.heap/\(a=X.env.locals\/X.env.cells.lookup x=some a))->Q () s') (hf:X.fn x=true\/X.env.scope.names.lookup x=some .local:=by first | exact .inl rfl | exact .inr rfl | assumption):wpAny M A (storeName X.env x u) Q E s:=by
 obtain⟨m,hn,hl⟩:=id I.loc;have hcls:(X.env.scope.kind==.class||(X.env.scope.kind==.module&&X.env.locals != X.env.globals))=false:=by rw[I.ok.kind]; rfl
 have hiσ:i<σ.length:=by rw[I.len]; exact(zU.mp hi).1
 have cne:=I.cne;have tracked:∀{a:Addr} {h':Heap},(∃o,s.heap.get? a=some o/\H a=none)->Heap.SameBut a s.heap h'->HOk X.prog X.w H h':=λ{a h'} ha hs b ob e=>by
  obtain⟨_,_,hfree⟩:=ha;refine(I.hok b ob e).stay (λc w' hc q=>(hs.2 c ?_).trans q) (λ_ q=>q) λ_ _ q=>q
  rintro rfl;rcases hc with rfl | hc
  .rw[hfree] at e; cases e
  .rw[hfree] at hc; cases hc
 rcases hx with hk | hk
 .refine wpAny_storeName_local hk hn (λh' hn' hs=>?_) hcls
  obtain⟨oL,_,_,hoL,_⟩:=id hn;refine h _ ⟨I.ok,I.os,I.bare,⟨λb o e n hb hx=>?_,λb o e n hb hx=>?_,I.base.free,λb o e hx=>?_,I.base.tups,I.base.frzs,I.base.tbls⟩,⟨_,hn',λj y v' e1 e2 e3=>?_⟩,λy c e=>?_,I.free,I.freeC,λp hp=>?_,tracked ⟨oL,hoL,I.free⟩ hs,by simpa using I.len⟩ ⟨_,hs,.inl rfl⟩
  .exact(hs.2 b (zW (zM (zB e) I.ok.above))).trans (I.base.keep b o e n hb hx)
  .obtain⟨sl,e1⟩:=I.base.slot b o e n hb hx
   exact⟨sl,(hs.2 b (zW (zM (zB e) I.ok.above))).trans e1⟩
  .obtain⟨o',e1⟩:=I.base.there b o e hx
   exact⟨o',(hs.2 b (zW (zM (zB e) I.ok.above))).trans e1⟩
  .by_cases hj:j=i
   .subst hj
    rw[hi] at e1; cases e1;rw[zK hiσ] at e2;cases e2;exact⟨u,r,.inl ⟨hk,by simp⟩⟩
   .rw[zJ (kY hj)] at e2
    obtain⟨u',r',q⟩:=hl j y v' e1 e2 e3;refine⟨u',r',?_⟩;rcases q with ⟨k,e⟩ | ⟨k,c,e,z⟩
    .refine .inl ⟨k,?_⟩
     have:y≠x:=λe=>hj (zfr hN e1 (e▸hi))
     simp[this,e]
    .exact .inr ⟨k,c,e,z.sameBut hs (cne y c e)⟩
  .obtain⟨w',z⟩:=I.cell y c e
   exact⟨w',z.sameBut hs (cne y c e)⟩
  .obtain⟨e,n,ne,nf,d⟩:=I.pin p hp
   exact⟨(hs.2 p.1 ne).trans e,n,ne,nf,d⟩
 .have hfn:X.fn x=true:=by
   rcases hf with z | z
   .exact z
   .rw[z] at hk; cases hk
  obtain⟨c,hc⟩:=I.ok.has x (.inl hk);obtain⟨w',z⟩:=I.cell x c hc;refine wpAny_storeName_cell I.ok.kind hk hc z (λh' hc' hs=>?_);obtain⟨oc,hoc,hocd⟩:=id z;refine h { s with heap:=h' } ⟨I.ok,I.os,I.bare,⟨λb o e n hb hx=>?_,λb o e n hb hx=>?_,I.base.free,λb o e hx=>?_,I.base.tups,I.base.frzs,I.base.tbls⟩,⟨m,hn.sameBut hs (kY (cne x c hc)),λj y v' e1 e2 e3=>?_⟩,λy c' e=>?_,I.free,I.freeC,λp hp=>?_,tracked ⟨oc,hoc,I.freeC x c hc⟩ hs,by simpa using I.len⟩ ⟨c,hs,.inr hc⟩
  .exact(hs.2 b (zW (zM (zB e) (I.ok.cab x c hfn hc)))).trans (I.base.keep b o e n hb hx)
  .obtain⟨sl,e1⟩:=I.base.slot b o e n hb hx
   exact⟨sl,(hs.2 b (zW (zM (zB e) (I.ok.cab x c hfn hc)))).trans e1⟩
  .obtain⟨o',e1⟩:=I.base.there b o e hx
   exact⟨o',(hs.2 b (zW (zM (zB e) (I.ok.cab x c hfn hc)))).trans e1⟩
  .by_cases hj:j=i
   .subst hj
    rw[hi] at e1; cases e1;rw[zK hiσ] at e2;cases e2;exact⟨u,r,.inr ⟨.inl hk,c,hc,hc'⟩⟩
   .rw[zJ (kY hj)] at e2
    obtain⟨u',r',q⟩:=hl j y v' e1 e2 e3;refine⟨u',r',?_⟩;rcases q with q | ⟨k,c',e,z'⟩
    .exact .inl q
    .refine .inr ⟨k,c',e,z'.sameBut hs ?_⟩
     rintro rfl;exact hj (zfr hN e1 (I.ok.inj _ _ _ e hc▸hi))
  .by_cases hcc:c'=c
   .subst hcc; exact⟨_,hc'⟩
   .obtain⟨w2,z2⟩:=I.cell y c' e
    exact⟨w2,z2.sameBut hs hcc⟩
  .obtain⟨e,n,ne,nf,d⟩:=I.pin p hp
   refine⟨(hs.2 p.1 ?_).trans e,n,ne,nf,d⟩;intro q;rw[q,hoc] at e;have q':oc=p.2:=kj e;exact d w' (by rw[<-q']; exact hocd)
def zfZ{M:Model}{A:Around}{E:Value->Shared->Prop}{i:Nat}{x:Str}{v:V}{u:Value}{Q:Unit->Shared->Prop}(I:Inv X pins σ H s)(hN:X.N.Nodup)(hi:X.N[i]?=some x)(hx:Loc X.env.scope x)(r:RelV v u)
  (h:∀s',Inv X pins (σ.set i (some v)) H s'->Q () s') (hf:X.fn x=true\/X.env.scope.names.lookup x=some .local:=by first | exact .inl rfl | exact .inr rfl | assumption):wpAny M A (storeName X.env x u) Q E s:=
 zeo I hN hi hx r (λs' I' _=>h s' I') hf
def Inv.call'{s':Shared}{ch:List Addr}(I:Inv X pins σ H s)(ho:s'.os=s.os)(u:Un (frs X.stack) ch H H' s.heap s'.heap)(hok:HOk X.prog X.w H' s'.heap)(hg:AllBare s'.gens)
  (hch:∀b∈ch,(b∈X.ex\/X.s₀.heap.objs.size<=b)/\b≠X.env.locals/\(∀x c,X.env.cells.lookup x=some c->c≠b)/\∀p∈X.pn++pins,p.1≠b):Inv X pins σ H' s':=by
 obtain⟨h',g',d',t',o'⟩:=s';have e:o'=s.os:=ho;subst e;exact I.call (g':=g') (t':=t') (d':=d') u hok hg hch
end
abbrev XK:=Value->Option Addr->Hp->Prop
abbrev St:=List (Option V)
abbrev VK:=V->Hp->Prop
abbrev TE:=St->Hp->VK->Prop
abbrev TT:=St->Hp->(Bool->Hp->Prop)->Prop
abbrev TA:=St->Hp->(List V->Hp->Prop)->Prop
structure Ends where
 nx:St->Hp->Prop
 rt:VK
 bk:St->Hp->Prop:=λ_ _=>False
 ct:St->Hp->Prop:=λ_ _=>False
abbrev TS:=Ends->St->Hp->Prop
def EP(X:Cx)(pins:List (Addr×Obj))(σ:St)(Q:VK)(u:Value)(s':Shared):Prop:=∃v H',Inv X pins σ H' s'/\RelV v u/\Q v H'
def TP(X:Cx)(pins:List (Addr×Obj))(σ:St)(Q:Bool->Hp->Prop)(b:Bool)(s':Shared):Prop:=∃H',Inv X pins σ H' s'/\Q b H'
def AP(X:Cx)(pins:List (Addr×Obj))(σ:St)(Q:List V->Hp->Prop)(us:List Value)(s':Shared):Prop:=∃vs H',Inv X pins σ H' s'/\Vals vs us/\Q vs H'
def SP(X:Cx)(pins:List (Addr×Obj))(D:Ends)(f:Flow)(s':Shared):Prop:=
 match f with
 | .next=>∃σ' H',Inv X pins σ' H' s'/\D.nx σ' H'
 | .brk=>∃σ' H',Inv X pins σ' H' s'/\D.bk σ' H'
 | .cont=>∃σ' H',Inv X pins σ' H' s'/\D.ct σ' H'
 | .ret u=>∃v σ' H',Inv X pins σ' H' s'/\RelV v u/\D.rt v H'
def PE(X:Cx)(e:Expr)(t:TE):Prop:=
 ∀(pins:List (Addr×Obj)) (s:Shared) (σ:St) (H:Hp) (Q:VK),Inv X pins σ H s->t σ H Q->wpAny (model X.prog X.w) X.A (eval e X.env) (EP X pins σ Q) X.xe s
def PT(X:Cx)(e:Expr)(t:TT):Prop:=
 ∀(pins:List (Addr×Obj)) (s:Shared) (σ:St) (H:Hp) (Q:Bool->Hp->Prop),Inv X pins σ H s->t σ H Q->wpAny (model X.prog X.w) X.A (isTrue e X.env (eval e X.env)) (TP X pins σ Q) X.xe s
def PW(X:Cx)(e:Expr)(t:TT):Prop:=
 ∀(whole:Sem Value) (pins:List (Addr×Obj)) (s:Shared) (σ:St) (H:Hp) (Q:Bool->Hp->Prop),Inv X pins σ H s->t σ H Q->wpAny (model X.prog X.w) X.A (isTrue e X.env whole) (TP X pins σ Q) X.xe s
def PW.pt{X:Cx}{e:Expr}{t:TT}(h:PW X e t):PT X e t:=h _
def PA(X:Cx)(es:List Expr)(t:TA):Prop:=
 ∀(pos:Pos) (pins:List (Addr×Obj)) (s:Shared) (σ:St) (H:Hp) (Q:List V->Hp->Prop),Inv X pins σ H s->t σ H Q->wpAny (model X.prog X.w) X.A (spliced (backTo pos (starEach es X.env))) (AP X pins σ Q) X.xe s
def PS(X:Cx)(st:Stmt)(t:TS):Prop:=
 ∀(pins:List (Addr×Obj)) (s:Shared) (σ:St) (H:Hp) (D:Ends),Inv X pins σ H s->t D σ H->wpAny (model X.prog X.w) X.A (exec st X.env) (SP X pins D) X.xe s
def PSs(X:Cx)(st:List Stmt)(t:TS):Prop:=
 ∀(pins:List (Addr×Obj)) (s:Shared) (σ:St) (H:Hp) (D:Ends),Inv X pins σ H s->t D σ H->wpAny (model X.prog X.w) X.A (execs st X.env) (SP X pins D) X.xe s
def thn{α:Type}{t:Sem α}{Q Q':α->Shared->Prop}{M:Model}{A:Around}{E:Value->Shared->Prop}{s:Shared}(h:wpAny M A t Q E s)(hQ:∀a s,Q a s->Q' a s):wpAny M A t Q' E s:=qM h hQ λ_ _ x=>x
end L2
namespace L2
open PySem PySem.Spec PyProof.Rows
section
variable{X:Cx}
def tVar(i:Nat):TE:=λσ H Q=>∃v,σ[i]?=some (some v)/\Q v H
def tC(v:V):TE:=λ_ H Q=>Q v H
def zoq{i:Nat}{x:Str}{pos:Pos}(hN:X.N[i]?=some x)(hv:Vis X.env.scope x)(hd:(x==("__debug__":Str))=false:=by decide)(hcd:(x==("__classdict__":Str))=false:=by decide):PE X (.Name x pos) (tVar i):=by
 intro pins s σ H Q I h;obtain⟨v,e,h⟩:=h;obtain⟨m,hn,hl⟩:=I.loc;obtain⟨u,r,l⟩:=hl i x v hN e hv;have fin:EP X pins σ Q u s:=⟨v,H,I,r,h⟩;rcases l with ⟨hk,hm⟩ | ⟨hk,c,hc,hcell⟩
 .exact wpAny_Name (wpAny_loadName_local I.ok.kind hk hn hm fin) hd
 .rcases hk with hk | hk
  .exact wpAny_Name (wpAny_loadName_cell I.ok.kind hk hc hcell fin) hd
  .exact wpAny_Name (wpAny_loadName_free I.ok.kind hk hc hcell fin hcd) hd
def zoD{i j pos}:PE X (.Constant (.int i) j pos) (tC (.int i)):=λ_ _ _ H _ I h=>wpAny_Constant_int ⟨.int i,H,I.tok _,⟨_,rfl⟩,h⟩
def zo0{b j pos}:PE X (.Constant (.bool b) j pos) (tC (.bl b)):=λ_ _ _ H _ I h=>Constant_bool ⟨.bl b,H,I,rfl,h⟩
def zoI{j pos}:PE X (.Constant .none j pos) (tC .non):=λ_ _ _ H _ I h=>Constant_none ⟨.non,H,I,rfl,h⟩
def zn7{x j pos}:PE X (.Constant (.str x) j pos) (tC (.str x)):=λ_ _ _ H _ I h=>Calls.Constant_str ⟨.str x,H,I.tok _,⟨_,rfl⟩,h⟩
def Gl(X:Cx)(x:Str):Prop:=X.env.kindOf x=some .globalImplicit
def zcz{E:Value->Shared->Prop}{pins:List (Addr×Obj)}{s:Shared}{σ:St}{H:Hp}{x:Str}{u:Value}{pos:Pos}{Q:Value->Shared->Prop}(I:Inv X pins σ H s)(hg:Gl X x)(hm:X.mg x=some u)(h:Q u s)
  (hd:(x==("__debug__":Str))=false:=by decide):wpAny (model X.prog X.w) X.A (eval (.Name x pos) X.env) Q E s:=
 yX I.ok.kind hg (Calls.loadGlobal_global (by rw[I.ok.glob]; exact I.mod.glob.keeps I.bk) hm h) hd
def zaB{E:Value->Shared->Prop}{pins:List (Addr×Obj)}{s:Shared}{σ:St}{H:Hp}{x:Str}{u:Value}{pos:Pos}{Q:Value->Shared->Prop}(I:Inv X pins σ H s)(hg:Gl X x)(hm:X.mg x=none)(hv:bootBuiltins x=some u)(h:Q u s)
  (hn:x≠"__name__":=by decide) (hd:(x==("__debug__":Str))=false:=by decide):wpAny (model X.prog X.w) X.A (eval (.Name x pos) X.env) Q E s:=by
 obtain⟨mb,h1,h2⟩:=I.mod.blt;exact yX I.ok.kind hg (Calls.loadGlobal_builtin (by rw[I.ok.glob]; exact I.mod.glob.keeps I.bk) hm (by rw[I.ok.blt]; exact h1.keeps I.bk) ((h2 x hn).trans hv) h) hd
def zg5{x:Str}{v:V}{u:Value}{pos:Pos}(hg:Gl X x)(hm:X.mg x=some u)(r:RelV v u)(hd:(x==("__debug__":Str))=false:=by decide):PE X (.Name x pos) (tC v):=
 λ_ _ _ H _ I h=>zcz I hg hm ⟨v,H,I,r,h⟩ hd
def zmy{x:Str}{v:V}{u:Value}{pos:Pos}(hg:Gl X x)(hm:X.mg x=none)(hv:bootBuiltins x=some u)(r:RelV v u)(hn:x≠"__name__":=by decide)(hd:(x==("__debug__":Str))=false:=by decide):PE X (.Name x pos) (tC v):=
 λ_ _ _ H _ I h=>zaB I hg hm hv ⟨v,H,I,r,h⟩ hn hd
variable{a b:Expr}{ta tb:TE}{pos:Pos}
def tB(t:TE):TT:=λσ H Q=>t σ H λx H1=>∃c,x=.bl c/\Q c H1
def znq{e:Expr}{t:TE}(h:PE X e t)(he:∀whole,isTrue e X.env whole=(do let v <-whole; standAt e.pos; holding [v] (truthy v)):=by intro _; rfl):PT X e (tB t):=by
 intro pins s σ H Q I hw;refine isTrue_plain (thn (h pins s σ H _ I hw) λv s1 ⟨x,H1,I1,r1,q1⟩=>?_) (he _);obtain⟨d,rfl,q⟩:=q1;cases r1;exact vo ⟨H1,I1,q⟩
variable{tA tB':TT}{rest:List Expr}
def tAnd(t u:TT):TT:=λσ H Q=>t σ H λc H1=>if c=true then u σ H1 Q else Q false H1
def tOr(t u:TT):TT:=λσ H Q=>t σ H λc H1=>if c=true then Q true H1 else u σ H1 Q
def pw_and1(ha:PT X a tA):PW X (.BoolOp .And [a] pos) tA:=by
 intro wh pins s σ H Q I h;refine isTrue_and (thn (ha pins s σ H Q I h) λc s1 e=>?_);cases c with
 | true=>exact isTrue_and_nil e
 | false=>exact e
def pw_or1(ha:PT X a tA):PW X (.BoolOp .Or [a] pos) tA:=by
 intro wh pins s σ H Q I h;refine isTrue_or (thn (ha pins s σ H Q I h) λc s1 e=>?_);cases c with
 | false=>exact isTrue_or_nil e
 | true=>exact e
def pw_and(ha:PT X a tA)(hb:PW X (.BoolOp .And (b::rest) pos) tB'):PW X (.BoolOp .And (a::b::rest) pos) (tAnd tA tB'):=by
 intro wh pins s σ H Q I h;refine isTrue_and (thn (ha pins s σ H _ I h) λc s1 ⟨H1,I1,q1⟩=>?_);cases c with
 | true=>exact hb wh pins s1 σ H1 Q I1 q1
 | false=>exact⟨H1,I1,q1⟩
def pw_or(ha:PT X a tA)(hb:PW X (.BoolOp .Or (b::rest) pos) tB'):PW X (.BoolOp .Or (a::b::rest) pos) (tOr tA tB'):=by
 intro wh pins s σ H Q I h;refine isTrue_or (thn (ha pins s σ H _ I h) λc s1 ⟨H1,I1,q1⟩=>?_);cases c with
 | true=>exact⟨H1,I1,q1⟩
 | false=>exact hb wh pins s1 σ H1 Q I1 q1
def tIf(t:TT)(ta tb:TE):TE:=λσ H Q=>t σ H λc H1=>if c=true then ta σ H1 Q else tb σ H1 Q
def zkb{c:Expr}(hc:PT X c tA)(ha:PE X a ta)(hb:PE X b tb):PE X (.IfExp c a b pos) (tIf tA ta tb):=by
 intro pins s σ H Q I h;refine wpAny_IfExp (thn (hc pins s σ H _ I h) λd s1 ⟨H1,I1,q1⟩=>?_);cases d with
 | true=>exact ha pins s1 σ H1 Q I1 q1
 | false=>exact hb pins s1 σ H1 Q I1 q1
end
end L2
namespace L2
open PySem PySem.Spec PyProof.Rows
def SqL(K:PySem.W.Frag)(H:Hp)(a:Addr)(xs:List V):Prop:=
 Rd H a (.lst xs) \/
  ∃(o:Obj) (its:Array Value) (n:Nat),K.lookup a=some o/\o.cls=.type "list" /\ o.dict=none/\o.data=.seq its n/\its.size<=sizeLine/\Vals xs its.toList
def SqT(K:PySem.W.Frag)(H:Hp)(a:Addr)(xs:List V):Prop:=
 Rd H a (.tup xs) \/
  ∃(o:Obj) (its:Array Value) (n:Nat),K.lookup a=some o/\(o.cls=.type "tuple" /\ o.dict=none)/\o.data=.seq its n/\its.size<=sizeLine/\Vals xs its.toList
def absV:Value->Option V
 | .none=>some .non
 | .bool b=>some (.bl b)
 | .int i _=>some (.int i)
 | .str x _=>some (.str x)
 | .bytes b _=>some (.byt b)
 | .float b _=>some (.flt b)
 | .ref a=>some (.ref a)
 | .type n=>some (.ty n)
 | _=>none
theorem RelV.abs{x:V}{u:Value}(r:RelV x u):absV u=some x:=by
 cases x with
 | non=>cases r; rfl
 | bl _=>cases r; rfl
 | int _=>obtain⟨t,rfl⟩:=r; rfl
 | str _=>obtain⟨t,rfl⟩:=r; rfl
 | byt _=>obtain⟨t,rfl⟩:=r; rfl
 | flt _=>obtain⟨t,rfl⟩:=r; rfl
 | ref _=>cases r; rfl
 | ty _=>cases r; rfl
theorem RelV.inj{x y:V}{u:Value}(r:RelV x u)(q:RelV y u):x=y:=kj (r.abs.symm.trans q.abs)
theorem Vals.inj:∀{xs ys:List V} {us:List Value},Vals xs us->Vals ys us->xs=ys
 | _,_,_,.nil,.nil=>rfl
 | _,_,_,.cons r t,.cons r' t'=>by rw[r.inj r',Vals.inj t t']
section
variable{X:Cx}{pins:List (Addr×Obj)}{σ:St}{H:Hp}{s:Shared}{a:Addr}{xs ys:List V}
def SqL.of{K:PySem.W.Frag}(h:H a=some (.lst xs)):SqL K H a xs:=.inl (.inl h)
def SqT.of{K:PySem.W.Frag}(h:H a=some (.tup xs)):SqT K H a xs:=.inl (.inl h)
def Inv.list(I:Inv X pins σ H s)(h:SqL X.K H a xs):∃its:List Value,Vals xs its/\PlainL s.heap a its.toArray/\xs.length<=sizeLine:=by
 rcases h with h | ⟨o,its,n,hk,hc,hd,hs,hz,r⟩
 .obtain⟨z,its,n,r,e⟩:=h.ok I.hok
  exact⟨its,r,⟨_,n,e,rfl,rfl,rfl⟩,z⟩
 .refine⟨its.toList,r,⟨o,n,I.kIn a o hk,hc,hd,by simpa using hs⟩,?_⟩
  have e:=r.length;simp only[wO] at e;omega
def Inv.tuple(I:Inv X pins σ H s)(h:SqT X.K H a xs):∃its:List Value,Vals xs its/\IsTup s.heap a its.toArray/\xs.length<=sizeLine:=by
 rcases h with h | ⟨o,its,n,hk,⟨hc,_⟩,hs,hz,r⟩
 .obtain⟨z,its,r,p,_⟩:=h.ok I.hok
  exact⟨its,r,p,z⟩
 .refine⟨its.toList,r,⟨o,I.kIn a o hk,hc,n,by simpa using hs⟩,?_⟩
  have e:=r.length;simp only[wO] at e;omega
def Inv.list_inj(I:Inv X pins σ H s)(h:SqL X.K H a xs)(h':SqL X.K H a ys):xs=ys:=by
 obtain⟨its,r,⟨o,n,e,_,_,d⟩,_⟩:=I.list h;obtain⟨its',r',⟨o',n',e',_,_,d'⟩,_⟩:=I.list h';rw[e] at e'; cases e';rw[d] at d';injection d' with d1 _;have:its=its':=by simpa using jW Array.toList d1
 subst this;exact r.inj r'
def Inv.tuple_inj(I:Inv X pins σ H s)(h:SqT X.K H a xs)(h':SqT X.K H a ys):xs=ys:=by
 obtain⟨its,r,⟨o,e,_,n,d⟩,_⟩:=I.tuple h;obtain⟨its',r',⟨o',e',_,n',d'⟩,_⟩:=I.tuple h';rw[e] at e'; cases e';rw[d] at d';injection d' with d1 _;have:its=its':=by simpa using jW Array.toList d1
 subst this;exact r.inj r'
end
abbrev Cx.wish(X:Cx)(E:Value->Shared->Prop):Cx:={ X with xe:=E }
abbrev Cx.nox(X:Cx):Cx:=X.wish λ_ _=>False
theorem Cx.Ok.wish{X:Cx}(ok:X.Ok)(E:Value->Shared->Prop):(X.wish E).Ok:=
 ⟨ok.mod,ok.kind,ok.glob,ok.blt,ok.above,ok.inj,ok.has,ok.cab,ok.hd,ok.frames,ok.stk,ok.exf,ok.bs,ok.bsz,ok.noex,ok.exfs,ok.funs,ok.frf⟩
def Cx.Ok.unwish{X:Cx}{E:Value->Shared->Prop}(ok:(X.wish E).Ok):X.Ok:=
 ⟨ok.mod,ok.kind,ok.glob,ok.blt,ok.above,ok.inj,ok.has,ok.cab,ok.hd,ok.frames,ok.stk,ok.exf,ok.bs,ok.bsz,ok.noex,ok.exfs,ok.funs,ok.frf⟩
section
variable{X:Cx}{pins:List (Addr×Obj)}{σ:St}{H:Hp}{s:Shared}{E:Value->Shared->Prop}
theorem Inv.wish(I:Inv X pins σ H s)(E:Value->Shared->Prop):Inv (X.wish E) pins σ H s:=⟨I.ok.wish E,I.os,I.bare,I.base,I.loc,I.cell,I.free,I.freeC,I.pin,I.hok,I.len⟩
theorem Inv.unwish(I:Inv (X.wish E) pins σ H s):Inv X pins σ H s:=⟨I.ok.unwish,I.os,I.bare,I.base,I.loc,I.cell,I.free,I.freeC,I.pin,I.hok,I.len⟩
theorem SP.unwish{D:Ends}{f:Flow}{s':Shared}(h:SP (X.wish E) pins D f s'):SP X pins D f s':=by
 cases f with
 | next=>obtain⟨σ',H',I,q⟩:=h; exact⟨σ',H',I.unwish,q⟩
 | brk=>obtain⟨σ',H',I,q⟩:=h; exact⟨σ',H',I.unwish,q⟩
 | cont=>obtain⟨σ',H',I,q⟩:=h; exact⟨σ',H',I.unwish,q⟩
 | ret u=>obtain⟨v,σ',H',I,r,q⟩:=h; exact⟨v,σ',H',I.unwish,r,q⟩
theorem PSs.nox{st:List Stmt}{t:TS}(h:PSs X.nox st t):PSs X st t:=λpins s σ H D I hw=>
 qM (h pins s σ H D (I.wish _) hw) (λ_ _ q=>q.unwish) λ_ _ z=>False.elim z
end
section
variable{X:Cx}{st:Stmt}{rest:List Stmt}{t u:TS}{e:Expr}{te:TE}{pos:Pos}
def zk4:TS:=λD σ H=>D.nx σ H
def tSeq(t u:TS):TS:=λD σ H=>t { D with nx:=u D } σ H
def zlZ:PSs X [] zk4:=λ_ _ σ H _ I h=>wQ ⟨σ,H,I,h⟩
def zjO(h1:PS X st t)(h2:PSs X rest u):PSs X (st::rest) (tSeq t u):=by
 intro pins s σ H D I h;refine wpAny_execs_cons (thn (h1 pins s σ H { D with nx:=u D } I h) λf s1 q=>?_);cases f with
 | next=>
  obtain⟨σ',H',I',q⟩:=q;exact h2 pins s1 σ' H' D I' q
 | ret v=>exact q
 | brk=>exact q
 | cont=>exact q
def zmP(h1:PS X st t):PSs X [st] t:=by
 intro pins s σ H D I h;refine wpAny_execs_cons (thn (h1 pins s σ H D I h) λf s1 q=>?_);cases f with
 | next=>exact wQ q
 | ret v=>exact q
 | brk=>exact q
 | cont=>exact q
def zlk:PS X (.Pass pos) zk4:=λ_ _ σ H _ I h=>wpAny_Pass ⟨σ,H,I,h⟩
def Inv.quiet{pins:List (Addr×Obj)}{σ:St}{H:Hp}{s:Shared}(I:Inv X pins σ H s):interactive X.env=false:=by simp[interactive,I.ok.kind]
def zpB(te:TE):TS:=λD σ H=>te σ H λ_ H1=>D.nx σ H1
def zlo(he:PE X e te)(hs:swapsWith e none pos.line X.env=pure false:=by rfl):PS X (.Expr e pos) (zpB te):=by
 intro pins s σ H D I h;exact wpAny_Expr_any (thn (he pins s σ H _ I h) λv s1 ⟨x,H1,I1,r1,q1⟩=>⟨σ,H1,I1,q1⟩) I.quiet hs
def tRet(te:TE):TS:=λD σ H=>te σ H D.rt
def znB(he:PE X e te):PS X (.Return (some e) pos) (tRet te):=by
 intro pins s σ H D I h;exact wpAny_Return_some (thn (he pins s σ H _ I h) λv s1 ⟨x,H1,I1,r1,q1⟩=>⟨x,σ,H1,I1,r1,q1⟩)
def tIfS(c:TT)(t u:TS):TS:=λD σ H=>c σ H λb H1=>if b=true then t D σ H1 else u D σ H1
def zo7{c:Expr}{a b:List Stmt}{tc:TT}(hc:PT X c tc)(ha:PSs X a t)(hb:PSs X b u):PS X (.If c a b pos) (tIfS tc t u):=by
 intro pins s σ H D I h;refine wpAny_If (thn (hc pins s σ H _ I h) λd s1 ⟨H1,I1,q1⟩=>?_);cases d with
 | true=>exact ha pins s1 σ H1 D I1 q1
 | false=>exact hb pins s1 σ H1 D I1 q1
end
abbrev TG:=V->St->Hp->(St->Hp->Prop)->Prop
abbrev TGs:=List V->St->Hp->(St->Hp->Prop)->Prop
def PG(X:Cx)(target:Expr)(t:TG):Prop:=
 ∀(pins:List (Addr×Obj)) (s:Shared) (σ:St) (H:Hp) (v:V) (u:Value) (Q:St->Hp->Prop),Inv X pins σ H s->RelV v u->t v σ H Q->
  wpAny (model X.prog X.w) X.A (assign target X.env u) (λ_ s'=>∃σ' H',Inv X pins σ' H' s'/\Q σ' H') X.xe s
def PGs(X:Cx)(ts:List Expr)(t:TGs):Prop:=
 ∀(pins:List (Addr×Obj)) (s:Shared) (σ:St) (H:Hp) (vs:List V) (us:List Value) (Q:St->Hp->Prop),Inv X pins σ H s->Vals vs us->t vs σ H Q->
  wpAny (model X.prog X.w) X.A (assignInOrder ((assignEach ts X.env).map (·.2)) us) (λ_ s'=>∃σ' H',Inv X pins σ' H' s'/\Q σ' H') X.xe s
abbrev TSet:=V->V->V->Hp->(Hp->Prop)->Prop
def PSet(X:Cx)(t:TSet):Prop:=
 ∀(pins:List (Addr×Obj)) (s:Shared) (σ:St) (H:Hp) (o i v:V) (ov iv u:Value) (Q:Hp->Prop),Inv X pins σ H s->RelV o ov->RelV i iv->RelV v u->t o i v H Q->
  wpAny (model X.prog X.w) X.A (setItem ov iv u) (λ_ s'=>∃H',Inv X pins σ H' s'/\Q H') X.xe s
section
variable{X:Cx}{pos:Pos}
def zk5(i:Nat):TG:=λv σ H Q=>Q (σ.set i (some v)) H
def zl5{i:Nat}{x:Str}(hN:X.N.Nodup)(hi:X.N[i]?=some x)(hx:Loc X.env.scope x)(hf:X.fn x=true\/X.env.scope.names.lookup x=some .local:=by first | exact .inl rfl | exact .inr rfl | assumption):PG X (.Name x pos) (zk5 i):=by
 intro pins s σ H v u Q I r h;exact wpAny_assign_Name (zfZ I hN hi hx r (λs' I'=>⟨_,H,I',h⟩) hf)
def gNil:TGs:=λvs σ H Q=>vs=[]/\Q σ H
def zpr(t:TG)(u:TGs):TGs:=λvs σ H Q=>∃v r,vs=v::r/\t v σ H λσ' H'=>u r σ' H' Q
def zlY:PGs X [] gNil:=by
 intro pins s σ H vs us Q I r h;obtain⟨e,h⟩:=h;subst e;cases r;exact assignInOrder_nil ⟨σ,H,I,h⟩
def zkf{e:Expr}{es:List Expr}{t:TG}{u:TGs}(h1:PG X e t)(h2:PGs X es u)
  (hs:(assignEach (e::es) X.env).map (·.2)=assign e X.env::(assignEach es X.env).map (·.2):=by rfl):PGs X (e::es) (zpr t u):=by
 intro pins s σ H vs us Q I r h;obtain⟨v,vr,e1,h⟩:=h;subst e1;cases r with
 | cons r rr=>
  rw[hs];refine assignInOrder_cons (thn (h1 pins s σ H _ _ _ I r h) λ_ s1 ⟨σ1,H1,I1,q1⟩=>?_);exact h2 pins s1 σ1 H1 _ _ Q I1 rr q1
def gTup(K:PySem.W.Frag)(n:Nat)(t:TGs):TG:=λv σ H Q=>∃a xs,v=.ref a/\SqT K H a xs/\xs.length=n/\t xs σ H Q
def zoP{es:List Expr}{k:Nat}{t:TGs}{n:Nat}(hc:X.calm=true)(h:PGs X es t)
  (hn:(assignEach es X.env).length=n:=by rfl) (hst:(assignEach es X.env).findIdx? (·.1)=none:=by rfl):PG X (.Tuple es k pos) (gTup X.K n t):=by
 intro pins s σ H v u Q I r hw;obtain⟨a,xs,e1,hq,hl,hw⟩:=hw;subst e1;cases r;obtain⟨its,rv,ht,hz⟩:=I.tuple hq;refine assign_Tuple_tuple (I.ok.hd hc) ht (by simp[hn,<-hl,rv.length]) hst λh' hx=>?_
 have I1:Inv X pins σ H { s with heap:=h' }:=I.kept (t':=s.toks) λb o e=>hx b o (zW (zB e)) e
 exact h pins _ σ H xs _ Q I1 (by simpa using rv) hw
def gSub(to ti:TE)(t:TSet):TG:=λv σ H Q=>to σ H λo H1=>ti σ H1 λi H2=>t o i v H2 λH3=>Q σ H3
def znC{o i:Expr}{to ti:TE}{t:TSet}(ho:PE X o to)(hi:PE X i ti)(hs:PSet X t)
  (ha:∀v,assign (.Subscript o i pos) X.env v=(do
   let ov <-holding [v] (eval o X.env)
   let iv <-holding [v,ov] (eval i X.env)
   standAt pos
   holding [v,ov,iv] (setItem ov iv v)
   release [v,ov,iv] []):=by intro _; rfl):PG X (.Subscript o i pos) (gSub to ti t):=by
 intro pins s σ H v u Q I r h;rw[ha];refine za (jc (thn (ho pins s σ H _ I h) λov s1 ⟨x,H1,I1,r1,q1⟩=>?_));refine za (jc (thn (hi pins s1 σ H1 _ I1 q1) λiv s2 ⟨y,H2,I2,r2,q2⟩=>?_));refine za (yj (za (jc (thn (hs pins s2 σ H2 x y v ov iv u _ I2 r1 r2 r q2) λ_ s3 ⟨H3,I3,q3⟩=>?_))));exact wpAny_release ⟨σ,H3,I3,q3⟩
def tAsg(te:TE)(g:TG):TS:=λD σ H=>te σ H λx H1=>g x σ H1 D.nx
def zow{tg e:Expr}{te:TE}{g:TG}(he:PE X e te)(hg:PG X tg g)(hs:swapsWithSole [tg] e pos.line X.env=pure false:=by rfl)(hw:swappedStores [tg] e X.env=pure none:=by rfl)
  (h1:(assignEach [tg] X.env).map (·.2)=[assign tg X.env]:=by rfl):PS X (.Assign [tg] e pos) (tAsg te g):=by
 intro pins s σ H D I h;refine wpAny_Assign_stores (thn (he pins s σ H _ I h) λv s1 ⟨x,H1,I1,r1,q1⟩=>?_) hs hw;rw[h1];exact thn (hg pins s1 σ H1 x v _ I1 r1 q1) λ_ s2 q=>q
def zoG{i:Nat}{x:Str}{e:Expr}{te:TE}{pos':Pos}(hN:X.N.Nodup)(hi:X.N[i]?=some x)(hx:Loc X.env.scope x)(he:PE X e te)(hs:swapsWith e (some (.Name x pos')) pos.line X.env=pure false:=by rfl)(hf:X.fn x=true\/X.env.scope.names.lookup x=some .local:=by first | exact .inl rfl | exact .inr rfl | assumption) :
  PS X (.Assign [.Name x pos'] e pos) (tAsg te (zk5 i)):=by
 intro pins s σ H D I h;refine wpAny_Assign_Name (thn (he pins s σ H _ I h) λv s1 ⟨y,H1,I1,r1,q1⟩=>?_) hs;exact zfZ I1 hN hi hx r1 (λs2 I2=>⟨_,H1,I2,q1⟩) hf
end
section
variable{X:Cx}{pos:Pos}
def znp(c:TT)(tb:TS):TS:=λD σ H=>∃W:Nat->St->Hp->Prop,(∃m,W m σ H)/\∀m σ H,W m σ H->
 c σ H λb H1=>if b=true then ∃N:St->Hp->Prop,(∀σ' H',N σ' H'->∃m',m'<m/\W m' σ' H')/\tb { D with nx:=N,ct:=N,bk:=D.nx } σ H1 else D.nx σ H1
def zju{c:Expr}{body:List Stmt}{tc:TT}{tb:TS}(hp:PassesOwn (model X.prog X.w) X.A X.env X.xe)(hc:PT X c tc)(hb:PSs X body tb):PS X (.While c body [] pos) (znp tc tb):=by
 intro pins s σ H D I h;obtain⟨W,⟨m0,w0⟩,turn⟩:=h;refine wpAny_While (codeAny_whileLoop (λn s'=>∃σ' H',Inv X pins σ' H' s'/\W n σ' H') ?_ m0 ⟨σ,H,I,w0⟩);rintro n s1 ⟨σ1,H1,I1,w1⟩;refine qH hp (thn (hc pins s1 σ1 H1 _ I1 (turn n σ1 H1 w1)) λb s2 ⟨H2,I2,q2⟩=>?_);cases b with
 | true=>
  obtain⟨N,hN,q2⟩:=q2;rw[zX rfl];refine qH hp (thn (hb pins s2 σ1 H2 _ I2 q2) λf s3 q3=>?_);cases f with
  | next=>
   obtain⟨σ3,H3,I3,n3⟩:=q3;obtain⟨m',hm,w3⟩:=hN σ3 H3 n3;exact⟨m',hm,σ3,H3,I3,w3⟩
  | cont=>
   obtain⟨σ3,H3,I3,n3⟩:=q3;obtain⟨m',hm,w3⟩:=hN σ3 H3 n3;exact⟨m',hm,σ3,H3,I3,w3⟩
  | brk=>exact q3
  | ret v=>exact q3
 | false=>
  rw[kO z9];exact wQ ⟨σ1,H2,I2,q2⟩
end
structure It where
 go:Nat->Hp->Prop
 yld:Nat->Hp->V->Hp->Prop
 stop:Nat->Hp->Prop
def FpOk(X:Cx)(pins:List (Addr×Obj))(H:Hp)(b:Addr):Prop:=
 H b=none/\b≠X.env.locals/\b∉X.fs/\(b∈X.ex\/X.s₀.heap.objs.size<=b)/\(∀x c,X.env.cells.lookup x=some c->c≠b)/\∀p∈X.pn++pins,p.1≠b
def Inv.fpOk{X:Cx}{pins:List (Addr×Obj)}{σ:St}{H H':Hp}{s:Shared}{b:Addr}(I:Inv X pins σ H s)(hb:s.heap.objs.size<=b)(hn:H' b=none):FpOk X pins H' b:=by
 refine⟨hn,qj (zM I.lt hb),I.nofs hb,.inr (zQ I.sz hb),λx c e z=>?_,λp hp z=>?_⟩
 .obtain⟨v,q⟩:=I.cell x c e
  exact absurd (zM q.lt (by rw[z]; exact hb)) (jE _)
 .exact absurd (zM (zB (I.pin p hp).1) (by rw[z]; exact hb)) (jE _)
structure Turn(P:Program)(w:World)(K:PySem.W.Frag)(tg:Expr)(J:It)(fp:List Addr)(it:Addr)(tn:Nat->Heap->Prop):Prop where
 mem:it∈fp
 obj:∀i h,tn i h->∀b∈fp,∃o,h.get? b=some o/\∀v,o.data≠.cell v
 keep:∀i h h',tn i h->(∀b∈fp,∀o,h.get? b=some o->h'.get? b=some o)->tn i h'
 item:∀(X:Cx),X.prog=P->X.w=w->X.K=K->X.calm=true->∀(i:Nat) (pins:List (Addr×Obj)) (s:Shared) (σ:St) (H:Hp) (E:Value->Shared->Prop),Inv X pins σ H s->(∀b∈fp,FpOk X pins H b)->tn i s.heap->J.go i H->
  wpAny (model P w) X.A (pyNext (.ref it)) (λr s1=>∃u,r=some u /\
   wpAny (model P w) X.A (letOwnedTupleGo tg (.ref it) u) (λ_ s2=>∃x H',Inv X pins σ H' s2/\RelV x u/\J.yld i H x H'/\tn (i+1) s2.heap/\∀b∈fp,H' b=none) E s1) E s
 done:∀(X:Cx),X.prog=P->X.w=w->X.K=K->X.calm=true->∀(i:Nat) (pins:List (Addr×Obj)) (s:Shared) (σ:St) (H:Hp) (E:Value->Shared->Prop),Inv X pins σ H s->(∀b∈fp,FpOk X pins H b)->tn i s.heap->J.stop i H->
  wpAny (model P w) X.A (pyNext (.ref it)) (λr s1=>r=none/\Inv X pins σ H s1) E s
 self:∀(A:Around) (i:Nat) (s:Shared) (Q:Value->Shared->Prop) (E:Value->Shared->Prop),tn i s.heap->Q (.ref it) s->wpAny (model P w) A (pyIter (.ref it)) Q E s
abbrev TI:=St->Hp->(It->Hp->Prop)->Prop
def PIE(X:Cx)(pins:List (Addr×Obj))(σ:St)(tg:Expr)(R:It->Hp->Prop)(itv:Value)(s2:Shared):Prop:=
 ∃(it:Addr) (fp:List Addr) (tn:Nat->Heap->Prop) (J:It) (H':Hp),itv=.ref it/\Inv X pins σ H' s2/\Turn X.prog X.w X.K tg J fp it tn/\tn 0 s2.heap/\(∀b∈fp,FpOk X pins H' b)/\R J H'
def PI(X:Cx)(tg iter:Expr)(wi:TI):Prop:=
 ∀(pins:List (Addr×Obj)) (s:Shared) (σ:St) (H:Hp) (R:It->Hp->Prop),Inv X pins σ H s->wi σ H R->
  wpAny (model X.prog X.w) X.A (eval iter X.env) (λv s1=>wpAny (model X.prog X.w) X.A (pyIter v) (PIE X pins σ tg R) X.xe s1) X.xe s
def zeX {M : Model} {A : Around} {E : Value -> Shared -> Prop} {s : Shared} {tg : Expr} {it : Addr} {u : Value} {o : Obj} {n : String} {vs : Array Value} {Q : Unit -> Shared -> Prop} (ho : s.heap.get? it = some o) (hc : o.cls = .type n) (hd : o.data = .fields vs)
    (hn : ["enumerate", "zip", "dict_itemiterator", "dict_reverseitemiterator", "odict_iterator", "itertools.zip_longest", "itertools.pairwise"].contains n = false) (hQ : Q () s) : wpAny M A (letOwnedTupleGo tg (.ref it) u) Q E s := by
  unfold letOwnedTupleGo;cases tg <;> first
    | exact zr hQ
    | (cases u <;> first
        | exact zr hQ
        | (refine za (wpAny_load ho ?_)
           rw [hc, hd];show wpAny M A (if (["enumerate", "zip", "dict_itemiterator", "dict_reverseitemiterator", "odict_iterator", "itertools.zip_longest", "itertools.pairwise"].contains n && vs[0]? == some (rawInt _)) = true then _ else _) Q E s
           rw [kO (by intro h; rw [hn, Bool.false_and] at h; cases h)]
           exact zr hQ))
def Itl(K:PySem.W.Frag)(a:Addr):It:=
 ⟨λi H=>∃xs x,SqL K H a xs/\xs[i]?=some x,λi H x H'=>H'=H/\∀xs,SqL K H a xs->xs[i]?=some x,λi H=>∃xs,SqL K H a xs/\xs.length<=i⟩
def Itt(K:PySem.W.Frag)(a:Addr):It:=
 ⟨λi H=>∃xs x,SqT K H a xs/\xs[i]?=some x,λi H x H'=>H'=H/\∀xs,SqT K H a xs->xs[i]?=some x,λi H=>∃xs,SqT K H a xs/\xs.length<=i⟩
def Itr(lo:Int)(n:Nat):It:=⟨λi _=>i<n,λi H x H'=>H'=H/\x=.int (lo+i),λi _=>n<=i⟩
def zij{P:Program}{w:World}{K:PySem.W.Frag}{tg:Expr}(a it:Addr):Turn P w K tg (Itl K a) [it] it (λi h=>h.IsListIter it a i) where
 mem:=by simp
 obj:=λi h st b hb=>by
  have e:b=it:=by simpa using hb
  subst e;obtain⟨o,e,c,d⟩:=st;exact⟨o,e,λv z=>by rw[d] at z; cases z⟩
 keep:=λi h h' st k=>st.at λo e=>k it (by simp) o e
 item:=by
  intro X hP hw hK hc i pins s σ H E I hf st hg;subst hP hw hK;obtain⟨xs,x,hq,hx⟩:=hg;obtain⟨its,rv,p,hz⟩:=I.list hq;obtain⟨u,hu,ru⟩:=rv.get hx;obtain⟨f0,f1,f2,f3,f4,f5⟩:=hf it (by simp);refine wpAny_pyNext_list_item st p.isList (x:=u) (by simpa using hu) λh' st' sb=>?_
  have I1:Inv X pins σ H { s with heap:=h' }:=I.turned (t':=s.toks) (λb o hb e=>(sb.2 b hb).trans e) f0 f1 f3 f4 f5;obtain⟨o,e,c,d⟩:=id st';exact⟨u,rfl,zeX (s:={ s with heap:=h' }) e c d (by decide) ⟨x,H,I1,ru,⟨rfl,λys hy=>by rw[I.list_inj hy hq]; exact hx⟩,st',λb hb=>(hf b hb).1⟩⟩
 done:=by
  intro X hP hw hK hc i pins s σ H E I hf st hg;subst hP hw hK;obtain⟨xs,hq,hx⟩:=hg;obtain⟨its,rv,p,hz⟩:=I.list hq;obtain⟨f0,f1,f2,f3,f4,f5⟩:=hf it (by simp);have hl:=rv.length;exact wpAny_pyNext_list_end (I.ok.hd hc) st p.isList (by simp; omega) λh' eb=>⟨rfl,I.turned (t':=s.toks) (λb o hb e=>eb b o hb e) f0 f1 f3 f4 f5⟩
 self:=λ_ _ _ _ _ st h=>wpAny_pyIter_listiter st h
def zhZ{P:Program}{w:World}{K:PySem.W.Frag}{tg:Expr}(a it:Addr):Turn P w K tg (Itt K a) [it] it (λi h=>h.IsTupleIter it a i) where
 mem:=by simp
 obj:=λi h st b hb=>by
  have e:b=it:=by simpa using hb
  subst e;obtain⟨o,e,c,d⟩:=st;exact⟨o,e,λv z=>by rw[d] at z; cases z⟩
 keep:=λi h h' st k=>st.at λo e=>k it (by simp) o e
 item:=by
  intro X hP hw hK hc i pins s σ H E I hf st hg;subst hP hw hK;obtain⟨xs,x,hq,hx⟩:=hg;obtain⟨its,rv,p,hz⟩:=I.tuple hq;obtain⟨u,hu,ru⟩:=rv.get hx;obtain⟨f0,f1,f2,f3,f4,f5⟩:=hf it (by simp);refine wpAny_pyNext_tuple_item st (show s.heap.IsTuple a its.toArray from p) (x:=u) (by simpa using hu) λh' st' sb=>?_
  have I1:Inv X pins σ H { s with heap:=h' }:=I.turned (t':=s.toks) (λb o hb e=>(sb.2 b hb).trans e) f0 f1 f3 f4 f5;obtain⟨o,e,c,d⟩:=id st';exact⟨u,rfl,zeX (s:={ s with heap:=h' }) e c d (by decide) ⟨x,H,I1,ru,⟨rfl,λys hy=>by rw[I.tuple_inj hy hq]; exact hx⟩,st',λb hb=>(hf b hb).1⟩⟩
 done:=by
  intro X hP hw hK hc i pins s σ H E I hf st hg;subst hP hw hK;obtain⟨xs,hq,hx⟩:=hg;obtain⟨its,rv,p,hz⟩:=I.tuple hq;obtain⟨f0,f1,f2,f3,f4,f5⟩:=hf it (by simp);have hl:=rv.length;exact wpAny_pyNext_tuple_end (I.ok.hd hc) st (show s.heap.IsTuple a its.toArray from p) (by simp; omega) λh' eb=>⟨rfl,I.turned (t':=s.toks) (λb o hb e=>eb b o hb e) f0 f1 f3 f4 f5⟩
 self:=λ_ _ _ _ _ st h=>wpAny_pyIter_tupleiter st h
def zhj{P:Program}{w:World}{K:PySem.W.Frag}{tg:Expr}(it:Addr)(lo:Int)(n:Nat):Turn P w K tg (Itr lo n) [it] it (λi h=>IsRangeIter h it (lo+(i:Nat)*1) ((n:Int)-(i:Nat)) 1) where
 mem:=by simp
 obj:=λi h st b hb=>by
  have e:b=it:=by simpa using hb
  subst e
  exact⟨_,st,λv z=>by
   have z':Data.fields _=Data.cell v:=z
   cases z'⟩
 keep:=λi h h' st k=>k it (by simp) _ st
 item:=by
  intro X hP hw hK hc i pins s σ H E I hf st hg;subst hP hw hK;obtain⟨f0,f1,f2,f3,f4,f5⟩:=hf it (by simp);have W:=Walks.range (prog:=X.prog) (w:=X.w) (I.ok.hd hc) it lo 1 n;refine W.item i s _ _ hg st λv h' tk hv st' kk=>?_
  obtain⟨t,rfl⟩:=hv;have I1:Inv X pins σ H { s with heap:=h',toks:=tk }:=I.turned (λb o hb e=>kk b o (by simpa using hb) e) f0 f1 f3 f4 f5;refine⟨_,rfl,zeX (s:={ s with heap:=h',toks:=tk }) (n:="range_iterator") st' rfl rfl (by decide) ⟨.int (lo+i),H,I1,⟨t,?_⟩,⟨rfl,rfl⟩,st',λb hb=>(hf b hb).1⟩⟩;rw[Int.mul_one]
 done:=by
  intro X hP hw hK hc i pins s σ H E I hf st hg;subst hP hw hK;obtain⟨f0,f1,f2,f3,f4,f5⟩:=hf it (by simp);exact wpAny_pyNext_range_end (I.ok.hd hc) st (by have:n<=i:=hg; omega) λh' eb=>⟨rfl,I.turned (t':=s.toks) (λb o hb e=>eb b o hb e) f0 f1 f3 f4 f5⟩
 self:=λ_ _ _ _ _ st h=>wpAny_pyIter_rangeiter st h
end L2
namespace L2
open PySem PySem.Spec PyProof.Rows
section
variable{X:Cx}{tg:Expr}
def zjY{pins:List (Addr×Obj)}{σ:St}{H:Hp}{s:Shared}{R:It->Hp->Prop}{E:Value->Shared->Prop}{lo hi:Int}{t u v:Tok}{tk:Nat}(I:Inv X pins σ H s)(h1:-(2 ^ 62)<=lo)(h2:lo<2 ^ 62)(h3:-(2 ^ 62)<=hi)(h4:hi<2 ^ 62)
  (q:R (Itr lo (hi-lo).toNat) H):wpAny (model X.prog X.w) X.A (pyIter (.ref s.heap.objs.size)) (PIE X pins σ tg R) E { s with heap:=s.heap.push { cls:=.type "range",data:=.fields #[.int lo t,.int hi u,.int 1 v] },toks:=tk }:=by
 refine wpAny_pyIter_range (IsRange.new ..) (small_one h1 h2 h3 h4) ?_;have I1:Inv X pins σ H { s with heap:=s.heap.push { cls:=.type "range",data:=.fields #[.int lo t,.int hi u,.int 1 v] },toks:=tk }:=I.kept λb o e=>zf _ e
 refine⟨(s.heap.push { cls:=.type "range",data:=.fields #[.int lo t,.int hi u,.int 1 v] }).objs.size,[(s.heap.push { cls:=.type "range",data:=.fields #[.int lo t,.int hi u,.int 1 v] }).objs.size],_,_,H,rfl,
  I1.kept (t':=tk) λb o e=>zf _ e,zhj _ lo (hi-lo).toNat,?_,λb hb=>?_,q⟩
 .have e1:lo+((0:Nat):Int)*1=lo:=by simp
  have e2:(((hi-lo).toNat:Nat):Int)-((0:Nat):Int)=Builtin.Range.rangeSize lo hi 1:=by rw[rangeSize_one]; split<;>omega
  show IsRangeIter _ _ (lo+((0:Nat):Int)*1) ((((hi-lo).toNat:Nat):Int)-((0:Nat):Int)) 1
  rw[e1,e2];exact zT _ rfl
 .have e:b=(s.heap.push { cls:=.type "range",data:=.fields #[.int lo t,.int hi u,.int 1 v] }).objs.size:=by simpa using hb
  subst e;exact I1.fpOk (zj _) (I1.hok.fresh (zj _))
def zpo(ta:TA):TI:=λσ H R=>ta σ H λvs H1=>∃j:Int,vs=[.int j]/\-(2 ^ 62)<=j/\j<2 ^ 62/\R (Itr 0 j.toNat) H1
def ziX{a:Expr}{ta:TA}{p pos:Pos}(hg:Gl X "range")(hm:X.mg "range" = none)(ha:PA X [a] ta)(hs:starEach [a] X.env=[(false,eval a X.env)]:=by rfl):PI X tg (.Call (.Name "range" p) [a] [] pos) (zpo ta):=by
 intro pins s σ H R I h;refine Call_ (zaB I hg hm boot_range (jq (thn (ha pos pins s σ H _ I h) λus s1 ⟨vs,H1,I1,r1,q1⟩=>?_) hs rfl));obtain⟨j,e,q1,q2,q⟩:=q1;subst e;cases r1 with
 | cons r rr=>
  cases rr;obtain⟨t,rfl⟩:=r;exact call_range_1 (zjY I1 ∅ ∅ q1 q2 (by simpa using q))
def tFor(wi:TI)(g:TG)(tb:TS):TS:=λD σ H=>wi σ H λJ H1=>∃W:Nat->Nat->St->Hp->Prop,(∃m,W 0 m σ H1)/\∀i m σ H,W i m σ H->
 (J.stop i H/\D.nx σ H)\/(J.go i H/\∃N:St->Hp->Prop,(∀σ' H',N σ' H'->∃m',m'<m/\W (i+1) m' σ' H')/\∀x H',J.yld i H x H'->g x σ H' λσ2 H2=>tb { D with nx:=N,ct:=N,bk:=D.nx } σ2 H2)
def zcm(fp:List Addr)(h:Heap):List (Addr×Obj):=fp.filterMap λb=>(h.get? b).map λo=>(b,o)
def zbc{fp:List Addr}{h:Heap}{b:Addr}{o:Obj}(hb:b∈fp)(e:h.get? b=some o):(b,o)∈zcm fp h:=xF.mpr ⟨b,hb,by rw[e]; rfl⟩
def ziy{fp:List Addr}{h:Heap}{p:Addr×Obj}(hp:p∈zcm fp h):p.1∈fp/\h.get? p.1=some p.2:=by
 obtain⟨b,hb,e⟩:=xF.mp hp;cases q:h.get? b with
 | none=>rw[q] at e; cases e
 | some o=>
  rw[q] at e;have e':(b,o)=p:=kj e;subst e';exact⟨hb,q⟩
def Inv.pinned{pins:List (Addr×Obj)}{σ:St}{H:Hp}{s:Shared}{fp:List Addr}(I:Inv X pins σ H s)(hf:∀b∈fp,FpOk X pins H b)(ho:∀b∈fp,∃o,s.heap.get? b=some o/\∀v,o.data≠.cell v):Inv X (pins++zcm fp s.heap) σ H s:=
 I.pins_of λp hp=>(zV.mp hp).elim (λz=>I.pin p (jd _ z)) λz=>by
  obtain⟨hb,e⟩:=ziy z;obtain⟨f0,f1,f2,_⟩:=hf p.1 hb;obtain⟨o,e',d⟩:=ho p.1 hb;rw[e] at e'; cases e';exact⟨e,f0,f1,f2,d⟩
def Inv.unpinned{pins pl:List (Addr×Obj)}{σ:St}{H:Hp}{s:Shared}(I:Inv X (pins++pl) σ H s):Inv X pins σ H s:=I.pins_of λp hp=>I.pin p (jd _ (jQ _ hp))
def znf{iter:Expr}{body:List Stmt}{wi:TI}{g:TG}{tb:TS}{pos:Pos}(hp:PassesOwn (model X.prog X.w) X.A X.env X.xe)(hc:X.calm=true)(hi:PI X tg iter wi)(hg:PG X tg g)(hb:PSs X body tb)
  (hs:∀x,foldedSetIterable iter X.env x=pure x:=by intro _; rfl):PS X (.For tg iter body [] pos) (tFor wi g tb):=by
 intro pins s σ H D I h;refine wpAny_For (thn (hi pins s σ H _ I h) λv s1 h1=>thn h1 λitv s2 h2=>?_) hs;obtain⟨it,fp,tn,J,H2,e,I2,T,st2,f2,W,⟨m0,w0⟩,turn⟩:=h2;subst e;have stat:∀{H':Hp},(∀b∈fp,H' b=none)->∀b∈fp,FpOk X pins H' b:=λhn b hb=>⟨hn b hb,(f2 b hb).2⟩
 refine codeAny_forLoop_any (λn s'=>∃i σ' H',Inv X pins σ' H' s'/\tn i s'.heap/\(∀b∈fp,H' b=none)/\W i n σ' H') ?_ m0 ⟨0,σ,H2,I2,st2,λb hb=>(f2 b hb).1,w0⟩;rintro n s3 ⟨i,σ3,H3,I3,st3,fr3,w3⟩;rcases turn i n σ3 H3 w3 with ⟨stop,qn⟩ | ⟨go,N,hN,step⟩
 .refine qH hp (thn (T.done X rfl rfl rfl hc i pins s3 σ3 H3 X.xe I3 (stat fr3) st3 stop) λr s4 ⟨hr,I4⟩=>?_)
  subst hr;exact wQ ⟨σ3,H3,I4,qn⟩
 .refine qH hp (thn (T.item X rfl rfl rfl hc i pins s3 σ3 H3 X.xe I3 (stat fr3) st3 go) λr s4 ⟨u,hr,h4⟩=>?_)
  subst hr;refine qH hp (thn h4 λ_ s5 ⟨x,H5,I5,r5,y5,st5,fr5⟩=>?_);have I5':=I5.pinned (stat fr5) (T.obj _ _ st5);refine qH hp (thn (hg _ s5 σ3 H5 x u _ I5' r5 (step x H5 y5)) λ_ s6 ⟨σ6,H6,I6,q6⟩=>?_);refine qH hp (thn (hb _ s6 σ6 H6 _ I6 q6) λf s7 q7=>?_);have again:∀{σ7:St} {H7:Hp},Inv X (pins++zcm fp s5.heap) σ7 H7 s7->N σ7 H7->∃m,m<n/\∃i σ' H',Inv X pins σ' H' s7/\tn i s7.heap/\(∀b∈fp,H' b=none)/\W i m σ' H':=λ{σ7 H7} I7 n7=>by
   obtain⟨m',hm,w7⟩:=hN σ7 H7 n7;refine⟨m',hm,i+1,σ7,H7,I7.unpinned,T.keep _ _ _ st5 λb hb o e=>(I7.pin (b,o) (jd _ (jd _ (zbc hb e)))).1,λb hb=>?_,w7⟩;obtain⟨o,e,d⟩:=T.obj _ _ st5 b hb;exact(I7.pin (b,o) (jd _ (jd _ (zbc hb e)))).2.1
  cases f with
  | next=>obtain⟨σ7,H7,I7,n7⟩:=q7; exact again I7 n7
  | cont=>obtain⟨σ7,H7,I7,n7⟩:=q7; exact again I7 n7
  | brk=>obtain⟨σ7,H7,I7,q7⟩:=q7; exact⟨σ7,H7,I7.unpinned,q7⟩
  | ret v=>obtain⟨x7,σ7,H7,I7,r7,q7⟩:=q7; exact⟨x7,σ7,H7,I7.unpinned,r7,q7⟩
end
end L2
namespace L2
open PySem PySem.Spec PyProof.Rows
abbrev R2:=V->V->Hp->VK->Prop
def OpR(X:Cx)(f:Value->Value->Sem Value)(r:R2):Prop:=
 ∀(pins:List (Addr×Obj)) (s:Shared) (σ:St) (H:Hp) (x y:V) (v u:Value) (Q:VK),Inv X pins σ H s->RelV x v->RelV y u->r x y H Q->
  wpAny (model X.prog X.w) X.A (f v u) (EP X pins σ Q) X.xe s
def UnR(X:Cx)(f:Value->Sem Value)(r:V->Hp->VK->Prop):Prop:=
 ∀(pins:List (Addr×Obj)) (s:Shared) (σ:St) (H:Hp) (x:V) (v:Value) (Q:VK),Inv X pins σ H s->RelV x v->r x H Q->
  wpAny (model X.prog X.w) X.A (f v) (EP X pins σ Q) X.xe s
def zad(X:Cx)(f:Value)(r:List V->Hp->VK->Prop):Prop:=
 ∀(pins:List (Addr×Obj)) (s:Shared) (σ:St) (H:Hp) (xs:List V) (us:List Value) (Q:VK),Inv X pins σ H s->Vals xs us->r xs H Q->
  wpAny (model X.prog X.w) X.A (call f us) (EP X pins σ Q) X.xe s
def tOp(r:R2)(ta tb:TE):TE:=λσ H Q=>ta σ H λx H1=>tb σ H1 λy H2=>r x y H2 Q
def tUn(r:V->Hp->VK->Prop)(ta:TE):TE:=λσ H Q=>ta σ H λx H1=>r x H1 Q
def rI(C:Int->Int->Prop)(g:Int->Int->V):R2:=λx y H Q=>∃i j,x=.int i/\y=.int j/\C i j/\Q (g i j) H
def rI0(g:Int->Int->V):R2:=λx y H Q=>∃i j,x=.int i/\y=.int j/\Q (g i j) H
def rU(g:Int->V):V->Hp->VK->Prop:=λx H Q=>∃i,x=.int i/\Q (g i) H
section
variable{X:Cx}{a b c:Expr}{ta tb tc:TE}{pos:Pos}
def binT(ha:PE X a ta)(hb:PE X b tb){pins:List (Addr×Obj)}{s:Shared}{σ:St}{H:Hp}{R:V->V->Hp->Prop}(I:Inv X pins σ H s)
  (h:ta σ H λx H1=>tb σ H1 λy H2=>R x y H2) {Q:Value->Shared->Prop} {f:Value->Value->Sem Value}
  (hf:∀v u s2 x y H2,Inv X pins σ H2 s2->RelV x v->RelV y u->R x y H2->wpAny (model X.prog X.w) X.A (f v u) Q X.xe s2) :
  wpAny (model X.prog X.w) X.A (eval a X.env) (λv s₁=>wpAny (model X.prog X.w) X.A (eval b X.env) (λu s₂=>wpAny (model X.prog X.w) X.A (f v u) Q X.xe s₂) X.xe s₁) X.xe s:=by
 refine thn (ha pins s σ H _ I h) λv s1 ⟨x,H1,I1,r1,q1⟩=>?_
 refine thn (hb pins s1 σ H1 _ I1 q1) λu s2 ⟨y,H2,I2,r2,q2⟩=>?_
 exact hf v u s2 x y H2 I2 r1 r2 q2
def zpH{op:Operator}{r:R2}(ho:OpR X (binaryOp op) r)(ha:PE X a ta)(hb:PE X b tb):PE X (.BinOp a op b pos) (tOp r ta tb):=by
 intro pins s σ H Q I h;exact wpAny_BinOp (binT ha hb I h λv u s2 x y H2 I2 rx ry q=>ho pins s2 σ H2 x y v u Q I2 rx ry q)
def zpd{op:UnaryOp}{r:V->Hp->VK->Prop}(ho:UnR X (unaryOp op) r)(ha:PE X a ta):PE X (.UnaryOp op a pos) (tUn r ta):=by
 intro pins s σ H Q I h;exact UnaryOp_ (thn (ha pins s σ H _ I h) λv s1 ⟨x,H1,I1,r1,q1⟩=>ho pins s1 σ H1 x v Q I1 r1 q1)
def opI{f:Value->Value->Sem Value}{C:Int->Int->Prop}{g:Int->Int->Int}
  (rule:∀(i j:Int) (t u:Tok) (s:Shared) (Q:Value->Shared->Prop) (E:Value->Shared->Prop),C i j->Q (.int (g i j) s.toks) { s with toks:=s.toks+1 }->wpAny (model X.prog X.w) X.A (f (.int i t) (.int j u)) Q E s) :
  OpR X f (rI C λi j=>.int (g i j)):=by
 intro pins s σ H x y v u Q I rx ry h;obtain⟨i,j,rfl,rfl,hc,q⟩:=h;obtain⟨t,rfl⟩:=rx;obtain⟨t',rfl⟩:=ry;exact rule i j t t' s _ _ hc ⟨.int (g i j),H,I.tok _,⟨_,rfl⟩,q⟩
def opI0{f:Value->Value->Sem Value}{g:Int->Int->Int}
  (rule:∀(i j:Int) (t u:Tok) (s:Shared) (Q:Value->Shared->Prop) (E:Value->Shared->Prop),Q (.int (g i j) s.toks) { s with toks:=s.toks+1 }->wpAny (model X.prog X.w) X.A (f (.int i t) (.int j u)) Q E s) :
  OpR X f (rI0 λi j=>.int (g i j)):=by
 intro pins s σ H x y v u Q I rx ry h;obtain⟨i,j,rfl,rfl,q⟩:=h;obtain⟨t,rfl⟩:=rx;obtain⟨t',rfl⟩:=ry;exact rule i j t t' s _ _ ⟨.int (g i j),H,I.tok _,⟨_,rfl⟩,q⟩
def opB0{f:Value->Value->Sem Value}{g:Int->Int->Bool}
  (rule:∀(i j:Int) (t u:Tok) (s:Shared) (Q:Value->Shared->Prop) (E:Value->Shared->Prop),Q (.bool (g i j)) s->wpAny (model X.prog X.w) X.A (f (.int i t) (.int j u)) Q E s) :
  OpR X f (rI0 λi j=>.bl (g i j)):=by
 intro pins s σ H x y v u Q I rx ry h;obtain⟨i,j,rfl,rfl,q⟩:=h;obtain⟨t,rfl⟩:=rx;obtain⟨t',rfl⟩:=ry;exact rule i j t t' s _ _ ⟨.bl (g i j),H,I,rfl,q⟩
def CDiv(i j:Int):Prop:=0<j/\j<1073741824
def CMul(i j:Int):Prop:=(-(2 ^ 64)<i/\i<2 ^ 64)\/(-(2 ^ 64)<j/\j<2 ^ 64)
def CMul.ok{i j:Int}(h:CMul i j):IntMulOk i j:=by
 rcases h with ⟨h1,h2⟩ | ⟨h1,h2⟩
 .exact .of_left (intBits_le_64 h1 h2)
 .exact .of_right (intBits_le_64 h1 h2)
def zn0:OpR X (binaryOp .Add) (rI0 λi j=>.int (i+j)):=opI0 λ_ _ _ _ _ _ _ q=>add_int q
def zoN:OpR X (binaryOp .Sub) (rI0 λi j=>.int (i-j)):=opI0 λ_ _ _ _ _ _ _ q=>sub_int q
def znd:OpR X (binaryOp .Mult) (rI CMul λi j=>.int (i*j)):=opI λ_ _ _ _ _ _ _ hc q=>mul_int q hc.ok
def zmB:OpR X (binaryOp .FloorDiv) (rI CDiv λi j=>.int (i/j)):=opI λi j _ _ _ _ _ hc q=>by
 have h1:(0:Int)<j:=hc.1;have h2:j<1073741824:=hc.2;exact floordiv_int ∅ (by rw[Int.fdiv_eq_ediv_of_nonneg i ∅]; exact q) (.inl (PyProof.noPylong_small ∅))
def zm6:OpR X (binaryOp .Mod) (rI (λ_ j=>0<j) λi j=>.int (i%j)):=opI λi j _ _ _ _ _ hc q=>by
 have h1:(0:Int)<j:=hc;exact mod_int' ∅ (by rw[Int.fmod_eq_emod_of_nonneg i ∅]; exact q)
def unI{f:Value->Sem Value}{g:Int->Int}
  (rule:∀(i:Int) (t:Tok) (s:Shared) (Q:Value->Shared->Prop) (E:Value->Shared->Prop),Q (.int (g i) s.toks) { s with toks:=s.toks+1 }->wpAny (model X.prog X.w) X.A (f (.int i t)) Q E s) :
  UnR X f (rU λi=>.int (g i)):=by
 intro pins s σ H x v Q I rx h;obtain⟨i,rfl,q⟩:=h;obtain⟨t,rfl⟩:=rx;exact rule i t s _ _ ⟨.int (g i),H,I.tok _,⟨_,rfl⟩,q⟩
def zni:UnR X (unaryOp .USub) (rU λi=>.int (-i)):=unI λ_ _ _ _ _ q=>neg_int q
end
def scal:V->V->Bool
 | .non,.non=>true | .non,.int _=>true | .int _,.non=>true | .non,.bl _=>true | .bl _,.non=>true | .non,.str _=>true | .str _,.non=>true
 | .int _,.int _=>true | .bl _,.bl _=>true | .str _,.str _=>true | .byt _,.byt _=>true
 | .int _,.str _=>true | .str _,.int _=>true | .bl _,.str _=>true | .str _,.bl _=>true
 | _,_=>false
def rEq:R2:=λx y H Q=>scal x y=true/\Q (.bl (decide (x=y))) H
def rNe:R2:=λx y H Q=>scal x y=true/\Q (.bl (!decide (x=y))) H
def zcO{i j:Int}:decide (V.int i=V.int j)=(i==j):=by
 rw[vH];simp
def zdK{i j:Bool}:decide (V.bl i=V.bl j)=(i==j):=by
 rw[vH];simp
def zcS{i j:Str}:decide (V.str i=V.str j)=(i==j):=by
 rw[vH];simp
def zgS{i j:Array UInt8}:decide (V.byt i=V.byt j)=(i.toList==j.toList):=by
 rw[vH];cases i;cases j;simp
section
variable{X:Cx}{a b c:Expr}{ta tb tc:TE}{pos:Pos}
def uf{pins:List (Addr×Obj)}{σ:St}{H:Hp}{s:Shared}{Q:VK}{k k':Bool}(I:Inv X pins σ H s)(q:Q (.bl k) H)(e:k=k'):EP X pins σ Q (.bool k') s:=by
 subst e;exact⟨.bl k,H,I,rfl,q⟩
def zhG:OpR X (compareOp .Eq) rEq:=by
 intro pins s σ H x y v u Q I rx ry h;obtain⟨hs,q⟩:=h;cases x with
 | non=>
  cases rx;cases y with
  | non=>cases ry; exact PySem.EqNone.eq_none_none (uf I q (by simp))
  | bl j=>cases ry; exact PySem.EqNone.eq_none_bool (uf I q (by simp))
  | int j=>obtain⟨t',rfl⟩:=ry; exact PySem.EqNone.eq_none_int (uf I q (by simp))
  | str j=>obtain⟨t',rfl⟩:=ry; exact PySem.EqNone.eq_none_str (uf I q (by simp))
  | _=>exact absurd (show false=true from hs) z9
 | bl i=>
  cases rx;cases y with
  | non=>cases ry; exact PySem.EqNone.eq_bool_none (uf I q (by simp))
  | bl j=>cases ry; exact eq_bool (uf I q zdK)
  | str j=>obtain⟨t',rfl⟩:=ry; exact PySem.EqMixed.eq_bool_str (uf I q (by simp))
  | _=>exact absurd (show false=true from hs) z9
 | int i=>
  obtain⟨t,rfl⟩:=rx;cases y with
  | non=>cases ry; exact PySem.EqNone.eq_int_none (uf I q (by simp))
  | int j=>obtain⟨t',rfl⟩:=ry; exact eq_int (uf I q zcO)
  | str j=>obtain⟨t',rfl⟩:=ry; exact PySem.EqMixed.eq_int_str (uf I q (by simp))
  | _=>exact absurd (show false=true from hs) z9
 | str i=>
  obtain⟨t,rfl⟩:=rx;cases y with
  | non=>cases ry; exact PySem.EqNone.eq_str_none (uf I q (by simp))
  | bl j=>cases ry; exact PySem.EqMixed.eq_str_bool (uf I q (by simp))
  | int j=>obtain⟨t',rfl⟩:=ry; exact PySem.EqMixed.eq_str_int (uf I q (by simp))
  | str j=>obtain⟨t',rfl⟩:=ry; exact eq_str (uf I q zcS)
  | _=>exact absurd (show false=true from hs) z9
 | byt i=>
  obtain⟨t,rfl⟩:=rx;cases y with
  | byt j=>obtain⟨t',rfl⟩:=ry; exact PySem.W.eq_bytes (uf I q zgS)
  | _=>exact absurd (show false=true from hs) z9
 | _=>cases y<;>exact absurd (show false=true from hs) z9
def zh0:OpR X (compareOp .NotEq) rNe:=by
 intro pins s σ H x y v u Q I rx ry h;obtain⟨hs,q⟩:=h;cases x with
 | non=>
  cases rx;cases y with
  | non=>cases ry; exact PySem.EqNone.ne_none_none (uf I q (by simp))
  | bl j=>cases ry; exact PySem.EqNone.ne_none_bool (uf I q (by simp))
  | int j=>obtain⟨t',rfl⟩:=ry; exact PySem.EqNone.ne_none_int (uf I q (by simp))
  | str j=>obtain⟨t',rfl⟩:=ry; exact PySem.EqNone.ne_none_str (uf I q (by simp))
  | _=>exact absurd (show false=true from hs) z9
 | bl i=>
  cases rx;cases y with
  | non=>cases ry; exact PySem.EqNone.ne_bool_none (uf I q (by simp))
  | bl j=>cases ry; exact ne_bool (uf I q (jW not zdK))
  | str j=>obtain⟨t',rfl⟩:=ry; exact PySem.EqMixed.ne_bool_str (uf I q (by simp))
  | _=>exact absurd (show false=true from hs) z9
 | int i=>
  obtain⟨t,rfl⟩:=rx;cases y with
  | non=>cases ry; exact PySem.EqNone.ne_int_none (uf I q (by simp))
  | int j=>obtain⟨t',rfl⟩:=ry; exact ne_int (uf I q (jW not zcO))
  | str j=>obtain⟨t',rfl⟩:=ry; exact PySem.EqMixed.ne_int_str (uf I q (by simp))
  | _=>exact absurd (show false=true from hs) z9
 | str i=>
  obtain⟨t,rfl⟩:=rx;cases y with
  | non=>cases ry; exact PySem.EqNone.ne_str_none (uf I q (by simp))
  | bl j=>cases ry; exact PySem.EqMixed.ne_str_bool (uf I q (by simp))
  | int j=>obtain⟨t',rfl⟩:=ry; exact PySem.EqMixed.ne_str_int (uf I q (by simp))
  | str j=>obtain⟨t',rfl⟩:=ry; exact ne_str (uf I q (jW not zcS))
  | _=>exact absurd (show false=true from hs) z9
 | byt i=>
  obtain⟨t,rfl⟩:=rx;cases y with
  | byt j=>obtain⟨t',rfl⟩:=ry; exact PySem.W.ne_bytes (uf I q (jW not zgS))
  | _=>exact absurd (show false=true from hs) z9
 | _=>cases y<;>exact absurd (show false=true from hs) z9
def zpx:OpR X (compareOp .Lt) (rI0 λi j=>.bl (decide (i<j))):=opB0 λ_ _ _ _ _ _ _ q=>lt_int q
def zpj:OpR X (compareOp .LtE) (rI0 λi j=>.bl (decide (i<=j))):=opB0 λ_ _ _ _ _ _ _ q=>le_int q
def zoY:OpR X (compareOp .Gt) (rI0 λi j=>.bl (decide (j<i))):=opB0 λ_ _ _ _ _ _ _ q=>gt_int q
def zm5:OpR X (compareOp .Is) (λx y H Q=>y=.non/\Q (.bl (decide (x=.non))) H):=by
 intro pins s σ H x y v u Q I rx ry h;obtain⟨rfl,q⟩:=h;cases ry;refine is_none_gen (uf I q ?_);cases x<;>first
  | (cases rx; rfl)
  | (obtain⟨t,rfl⟩:=rx; rfl)
def zlq:OpR X (compareOp .IsNot) (λx y H Q=>y=.non/\Q (.bl (!decide (x=.non))) H):=by
 intro pins s σ H x y v u Q I rx ry h;obtain⟨rfl,q⟩:=h;cases ry;refine isnot_none_gen (uf I q ?_);cases x<;>first
  | (cases rx; rfl)
  | (obtain⟨t,rfl⟩:=rx; rfl)
def zmW{op:CmpOp}{r:R2}(ho:OpR X (compareOp op) r)(ha:PE X a ta)(hb:PE X b tb)(hm:behindInMarks op b=false):PE X (.Compare a [op] [b] pos) (tOp r ta tb):=by
 intro pins s σ H Q I h;exact wpAny_Compare1 (binT ha hb I h λv u s2 x y H2 I2 rx ry q=>ho pins s2 σ H2 x y v u Q I2 rx ry q) hm
def zkY(t:TE):TT:=λσ H Q=>t σ H λx H'=>∃k,x=.bl k/\Q k H'
def zmp{op:CmpOp}{r:R2}(ho:OpR X (compareOp op) r)(ha:PE X a ta)(hb:PE X b tb)(hm:behindInMarks op b=false):PT X (.Compare a [op] [b] pos) (zkY (tOp r ta tb)):=by
 intro pins s σ H Q I h
 refine wpAny_isTrue_Compare1 (thn (ha pins s σ H _ I h) λv s1 ⟨x,H1,I1,r1,q1⟩=>thn (hb pins s1 σ H1 _ I1 q1) λu s2 ⟨y,H2,I2,r2,q2⟩=>
  thn (ho pins s2 σ H2 x y v u _ I2 r1 r2 q2) λc s3 ⟨z,H3,I3,r3,k,e,q3⟩=>?_) hm
 subst e;cases r3;exact vo ⟨H3,I3,q3⟩
def zfh(r r':R2)(ta tb tc:TE):TE:=λσ H Q=>ta σ H λx H1=>tb σ H1 λy H2=>r x y H2 λz H3=>∃k,z=.bl k /\
 (if k=true then tc σ H3 λw' H4=>r' y w' H4 Q else Q (.bl false) H3)
def zka{op op':CmpOp}{r r':R2}(ho:OpR X (compareOp op) r)(ho':OpR X (compareOp op') r')(ha:PE X a ta)(hb:PE X b tb)(hc:PE X c tc)
  (hm:lastMarks [op,op'] [b,c]=false:=by with_unfolding_all rfl):PE X (.Compare a [op,op'] [b,c] pos) (zfh r r' ta tb tc):=by
 intro pins s σ H Q I h
 refine Compare_chain (thn (ha pins s σ H _ I h) λv s1 ⟨x,H1,I1,r1,q1⟩=>chain_link (thn (hb pins s1 σ H1 _ I1 q1) λu s2 ⟨y,H2,I2,r2,q2⟩=>
  thn (ho pins s2 σ H2 x y v u _ I2 r1 r2 q2) λd s3 ⟨z,H3,I3,r3,k,e,q3⟩=>?_)) hm
 subst e;cases r3;refine vo ?_;cases k with
 | false=>exact ite_ff ⟨.bl false,H3,I3,rfl,q3⟩
 | true=>exact ite_tt (chain_last (thn (hc pins s3 σ H3 _ I3 q3) λw' s4 ⟨z',H4,I4,r4,q4⟩=>ho' pins s4 σ H4 y z' u w' Q I4 r2 r4 q4))
def zkE{op op':CmpOp}{r r':R2}(ho:OpR X (compareOp op) r)(ho':OpR X (compareOp op') r')(ha:PE X a ta)(hb:PE X b tb)(hc:PE X c tc)
  (hm:lastMarks [op,op'] [b,c]=false:=by with_unfolding_all rfl):PT X (.Compare a [op,op'] [b,c] pos) (zkY (zfh r r' ta tb tc)):=by
 intro pins s σ H Q I h
 refine isTrue_chain (thn (ha pins s σ H _ I h) λv s1 ⟨x,H1,I1,r1,q1⟩=>test_link (thn (hb pins s1 σ H1 _ I1 q1) λu s2 ⟨y,H2,I2,r2,q2⟩=>
  thn (ho pins s2 σ H2 x y v u _ I2 r1 r2 q2) λd s3 ⟨z,H3,I3,r3,k,e,q3⟩=>?_)) hm
 subst e;cases r3;refine vo ?_;cases k with
 | false=>
  obtain⟨k',e',q'⟩:=q3;cases e';exact ite_ff ⟨H3,I3,q'⟩
 | true=>
  refine ite_tt (test_last (thn (hc pins s3 σ H3 _ I3 q3) λw' s4 ⟨z',H4,I4,r4,q4⟩=>thn (ho' pins s4 σ H4 y z' u w' _ I4 r2 r4 q4) λd' s5 ⟨z2,H5,I5,r5,k2,e2,q5⟩=>?_));subst e2;cases r5;exact vo ⟨H5,I5,q5⟩
def zck:(sizeLine:Nat)<2 ^ 63:=by rw[vq]; decide
def vals1{x:V}{us:List Value}(r:Vals [x] us):∃u,us=[u]/\RelV x u:=by
 cases r with
 | cons r1 r2=>cases r2; exact⟨_,rfl,r1⟩
def vals2{x y:V}{us:List Value}(r:Vals [x,y] us):∃u w',us=[u,w']/\RelV x u/\RelV y w':=by
 cases r with
 | cons r1 r2=>
  cases r2 with
  | cons r3 r4=>cases r4; exact⟨_,_,rfl,r1,r3⟩
end
end L2
namespace L2
open PySem PySem.Spec PyProof.Rows
structure ObjM(h:Heap)(x dx C:Addr)(mA:Str->Option Value):Prop where
 obj:h.get? x=some (PySem.W.instObj C dx)
 ns:h.Ns1 dx mA
 ne:dx≠x
def zih{h:Heap}{dx:Addr}{mA:Str->Option Value}(n:h.Ns1 dx mA):∃od,h.get? dx=some od/\∀name,PySem.W.lookIn name od=some (mA name):=by
 obtain⟨o,es,ep,ho,hd,hk,_,hm⟩:=n;refine⟨o,ho,λname=>?_⟩;have e:=hm name;unfold nsFind findBy at e;rw[<-wX] at e;unfold PySem.W.lookIn;rw[hd];dsimp only;split
 .rename_i y q
  rw[q] at e;exact jW some e
 .rename_i q
  rw[q] at e;have a:es.toList.any (·.refKey)=false:=by
   rw[List.any_eq_false];intro y hy;obtain⟨z,t,hkey⟩:=hk y (yZ.mp hy);simp[DictEntry.refKey,hkey]
  have a':¬es.toList.any (·.refKey)=true:=by rw[a]; exact z9
  rw[kO a'];exact jW some e
def ObjM.look{h:Heap}{x dx C:Addr}{mA:Str->Option Value}(I:ObjM h x dx C mA):∃od,PySem.W.InstAt h x (PySem.W.instObj C dx) C (some od)/\∀name,PySem.W.lookIn name od=some (mA name):=
 let ⟨od,ho,hl⟩:=zih I.ns
 ⟨od,⟨I.obj,rfl,rfl,ho⟩,hl⟩
section
variable{prog:Program}{w:World}{A:Around}{E:Value->Shared->Prop}{s:Shared}{K:PySem.W.Frag}{x dx C f:Addr}{mA:Str->Option Value}{name:Str}{v:Value}
def zmJ{expr:Bool}{Q:Value->Shared->Prop}(X:K.In s.heap)(I:ObjM s.heap x dx C mA)(hg:PySem.W.plainGet K C name=true)(hh:PySem.W.hasDictIn K C=true)
  (ha:PySem.W.findIn K (.ref C) name=some none) (hv:mA name=some v) (hv':PySem.W.handedIn v=true) (h:Q v { s with toks:=s.toks+1 }) :
  wpAny (model prog w) A (getAttr (.ref x) name expr) Q E s:=by
 obtain⟨od,J,hl⟩:=I.look;exact PySem.W.get_value X J (wK hg).1 (PySem.W.findObj_own hh ha rfl (by rw[hl,hv])) hv' h
def zkL{pl:Sem Bool}{Q:Value×List Value->Shared->Prop}(X:K.In s.heap)(I:ObjM s.heap x dx C mA)(hg:PySem.W.plainGet K C name=true)
  (hf:PySem.W.findIn K (.ref C) name=some (some (.ref f))) (ht:PySem.W.isFn K (.ref f)=true) (hv:mA name=none) (h:Q (.ref f,[.ref x]) s) :
  wpAny (model prog w) A (getMethod (.ref x) name pl) Q E s:=by
 obtain⟨od,J,hl⟩:=I.look;exact PySem.W.method_fn X J (wK hg).1 (wK hg).2 hf (qd.mp ht) (by show(PySem.W.lookIn name od).map (·.isSome)=some false; rw[hl,hv]; rfl) h
def zmO{ns:List Str}{Q:Unit->Shared->Prop}(X:K.In s.heap)(I:ObjM s.heap x dx C mA)
  (hs:PySem.W.findIn K (.ref C) "__setattr__" = some (some (.builtin "object.__setattr__"))) (hp:PySem.W.plainOver K C=true) (ht:PySem.W.takerIn K C name=some none) (hh:PySem.W.hasDictIn K C=true)
  (hw:PySem.Within mA ns) (hsz:ns.length<=sizeLine)
  (h:∀h',ObjM h' x dx C (λy=>if y=name then some v else mA y)->Heap.SameBut dx s.heap h'->Q () { s with heap:=h',toks:=s.toks+2 }) :
  wpAny (model prog w) A (setAttr (.ref x) name v) Q E s:=by
 obtain⟨od,J,hl⟩:=I.look;refine PySem.W.set_plain X J hs (PySem.W.osa_open (s:={ s with toks:=s.toks+1 }) (r:=none) X J hp ht λb=>?_);obtain⟨cd,hc,hd'⟩:=PySem.W.any_some hh;have hx:s.heap.get? x=some ⟨.ref C,some dx,.plain,#[]⟩:=I.obj;refine za (zr (za (za (wpAny_loadPart hx (za (PySem.W.Looks.here (s:={ s with toks:=s.toks+1 }) (PySem.W.looks_clsIn X hc) ?_))))));rw[hd'];refine zr (a:=some dx) (za (zr (za ?_)));refine wpAny_nsSet1 (s:={ s with toks:=s.toks+1 }) I.ns λh' hn2 hs2=>?_
 obtain⟨oD,esD,epD,hoD,hdD,hcD⟩:=hn2.count (PySem.Within.cons name v hw);refine za (wpAny_lookBehind hoD (by rw[hdD]; exact pastItsLine_dict (zQ hcD (by rw[zm]; omega))) ?_);exact zr (h _ ⟨(hs2.2 _ (kY I.ne)).trans I.obj,hn2,I.ne⟩ hs2)
def zkR{R:Result->Shared->Prop}{vs:List Value}{kw:List (Str×Value)}(X:K.In s.heap)(hm:PySem.W.makesIn K C=true)
  (hi:PySem.W.findIn K (.ref C) "__init__" = some (some (.ref f))) (hf:PySem.W.typeIn K (.ref f)=some (.type "function"))
  (h:codeAny (model prog w) (A.under (.builtin "type.__call__" ⟨.ref C::vs,kw⟩)) (.call (.ref f) ⟨.ref (s.heap.objs.size+1)::vs,kw⟩) (PySem.W.InitBack (s.heap.objs.size+1) R)
   { s with heap:=(s.heap.push PySem.W.emptyDict).push (PySem.W.instObj C s.heap.objs.size) }) :
  codeAny (model prog w) A (.call (.ref C) ⟨vs,kw⟩) R s:=by
 obtain⟨hh,g,d,t,os⟩:=s;exact PySem.W.make_core (PySem.W.makes_of X hm) (PySem.W.looks_findIn X hi) (λself=>PySem.W.bind_fn X self hf) (.inl rfl) h
end
def putF(f:Str)(v:V):List (Str×V)->List (Str×V)
 | []=>[(f,v)]
 | (g,x)::r=>if g=f then (g,v)::r else (g,x)::putF f v r
theorem zc1(f g:Str)(v:V):∀fs:List (Str×V),(putF f v fs).lookup g=if g=f then some v else fs.lookup g
 | []=>by
  show List.lookup g [(f,v)]=_
  by_cases h:g=f
  .have hb:(g==f)=true:=qd.mpr h
   simp only[List.lookup,hb,zX h]
  .have hb:(g==f)=false:=jt.mpr h
   simp only[List.lookup,hb,kO h]
 | (k,x)::r=>by
  have ih:=zc1 f g v r;rw[show putF f v ((k,x)::r)=(if k=f then (k,v)::r else (k,x)::putF f v r) from rfl];by_cases hk:k=f
  .rw[zX hk]
   by_cases h:g=k
   .have hb:(g==k)=true:=qd.mpr h
    simp only[List.lookup,hb,zX (h.trans hk)]
   .have hb:(g==k)=false:=jt.mpr h
    simp only[List.lookup,hb,kO (λe:g=f=>h (e.trans hk.symm))]
  .rw[kO hk]
   by_cases h:g=k
   .have hb:(g==k)=true:=qd.mpr h
    simp only[List.lookup,hb,kO (λe:g=f=>hk (h.symm.trans e))]
   .have hb:(g==k)=false:=jt.mpr h
    simp only[List.lookup,hb];exact ih
theorem zct(f:Str)(v:V):∀fs:List (Str×V),f∈(putF f v fs).map (·.1)/\∀g,g∈fs.map (·.1)->g∈(putF f v fs).map (·.1)
 | []=>⟨by simp[putF],λg h=>by simp at h⟩
 | (k,x)::r=>by
  obtain⟨i1,i2⟩:=zct f v r;rw[show putF f v ((k,x)::r)=(if k=f then (k,v)::r else (k,x)::putF f v r) from rfl];by_cases hk:k=f
  .rw[zX hk]
   subst hk;exact⟨by simp,λg h=>by simpa using h⟩
  .rw[kO hk]
   refine⟨?_,λg h=>?_⟩
   .rw[zy]
    exact zN _ i1
   .rw[zy] at h ⊢
    rcases zb.mp h with e | e
    .exact zb.mpr (.inl e)
    .exact zN _ (i2 g e)
theorem zc5(f:Str)(v:V):∀fs:List (Str×V),(putF f v fs).length<=fs.length+1
 | []=>by simp[putF]
 | (k,x)::r=>by
  have ih:=zc5 f v r;rw[show putF f v ((k,x)::r)=(if k=f then (k,v)::r else (k,x)::putF f v r) from rfl];by_cases hk:k=f
  .rw[zX hk,zm,zm]; omega
  .rw[kO hk,zm,zm]; omega
def RelO.some_of{v:V}{o:Option Value}(r:RelO (some v) o):∃u,o=some u/\RelV v u:=by
 cases o with
 | none=>exact(show False from r).elim
 | some u=>exact⟨u,rfl,r⟩
def RelO.none_of{o:Option Value}(r:RelO none o):o=none:=by
 cases o with
 | none=>rfl
 | some u=>exact(show False from r).elim
theorem zi3{v:V}{u:Value}(r:RelV v u):PySem.W.handedIn u=true:=by
 cases v with
 | non=>cases (show u=Value.none from r); rfl
 | bl b=>cases (show u=Value.bool b from r); rfl
 | int i=>obtain⟨t,e⟩:=(show ∃t,u=Value.int i t from r); cases e; rfl
 | str x=>obtain⟨t,e⟩:=(show ∃t,u=Value.str x t from r); cases e; rfl
 | byt b=>obtain⟨t,e⟩:=(show ∃t,u=Value.bytes b t from r); cases e; rfl
 | flt b=>obtain⟨t,e⟩:=(show ∃t,u=Value.float b t from r); cases e; rfl
 | ref a=>cases (show u=Value.ref a from r); rfl
 | ty n=>cases (show u=Value.type n from r); rfl
section
variable{P:Program}{w:World}{H H':Hp}{h h':Heap}{a C dx:Addr}{fs fs':List (Str×V)}
def zcN(hok:HOk P w H h)(e:H a=some (.ins C dx fs)):∃mA,ObjM h a dx C mA/\(∀f,RelO (fs.lookup f) (mA f))/\PySem.Within mA (fs.map (·.1))/\fs.length<=1000/\H dx=some (.own a):=by
 obtain⟨d,z,ne,ob,mA,n,r,q⟩:=(show ObjOk P w H h a (.ins C dx fs) from hok a _ e);exact⟨mA,⟨ob,n,ne⟩,r,q,z,d⟩
end
structure Cls(K:PySem.W.Frag)(C:Addr):Prop where
 pg:PySem.W.plainGet K C Str.empty=true
 hd:PySem.W.hasDictIn K C=true
 po:PySem.W.plainOver K C=true
 sa:PySem.W.findIn K (.ref C) "__setattr__" = some (some (.builtin "object.__setattr__"))
def Cls.get{K:PySem.W.Frag}{C:Addr}(c:Cls K C)(f:Str):PySem.W.plainGet K C f=true:=c.pg
def NoAttr(K:PySem.W.Frag)(C:Addr)(f:Str):Prop:=PySem.W.findIn K (.ref C) f=some none
theorem NoAttr.taker{K:PySem.W.Frag}{C:Addr}{f:Str}(n:NoAttr K C f):PySem.W.takerIn K C f=some none:=by
 unfold PySem.W.takerIn;rw[show PySem.W.findIn K (.ref C) f=some none from n];rfl
structure Meth(K:PySem.W.Frag)(C:Addr)(m:Str)(f:Addr):Prop where
 at_:PySem.W.findIn K (.ref C) m=some (some (.ref f))
 fn:PySem.W.isFn K (.ref f)=true
 kp:PySem.W.keepIn K (.ref f)=true
section
variable{X:Cx}{pins:List (Addr×Obj)}{σ:St}{H:Hp}{s:Shared}{a C dx:Addr}{fs:List (Str×V)}{f:Str}{v:V}{A:Around}{E:Value->Shared->Prop}
def zds{b:Bool}{Q:Value->Shared->Prop}(I:Inv X pins σ H s)(e:H a=some (.ins C dx fs))(c:Cls X.K C)(n:NoAttr X.K C f)(l:fs.lookup f=some v)
  (h:∀u s',Inv X pins σ H s'->RelV v u->Q u s'):wpAny (model X.prog X.w) A (getAttr (.ref a) f b) Q E s:=by
 obtain⟨mA,O,r,_,_,_⟩:=zcN I.hok e;obtain⟨u,hu,ru⟩:=RelO.some_of (v:=v) (o:=mA f) (by rw[<-l]; exact r f);exact zmJ I.kIn O (c.get f) c.hd n hu (zi3 ru) (h u _ (I.tok _) ru)
def zdH{m:Str}{g:Addr}{pl:Sem Bool}{Q:Value×List Value->Shared->Prop}(I:Inv X pins σ H s)(e:H a=some (.ins C dx fs))(c:Cls X.K C)(k:Meth X.K C m g)(l:fs.lookup m=none)
  (h:Q (.ref g,[.ref a]) s):wpAny (model X.prog X.w) A (getMethod (.ref a) m pl) Q E s:=by
 obtain⟨mA,O,r,_,_,_⟩:=zcN I.hok e;have hn:mA m=none:=RelO.none_of (by rw[<-l]; exact r m);exact zkL I.kIn O (c.get m) k.at_ k.fn hn h
def zdF{y:V}{u:Value}{Q:Unit->Shared->Prop}(I:Inv X pins σ H s)(e:H a=some (.ins C dx fs))(c:Cls X.K C)(n:NoAttr X.K C f)(hl:fs.length<1000)(ry:RelV y u)
  (h:∀s',Inv X pins σ (upd H a (.ins C dx (putF f y fs))) s'->Q () s'):wpAny (model X.prog X.w) A (setAttr (.ref a) f u) Q E s:=by
 obtain⟨mA,O,r,wi,_,ho⟩:=zcN I.hok e;have hz:(fs.map (·.1)).length<=sizeLine:=by rw[zH,vq]; omega
 refine zmO I.kIn O c.sa c.po n.taker c.hd wi hz λh' O' sb=>h _ ?_
 have hd:∃o,h'.get? dx=some o:=let ⟨o,_,_,e',_⟩:=O'.ns; ⟨o,e'⟩;refine I.write (x:=a) (e:=dx) (by rw[e]; exact True.intro) (.inr ho) (λb q hb z=>(sb.2 b hb).trans z) hd ?_;refine⟨by rw[uc O.ne]; exact ho,?_,O.ne,O'.obj,_,O'.ns,λg=>?_,λg hg=>?_⟩
 .have:=zc5 f y fs; omega
 .show RelO ((putF f y fs).lookup g) (if g=f then some u else mA g)
  rw[zc1];by_cases q:g=f
  .rw[zX q,zX q]; exact ry
  .rw[kO q,kO q]; exact r g
 .by_cases q:g=f
  .rw[q]; exact(zct f y fs).1
  .refine(zct f y fs).2 g (wi g λz=>hg ?_)
   show(if g=f then some u else mA g)=none
   rw[kO q]; exact z
def Inv.made(I:Inv X pins σ H s):Inv X pins σ (upd (upd H s.heap.objs.size (.own (s.heap.objs.size+1))) (s.heap.objs.size+1) (.ins C s.heap.objs.size []))
  { s with heap:=(s.heap.push PySem.W.emptyDict).push (PySem.W.instObj C s.heap.objs.size) }:=by
 have e1:(s.heap.push PySem.W.emptyDict).get? s.heap.objs.size=some PySem.W.emptyDict:=zT s.heap rfl;have e2:((s.heap.push PySem.W.emptyDict).push (PySem.W.instObj C s.heap.objs.size)).get? (s.heap.objs.size+1)=some (PySem.W.instObj C s.heap.objs.size):=by
  have:=zT (s.heap.push PySem.W.emptyDict) (o:=PySem.W.instObj C s.heap.objs.size) rfl;rwa [j9] at this
 have e3:(s.heap.push PySem.W.emptyDict).Ns s.heap.objs.size (λ_=>none):=⟨PySem.W.emptyDict,#[],_,e1,rfl,(λe he=>absurd he (by simp)),λ_=>rfl⟩;have I1:=I.laid (a:=s.heap.objs.size) (o:=.own (s.heap.objs.size+1)) (h':=s.heap.push PySem.W.emptyDict) (t':=s.toks) (λb u q=>zf _ q) (zj _) ⟨_,e1⟩;refine I1.laid (a:=s.heap.objs.size+1) (o:=.ins C s.heap.objs.size []) (t':=s.toks) (λb u q=>zf _ q) (Nat.le_of_eq (j9 _ _)) ?_;have ne:s.heap.objs.size≠s.heap.objs.size+1:=zW (jX _);refine⟨by rw[uc ne,uv],qO _,ne,e2,λ_=>none,(Heap.Ns1.of_empty e3).at λo q=>zf _ q,λ_=>True.intro,λy hy=>absurd rfl hy⟩
def zmC{prog:Program}{w:World}{env:Env}{e:Expr}{f:Str}{pos:Pos}{s:Shared}{Q:Value->Shared->Prop}(hb:attributeBase e f env (eval e env)=eval e env)
  (h:wpAny (model prog w) A (eval e env) (λo s₁=>wpAny (model prog w) A (getAttr o f true) Q E s₁) E s):wpAny (model prog w) A (eval (.Attribute e f pos) env) Q E s:=
 Attribute_any_ h (by rw[arm_eval_Attribute,hb])
end
def tFld(K:PySem.W.Frag)(ta:TE)(f:Str):TE:=λσ H Q=>ta σ H λx H1=>∃a C dx fs v,x=.ref a/\H1 a=some (.ins C dx fs)/\Cls K C/\NoAttr K C f/\fs.lookup f=some v/\Q v H1
def sFld(K:PySem.W.Frag)(ta tv:TE)(f:Str):TS:=λD σ H=>tv σ H λy H1=>ta σ H1 λx H2=>∃a C dx fs,x=.ref a/\H2 a=some (.ins C dx fs)/\Cls K C/\NoAttr K C f/\fs.length<1000 /\
 D.nx σ (upd H2 a (.ins C dx (putF f y fs)))
def InOp(X:Cx)(op:Operator)(rd:V->V->Hp->VK->Prop):Prop:=
 ∀(pins:List (Addr×Obj)) (s:Shared) (σ:St) (H:Hp) (x y:V) (u v:Value) (Q:VK),Inv X pins σ H s->RelV x u->RelV y v->rd x y H Q->wpAny (model X.prog X.w) X.A (inplaceOp op u v) (EP X pins σ Q) X.xe s
def zmV(K:PySem.W.Frag)(ta tv:TE)(rd:V->V->Hp->VK->Prop)(f:Str):TS:=λD σ H=>ta σ H λx H1=>∃a C dx fs v,x=.ref a/\H1 a=some (.ins C dx fs)/\Cls K C/\NoAttr K C f/\fs.lookup f=some v /\
 tv σ H1 λy H2=>rd v y H2 λz H3=>∃dx' fs',H3 a=some (.ins C dx' fs')/\fs'.length<1000/\D.nx σ (upd H3 a (.ins C dx' (putF f z fs')))
section
variable{X:Cx}{o e value:Expr}{f:Str}{pos pos' tpos:Pos}{ta tv:TE}
def znQ(he:PE X e ta)(hb:attributeBase e f X.env (eval e X.env)=eval e X.env):PE X (.Attribute e f pos) (tFld X.K ta f):=by
 intro pins s σ H Q I h;refine zmC hb (thn (he pins s σ H _ I h) λu s1 ⟨x,H1,I1,rx,a,C,dx,fs,v,ex,ea,c,n,l,q⟩=>?_);subst ex;obtain rfl:u=Value.ref a:=rx;exact zds I1 ea c n l λu' s2 I2 ru=>⟨v,H1,I2,ru,q⟩
def zne(ha:PE X o ta)(hv:PE X value tv)(hs:swapsWith value (some (.Attribute o f pos')) pos.line X.env=pure false):PS X (.Assign [.Attribute o f pos'] value pos) (sFld X.K ta tv f):=by
 intro pins s σ H D I h;refine plainObj_wpAny_Assign_Attribute (thn (hv pins s σ H _ I h) λu s1 ⟨y,H1,I1,ry,q⟩=>thn (ha pins s1 σ H1 _ I1 q) λov s2 ⟨x,H2,I2,rx,a,C,dx,fs,ex,ea,c,n,l,q2⟩=>?_) hs;subst ex;obtain rfl:ov=Value.ref a:=rx;exact zdF I2 ea c n l ry λs3 I3=>⟨σ,_,I3,q2⟩
def ziC{op:Operator}{rd:V->V->Hp->VK->Prop}(ha:PE X o ta)(hv:PE X value tv)(hop:InOp X op rd):PS X (.AugAssign (.Attribute o f tpos) op value pos) (zmV X.K ta tv rd f):=by
 intro pins s σ H D I h;refine wpAny_AugAssign_AttributeAny (thn (ha pins s σ H _ I h) λov s1 ⟨x,H1,I1,rx,a,C,dx,fs,v,ex,ea,c,n,l,q⟩=>?_);subst ex;obtain rfl:ov=Value.ref a:=rx;refine zds I1 ea c n l λu s2 I2 ru=>thn (hv pins s2 σ H1 _ I2 q) λw3 s3 ⟨y,H2,I3,ry,q3⟩=>thn (hop pins s3 σ H2 v y u w3 _ I3 ru ry q3) λw4 s4 ⟨z,H3,I4,rz,dx',fs',ea',l',q4⟩=>?_
 exact zdF I4 ea' c n l' rz λs5 I5=>⟨σ,_,I5,q4⟩
def rAdd:V->V->Hp->VK->Prop:=λx y H Q=>∃i j,x=.int i/\y=.int j/\Q (.int (i+j)) H
def zns:InOp X .Add rAdd:=by
 rintro pins s σ H x y u v Q I rx ry ⟨i,j,rfl,rfl,q⟩;obtain⟨t,rfl⟩:=(show ∃t,u=Value.int i t from rx);obtain⟨t',rfl⟩:=(show ∃t',v=Value.int j t' from ry);exact PyProof.Rows.iadd_int ⟨.int (i+j),H,I.tok _,⟨_,rfl⟩,q⟩
end
section
variable{X:Cx}{pins:List (Addr×Obj)}{σ:St}{H:Hp}{s:Shared}{A:Around}{E:Value->Shared->Prop}{Q:Value->Shared->Prop}{c:Value}{b:Bool}
inductive TyOf(K:PySem.W.Frag)(H:Hp):V->Value->Prop where
 | non:TyOf K H .non (.type "NoneType")
 | bl (x:Bool):TyOf K H (.bl x) (.type "bool")
 | int (i:Int):TyOf K H (.int i) (.type "int")
 | str (x:Str):TyOf K H (.str x) (.type "str")
 | flt (x:UInt64):TyOf K H (.flt x) (.type "float")
 | lst {a:Addr} {xs:List V} (e:H a=some (.lst xs)):TyOf K H (.ref a) (.type "list")
 | frz {a:Addr} {o:Obj} {xs:List V} (e:H a=some (.frz o (.lst xs))):TyOf K H (.ref a) (.type "list")
 | tup {a:Addr} {xs:List V} (e:H a=some (.tup xs)):TyOf K H (.ref a) (.type "tuple")
 | dK {a:Addr} {kvs:List (Key×V)} (e:H a=some (.dK kvs)):TyOf K H (.ref a) (.type "dict")
 | dT {a:Addr} {kvs:List (List Key×V)} (e:H a=some (.dT kvs)):TyOf K H (.ref a) (.type "dict")
 | ins {a C dx:Addr} {fs:List (Str×V)} (e:H a=some (.ins C dx fs)) (cl:Cls K C) (ha:PySem.W.findIn K (.ref C) "__class__" = some (some (.builtin "object.__class__")))
   (hn:PySem.W.specialIn K (.builtin "object.__class__") "__get__" = some (some (.builtin "getset_descriptor.__get__"))) (htk:PySem.W.takesIn K (.builtin "object.__class__")=some true)
   (hm:PySem.W.mroIn K C (.type "object")=some true):TyOf K H (.ref a) (.ref C)
def zi7{x:V}{u t:Value}(I:Inv X pins σ H s)(rx:RelV x u)(ty:TyOf X.K H x t)(e:PySem.W.kitOne X.K t c=some b)(h:∀tk,Q (.bool b) { s with toks:=tk }) :
  wpAny (model X.prog X.w) A (call (.builtin "isinstance") [u,c]) Q E s:=by
 cases ty with
 | non=>cases (show u=Value.none from rx); exact jf PySem.W.kitx_none I.kIn True.intro e (λz=>nomatch z) h
 | bl y=>cases (show u=Value.bool y from rx); exact jf PySem.W.kitx_bool I.kIn True.intro e (λz=>nomatch z) h
 | int i=>obtain⟨t,q⟩:=(show ∃t,u=Value.int i t from rx); cases q; exact jf PySem.W.kitx_int I.kIn True.intro e (λz=>nomatch z) h
 | str y=>obtain⟨t,q⟩:=(show ∃t,u=Value.str y t from rx); cases q; exact jf PySem.W.kitx_str I.kIn True.intro e (λz=>nomatch z) h
 | flt y=>obtain⟨t,q⟩:=(show ∃t,u=Value.float y t from rx); cases q; exact jf PySem.W.kitx_float I.kIn True.intro e (λz=>nomatch z) h
 | @lst a xs ea=>
  cases (show u=Value.ref a from rx);obtain⟨_,_,n,_,h1⟩:=(show ObjOk X.prog X.w H s.heap a (.lst xs) from I.hok a _ ea);exact jf vV I.kIn ⟨_,h1,rfl⟩ e (λz=>nomatch z) h
 | @frz a ob xs ea=>
  cases (show u=Value.ref a from rx);obtain⟨_,_,_,n,_,h1⟩:=(show ObjOk X.prog X.w H s.heap a (.frz ob (.lst xs)) from I.hok a _ ea);exact jf vV I.kIn ⟨_,h1,rfl⟩ e (λz=>nomatch z) h
 | @tup a xs ea=>
  cases (show u=Value.ref a from rx);obtain⟨_,_,_,p,_⟩:=(show ObjOk X.prog X.w H s.heap a (.tup xs) from I.hok a _ ea);obtain⟨o,h1,h2,_⟩:=p;exact jf xu I.kIn ⟨o,h1,h2⟩ e (λz=>nomatch z) h
 | @dK a kvs ea=>
  cases (show u=Value.ref a from rx);obtain⟨_,_,vs,_,p⟩:=(show ObjOk X.prog X.w H s.heap a (.dK kvs) from I.hok a _ ea);obtain⟨o,es,ep,h1,h2,_⟩:=p;exact jf wZ I.kIn ⟨o,h1,h2.1⟩ e (λz=>nomatch z) h
 | @dT a kvs ea=>
  cases (show u=Value.ref a from rx);obtain⟨_,_,xs,_,o,es,ep,h1,h2,_⟩:=(show ObjOk X.prog X.w H s.heap a (.dT kvs) from I.hok a _ ea);exact jf wZ I.kIn ⟨o,h1,h2.1⟩ e (λz=>nomatch z) h
 | @ins a C dx fs ea cl ha hn htk hm=>
  cases (show u=Value.ref a from rx);obtain⟨mA,O,_⟩:=zcN I.hok ea;obtain⟨od,J,_⟩:=O.look;exact jf (PySem.W.kitx_own (cl.get _) cl.hd ha hn htk hm) I.kIn J e (λz=>nomatch z) h
end
end L2
namespace L2
open PySem PySem.Spec PyProof.Rows
structure Room(k:Nat)(A:Around):Prop where
 hd:A.handled=none
 dp:A.depth+3*k+5<recursionLimit
 un:A.units+16*k+200<cLine
def Room.mono{j k:Nat}{A:Around}(r:Room k A)(h:j<=k):Room j A:=⟨r.hd,by have:=r.dp; omega,by have:=r.un; omega⟩
theorem Room.deeper{k:Nat}{A:Around}(r:Room (k+1) A)(env:Env):Room k (A.deeper env):=
 ⟨r.hd,by have:=r.dp; show A.depth+1+3*k+5<_; omega,by have:=r.un; show A.units+3+16*k+200<_; omega⟩
def zhI{A:Around}{C:Addr}{us:List Value}{kw:List (Str×Value)}:(A.under (.builtin "type.__call__" ⟨.ref C::us,kw⟩)).depth=A.depth+1:=by
 first | rfl | simp[Around.under,Code.weight,Code.isCreation,Code.isGuard,Code.isCaller,Code.frames,Code.isFrame,guardIds]
def zhS{A:Around}{C:Addr}{us:List Value}{kw:List (Str×Value)}:(A.under (.builtin "type.__call__" ⟨.ref C::us,kw⟩)).units=A.units+1:=by
 first | rfl | simp[Around.under,Code.cUnits,Code.frames,Code.isFrame]
def Room.make{k:Nat}{A:Around}(r:Room (k+1) A)(C:Addr)(us:List Value)(kw:List (Str×Value)):Room k (A.under (.builtin "type.__call__" ⟨.ref C::us,kw⟩)):=
 ⟨r.hd,by have:=r.dp; rw[zhI]; omega,by have:=r.un; rw[zhS]; omega⟩
theorem Room.depth{k:Nat}{A:Around}(r:Room k A):A.depth<recursionLimit:=by have:=r.dp; omega
theorem Room.units{k:Nat}{A:Around}(r:Room k A):A.units+64<cLine:=by have:=r.un; omega
def tNil:TA:=λ_ H Q=>Q [] H
def zpE(ta:TE)(tr:TA):TA:=λσ H Q=>ta σ H λx H1=>tr σ H1 λxs H2=>Q (x::xs) H2
section
variable{X:Cx}{e:Expr}{es:List Expr}{te:TE}{t:TA}{pos:Pos}
def zjk:PA X [] tNil:=λ_ _ _ _ H Q I h=>vB ⟨[],H,I,.nil,h⟩
def zd7(ha:PE X e te)(hr:PA X es t)(hs:starEach (e::es) X.env=(false,eval e X.env)::starEach es X.env:=by rfl):PA X (e::es) (zpE te t):=by
 intro pos pins s σ H Q I h;rw[hs];show wpAny _ _ (spliced ((false,eval e X.env)::backTo pos (starEach es X.env))) _ _ s
 refine qF (thn (ha pins s σ H _ I h) λu s1 ⟨x,H1,I1,r1,q1⟩=>?_);exact thn (hr pos pins s1 σ H1 _ I1 q1) λus s2 ⟨xs,H2,I2,r2,q2⟩=>⟨x::xs,H2,I2,.cons r1 r2,q2⟩
def tTup(t:TA):TE:=λσ H Q=>t σ H λxs H1=>xs.length<=sizeLine/\∀p,H1 p=none->Q (.ref p) (upd H1 p (.tup xs))
def tLst(t:TA):TE:=λσ H Q=>t σ H λxs H1=>xs.length<=sizeLine/\∀p,H1 p=none->Q (.ref p) (upd H1 p (.lst xs))
def znH{x1}(h:PA X es t):PE X (.Tuple es x1 pos) (tTup t):=by
 intro pins s σ H Q I hq;refine wpAny_Tuple_spliced (thn (h pos pins s σ H _ I hq) λus s1 ⟨xs,H1,I1,r,z,q⟩=>⟨by rw[<-r.length]; exact z,?_⟩);have hf:H1 s1.heap.objs.size=none:=I1.hok.fresh (zj _);refine⟨.ref s1.heap.objs.size,upd H1 s1.heap.objs.size (.tup xs),I1.laid (t':=s1.toks) (λb u e=>zf _ e) (zj _) ?_,rfl,q _ hf⟩;exact⟨z,us,r,⟨_,zT _ rfl,rfl,_,rfl⟩,.new _ _⟩
def zi6(h:PA X es t):PE X (.List es pos) (tLst t):=by
 intro pins s σ H Q I hq;refine wpAny_List_spliced (thn (h pos pins s σ H _ I hq) λus s1 ⟨xs,H1,I1,r,z,q⟩=>⟨by rw[<-r.length]; exact z,?_⟩);have hf:H1 s1.heap.objs.size=none:=I1.hok.fresh (zj _);refine⟨.ref s1.heap.objs.size,upd H1 s1.heap.objs.size (.lst xs),I1.laid (t':=s1.toks) (λb u e=>zf _ e) (zj _) ?_,rfl,q _ hf⟩;exact⟨z,us,0,r,zT _ rfl⟩
end
abbrev Sp:=List V->Hp->VK->XK->Prop
abbrev CXT:=List Env->Hp->Shared->XK->Value->Shared->Prop
structure Env0(P:Program)(w:World)(K:PySem.W.Frag)(mg:Str->Option Value)(base:Heap)(A:Around)(outer:List Env)(s:Shared)(H:Hp):Prop where
 frames:A.frames=some outer
 mod:Mod K mg base
 bs:∀b o,base.get? b=some o->s.heap.get? b=some o/\H b=none
 bsz:base.objs.size<=s.heap.objs.size
 funs:s.heap.FunFrames base outer
 frf:∀b∈frs outer,H b=none
 hok:HOk P w H s.heap
 bare:AllBare s.gens
def CE(outer:List Env)(P:Program)(w:World)(H:Hp)(s:Shared)(Q:VK)(u:Value)(s':Shared):Prop:=
 ∃v H',s'.os=s.os/\AllBare s'.gens/\Un (frs outer) [] H H' s.heap s'.heap/\HOk P w H' s'.heap/\RelV v u/\Q v H'
def CR(CX:CXT)(outer:List Env)(P:Program)(w:World)(H:Hp)(s:Shared)(Q:VK)(E:XK)(r:Result)(s':Shared):Prop:=
 match r with
 | .ok (.ret u)=>CE outer P w H s Q u s'
 | .ok _=>False
 | .error e=>CX outer H s E e s'
structure FnOk(P:Program)(w:World)(K:PySem.W.Frag)(mg:Str->Option Value)(base:Heap)(CX:CXT)(k:Nat)(f:Addr)(fd:FuncData)(ps:List Str)(sp:Sp):Prop where
 len:∀vs H Q E,sp vs H Q E->vs.length=ps.length
 run:∀(A:Around) (outer:List Env) (s:Shared) (H:Hp) (args:Args) (us:List Value) (vs:List V) (Q:VK) (E:XK),Room k A->Env0 P w K mg base A outer s H->BindsTo s fd args (ps.zip us)->Vals vs us->sp vs H Q E->
  codeAny (model P w) A (.call (.ref f) args) (CR CX outer P w H s Q E) s
def FnOk.imp{P:Program}{w:World}{K:PySem.W.Frag}{mg:Str->Option Value}{base:Heap}{CX:CXT}{k:Nat}{f:Addr}{fd:FuncData}{ps:List Str}{sp sp':Sp}(F:FnOk P w K mg base CX k f fd ps sp)
  (h:∀vs H Q E,sp' vs H Q E->sp vs H Q E):FnOk P w K mg base CX k f fd ps sp':=
 ⟨λvs H Q E q=>F.len vs H Q E (h _ _ _ _ q),λA outer s H args us vs Q E hr he hb hv hs=>F.run A outer s H args us vs Q E hr he hb hv (h _ _ _ _ hs)⟩
def Env0.make{P:Program}{w:World}{K:PySem.W.Frag}{mg:Str->Option Value}{base:Heap}{A:Around}{outer:List Env}{s:Shared}{H:Hp}(e:Env0 P w K mg base A outer s H)(C:Addr)(us:List Value)(kw:List (Str×Value)) :
  Env0 P w K mg base (A.under (.builtin "type.__call__" ⟨.ref C::us,kw⟩)) outer s H:=⟨by first | exact e.frames | (simpa[Around.under,Code.envs,Code.isFrame,pushEnvs] using e.frames),e.mod,e.bs,e.bsz,e.funs,e.frf,e.hok,e.bare⟩
section
variable{X:Cx}{pins:List (Addr×Obj)}{σ:St}{H:Hp}{s s':Shared}
def Inv.env0(I:Inv X pins σ H s):Env0 X.prog X.w X.K X.mg X.base X.A X.stack s H:=
 ⟨I.ok.frames,I.ok.mod,I.bs,zQ I.ok.bsz I.sz,I.stack,I.stkFree,I.hok,I.bare⟩
def Inv.after{Q:VK}{u:Value}(I:Inv X pins σ H s)(h:CE X.stack X.prog X.w H s Q u s'):EP X pins σ Q u s':=by
 obtain⟨v,H',os,bare,un,hok,r,q⟩:=h;obtain⟨hh,g,d,t,os'⟩:=s';obtain rfl:os'=s.os:=os;exact⟨v,H',I.call (h':=hh) (g':=g) (d':=d) (t':=t) (ch:=[]) un hok bare (λb z=>absurd z (by simp)),r,q⟩
end
def zlg(sp:Sp)(dvs:List V)(E:XK)(t:TA):TE:=λσ H Q=>t σ H λvs H1=>sp (vs++dvs) H1 Q E
def zhW(C:Addr)(m:Str)(sp:Sp)(dvs:List V)(E:XK)(ta:TE)(t:TA):TE:=λσ H Q=>ta σ H λx H1=>∃a dx fs,x=.ref a/\H1 a=some (.ins C dx fs)/\fs.lookup m=none /\
 t σ H1 λvs H2=>sp (x::(vs++dvs)) H2 Q E
def zlc(C:Addr)(sp:Sp)(dvs:List V)(E:XK)(t:TA):TE:=λσ H Q=>t σ H λvs H1=>∀x dx,H1 x=none->H1 dx=none->dx≠x->
 sp (.ref x::(vs++dvs)) (upd (upd H1 dx (.own x)) x (.ins C dx [])) (λv H2=>v=.non/\Q (.ref x) H2) E
def Binds(K:PySem.W.Frag)(fd:FuncData)(ps:List Str)(ds:List Value):Prop:=
 ∀(s:Shared) (us:List Value),K.In s.heap->(us++ds).length=ps.length->BindsTo s fd ⟨us,[]⟩ (ps.zip (us++ds))
def Binds.all{K:PySem.W.Frag}{fd:FuncData}{ps:List Str}(h:∀us:List Value,us.length=ps.length->bindArgs fd ⟨us,[]⟩=pure (ps.zip us)):Binds K fd ps []:=λs us _ hl=>by
 rw[kh] at hl ⊢;exact .of_eq (h us hl)
def za5(CX:CXT)(X:Cx)(E:XK):Prop:=∀(pins:List (Addr×Obj)) (σ:St) (H:Hp) (s:Shared) (e:Value) (s':Shared),Inv X pins σ H s->CX X.stack H s E e s'->X.xe e s'
section
variable{X:Cx}{CX:CXT}{k:Nat}{f C:Addr}{fd:FuncData}{ps:List Str}{sp:Sp}{dvs:List V}{ds:List Value}{E:XK}{x m:Str}{p pos apos:Pos}{e o:Expr}{es:List Expr}{ta:TE}{t:TA}
def zcu{pins:List (Addr×Obj)}{σ:St}{H:Hp}{s:Shared}{Q:VK}{us:List Value}{vs:List V}(F:FnOk X.prog X.w X.K X.mg X.base CX k f fd ps sp)(hr:Room k X.A)(hb:Binds X.K fd ps ds)(hd:Vals dvs ds)(hx:za5 CX X E)
  (I:Inv X pins σ H s) (r:Vals vs us) (h:sp (vs++dvs) H Q E):wpAny (model X.prog X.w) X.A (call (.ref f) us) (EP X pins σ Q) X.xe s:=by
 have r2:Vals (vs++dvs) (us++ds):=r.append hd;have hl:(us++ds).length=ps.length:=by rw[<-r2.length]; exact F.len _ _ _ _ h
 refine wpAny_call (yF (F.run X.A X.stack s H ⟨us,[]⟩ (us++ds) (vs++dvs) Q E hr I.env0 (hb s us I.kIn hl) r2 h) λr s' hq=>?_);cases r with
 | error e=>exact hx pins σ H s e s' I hq
 | ok fl=>
  cases fl with
  | ret u=>exact I.after hq
  | next=>exact False.elim hq
  | brk=>exact False.elim hq
  | cont=>exact False.elim hq
def zlD(F:FnOk X.prog X.w X.K X.mg X.base CX k f fd ps sp)(hr:Room k X.A)(hg:Gl X x)(hm:X.mg x=some (.ref f))(hk:PySem.W.keepIn X.K (.ref f)=true)(hb:Binds X.K fd ps ds)(hd:Vals dvs ds)(hx:za5 CX X E)
  (ha:PA X (e::es) t) (hdb:(x==("__debug__":Str))=false:=by decide) (he:starEach (e::es) X.env=(false,eval e X.env)::starEach es X.env:=by rfl) (hpl:(backTo pos (starEach es X.env)).any (·.1)=false:=by rfl) :
  PE X (.Call (.Name x p) (e::es) [] pos) (zlg sp dvs E t):=by
 intro pins s σ H Q I h;refine jy (zcz I hg hm ?_ hdb);refine vK (h₀:=X.base) I.ok.mod.kin hk (thn (ha pos pins s σ H _ I h) λus s1 ⟨vs,H1,I1,r,q⟩=>⟨I1.kIn,?_⟩) he hpl;exact zcu F hr hb hd hx I1 r q
def zj6(F:FnOk X.prog X.w X.K X.mg X.base CX k f fd ps sp)(hr:Room k X.A)(hg:Gl X x)(hm:X.mg x=some (.ref f))(hk:PySem.W.keepIn X.K (.ref f)=true)(hb:Binds X.K fd ps ds)(hd:Vals dvs ds)(hx:za5 CX X E)
  (hdb:(x==("__debug__":Str))=false:=by decide):PE X (.Call (.Name x p) [] [] pos) (zlg sp dvs E tNil):=by
 intro pins s σ H Q I h;refine jy (zcz I hg hm ?_ hdb);exact xm I.kIn hk (zcu (us:=[]) F hr hb hd hx I .nil h)
def zmE{pl:Sem Bool}(he:PE X o ta)(c:Cls X.K C)(hm:Meth X.K C m f)(F:FnOk X.prog X.w X.K X.mg X.base CX k f fd ps sp)(hr:Room k X.A)(hb:Binds X.K fd ps ds)(hd:Vals dvs ds)(hx:za5 CX X E)(ha:PA X (e::es) t)
  (hst:starEach (e::es) X.env=(false,eval e X.env)::starEach es X.env:=by rfl) (hpl:(backTo pos (starEach es X.env)).any (·.1)=false:=by rfl)
  (ht:eval (.Call (.Attribute o m apos) (e::es) [] pos) X.env=(do
   let ov <-eval o X.env
   standAt apos.atName
   let (f,first) <-holding [ov] (getMethod ov m pl)
   callWith pos f first (backTo pos (starEach (e::es) X.env)) (backToKw pos (keywordEach [] X.env))):=by rfl) :
  PE X (.Call (.Attribute o m apos) (e::es) [] pos) (zhW C m sp dvs E ta t):=by
 intro pins s σ H Q I h;refine yR (pl:=pl) (thn (he pins s σ H _ I h) λu s1 ⟨x,H1,I1,rx,a,dx,fs,ex,ea,l,q⟩=>?_) ht;subst ex;obtain rfl:u=Value.ref a:=rx;refine zdH I1 ea c hm l ?_;refine vK (first:=[.ref a]) (h₀:=X.base) I.ok.mod.kin hm.kp (thn (ha pos pins s1 σ H1 _ I1 q) λus s2 ⟨vs,H2,I2,r,q2⟩=>⟨I2.kIn,?_⟩) hst hpl;exact zcu (us:=.ref a::us) (vs:=.ref a::vs) F hr hb hd hx I2 (.cons rfl r) q2
def zjE{pl:Sem Bool}(he:PE X o ta)(c:Cls X.K C)(hm:Meth X.K C m f)(F:FnOk X.prog X.w X.K X.mg X.base CX k f fd ps sp)(hr:Room k X.A)(hb:Binds X.K fd ps ds)(hd:Vals dvs ds)(hx:za5 CX X E)
  (ht:eval (.Call (.Attribute o m apos) [] [] pos) X.env=(do
   let ov <-eval o X.env
   standAt apos.atName
   let (f,first) <-holding [ov] (getMethod ov m pl)
   callWith pos f first (backTo pos (starEach [] X.env)) (backToKw pos (keywordEach [] X.env))):=by rfl) :
  PE X (.Call (.Attribute o m apos) [] [] pos) (zhW C m sp dvs E ta tNil):=by
 intro pins s σ H Q I h;refine yR (pl:=pl) (thn (he pins s σ H _ I h) λu s1 ⟨x,H1,I1,rx,a,dx,fs,ex,ea,l,q⟩=>?_) ht;subst ex;obtain rfl:u=Value.ref a:=rx;refine zdH I1 ea c hm l ?_;exact xm (first:=[.ref a]) I1.kIn hm.kp (zcu (us:=[.ref a]) (vs:=[.ref a]) F hr hb hd hx I1 (.cons rfl .nil) q)
structure Mk(K:PySem.W.Frag)(C f:Addr):Prop where
 makes:PySem.W.makesIn K C=true
 init:PySem.W.findIn K (.ref C) "__init__" = some (some (.ref f))
 fn:PySem.W.isFn K (.ref f)=true
 kp:PySem.W.keepIn K (.ref C)=true
def zjS{pins:List (Addr×Obj)}{σ:St}{H:Hp}{s:Shared}{Q:VK}{us:List Value}{vs:List V}(M:Mk X.K C f)(F:FnOk X.prog X.w X.K X.mg X.base CX k f fd ps sp)(hr:Room (k+1) X.A)(hb:Binds X.K fd ps ds)(hd:Vals dvs ds)
  (hx:za5 CX X E) (I:Inv X pins σ H s) (r:Vals vs us)
  (h:∀x dx,H x=none->H dx=none->dx≠x->sp (.ref x::(vs++dvs)) (upd (upd H dx (.own x)) x (.ins C dx [])) (λv H2=>v=.non/\Q (.ref x) H2) E) :
  wpAny (model X.prog X.w) X.A (call (.ref C) us) (EP X pins σ Q) X.xe s:=by
 have hq:=h (s.heap.objs.size+1) s.heap.objs.size (I.hok.fresh (vC _)) (I.hok.fresh (zj _)) (zW (jX _));have I2:=Inv.made (C:=C) I;have r2:Vals (V.ref (s.heap.objs.size+1)::(vs++dvs)) (Value.ref (s.heap.objs.size+1)::(us++ds)):=.cons rfl (r.append hd);have hl:(Value.ref (s.heap.objs.size+1)::us++ds).length=ps.length:=by
  have e:=r2.length;rw[F.len _ _ _ _ hq] at e;exact e.symm
 refine wpAny_call (zkR (f:=f) I.kIn M.makes M.init (qd.mp M.fn) (yF (F.run _ X.stack _ _ ⟨Value.ref (s.heap.objs.size+1)::us,[]⟩ (Value.ref (s.heap.objs.size+1)::(us++ds)) _ _ E (hr.make C us [])
  (I2.env0.make C us []) (hb _ (Value.ref (s.heap.objs.size+1)::us) I2.kIn hl) r2 hq) λr s' hq'=>?_))
 cases r with
 | error e=>exact hx pins σ _ _ e s' I2 hq'
 | ok fl=>
  cases fl with
  | ret u=>
   obtain⟨v,H',I3,rv,ev,q3⟩:=I2.after hq';subst ev;exact⟨rv,⟨V.ref (s.heap.objs.size+1),H',I3,rfl,q3⟩⟩
  | next=>exact False.elim hq'
  | brk=>exact False.elim hq'
  | cont=>exact False.elim hq'
def zlp(M:Mk X.K C f)(F:FnOk X.prog X.w X.K X.mg X.base CX k f fd ps sp)(hr:Room (k+1) X.A)(hg:Gl X x)(hm:X.mg x=some (.ref C))(hb:Binds X.K fd ps ds)(hd:Vals dvs ds)(hx:za5 CX X E)
  (ha:PA X (e::es) t) (hdb:(x==("__debug__":Str))=false:=by decide) (he:starEach (e::es) X.env=(false,eval e X.env)::starEach es X.env:=by rfl) (hpl:(backTo pos (starEach es X.env)).any (·.1)=false:=by rfl) :
  PE X (.Call (.Name x p) (e::es) [] pos) (zlc C sp dvs E t):=by
 intro pins s σ H Q I h;refine jy (zcz I hg hm ?_ hdb);refine vK (h₀:=X.base) I.ok.mod.kin M.kp (thn (ha pos pins s σ H _ I h) λus s1 ⟨vs,H1,I1,r,q⟩=>⟨I1.kIn,?_⟩) he hpl;exact zjS M F hr hb hd hx I1 r q
end
section
variable{X:Cx}{CX:CXT}{k:Nat}{f C:Addr}{fd:FuncData}{ps ks:List Str}{sp:Sp}{E:XK}{x m:Str}{p pos apos kpos:Pos}{e o:Expr}{es:List Expr}{kws:List Keyword}{te ta:TE}{t tk:TA}{nm:Option Str}
variable{g:List Value->List Value->List Value}{gV:List V->List V->List V}
end
structure FnScope(N P:List Str)(sc:Scope):Prop where
 kind:sc.kind=.function
 co:sc.isCoroutine=false
 gen:sc.isGenerator=false
 nd:N.Nodup
 pre:N.take P.length=P
 par:∀x∈P,sc.names.lookup x=some .local\/sc.names.lookup x=some .cell
 nofree:∀y∈sc.names,y.2≠.free
theorem zeu{kindOf:Str->Option NameKind}{x:Str}:∀{binds:List (Str×Value)} {m:Str->Option Value},(∀v,(x,v)∉binds)->bindL kindOf binds m x=m x
 | [],_,_=>rfl
 | (n,v)::r,m,h=>by
  unfold bindL;rw[zeu λw hw=>h w (zN _ hw)];split
  .have:x≠n:=by rintro rfl; exact h v zZ
   simp[this]
  .rfl
theorem zeq{kindOf:Str->Option NameKind}{x:Str}:∀{binds:List (Str×Value)} {m:Str->Option Value},(∀v,(x,v)∉binds)->bindC kindOf binds m x=m x
 | [],_,_=>rfl
 | (n,v)::r,m,h=>by
  unfold bindC;rw[zeq λw hw=>h w (zN _ hw)];split
  .rfl
  .have:x≠n:=by rintro rfl; exact h v zZ
   simp[this]
theorem zem{kindOf:Str->Option NameKind}{x:Str}{v:Value}:∀{P:List Str} {vs:List Value} {i:Nat} {m:Str->Option Value},P.Nodup->P[i]?=some x->vs[i]?=some v->kindOf x=some .local->
  bindL kindOf (P.zip vs) m x=some v
 | [],_,_,_,_,h,_,_=>by simp at h
 | _::_,[],_,_,_,_,h,_=>by simp at h
 | p::P,w::vs,0,m,nd,h1,h2,hk=>by
  simp at h1 h2; subst h1; subst h2;show bindL kindOf ((p,w)::P.zip vs) m p=_
  unfold bindL;rw[zeu λv hv=>(jz.mp nd).1 (qT hv).1,zX hk];simp
 | p::P,w::vs,i+1,m,nd,h1,h2,hk=>by
  show bindL kindOf ((p,w)::P.zip vs) m x=_
  unfold bindL;exact zem (i:=i) (jz.mp nd).2 (by simpa using h1) (by simpa using h2) hk
theorem zeM{kindOf:Str->Option NameKind}{x:Str}{v:Value}:∀{P:List Str} {vs:List Value} {i:Nat} {m:Str->Option Value},P.Nodup->P[i]?=some x->vs[i]?=some v->kindOf x≠some .local->
  bindC kindOf (P.zip vs) m x=some v
 | [],_,_,_,_,h,_,_=>by simp at h
 | _::_,[],_,_,_,_,h,_=>by simp at h
 | p::P,w::vs,0,m,nd,h1,h2,hk=>by
  simp at h1 h2; subst h1; subst h2;show bindC kindOf ((p,w)::P.zip vs) m p=_
  unfold bindC;rw[zeq λv hv=>(jz.mp nd).1 (qT hv).1,kO hk];simp
 | p::P,w::vs,i+1,m,nd,h1,h2,hk=>by
  show bindC kindOf ((p,w)::P.zip vs) m x=_
  unfold bindC;exact zeM (i:=i) (jz.mp nd).2 (by simpa using h1) (by simpa using h2) hk
def start(N:List Str)(vs:List V):St:=vs.map some++List.replicate (N.length-vs.length) none
def cxOf(CX:CXT)(P:Program)(w:World)(K:PySem.W.Frag)(mg:Str->Option Value)(base:Heap)(N:List Str)(qual:Str)(scope:Scope)(f:Addr)(cd:Value)(A:Around)(outer:List Env)(s:Shared)(H:Hp)(E:XK):Cx where
 prog:=P
 w:=w
 K:=K
 mg:=mg
 base:=base
 A:=A.deeper (envOfC qual scope s.heap.objs.size f cd)
 N:=N
 s₀:=s
 H₀:=H
 env:=envOfC qual scope s.heap.objs.size f cd
 outer:=outer
 stack:=envOfC qual scope s.heap.objs.size f cd::outer
 ex:=[]
 calm:=true
 fn:=λ_=>true
 pn:=[]
 xe:=λe s'=>wpAny (model P w) (A.deeper (envOfC qual scope s.heap.objs.size f cd)) (leaving (envOfC qual scope s.heap.objs.size f cd) e) (λ_ s''=>CX outer H s E e s'') (λe' s''=>CX outer H s E e' s'') s'
def zf7{sc:Scope}{n:Nat}{x:Str}(h:sc.names.lookup x=some .cell):∃c,(cellsFrom n sc.names []).lookup x=some c:=by
 have q:=yL sc.names n [] (.inl h);exact qe.mp q
def ziw{CX:CXT}{P:Program}{w:World}{K:PySem.W.Frag}{mg:Str->Option Value}{base:Heap}{N ps:List Str}{qual:Str}{scope:Scope}{f:Addr}{cd:Value}{A:Around}{outer:List Env}{s s1:Shared}{H:Hp}{E:XK}{us:List Value}{vs:List V}
  (S:FnScope N ps scope) (hd:A.handled=none) (e0:Env0 P w K mg base A outer s H) (hl:vs.length=ps.length) (r:Vals vs us)
  (x:InCallC s s.heap.objs.size (bindL (envOfC qual scope s.heap.objs.size f cd).kindOf (ps.zip us) λ_=>none) (cellsFrom (s.heap.objs.size+1) scope.names []) (bindC (envOfC qual scope s.heap.objs.size f cd).kindOf (ps.zip us) λ_=>none) s1) :
  Inv (cxOf CX P w K mg base N qual scope f cd A outer s H E) [] (start N vs) H s1:=by
 have hpl:ps.length<=N.length:=by have:=jW List.length S.pre; rw[qp] at this; omega
 obtain⟨h1,tk,rfl,hk⟩:=x.done;have noA:∀b:Addr,b∉(cxOf CX P w K mg base N qual scope f cd A outer s H E).ex:=λb z=>absurd (show b∈([]:List Addr) from z) (by simp)
 refine⟨⟨e0.mod,S.kind,rfl,rfl,zj _,λy z c h1 h2=>?_,λy hy=>?_,λy c _ h=>?_,λ_=>hd,Around.frames_deeper e0.frames,.inr ⟨rfl,rfl⟩,λb z=>absurd z (noA b),e0.bs,e0.bsz,λb _ _=>noA b,λb z=>absurd z (noA b),e0.funs,e0.frf⟩,
  rfl,e0.bare,Un.kept hk,⟨_,x.toInCall.ns,λi y v h1 h2 h3=>?_⟩,λy c h=>⟨_,x.cell y c h⟩,e0.hok.fresh (zj _),λy c h=>?_,λp hp=>absurd (show p∈([]:List (Addr×Obj)) from hp) (by simp),e0.hok.kept hk,?_⟩
 .exact name_of_addr x.apart (qN h1) (qN h2)
 .have hy:scope.names.lookup y=some .cell\/scope.names.lookup y=some .free:=hy
  rcases hy with hy | hy
  .exact zf7 hy
  .exact absurd rfl (S.nofree _ (qN hy))
 .exact wu (x.above y c (qN h))
 .have hi:i<vs.length:=by
   unfold start at h2;by_cases hi:i<vs.length
   .exact hi
   .rw[zE (by simpa using hi)] at h2
    rw[jY] at h2;split at h2<;>cases h2
  have ha:vs[i]?=some v:=by
   unfold start at h2;rw[zu (by simpa using hi),je] at h2;cases e:vs[i]? with
   | none=>rw[e] at h2; cases h2
   | some a=>rw[e] at h2; cases h2; rfl
  obtain⟨u,hu,rv⟩:=r.get ha;have hp:ps[i]?=some y:=by
   rw[<-S.pre,List.getElem?_take_of_lt ∅]; exact h1
  have ndP:ps.Nodup:=by rw[<-S.pre]; exact S.nd.sublist (List.take_sublist _ _)
  refine⟨u,rv,?_⟩;rcases S.par y (jF hp) with k | k
  .exact .inl ⟨k,zem ndP hp hu k⟩
  .obtain⟨c,e⟩:=zf7 (n:=s.heap.objs.size+1) k
   refine .inr ⟨.inl k,c,e,?_⟩;have q:=x.cell y c e;rw[zeM ndP hp hu (by show scope.names.lookup y≠_; rw[k]; decide)] at q;exact q
 .exact e0.hok.fresh (wu (x.above y c (qN h)))
 .unfold start
  show _=N.length
  rw[zF,zH,jK];omega
def zoZ{CX:CXT}{P:Program}{w:World}{K:PySem.W.Frag}{mg:Str->Option Value}{base:Heap}{k:Nat}{f:Addr}{name qual:Str}{params:Arguments}{body:List Stmt}{scope:Scope}{dV kV doc pm cdv ct oc:Value}{an od:Option Addr}
  {osl:Array (Option Value)} {N ps:List Str} {sp:Sp} (lk:K.lookup f=some ⟨oc,od,.func (PySem.W.fnOf name qual params body scope dV kV doc pm an cdv ct),osl⟩) (hcd:PySem.W.codeIn K cdv qual=true) (S:FnScope N ps scope)
  (len:∀vs H Q E,sp vs H Q E->vs.length=ps.length)
  (hbody:∀(A:Around) (outer:List Env) (s:Shared) (H:Hp) (vs:List V) (Q:VK) (E:XK),Room k (A.deeper (envOfC qual scope s.heap.objs.size f cdv))->sp vs H Q E->
   ∃t,PSs (cxOf CX P w K mg base N qual scope f cdv A outer s H E) body t/\t { nx:=λ_ H'=>Q .non H',rt:=Q } (start N vs) H) :
  FnOk P w K mg base CX (k+1) f (PySem.W.fnOf name qual params body scope dV kV doc pm an cdv ct) ps sp:=by
 refine⟨len,λA outer s H args us vs Q E hr e0 hb r hsp=>?_⟩;have hl:=len _ _ _ _ hsp;have KX:K.In s.heap:=e0.mod.kin.keeps λb o e=>(e0.bs b o e).1
 have lim:s.heap.NoLimit:=e0.mod.nolimit.keeps λb o e=>(e0.bs b o e).1
 have hkind:∀y∈ps.zip us,scope.names.lookup y.1=some .local\/(scope.names.lookup y.1=some .cell/\((cellsFrom (s.heap.objs.size+1) scope.names []).lookup y.1).isSome=true):=λ⟨n,v⟩ hy=>by
  rcases S.par n (qT hy).1 with q | q
  .exact .inl q
  .exact .inr ⟨q,yL _ _ _ (.inl q)⟩
 refine codeAny_call_function hr.depth (KX _ _ lk) rfl S.co S.gen rfl (PySem.W.codeRec_of KX hcd) (hb _ _ _ _ ?_);refine wpAny_newFunctionEnv_cells S.kind hkind λenv he s1 x=>?_
 subst he;refine⟨lim.keeps x.toInCall.keep,codeAny_func ?_⟩;obtain⟨t,ht,hq⟩:=hbody A outer s H vs Q E (hr.deeper _) hsp;have I:Inv (cxOf CX P w K mg base N qual scope f cdv A outer s H E) [] (start N vs) H s1:=ziw S hr.hd e0 hl r x;refine qM (ht [] s1 (start N vs) H _ I hq) (λfl s' hs=>?_) λe s' hs=>hs
 have fin:∀{σ':St} {H':Hp} {v:V} {u:Value},Inv (cxOf CX P w K mg base N qual scope f cdv A outer s H E) [] σ' H' s'->RelV v u->Q v H'->CE outer P w H s Q u s':=
  λ{σ' H' v u} J rv q=>⟨v,H',J.os,J.bare,J.base,J.hok,rv,q⟩
 cases fl with
 | ret u=>
  obtain⟨v,σ',H',J,rv,q⟩:=hs;exact fin J rv q
 | next=>
  obtain⟨σ',H',J,q⟩:=hs;exact fin (v:=V.non) (u:=Value.none) J rfl q
 | brk=>
  obtain⟨_,_,_,q⟩:=hs;exact False.elim q
 | cont=>
  obtain⟨_,_,_,q⟩:=hs;exact False.elim q
end L2
namespace L2
open PySem PySem.Spec PyProof.Rows
section
variable{X:Cx}{x:Str}{p pos:Pos}{e:Expr}{es:List Expr}{t:TA}{id T:String}{r:List V->Hp->VK->Prop}
def tCB(r:List V->Hp->VK->Prop)(t:TA):TE:=λσ H Q=>t σ H λvs H1=>r vs H1 Q
def zfO(hc:zad X (.builtin id) r)(hg:Gl X x)(hm:X.mg x=none)(hv:bootBuiltins x=some (.builtin id))(ha:PA X (e::es) t)(hn:x≠"__name__":=by decide)(hdb:(x==("__debug__":Str))=false:=by decide)
  (he:starEach (e::es) X.env=(false,eval e X.env)::starEach es X.env:=by rfl) (hpl:(backTo pos (starEach es X.env)).any (·.1)=false:=by rfl):PE X (.Call (.Name x p) (e::es) [] pos) (tCB r t):=by
 intro pins s σ H Q I h;refine jy (zaB I hg hm hv ?_ hn hdb);exact PyProof.Rows.callWith_builtin1 (thn (ha pos pins s σ H _ I h) λus s1 ⟨vs,H1,I1,r1,q1⟩=>hc pins s1 σ H1 vs us Q I1 r1 q1) he hpl
def zib(hc:zad X (.type T) r)(hg:Gl X x)(hm:X.mg x=none)(hv:bootBuiltins x=some (.type T))(ha:PA X (e::es) t)(hn:x≠"__name__":=by decide)(hdb:(x==("__debug__":Str))=false:=by decide)
  (he:starEach (e::es) X.env=(false,eval e X.env)::starEach es X.env:=by rfl) (hpl:(backTo pos (starEach es X.env)).any (·.1)=false:=by rfl):PE X (.Call (.Name x p) (e::es) [] pos) (tCB r t):=by
 intro pins s σ H Q I h;refine jy (zaB I hg hm hv ?_ hn hdb);exact jq (thn (ha pos pins s σ H _ I h) λus s1 ⟨vs,H1,I1,r1,q1⟩=>hc pins s1 σ H1 vs us Q I1 r1 q1) he hpl
end
end L2
namespace HT
open PySem PyProof.Rows
section
open PySem.SeqAt
open PySem.AutoSeq1 (wpAny_loadPart')
open PySem.MeetsSeq PySem.MeetsSeq2 PySem.MeetsSeq3
end
section
variable{prog:Program}{w:World}{A:Around}{E:Value->Shared->Prop}{s:Shared}
def cat_tup{t b:Addr}{vs ws:List Value}{Q:Value->Shared->Prop}(ht:IsTup s.heap t vs.toArray)(hb:IsTup s.heap b ws.toArray)(hv:vs≠[])
  (h1:ws=[]->Q (.ref t) s) (h2:ws≠[]->Q (.ref s.heap.objs.size) { s with heap:=s.heap.push { cls:=.type "tuple",data:=.seq (vs++ws).toArray } })
  (hsz:vs.length+ws.length<=sizeLine):wpAny (model prog w) A (binaryOp .Add (.ref t) (.ref b)) Q E s:=by
 obtain⟨⟨cls,dd,data,sl⟩,ho,hc,n,hd⟩:=id ht;obtain⟨⟨cls2,dd2,data2,sl2⟩,ho2,hc2,n2,hd2⟩:=id hb;simp only at hc hd hc2 hd2;subst hc hd hc2 hd2;have e:vs.toArray++ws.toArray=(vs++ws).toArray:=by simp
 by_cases hw:ws=[]
 .exact yE ⟨_,ho,rfl⟩ ⟨_,ho2,rfl⟩ yH seq_tuple_add wg vZ (vW _ _)
   (tuple_addW1 t b vs.toArray ws.toArray n n2 dd dd2 sl sl2 (by simpa using hv) (by simp[hw])) ⟨ho,ho2,h1 hw⟩
 .refine yE ⟨_,ho,rfl⟩ ⟨_,ho2,rfl⟩ yH seq_tuple_add wg vZ (vW _ _)
   (tuple_addW2 t b vs.toArray ws.toArray n n2 dd dd2 sl sl2 (by simpa using hv) (by simpa using hw) (by rw[zL,zL]; exact hsz)) ⟨ho,ho2,?_⟩
  rw[e];exact h2 hw
def sIx(n d:Nat):Option Int->Nat
 | none=>d
 | some v=>if v<0 then (v+(n:Int)).toNat else min v.toNat n
def zoB(n d:Nat)(hd:d<=n)(o:Option Int):sIx n d o<=n:=by
 cases o with
 | none=>exact hd
 | some v=>
  show(if v<0 then (v+(n:Int)).toNat else min v.toNat n)<=n
  by_cases hv:v<0
  .rw[zX hv]; omega
  .rw[kO hv]; exact Nat.min_le_right _ _
def zgH(v:Int)(n d:Nat):(if v<0 then max (v+(n:Int)) 0 else min v (n:Int))=((sIx n d (some v):Nat):Int):=by
 show(if v<0 then max (v+(n:Int)) 0 else min v (n:Int))=(((if v<0 then (v+(n:Int)).toNat else min v.toNat n):Nat):Int)
 by_cases hv:v<0
 .simp only[zX hv]; omega
 .simp only[kO hv]; omega
def zhX(lo hi:Option Int)(n:Nat):Builtin.Slice.sliceAdjust lo hi 1 (n:Int)=(((sIx n 0 lo:Nat):Int),((sIx n n hi:Nat):Int)):=by
 have h1:¬((1:Int)<0):=by omega
 unfold Builtin.Slice.sliceAdjust;simp only[h1,jm];refine Prod.ext ?_ ?_
 .cases lo with
  | none=>rfl
  | some v=>exact zgH v n 0
 .cases hi with
  | none=>rfl
  | some v=>exact zgH v n n
def zhs(i j:Nat):Builtin.Slice.slicePlaces (i:Int) (j:Int) 1=j-i:=by
 unfold Builtin.Slice.slicePlaces;have h1:(1:Int)>0:=by omega
 simp only[h1,kI,Int.ediv_one];split<;>omega
def zdA{v:Value}{o:Option Int}{Q:Option Int->Shared->Prop}(p:IsPart v o)(h:Q o s):wpAny (model prog w) A (Builtin.Slice.slicePartIndex v) Q E s:=by
 cases p with
 | none=>exact slicePart_none h
 | int i t=>exact slicePart_int h
def zbr{sl:Addr}{vl vu:Value}{lo hi:Option Int}{n:Nat}{Q:Int×Int×Nat->Shared->Prop}(hs:s.heap.IsSliceOf sl vl vu .none)(pl:IsPart vl lo)(pu:IsPart vu hi)
  (h:Q (((sIx n 0 lo:Nat):Int),1,sIx n n hi-sIx n 0 lo) s):wpAny (model prog w) A (Builtin.Slice.sliceApplied (.ref sl) (pure (n:Int))) Q E s:=by
 obtain⟨os,hos,hcs,hds⟩:=id hs;unfold Builtin.Slice.sliceApplied Builtin.Slice.sliceFields;refine za (za (jl hos hds (x:=vl) rfl (za (jl hos hds (x:=vu) rfl (za (jl hos hds (x:=.none) rfl (zr ?_)))))));refine za (slicePart_none ?_);show wpAny _ _ (if ((1:Int)==0)=true then _ else _) _ _ s
 rw[kO (by decide)];refine za (zdA pl (za (zdA pu (za (zr ?_)))));show wpAny _ _ (match Builtin.Slice.sliceAdjust lo hi 1 (n:Int) with | (lo,hi)=>pure (lo,(1:Int),Builtin.Slice.slicePlaces lo hi 1)) _ _ s
 rw[zhX lo hi n];show wpAny _ _ (pure (((sIx n 0 lo:Nat):Int),(1:Int),Builtin.Slice.slicePlaces ((sIx n 0 lo:Nat):Int) ((sIx n n hi:Nat):Int) 1)) _ _ s
 rw[zhs];exact zr h
def zkM(xs:Array Value)(i k:Nat):((List.range k).filterMap λ(m:Nat)=>xs[((i:Int)+(m:Int)*1).toNat]?).toArray=((xs.toList.drop i).take k).toArray:=by
 have e:(λ(m:Nat)=>xs[((i:Int)+(m:Int)*1).toNat]?)=λm=>xs[i+m]?:=by
  funext m
  have:((i:Int)+(m:Int)*1).toNat=i+m:=by omega
  rw[this]
 rw[e];have:=pick_run xs i k;rw[List.filterMap_map] at this;have e2:((λx=>xs[x]?)∘λx=>i+x)=λm=>xs[i+m]?:=rfl
 rw[e2] at this;rw[this]
def getItem_tuple_cut{t sl:Addr}{items:Array Value}{vl vu:Value}{lo hi:Option Int}{Q:Value->Shared->Prop}(ht:IsTup s.heap t items)(hs:s.heap.IsSliceOf sl vl vu .none)(pl:IsPart vl lo)(pu:IsPart vu hi)
  (hw:¬(sIx items.size 0 lo=0/\sIx items.size items.size hi=items.size))
  (h:Q (.ref s.heap.objs.size) { s with heap:=s.heap.push { cls:=.type "tuple",data:=.seq ((items.toList.drop (sIx items.size 0 lo)).take (sIx items.size items.size hi-sIx items.size 0 lo)).toArray } })
  (hsz:items.size<=sizeLine):wpAny (model prog w) A (getItem (.ref t) (.ref sl)) Q E s:=by
 have htake:sizeOk (.seq ((items.toList.drop (sIx items.size 0 lo)).take (sIx items.size items.size hi-sIx items.size 0 lo)).toArray):=by
  show((items.toList.drop (sIx items.size 0 lo)).take (sIx items.size items.size hi-sIx items.size 0 lo)).toArray.size<=sizeLine
  rw[zL,qp,qL,wO];omega
 have hj:sIx items.size items.size hi<=items.size:=zoB _ _ (zj _) hi;obtain⟨os,hos,hcs,hds⟩:=id hs;have hTs:s.TypeIs (.ref sl) "slice":=⟨os,hos,hcs⟩;unfold getItem;try with_reducible refine jc ?_
 first | refine za (zr ?_) | skip
 refine za (wpAny_sequenceKey ht.typeIs (by decide) ?_)
 refine za (jo (name:=Str.ofString "__getitem__") ht.typeIs jD
  (jx jD ht.typeIs entry_tuple_getitem ?_ (args_tuple_getitem _ _)))
 show wpAny _ _ (Builtin.Tuple.tupleItemsOf (.ref t) >>= _) _ _ s
 refine za (ye ht ?_);refine za (j7 hTs ?_);rw[zX (by decide)];refine za (zbr hs pl pu ?_);have hno:¬((((sIx items.size 0 lo:Nat):Int)==0&&(1:Int)==1&&(sIx items.size items.size hi-sIx items.size 0 lo)==items.size)=true):=by
  intro q;rw[zx,zx] at q;have q1:((sIx items.size 0 lo:Nat):Int)=0:=eq_of_beq q.1.1;have q2:sIx items.size items.size hi-sIx items.size 0 lo=items.size:=eq_of_beq q.2;exact hw ⟨by omega,by omega⟩
 show wpAny _ _ (if (((sIx items.size 0 lo:Nat):Int)==0&&(1:Int)==1&&(sIx items.size items.size hi-sIx items.size 0 lo)==items.size)=true then _ else _) _ _ s
 rw[kO hno,zkM];first
  | exact za (m:=Builtin.Tuple.tupleExact _) (jn (zr ⟨_,rfl,zr h⟩) htake)
  | exact za (m:=Builtin.Tuple.tupleExact _) (jn (za (zr (zr ⟨_,rfl,zr h⟩))) htake)
  | exact za (za (m:=Builtin.Tuple.tupleExact _) (jn (zr (zr ⟨_,rfl,zr h⟩)) htake))
  | exact za (za (m:=Builtin.Tuple.tupleExact _) (jn (zr ⟨_,rfl,zr h⟩) htake))
end
end HT
namespace L2
open PySem PySem.Spec PyProof.Rows
abbrev TO:=St->Hp->(Option Int->Hp->Prop)->Prop
def PO(X:Cx)(e:Option Expr)(t:TO):Prop:=
 ∀(pins:List (Addr×Obj)) (s:Shared) (σ:St) (H:Hp) (Q:Option Int->Hp->Prop),Inv X pins σ H s->t σ H Q->
  wpAny (model X.prog X.w) X.A (evalPart e X.env) (λu s'=>∃o H',Inv X pins σ H' s'/\IsPart u o/\Q o H') X.xe s
def zmi:TO:=λ_ H Q=>Q none H
def zpn(t:TE):TO:=λσ H Q=>t σ H λx H1=>∃i,x=.int i/\Q (some i) H1
section
variable{X:Cx}{e:Expr}{te:TE}{lo hi:Option Expr}{tl th:TO}{pos p2:Pos}
def zmf:PO X none zmi:=by
 intro pins s σ H Q I h;rw[evalPart_none];exact zr ⟨none,H,I,.none,h⟩
def zli(h:PE X e te):PO X (some e) (zpn te):=by
 intro pins s σ H Q I hw;rw[evalPart_some];refine thn (h pins s σ H _ I hw) λu s1 ⟨x,H1,I1,r1,q1⟩=>?_
 obtain⟨i,rfl,q⟩:=q1;obtain⟨t,rfl⟩:=r1;exact⟨some i,H1,I1,.int i t,q⟩
def SlR(X:Cx)(r:V->Option Int->Option Int->Hp->VK->Prop):Prop:=
 ∀(pins:List (Addr×Obj)) (s:Shared) (σ:St) (H:Hp) (x:V) (v vl vu:Value) (lo hi:Option Int) (sl:Addr) (Q:VK),Inv X pins σ H s->RelV x v->s.heap.IsSliceOf sl vl vu .none->IsPart vl lo->IsPart vu hi->r x lo hi H Q->
  ∃T id,typeLookup (.type T) "__getitem__" = pure (some (.builtin id))/\s.TypeIs v T/\wpAny (model X.prog X.w) X.A (getItem v (.ref sl)) (EP X pins σ Q) X.xe s
def tSl(r:V->Option Int->Option Int->Hp->VK->Prop)(te:TE)(tl th:TO):TE:=λσ H Q=>te σ H λx H1=>tl σ H1 λl H2=>th σ H2 λu H3=>r x l u H3 Q
def zjv{r:V->Option Int->Option Int->Hp->VK->Prop}(hr:SlR X r)(he:PE X e te)(hl:PO X lo tl)(hu:PO X hi th):PE X (.Subscript e (.Slice lo hi none p2) pos) (tSl r te tl th):=by
 intro pins s σ H Q I h;refine Subscript_ (thn (he pins s σ H _ I h) λv s1 ⟨x,H1,I1,r1,q1⟩=>?_);refine wpAny_Slice (thn (hl pins s1 σ H1 _ I1 q1) λvl s2 ⟨l,H2,I2,pl,q2⟩=>thn (hu pins s2 σ H2 _ I2 q2) λvu s3 ⟨u,H3,I3,pu,q3⟩=>?_);rw[evalPart_none];refine zr ?_;have I4:Inv X pins σ H3 { s3 with heap:=s3.heap.push { cls:=.type "slice",data:=.fields #[vl,vu,.none] } }:=I3.kept (t':=s3.toks) λb ob q=>zf _ q
 obtain⟨T,id,hT,ht,hg⟩:=hr pins { s3 with heap:=s3.heap.push { cls:=.type "slice",data:=.fields #[vl,vu,.none] } } σ H3 x v vl vu l u s3.heap.objs.size Q I4 r1 (Heap.IsSliceOf.new ..) pl pu q3;show wpAny (model X.prog X.w) X.A (subscriptTail e (.Slice lo hi none p2) v (.ref s3.heap.objs.size)) (EP X pins σ Q) X.xe { s3 with heap:=s3.heap.push { cls:=.type "slice",data:=.fields #[vl,vu,.none] } }
 exact tail_any (ops:=[.ref s3.heap.objs.size,v]) ht hT hg (by with_unfolding_all rfl)
def cutV(xs:List V)(lo hi:Option Int):List V:=(xs.drop (HT.sIx xs.length 0 lo)).take (HT.sIx xs.length xs.length hi-HT.sIx xs.length 0 lo)
def zcZ(xs:List V)(lo hi:Option Int):(cutV xs lo hi).length<=xs.length:=by
 unfold cutV;rw[qp,qL];omega
def rSlT(K:PySem.W.Frag):V->Option Int->Option Int->Hp->VK->Prop:=λx lo hi H Q=>∃a xs,x=.ref a/\SqT K H a xs /\
 ¬(HT.sIx xs.length 0 lo=0/\HT.sIx xs.length xs.length hi=xs.length)/\∀p,H p=none->Q (.ref p) (upd H p (.tup (cutV xs lo hi)))
def zos:SlR X (rSlT X.K):=by
 intro pins s σ H x v vl vu lo hi sl Q I rx hs pl pu h;obtain⟨a,xs,rfl,hx,hw,q⟩:=h;cases rx;obtain⟨its,r,ht,hz⟩:=I.tuple hx;have hlen:its.toArray.size=xs.length:=by rw[zL]; exact r.length.symm
 refine⟨"tuple",_,jD.lookup,ht.typeIs,?_⟩;refine HT.getItem_tuple_cut ht hs pl pu (by rw[hlen]; exact hw) ?_ (by rw[hlen]; exact hz);rw[hlen];refine⟨.ref s.heap.objs.size,_,I.laid (t':=s.toks) (o:=.tup (cutV xs lo hi)) (λb ob q=>zf _ q) (zj _) ?_,rfl,q _ (I.hok.fresh (zj _))⟩;exact⟨zQ (zcZ xs lo hi) hz,_,(r.drop (HT.sIx xs.length 0 lo)).take (HT.sIx xs.length xs.length hi-HT.sIx xs.length 0 lo),IsTup.new _ _,.new _ _⟩
def zpi(K:PySem.W.Frag):R2:=λx y H Q=>∃a b xs ys,x=.ref a/\y=.ref b/\SqT K H a xs/\SqT K H b ys/\xs≠[]/\xs.length+ys.length<=sizeLine /\
 (ys=[]->Q (.ref a) H)/\(ys≠[]->∀p,H p=none->Q (.ref p) (upd H p (.tup (xs++ys))))
def Vals.nil_iff{xs:List V}{us:List Value}(r:Vals xs us):us=[]↔xs=[]:=by
 cases r with
 | nil=>simp
 | cons _ _=>simp
def zls:OpR X (binaryOp .Add) (zpi X.K):=by
 intro pins s σ H x y v u Q I rx ry h;obtain⟨a,b,xs,ys,rfl,rfl,ha,hb,hx,hz,q1,q2⟩:=h;cases rx;cases ry;obtain⟨its,r1,p1,_⟩:=I.tuple ha;obtain⟨its2,r2,p2,_⟩:=I.tuple hb;refine HT.cat_tup p1 p2 (λz=>hx (r1.nil_iff.mp z)) (λz=>⟨.ref a,H,I,rfl,q1 (r2.nil_iff.mp z)⟩) (λz=>?_) (by rw[<-r1.length,<-r2.length]; exact hz);refine⟨.ref s.heap.objs.size,_,I.laid (t':=s.toks) (o:=.tup (xs++ys)) (λb ob q=>zf _ q) (zj _) ?_,rfl,q2 (λw=>z (r2.nil_iff.mpr w)) _ (I.hok.fresh (zj _))⟩;exact⟨by rw[zF]; exact hz,_,r1.append r2,IsTup.new _ _,.new _ _⟩
end
end L2
namespace L2
open PySem PySem.Spec PyProof.Rows
def ixN(n:Nat)(i:Int):Option Nat:=if 0<=i then (if i<n then some i.toNat else none) else if -(n:Int)<=i then some (i+n).toNat else none
def atI{α:Type}(xs:List α)(i:Int):Option α:=(ixN xs.length i).bind λj=>xs[j]?
def zgJ{n:Nat}{i:Int}{j:Nat}(h:ixN n i=some j):seqIndex? i n=some j/\j<n/\-(n:Int)<=i/\i<n:=by
 unfold ixN at h;by_cases h0:0<=i
 .rw[zX h0] at h
  by_cases h1:i<n
  .rw[zX h1] at h
   have e:i.toNat=j:=kj h;exact⟨by rw[seqIndex_of h0 h1,e],by omega,by omega,h1⟩
  .rw[kO h1] at h; cases h
 .rw[kO h0] at h
  by_cases h1:-(n:Int)<=i
  .rw[zX h1] at h
   have e:(i+n).toNat=j:=kj h;exact⟨by rw[seqIndex_neg ∅ h1,e],by omega,h1,by omega⟩
  .rw[kO h1] at h; cases h
def zd5{α:Type}{xs:List α}{i:Int}{v:α}(h:atI xs i=some v):∃j,seqIndex? i xs.length=some j/\xs[j]?=some v/\j<xs.length/\-(xs.length:Int)<=i/\i<xs.length:=by
 unfold atI at h;cases e:ixN xs.length i with
 | none=>rw[e] at h; cases h
 | some j=>
  rw[e] at h;obtain⟨h1,h2,h3,h4⟩:=zgJ e;exact⟨j,h1,h,h2,h3,h4⟩
def zgV{α:Type}{xs:List α}{j:Nat}{v:α}(h:xs[j]?=some v):atI xs (j:Int)=some v:=by
 have hj:j<xs.length:=(zU.mp h).1;have e:ixN xs.length (j:Int)=some j:=by
  unfold ixN;rw[zX ∅,zX ∅]; simp
 unfold atI; rw[e]; exact h
def zj1{α:Type}(xs:List α)(v:α):atI (xs++[v]) (-1)=some v:=by
 have hl:(xs++[v]).length=xs.length+1:=by simp
 have e:ixN (xs++[v]).length (-1)=some xs.length:=by
  unfold ixN;rw[hl,kO (by decide),zX ∅];congr 1
  omega
 unfold atI;rw[e];show(xs++[v])[xs.length]?=some v
 simp
def zaR(b:Expr):Prop:=∀o i,subscripted b false o i=operate [o,i] (getItem o i)
def IxR(X:Cx)(r:R2):Prop:=
 ∀(value slice:Expr) (pins:List (Addr×Obj)) (s:Shared) (σ:St) (H:Hp) (x y:V) (v u:Value) (Q:VK),Inv X pins σ H s->RelV x v->RelV y u->r x y H Q->
  subscripted slice false v u=operate [v,u] (getItem v u)->wpAny (model X.prog X.w) X.A (subscriptTail value slice v u) (EP X pins σ Q) X.xe s
def MtR(X:Cx)(id:String)(r:V->List V->Hp->VK->Prop):Prop:=
 ∀(pins:List (Addr×Obj)) (s:Shared) (σ:St) (H:Hp) (x:V) (xs:List V) (v:Value) (us:List Value) (Q:VK),Inv X pins σ H s->RelV x v->Vals xs us->r x xs H Q->
  wpAny (model X.prog X.w) X.A (call (.builtin id) (v::us)) (EP X pins σ Q) X.xe s
section
variable{X:Cx}{a b:Expr}{ta tb:TE}{pos:Pos}
def zhD{r:R2}(hr:IxR X r)(ha:PE X a ta)(hb:PE X b tb)(hs:zaR b):PE X (.Subscript a b pos) (tOp r ta tb):=by
 intro pins s σ H Q I h;exact Subscript_ (binT ha hb I h λv u s2 x y H2 I2 rx ry q=>hr a b pins s2 σ H2 x y v u Q I2 rx ry q (hs _ _))
def rIxL(K:PySem.W.Frag):R2:=λx y H Q=>∃p xs i v,x=.ref p/\y=.int i/\SqL K H p xs/\atI xs i=some v/\Q v H
def rIxT(K:PySem.W.Frag):R2:=λx y H Q=>∃p xs i v,x=.ref p/\y=.int i/\SqT K H p xs/\atI xs i=some v/\Q v H
def rIxS:R2:=λx y H Q=>∃z i c,x=.str z/\y=.int i/\z.length<=sizeLine/\atI z.cps.toList i=some c/\Q (.str ⟨#[c]⟩) H
def zmZ:IxR X (rIxL X.K):=by
 intro value slice pins s σ H x y v u Q I rx ry h hs;obtain⟨p,xs,i,z,rfl,rfl,hq,he,q⟩:=h;cases rx;obtain⟨t,rfl⟩:=ry;obtain⟨its,r,pl,hz⟩:=I.list hq;obtain⟨j,h1,h2,h3,h4,h5⟩:=zd5 he;obtain⟨w,ew,rw'⟩:=r.get h2;have hl:=r.length;have hn:=zck;have fin:EP X pins σ Q w s:=⟨z,H,I,rw',q⟩;by_cases h0:0<=i
 .have hj:i.toNat=j:=by
   rw[seqIndex_of h0 h5] at h1;exact kj h1
  exact item_listR pl.isList h0 ∅ (by rw[hj]; simpa using ew) fin hs
 .have hj:(i+(its.toArray.size:Int)).toNat=j:=by
   rw[seqIndex_neg ∅ h4] at h1;rw[zL,<-hl];exact kj h1
  exact subscriptTail_builtinR (x:=w) pl.isList.typeIs slot_list_getitem.lookup
   (wpAny_getItem_list_neg (Q:=λr s'=>r=w/\EP X pins σ Q r s') pl.isList ∅ (by rw[zL]<;>omega) ∅ (by rw[hj]; simpa using ew) ⟨rfl,fin⟩) hs
def zga:IxR X (rIxT X.K):=by
 intro value slice pins s σ H x y v u Q I rx ry h hs;obtain⟨p,xs,i,z,rfl,rfl,hq,he,q⟩:=h;cases rx;obtain⟨t,rfl⟩:=ry;obtain⟨its,r,pl,hz⟩:=I.tuple hq;obtain⟨j,h1,h2,h3,h4,h5⟩:=zd5 he;obtain⟨w,ew,rw'⟩:=r.get h2;have hl:=r.length;have hn:=zck;have fin:EP X pins σ Q w s:=⟨z,H,I,rw',q⟩;exact subscriptTail_builtinR (x:=w) pl.typeIs jD.lookup
  (getItem_tuple (j:=j) (Q:=λr s'=>r=w/\EP X pins σ Q r s') pl ∅ ∅ (by rw[zL,<-hl]; exact h1) (by simpa using ew) ⟨rfl,fin⟩) hs
def zoF:IxR X rIxS:=by
 intro value slice pins s σ H x y v u Q I rx ry h hs;obtain⟨z,i,c,rfl,rfl,hz,he,q⟩:=h;obtain⟨t,rfl⟩:=rx;obtain⟨t',rfl⟩:=ry;obtain⟨j,h1,h2,h3,h4,h5⟩:=zd5 he;have hl:z.cps.toList.length=z.length:=by simp[Str.length]
 rw[hl] at h1 h4 h5;have hn:=zck
 exact tail_any (typeIs_str s z t) slot_str_getitem.lookup (getItem_str (c:=c) (by
  have e1:decide (i < -(2 ^ 63:Int))=false:=jL ∅;have e2:decide (i>=2 ^ 63)=false:=jL ∅
  rw[e1,e2,Bool.or_false]) (by rw[h1]; simpa using h2) ⟨.str ⟨#[c]⟩,H,I.tok _,⟨_,rfl⟩,q⟩) hs
def zhc(its:List Value)(n j:Nat)(u:Value):Obj.mapSeq (·.setIfInBounds j u) { cls:=.type "list",data:=.seq its.toArray n }={ cls:=.type "list",data:=.seq (its.set j u).toArray n }:=by
 simp[Obj.mapSeq]
theorem Inv.lst{pins:List (Addr×Obj)}{σ:St}{H:Hp}{s:Shared}{p:Addr}{xs:List V}(I:Inv X pins σ H s)(h:H p=some (.lst xs)) :
  ∃(its:List Value) (n:Nat),Vals xs its/\s.heap.get? p=some { cls:=.type "list",data:=.seq its.toArray n }/\xs.length<=sizeLine:=by
 obtain⟨z,its,n,r,e⟩:=I.hok p _ h;exact⟨its,n,r,e,z⟩
def Inv.lstUpd{pins:List (Addr×Obj)}{σ:St}{H:Hp}{s:Shared}{p:Addr}{xs ys:List V}{its its':List Value}{n n':Nat}{f:Obj->Obj}(I:Inv X pins σ H s)(h:H p=some (.lst xs))
  (ho:s.heap.get? p=some { cls:=.type "list",data:=.seq its.toArray n }) (hf:f { cls:=.type "list",data:=.seq its.toArray n }={ cls:=.type "list",data:=.seq its'.toArray n' }) (r:Vals ys its') (hz:ys.length<=sizeLine) (t:Nat) :
  Inv X pins σ (upd H p (.lst ys)) { s with heap:=s.heap.update p f,toks:=t }:=by
 have e:(s.heap.update p f).get? p=some { cls:=.type "list",data:=.seq its'.toArray n' }:=by
  rw[jP f ho (by rw[hf]<;>rfl),hf]
 refine I.write (x:=p) (e:=p) (by rw[h]; trivial) (.inl rfl) (λb u hb q=>(qC _ _ (kY hb)).trans q) ⟨_,e⟩ ?_;exact⟨hz,its',n',r,e⟩
def zpz:V->V->V->Hp->(Hp->Prop)->Prop:=λo i v H Q=>∃p xs k j,o=.ref p/\i=.int k/\H p=some (.lst xs)/\ixN xs.length k=some j/\Q (upd H p (.lst (xs.set j v)))
def set_list:PSet X zpz:=by
 intro pins s σ H o i v ov iv u Q I ro ri rv h;obtain⟨p,xs,k,j,rfl,rfl,hp,hj,q⟩:=h;cases ro;obtain⟨t,rfl⟩:=ri;obtain⟨its,n,r,ho,hz⟩:=I.lst hp;obtain⟨h1,h2,h3,h4⟩:=zgJ hj;have hl:=r.length;have hn:=zck;have I':Inv X pins σ (upd H p (.lst (xs.set j v))) { s with heap:=s.heap.update p (Obj.mapSeq (·.setIfInBounds j u)) }:=
  I.lstUpd hp ho (zhc its n j u) (r.set rv j) (by rw[jb]; exact hz) s.toks
 by_cases h0:0<=k
 .have hk:k.toNat=j:=by
   rw[seqIndex_of h0 h4] at h1;exact kj h1
  exact PySem.W.ki_setAt ho h0 ∅ (by rw[zL,<-hl]; exact h4) (by rw[hk]; exact⟨_,I',q⟩)
 .have hk:(k+(its.toArray.size:Int)).toNat=j:=by
   rw[seqIndex_neg ∅ h3] at h1;rw[zL,<-hl];exact kj h1
  exact PySem.W.ki_setBack ho ∅ (by rw[zL,<-hl]; exact h3) ∅ (by rw[hk]; exact⟨_,I',q⟩)
def zfW(lo hi:Option Int)(n:Nat):(sliceBounds lo hi none n).1=((HT.sIx n 0 lo:Nat):Int)/\(sliceBounds lo hi none n).2.1=((HT.sIx n n hi:Nat):Int)/\(sliceBounds lo hi none n).2.2=1:=by
 refine⟨?_,?_,rfl⟩
 .cases lo with
  | none=>simp[sliceBounds,HT.sIx]
  | some i=>
   simp only[sliceBounds,HT.sIx,Option.getD_none,show(1:Int)>0 by decide,kI];by_cases h:i<0
   .simp only[h,kI]<;>omega
   .simp only[h,jm]<;>omega
 .cases hi with
  | none=>simp[sliceBounds,HT.sIx]
  | some i=>
   simp only[sliceBounds,HT.sIx,Option.getD_none,show(1:Int)>0 by decide,kI];by_cases h:i<0
   .simp only[h,kI]<;>omega
   .simp only[h,jm]<;>omega
theorem zeN(its:List Value)(lo hi:Option Int):slicePick its.toArray lo hi none=((its.drop (HT.sIx its.length 0 lo)).take (HT.sIx its.length its.length hi-HT.sIx its.length 0 lo)).toArray:=by
 obtain⟨h1,h2,h3⟩:=zfW lo hi its.toArray.size;unfold slicePick;rw[h1,h2,h3];simp only[sliceRange_one,pick_run,zL]<;>rfl
def rSlL(K:PySem.W.Frag):V->Option Int->Option Int->Hp->VK->Prop:=λx lo hi H Q=>∃a xs,x=.ref a/\SqL K H a xs/\∀p,H p=none->Q (.ref p) (upd H p (.lst (cutV xs lo hi)))
def zlT:SlR X (rSlL X.K):=by
 intro pins s σ H x v vl vu lo hi sl Q I rx hs pl pu h;obtain⟨a,xs,rfl,hx,q⟩:=h;cases rx;obtain⟨its,r,ht,hz⟩:=I.list hx;have hlen:=r.length;refine⟨"list",_,slot_list_getitem.lookup,ht.isList.typeIs,?_⟩;refine wpAny_getItem_list_slice ht.isList hs pl pu .none (by simp) ?_ (by rw[zL]<;>omega);rw[zeN,<-hlen];refine⟨.ref s.heap.objs.size,_,I.laid (t':=s.toks) (o:=.lst (cutV xs lo hi)) (λb ob q=>zf _ q) (zj _) ?_,rfl,q _ (I.hok.fresh (zj _))⟩;exact⟨zQ (zcZ xs lo hi) hz,_,0,(r.drop (HT.sIx xs.length 0 lo)).take (HT.sIx xs.length xs.length hi-HT.sIx xs.length 0 lo),zT _ rfl⟩
def zco:zad X (.builtin "len") (λxs H Q=>∃p ys,xs=[.ref p]/\(SqL X.K H p ys\/SqT X.K H p ys)/\Q (.int ys.length) H):=by
 intro pins s σ H xs us Q I r h;obtain⟨p,ys,rfl,hq,q⟩:=h;obtain⟨u,rfl,rx⟩:=vals1 r;cases rx;have hn:=zck;rcases hq with hq | hq
 .obtain⟨its,r',pl,hz⟩:=I.list hq
  have hlen:=r'.length;exact Calls.call_len_list pl.isList (by simp only[zL]<;>omega) ⟨.int ys.length,H,I.tok _,⟨s.toks+1,by rw[zL,hlen]⟩,q⟩
 .obtain⟨its,r',pl,hz⟩:=I.tuple hq
  have hlen:=r'.length;exact len_tuple pl (by simp only[zL]<;>omega) ⟨.int ys.length,H,I.tok _,⟨s.toks+1,by rw[zL,hlen]⟩,q⟩
def zfv:zad X (.type "list") (λxs H Q=>∃p ys,xs=[.ref p]/\(SqL X.K H p ys\/SqT X.K H p ys)/\∀l,H l=none->Q (.ref l) (upd H l (.lst ys))):=by
 intro pins s σ H xs us Q I r h;obtain⟨p,ys,rfl,hq,q⟩:=h;obtain⟨u,rfl,rx⟩:=vals1 r;cases rx;have fin:∀(its:List Value),Vals ys its->ys.length<=sizeLine->∀(h':Heap) (c':Nat),(∀b o',s.heap.get? b=some o'->h'.get? b=some o')->
   h'.get? s.heap.objs.size=some { cls:=.type "list",dict:=none,data:=.seq its.toArray c',slots:=#[] }->EP X pins σ Q (.ref s.heap.objs.size) { s with heap:=h' }:=λits r' hz h' c' kp e=>
  ⟨.ref s.heap.objs.size,_,I.laid (t':=s.toks) kp (zj _) (show ObjOk X.prog X.w _ h' _ (.lst ys) from ⟨hz,its,c',r',e⟩),rfl,q _ (I.hok.fresh (zj _))⟩
 rcases hq with hq | hq
 .obtain⟨its,r',pl,hz⟩:=I.list hq
  have hlen:=r'.length;obtain⟨o,ho,hc,n,hd⟩:=pl.isList;exact call_list_seq p (.inl rfl) ho hc hd (λh' c' kp e=>fin its r' hz h' c' kp e) (by simp only[zL]<;>omega)
 .obtain⟨its,r',pl,hz⟩:=I.tuple hq
  have hlen:=r'.length;obtain⟨o,ho,hc,n,hd⟩:=pl;exact call_list_seq p (.inr rfl) ho hc hd (λh' c' kp e=>fin its r' hz h' c' kp e) (by simp only[zL]<;>omega)
def zcf:zad X (.type "tuple") (λxs H Q=>∃p ys,xs=[.ref p]/\((SqL X.K H p ys/\∀l,H l=none->Q (.ref l) (upd H l (.tup ys)))\/(SqT X.K H p ys/\Q (.ref p) H))):=by
 intro pins s σ H xs us Q I r h;obtain⟨p,ys,rfl,h⟩:=h;obtain⟨u,rfl,rx⟩:=vals1 r;cases rx;rcases h with ⟨hq,q⟩ | ⟨hq,q⟩
 .obtain⟨its,r',pl,hz⟩:=I.list hq
  have hlen:=r'.length;refine call_tuple_list pl.isList (λh' kp=>?_) (by simp only[zL]<;>omega);have I1:Inv X pins σ H { s with heap:=h' }:=I.kept (t':=s.toks) kp;have I2:Inv X pins σ (upd H h'.objs.size (.tup ys)) { s with heap:=h'.push { cls:=.type "tuple",data:=.seq its.toArray } }:=
   I1.laid (t':=s.toks) (λb o e=>zf _ e) (zj _) (show ObjOk X.prog X.w _ _ _ (.tup ys) from ⟨hz,its,r',IsTup.new _ _,.new _ _⟩)
  exact⟨.ref h'.objs.size,_,I2,rfl,q _ (I1.hok.fresh (zj _))⟩
 .obtain⟨its,r',pl,hz⟩:=I.tuple hq
  exact call_tuple_same pl ⟨.ref p,H,I,rfl,q⟩
def tyV(K:PySem.W.Frag)(T:String)(x:V)(H:Hp):Prop:=match x with
 | .str _=>T="str"
 | .int _=>T="int"
 | .ref p=>(T="list" /\ ∃xs,SqL K H p xs)\/(T="tuple" /\ ∃o,K.lookup p=some o/\o.cls=.type "tuple" /\ o.dict=none) \/
   (T="dict" /\ ((∃kvs,H p=some (.dK kvs))\/∃kvs,H p=some (.dT kvs)))\/(T="set" /\ ∃S n,H p=some (.set S n))
 | _=>False
def zh5{pins:List (Addr×Obj)}{σ:St}{H:Hp}{s:Shared}{T:String}{x:V}{v:Value}(I:Inv X pins σ H s)(r:RelV x v)(ty:tyV X.K T x H) :
  s.TypeIs v T/\∀a,v=.ref a->∃ob,s.heap.get? a=some ob/\ob.dict=none:=by
 cases x with
 | str z=>
  obtain⟨t,rfl⟩:=r;cases (show T="str" from ty);exact⟨typeIs_str s z t,λ_ e=>nomatch e⟩
 | int i=>
  obtain⟨t,rfl⟩:=r;cases (show T="int" from ty);exact⟨yx s i t,λ_ e=>nomatch e⟩
 | ref p=>
  cases r;rcases ty with ⟨rfl,xs,hq⟩ | ⟨rfl,o,hk,hc,hd⟩ | ⟨rfl,hk⟩ | ⟨rfl,S,n,hk⟩
  .obtain⟨its,_,pl,_⟩:=I.list hq
   refine⟨pl.isList.typeIs,λa e=>?_⟩;cases e;obtain⟨o,n,e,c,hd,_⟩:=pl;exact⟨o,e,hd⟩
  .refine⟨⟨o,I.kIn p o hk,hc⟩,λa e=>?_⟩
   cases e;exact⟨o,I.kIn _ o hk,hd⟩
  .have z:∃o,s.heap.get? p=some o/\o.ExactDict:=by
    rcases hk with ⟨kvs,hk⟩ | ⟨kvs,hk⟩
    .obtain⟨_,_,_,_,o,_,_,e,ex,_⟩:=I.hok p _ hk
     exact⟨o,e,ex⟩
    .obtain⟨_,_,_,_,o,_,_,e,ex,_⟩:=I.hok p _ hk
     exact⟨o,e,ex⟩
   obtain⟨o,e,ex⟩:=z;refine⟨⟨o,e,ex.1⟩,λa e2=>?_⟩;cases e2;exact⟨o,e,ex.2.1⟩
  .obtain⟨o,_,_,_,e,ex,_⟩:=I.hok p _ hk
   refine⟨⟨o,e,ex.1⟩,λa e2=>?_⟩;cases e2;exact⟨o,e,ex.2.1⟩
 | _=>exact False.elim ty
def tBM0(K:PySem.W.Frag)(T:String)(r:V->List V->Hp->VK->Prop)(to:TE):TE:=λσ H Q=>to σ H λx H1=>tyV K T x H1/\r x [] H1 Q
def tBM(K:PySem.W.Frag)(T:String)(r:V->List V->Hp->VK->Prop)(to:TE)(t:TA):TE:=λσ H Q=>to σ H λx H1=>tyV K T x H1/\t σ H1 λxs H2=>r x xs H2 Q
variable{o e:Expr}{es:List Expr}{to:TE}{t:TA}{name:Str}{apos cpos:Pos}{T id:String}{r:V->List V->Hp->VK->Prop}
def zn5(pa:PlainAttrs T)(slot:Slot T name id)(hty:typeOf (.builtin id)=pure (.type "method_descriptor"))(hm:MtR X id r)(ho:PE X o to)
  (hbase:attributeBase o name X.env (eval o X.env)=eval o X.env:=by rfl) (hline:(apos.endLine==cpos.line)=true:=by rfl):PE X (.Call (.Attribute o name apos) [] [] cpos) (tBM0 X.K T r to):=by
 intro pins s σ H Q I h;refine wpAny_Call_method0_late hbase hline (thn (ho pins s σ H _ I h) λv s1 ⟨x,H1,I1,r1,ty,q1⟩=>?_);obtain⟨h1,h2⟩:=zh5 I1 r1 ty;exact⟨T,id,pa,slot,hty,h1,h2,wM rfl (PySem.evalArgs_none (hm pins s1 σ H1 x [] v [] Q I1 r1 .nil q1))⟩
def zkZ(pa:PlainAttrs T)(slot:Slot T name id)(hty:typeOf (.builtin id)=pure (.type "method_descriptor"))(hm:MtR X id r)(ho:PE X o to)(ha:PA X (e::es) t)
  (hbase:attributeBase o name X.env (eval o X.env)=eval o X.env:=by rfl)
  (hfew:((backTo cpos (starEach (e::es) X.env)).all (λx=>!x.1)&&(backToKw cpos (keywordEach [] X.env)).all (λx=>x.1.isSome)
   && decide ((e::es).length+([]:List Keyword).length+(if ([]:List Keyword).isEmpty then 0 else 1)<30))=true:=by rfl)
  (hline:(apos.endLine==cpos.line)=true:=by rfl) (hs:starEach (e::es) X.env=(false,eval e X.env)::starEach es X.env:=by rfl) (hplain:(backTo cpos (starEach es X.env)).any (·.1)=false:=by rfl) :
  PE X (.Call (.Attribute o name apos) (e::es) [] cpos) (tBM X.K T r to t):=by
 intro pins s σ H Q I h;refine wpAny_Call_method_late hbase hfew hline rfl (thn (ho pins s σ H _ I h) λv s1 ⟨x,H1,I1,r1,ty,q1⟩=>?_);obtain⟨h1,h2⟩:=zh5 I1 r1 ty;refine⟨T,id,pa,slot,hty,h1,h2,?_⟩;have hA:=ha cpos pins s1 σ H1 _ I1 q1;rw[hs] at hA ⊢;refine wM (by show(false||(backTo cpos (starEach es X.env)).any (·.1))=false; rw[hplain]<;>rfl) (Calls.evalArgs_plain ?_);exact thn hA λus s2 ⟨vs,H2,I2,r2,q2⟩=>hm pins s2 σ H2 x vs v us Q I2 r1 r2 q2
end
end L2
namespace L2
open PySem PySem.Spec PyProof.Rows
def MtM(X:Cx)(id:String)(r:V->List V->Hp->VK->Prop):Prop:=
 ∀(pins:List (Addr×Obj)) (s:Shared) (σ:St) (H:Hp) (x:V) (xs:List V) (v:Value) (us:List Value) (Q:VK),Inv X pins σ H s->RelV x v->Vals xs us->r x xs H Q->
  wpAny (model X.prog X.w) X.A (call (.builtin id) (v::us)) (EP X pins σ Q) X.xe s
def Vals.one:∀{x:V} {us:List Value},Vals [x] us->∃u,us=[u]/\RelV x u
 | _,_,.cons r .nil=>⟨_,rfl,r⟩
theorem Vals.zero:∀{us:List Value},Vals [] us->us=[]
 | _,.nil=>rfl
theorem Vals.dropLast{xs:List V}{us:List Value}(h:Vals xs us):Vals xs.dropLast us.dropLast:=by
 induction h with
 | nil=>exact .nil
 | cons r t ih=>
  cases t with
  | nil=>exact .nil
  | cons q t'=>exact .cons r ih
theorem Vals.rep{xs:List V}{us:List Value}(h:Vals xs us):∀k:Nat,Vals (List.replicate k xs).flatten (List.replicate k us).flatten
 | 0=>.nil
 | k+1=>by
  rw[jH,jH,qi,qi];exact Vals.append h (Vals.rep h k)
theorem zhp{α:Type}(l:List α):l.eraseIdx (l.length-1)=l.dropLast:=by
 induction l with
 | nil=>rfl
 | cons a r ih=>
  cases r with
  | nil=>rfl
  | cons b r=>
   have e:(a::b::r).length-1=((b::r).length-1)+1:=by
    have h1:(a::b::r).length=r.length+2:=rfl;have h2:(b::r).length=r.length+1:=rfl;omega
   rw[e,List.eraseIdx_cons_succ,ih];all_goals rfl
theorem foldl_rep(its:List Value):∀(k:Nat) (acc:List Value),
  List.foldl (λx1 x2=>x1++x2) acc.toArray (List.replicate k its.toArray)=(acc++(List.replicate k its).flatten).toArray
 | 0,acc=>by simp
 | k+1,acc=>by
  have e:acc.toArray++its.toArray=(acc++its).toArray:=by simp
  have e2:(acc++its)++(List.replicate k its).flatten=acc++(List.replicate (k+1) its).flatten:=by
   rw[jH,qi,kE]
  rw[<-e2,<-foldl_rep its k (acc++its),<-e,jH,j5]
section
variable{X:Cx}{pins:List (Addr×Obj)}{σ:St}{H:Hp}{s:Shared}{l b:Addr}{xs ys zs:List V}
def Inv.lset{its its':List Value}{n:Nat}{f:Array Value->Array Value}{t':Nat}(I:Inv X pins σ H s)(hH:H l=some (.lst xs))
  (e:s.heap.get? l=some { cls:=.type "list",data:=.seq its.toArray n }) (hf:f its.toArray=its'.toArray) (hv:Vals ys its') (hz:ys.length<=sizeLine) :
  Inv X pins σ (upd H l (.lst ys)) { s with heap:=s.heap.update l (Obj.mapSeq f),toks:=t' }:=by
 have q:=PySem.IsL.update e f;rw[hf] at q;refine I.write (x:=l) (e:=l) (by rw[hH]; exact trivial) (.inl rfl) (λb' u hb hu=>(qC s.heap (Obj.mapSeq f) (kY hb)).trans hu) ⟨_,q⟩ ?_;exact⟨hz,its',_,hv,q⟩
def Inv.lnew{its:List Value}{t':Nat}(I:Inv X pins σ H s)(hv:Vals ys its)(hz:ys.length<=sizeLine) :
  Inv X pins σ (upd H s.heap.objs.size (.lst ys)) { s with heap:=s.heap.push { cls:=.type "list",data:=.seq its.toArray },toks:=t' }:=
 I.laid (λ_ _ q=>zf _ q) (zj _) ⟨hz,its,0,hv,zT _ rfl⟩
theorem Inv.fresh(I:Inv X pins σ H s):H s.heap.objs.size=none:=I.hok.fresh (zj _)
def Inv.lstM(I:Inv X pins σ H s)(hH:H l=some (.lst xs)):xs.length<=sizeLine/\∃(its:List Value) (n:Nat),Vals xs its/\xs.length=its.length/\s.heap.get? l=some { cls:=.type "list",data:=.seq its.toArray n }:=by
 obtain⟨z,its,n,r,e⟩:=I.hok l _ hH;exact⟨z,its,n,r,r.length,e⟩
def zkg{n:Nat}(h:n<=sizeLine):Builtin.List.listTooLong n=false:=by
 unfold Builtin.List.listTooLong;exact jL ∅
end
section
variable{X:Cx}
def zlG:V->List V->Hp->VK->Prop:=λx vs H Q=>∃l xs y,x=.ref l/\vs=[y]/\H l=some (.lst xs)/\xs.length<sizeLine/\Q .non (upd H l (.lst (xs++[y])))
def zeC:MtM X "list.append" zlG:=by
 intro pins s σ H x vs v us Q I rx rv h;obtain⟨l,xs,y,rfl,rfl,hH,hz,q⟩:=h;cases rx;obtain⟨u,rfl,ru⟩:=rv.one;obtain⟨z,its,n,r,hl,e⟩:=I.lstM hH;refine vA F.slot_list_append ⟨_,e,rfl⟩ F.entry_list_append (F.args_list_append_2 _ _) (PySem.list_append l its.toArray n u (by rw[zL]; omega)) ⟨e,?_⟩;refine⟨.non,_,I.lset (its':=its++[u]) hH e (by simp) (r.append (.cons ru .nil)) ?_,rfl,q⟩;rw[zF,List.length_singleton];omega
def rPop:V->List V->Hp->VK->Prop:=λx vs H Q=>∃l xs y,x=.ref l/\vs=[]/\H l=some (.lst xs)/\xs[xs.length-1]?=some y/\Q y (upd H l (.lst xs.dropLast))
def znF:MtM X "list.pop" rPop:=by
 intro pins s σ H x vs v us Q I rx rv h;obtain⟨l,xs,y,rfl,rfl,hH,hy,q⟩:=h;cases rx;have hus:=rv.zero;subst hus;obtain⟨z,its,n,r,hl,e⟩:=I.lstM hH;obtain⟨u,hu,ru⟩:=r.get hy;have hy':its.toArray[its.toArray.size-1]?=some u:=by
  show its.toArray[its.length-1]?=some u
  rw[<-Array.getElem?_toList,<-hl];exact hu
 refine vA F.slot_list_pop ⟨_,e,rfl⟩ F.entry_list_pop (F.args_list_pop_1 _) (MeetsSeq.list_pop_last l its.toArray n u hy' (by rw[zL]; omega)) ⟨e,?_⟩;refine⟨y,_,I.lset (its':=its.dropLast) hH e ?_ r.dropLast ?_,ru,q⟩
 .show its.toArray.eraseIdxIfInBounds (its.toArray.size-1)=its.dropLast.toArray
  rw[zL,List.eraseIdxIfInBounds_toArray,zhp]
 .rw[List.length_dropLast]
  omega
def len_rep{α:Type}(xs:List α)(k:Nat):(List.replicate k xs).flatten.length=k*xs.length:=by
 induction k with
 | zero=>simp
 | succ k ih=>rw[jH,qi,zF,ih,Nat.succ_mul,vd]
end
end L2
namespace L2
open PySem PySem.Spec PyProof.Rows
section
variable{κ:Type}[DecidableEq κ]
def valV(kvs:List (κ×V))(k:κ):Option V:=(kvs.find? λkv=>decide (kv.1=k)).map (·.2)
def putK(kvs:List (κ×V))(k:κ)(v:V):List (κ×V):=
 if (kvs.any λkv=>decide (kv.1=k))=true then kvs.map (λkv=>if kv.1=k then (kv.1,v) else kv) else kvs++[(k,v)]
def zc6{p:κ×V}{r:List (κ×V)}{k:κ}(e:p.1=k):valV (p::r) k=some p.2:=by simp[valV,jC,e]
def zc7{p:κ×V}{r:List (κ×V)}{k:κ}(e:¬p.1=k):valV (p::r) k=valV r k:=by simp[valV,jC,e]
theorem zfx(k:κ):∀kvs:List (κ×V),(kvs.any λkv=>decide (kv.1=k))=(valV kvs k).isSome
 | []=>rfl
 | p::r=>by
  rw[v7];by_cases e:p.1=k
  .simp only[zc6 e,qw e,Bool.true_or,vL]
  .rw[zc7 e,jL e,Bool.false_or]; exact zfx k r
def zbG(kvs:List (κ×V))(k:κ)(v:V):(putK kvs k v).length<=kvs.length+1:=by
 unfold putK;split
 .rw[zH]; omega
 .rw[zF,zm,zP]; omega
theorem RelO.isSome_eq{o:Option V}{u:Option Value}(r:RelO o u):o.isSome=u.isSome:=by
 cases o with
 | none=>cases u with
  | none=>rfl
  | some _=>exact(show False from r).elim
 | some _=>cases u with
  | none=>exact(show False from r).elim
  | some _=>rfl
theorem RelO.getD{o:Option V}{u:Option Value}{d:V}{d':Value}(r:RelO o u)(rd:RelV d d'):RelV (o.getD d) (u.getD d'):=by
 cases o with
 | none=>cases u with
  | none=>exact rd
  | some _=>exact(show False from r).elim
 | some _=>cases u with
  | none=>exact(show False from r).elim
  | some _=>exact r
def KV.val{kvs:List (κ×V)}{vs:List (κ×Value)}(r:KV kvs vs)(k:κ):RelO (valV kvs k) (valueAt vs k):=by
 unfold KV at r;induction r with
 | nil=>exact True.intro
 | @cons p q ps qs h t ih=>
  obtain⟨h1,h2⟩:=h;by_cases e:p.1=k
  .have e':q.1=k:=h1.symm.trans e
   have b:valueAt (q::qs) k=some q.2:=by simp[valueAt,jC,e']
   rw[zc6 e,b]; exact h2
  .have e':¬q.1=k:=λz=>e (h1.trans z)
   have b:valueAt (q::qs) k=valueAt qs k:=by simp[valueAt,jC,e']
   rw[zc7 e,b]; exact ih
theorem KV.any{kvs:List (κ×V)}{vs:List (κ×Value)}(r:KV kvs vs)(k:κ):(kvs.any λkv=>decide (kv.1=k))=vs.any λkv=>decide (kv.1=k):=by
 unfold KV at r;induction r with
 | nil=>rfl
 | cons h t ih=>rw[v7,v7,ih,h.1]
def KV.repl{kvs:List (κ×V)}{vs:List (κ×Value)}(r:KV kvs vs)(k:κ){y:V}{u:Value}(ry:RelV y u) :
  KV (kvs.map λkv=>if kv.1=k then (kv.1,y) else kv) (vs.map λkv=>if kv.1=k then (kv.1,u) else kv):=by
 unfold KV at r ⊢;induction r with
 | nil=>exact .nil
 | @cons p q ps qs h t ih=>
  rw[zy,zy];refine .cons ?_ ih;obtain⟨h1,h2⟩:=h;by_cases e:p.1=k
  .rw[zX e,zX (h1.symm.trans e)]; exact⟨h1,ry⟩
  .rw[kO e,kO (λz=>e (h1.trans z))]; exact⟨h1,h2⟩
def KV.put{kvs:List (κ×V)}{vs:List (κ×Value)}(r:KV kvs vs)(k:κ){y:V}{u:Value}(ry:RelV y u):KV (putK kvs k y) (stored vs k u):=by
 unfold putK stored;rw[r.any k];by_cases e:(vs.any λkv=>decide (kv.1=k))=true
 .rw[zX e,zX e]; exact r.repl k ry
 .rw[kO e,kO e]; exact Paired.snoc r ⟨rfl,ry⟩
theorem KV.length{kvs:List (κ×V)}{vs:List (κ×Value)}(r:KV kvs vs):kvs.length=vs.length:=Paired.length r
end
def zcJ{P:Program}{w:World}{k:Key}{u:Value}(r:RelV (kV k) u):(uy P w).is k u=true:=by
 cases k with
 | inl i=>obtain⟨t,e⟩:=(show ∃t,u=Value.int i t from r); subst e; exact zgl P w i t
 | inr x=>obtain⟨t,e⟩:=(show ∃t,u=Value.str x t from r); subst e; exact zgf P w x t
theorem zeF{P:Program}{w:World}:∀{ks:List Key} {us:List Value},Vals (ks.map kV) us->ItemsAre (uy P w) ks us
 | [],_,r=>by rw[ji] at r; cases r; exact .nil
 | k::ks,_,r=>by
  rw[zy] at r;cases r with
  | cons h t=>exact .cons (zcJ h) (zeF t)
abbrev KT(H:Hp):List (List Key×V)->List (List Key×Addr×Value)->Prop:=Paired λp q=>p.1=q.1/\H q.2.1=some (.tup (p.1.map kV))/\RelV p.2 q.2.2
def KT.val{H:Hp}{kvs:List (List Key×V)}{xs:List (List Key×Addr×Value)}(r:KT H kvs xs)(k:List Key):RelO (valV kvs k) ((atKey xs k).map (·.2)):=by
 induction r with
 | nil=>exact True.intro
 | @cons p q ps qs h t ih=>
  obtain⟨h1,_,h2⟩:=h;by_cases e:p.1=k
  .have e':q.1=k:=h1.symm.trans e
   have b:atKey (q::qs) k=some q.2:=by simp[atKey,jC,e']
   rw[zc6 e,b]; exact h2
  .have e':¬q.1=k:=λz=>e (h1.trans z)
   have b:atKey (q::qs) k=atKey qs k:=by simp[atKey,jC,e']
   rw[zc7 e,b]; exact ih
def KT.repl{H:Hp}{kvs:List (List Key×V)}{xs:List (List Key×Addr×Value)}(r:KT H kvs xs)(k:List Key){y:V}{u:Value}(ry:RelV y u) :
  KT H (kvs.map λkv=>if kv.1=k then (kv.1,y) else kv) (xs.map (putAt k u)):=by
 induction r with
 | nil=>exact .nil
 | @cons p q ps qs h t ih=>
  rw[zy,zy];refine .cons ?_ ih;obtain⟨h1,h2,h3⟩:=h;unfold putAt;by_cases e:p.1=k
  .rw[zX e,zX (h1.symm.trans e)]; exact⟨h1,h2,ry⟩
  .rw[kO e,kO (λz=>e (h1.trans z))]; exact⟨h1,h2,h3⟩
def KT.put{H:Hp}{kvs:List (List Key×V)}{xs:List (List Key×Addr×Value)}(r:KT H kvs xs)(k:List Key){b:Addr}{y:V}{u:Value}(hb:H b=some (.tup (k.map kV)))(ry:RelV y u) :
  KT H (putK kvs k y) (storedH xs k b u):=by
 have e:(kvs.any λkv=>decide (kv.1=k))=(atKey xs k).isSome:=by
  rw[zfx,(r.val k).isSome_eq,Option.isSome_map]
 unfold putK storedH;rw[e];by_cases q:(atKey xs k).isSome=true
 .rw[zX q,zX q]; exact r.repl k ry
 .rw[kO q,kO q]; exact Paired.snoc r ⟨rfl,hb,ry⟩
def KT.keeps{H H':Hp}{kvs:List (List Key×V)}{xs:List (List Key×Addr×Value)}(r:KT H kvs xs)(ht:∀b ys,H b=some (.tup ys)->H' b=some (.tup ys)):KT H' kvs xs:=
 Paired.mapP r λ_ _ z=>⟨z.1,ht _ _ z.2.1,z.2.2⟩
section
variable{P:Program}{w:World}{H:Hp}{h:Heap}{a:Addr}
def zk7{u:HO}(ok:HOk P w H h)(e:Rd H a u):ObjOk P w H h a u:=e.ok ok
def zb2{kvs:List (Key×V)}(ok:HOk P w H h)(e:Rd H a (.dK kvs)):kvs.length<=sizeLine/\(a==sysModules)=false/\∃vs,KV kvs vs/\h.DictOf (uy P w) a vs:=
 show ObjOk P w H h a (.dK kvs) from zk7 ok e
def zpb{kvs:List (Key×V)}(ok:HOk P w H h)(e:H a=some (.dK kvs)):kvs.length<=sizeLine/\(a==sysModules)=false/\∃vs,KV kvs vs/\h.DictOf (uy P w) a vs:=zb2 ok (.inl e)
def zdN{ks:List Key}(ok:HOk P w H h)(e:H a=some (.tup (ks.map kV))):(tupleKind (uy P w)).is h ks a:=by
 obtain⟨_,its,r,⟨o,h1,h2,n,h3⟩,_⟩:=(show ObjOk P w H h a (.tup (ks.map kV)) from ok a _ e);exact⟨o,its.toArray,n,h1,h2,h3,by simpa using zeF r⟩
def zdy{kvs:List (List Key×V)}(ok:HOk P w H h)(e:Rd H a (.dT kvs)):kvs.length<=sizeLine/\(a==sysModules)=false /\
  ∃xs,KT H kvs xs/\h.DictOfH (tupleKind (uy P w)) a xs:=by
 obtain⟨z,y,xs,r,o,es,ep,h1,h2,h3,h4,h5⟩:=(show ObjOk P w H h a (.dT kvs) from zk7 ok e);refine⟨z,y,xs,r,o,es,ep,h1,h2,h3,h4,λx hx=>?_,h5⟩;have all:∀{l:List (List Key×V)} {m:List (List Key×Addr×Value)},KT H l m->∀x∈m,(tupleKind (uy P w)).is h x.1 x.2.1:=by
  intro l m q;induction q with
  | nil=>intro x hx; exact nomatch hx
  | @cons p q ps qs hq t ih=>
   intro x hx;rcases zb.mp hx with e | hx
   .subst e
    exact zdN ok (by rw[<-hq.1]; exact hq.2.1)
   .exact ih x hx
 exact all r x hx
def zbz{kvs:List (List Key×V)}(ok:HOk P w H h)(e:H a=some (.dT kvs)):kvs.length<=sizeLine/\(a==sysModules)=false /\
  ∃xs,KT H kvs xs/\h.DictOfH (tupleKind (uy P w)) a xs:=zdy ok (.inl e)
end
def DGet(H:Hp)(a:Addr)(y:V)(r:Option V):Prop:=
 (∃kvs k,Rd H a (.dK kvs)/\y=kV k/\r=valV kvs k)\/∃kvs k b,Rd H a (.dT kvs)/\y=.ref b/\H b=some (.tup (k.map kV))/\r=valV kvs k
def DPut(H:Hp)(a:Addr)(y v:V)(H':Hp):Prop:=
 (∃kvs k,H a=some (.dK kvs)/\y=kV k/\kvs.length<sizeLine/\H'=upd H a (.dK (putK kvs k v))) \/
 ∃kvs k b,H a=some (.dT kvs)/\y=.ref b/\H b=some (.tup (k.map kV))/\kvs.length<sizeLine/\H'=upd H a (.dT (putK kvs k v))
section
variable{X:Cx}{pins:List (Addr×Obj)}{σ:St}{H:Hp}{s:Shared}{a:Addr}{y v:V}{u r:Value}{o:Option V}{A:Around}{E:Value->Shared->Prop}
def Inv.big(I:Inv X pins σ H s):sysModules<s.heap.objs.size:=by
 have h:mainGlobals<s.heap.objs.size:=(I.mod.glob.keeps I.bk).lt;exact Nat.lt_trans (by decide) h
def zje{Q:Value->Shared->Prop}(hu:A.units+1<cLine)(I:Inv X pins σ H s)(g:DGet H a y (some v))(ry:RelV y u)(h:∀w' s',Inv X pins σ H s'->RelV v w'->Q w' s') :
  wpAny (model X.prog X.w) A (getItem (.ref a) u) Q E s:=by
 rcases g with ⟨kvs,k,e,ey,l⟩ | ⟨kvs,k,b,e,ey,eb,l⟩
 .subst ey
  obtain⟨z,hd,vs,rel,dd⟩:=zb2 I.hok e;obtain⟨w',hw,rw'⟩:=RelO.some_of (v:=v) (o:=valueAt vs k) (by rw[l]; exact rel.val k);exact wpAny_getItem_of (zcJ ry) dd.mapOf hw (h w' _ (I.tok _) rw')
 .subst ey
  cases (show u=Value.ref b from ry);obtain⟨z,hd,xs,rel,dd⟩:=zdy I.hok e;obtain⟨w',hw,rw'⟩:=RelO.some_of (v:=v) (o:=(atKey xs k).map (·.2)) (by rw[l]; exact rel.val k);obtain⟨p,hp,hp2⟩:=zg.mp hw;refine wpAny_getItem_heap (yp hu) (zdN I.hok eb) dd hp ?_;rw[hp2];exact h w' _ (I.tok _) rw'
def zgM{h':Heap}{t':Nat}{ob:HO}(I:Inv X pins σ H s)(mu:Mut (H a))(hs:Heap.SameBut a s.heap h')(he:∃q,h'.get? a=some q)(new:ObjOk X.prog X.w (upd H a ob) h' a ob) :
  Inv X pins σ (upd H a ob) { s with heap:=h',toks:=t' }:=
 I.write (x:=a) (e:=a) mu (.inl rfl) (λb q hb z=>(hs.2 b hb).trans z) he new
def zdx{P:Program}{w:World}{H':Hp}{h':Heap}{kvs:List (Key×V)}{vs:List (Key×Value)}(z:kvs.length<=sizeLine)(hd:(a==sysModules)=false)(rel:KV kvs vs)(dd:h'.DictOf (uy P w) a vs) :
  ObjOk P w H' h' a (.dK kvs):=⟨z,hd,vs,rel,dd⟩
def zjm{H':Hp}{Q:Unit->Shared->Prop}(hu:A.units+1<cLine)(I:Inv X pins σ H s)(g:DPut H a y v H')(ry:RelV y u)(rv:RelV v r)(h:∀s',Inv X pins σ H' s'->Q () s') :
  wpAny (model X.prog X.w) A (setItem (.ref a) u r) Q E s:=by
 rcases g with ⟨kvs,k,e,ey,l,eH⟩ | ⟨kvs,k,b,e,ey,eb,l,eH⟩
 .subst ey eH
  obtain⟨z,hd,vs,rel,dd⟩:=zpb I.hok e;have hz:vs.length<=sizeLine:=by rw[<-rel.length]; exact z
  have hl:(putK kvs k v).length<=sizeLine:=by have:=zbG kvs k v; omega
  refine wpAny_setItem_pairs (hsz:=hz) (zcJ ry) dd λh' dd' hs=>h _ ?_
  have he:∃q,h'.get? a=some q:=let ⟨q,_,_,hq,_⟩:=dd'; ⟨q,hq⟩;exact zgM I (by rw[e]; exact True.intro) hs he (zdx hl hd (rel.put k rv) dd')
 .subst ey eH
  cases (show u=Value.ref b from ry);obtain⟨z,hd,xs,rel,dd⟩:=zbz I.hok e;have hz:xs.length<=sizeLine:=by rw[<-Paired.length rel]; exact z
  have hl:(putK kvs k v).length<=sizeLine:=by have:=zbG kvs k v; omega
  refine wpAny_setItem_heap (hsz:=hz) (yp hu) (zdN I.hok eb) dd λh' dd' hs=>h _ ?_
  obtain⟨q,es,ep,hq,h2,h3,h4,_,h5⟩:=dd';refine zgM I (by rw[e]; exact True.intro) hs ⟨q,hq⟩ ⟨hl,hd,_,(rel.put k eb rv).keeps λc ys ec=>?_,q,es,ep,hq,h2,h3,h4,h5⟩;rw[uc (zpG ec e (λz=>nomatch z))];exact ec
end
def zgm{X:Cx}{pins:List (Addr×Obj)}{σ:St}{H:Hp}{s:Shared}{a:Addr}{y:V}{o:Option V}(I:Inv X pins σ H s)(g:DGet H a y o):s.TypeIs (.ref a) "dict":=by
 rcases g with ⟨kvs,k,e,_,_⟩ | ⟨kvs,k,b,e,_,_,_⟩
 .obtain⟨_,_,vs,_,dd⟩:=zb2 I.hok e
  exact dd.typeIs
 .obtain⟨_,_,xs,_,dd⟩:=zdy I.hok e
  exact dd.typeIs
def zjZ{P:Program}{w:World}{H:Hp}(h:Heap)(hb:sysModules<h.objs.size):ObjOk P w H (h.push { cls:=.type "dict",data:=.dict #[] }) h.objs.size (.dK []):=
 ⟨qO _,jt.mpr (kY (zW hb)),[],.nil,yV h⟩
def znK:TE:=λ_ H Q=>∀p,H p=none->Q (.ref p) (upd H p (.dK []))
section
variable{X:Cx}{pos:Pos}
def zjL:PE X (.Dict [] [] pos) znK:=λpins s σ H Q I h=>
 wpAny_Dict_empty ⟨.ref s.heap.objs.size,_,I.laid (a:=s.heap.objs.size) (o:=.dK []) (t':=s.toks) (λ_ _ q=>zf _ q) (zj _) (zjZ s.heap I.big),rfl,h _ (I.hok.fresh (zj _))⟩
end
def zau(kvs more:List (Key×V)):List (Key×V):=more.foldl (λacc kv=>putK acc kv.1 kv.2) kvs
def KV.merge:∀{more:List (Key×V)} {rs:List (Key×Value)} {kvs:List (Key×V)} {vs:List (Key×Value)},KV more rs->KV kvs vs->KV (zau kvs more) (merged vs rs):=by
 intro more rs kvs vs r;unfold KV at r;induction r generalizing kvs vs with
 | nil=>intro q; exact q
 | @cons p q ps qs h t ih=>
  intro r0;have e:KV (putK kvs p.1 p.2) (stored vs q.1 q.2):=by
   have:=r0.put p.1 h.2;rw[<-h.1]; exact this
  exact ih e
theorem za9:∀(more kvs:List (Key×V)),(zau kvs more).length<=kvs.length+more.length
 | [],kvs=>by show kvs.length<=kvs.length+0; omega
 | p::r,kvs=>by
  have h1:=za9 r (putK kvs p.1 p.2);have h2:=zbG kvs p.1 p.2;show(zau (putK kvs p.1 p.2) r).length<=_
  rw[zm]; omega
structure M2(X:Cx)(o:Expr)(m:Str)(apos:Pos)(e f:Expr)(cpos:Pos):Prop where
 base:attributeBase o m X.env (eval o X.env)=eval o X.env
 few:((backTo cpos (starEach [e,f] X.env)).all (λx=>!x.1)&&(backToKw cpos (keywordEach [] X.env)).all (λx=>x.1.isSome)
  && decide (([e,f]:List Expr).length+([]:List Keyword).length+(if ([]:List Keyword).isEmpty then 0 else 1)<30))=true
 line:(apos.endLine==cpos.line)=true
 trees:backTo cpos (starEach [e,f] X.env)=[(false,eval e X.env),(false,eval f X.env)]
def IsD(H:Hp)(a:Addr):Prop:=(∃kvs,Rd H a (.dK kvs))\/∃kvs,Rd H a (.dT kvs)
def znx{X:Cx}{pins:List (Addr×Obj)}{σ:St}{H:Hp}{s:Shared}{a:Addr}(I:Inv X pins σ H s)(d:IsD H a) :
  s.TypeIs (.ref a) "dict" /\ (∀b,Value.ref a=.ref b->∃ob,s.heap.get? b=some ob/\ob.dict=none)/\(a==sysModules)=false:=by
 rcases d with ⟨kvs,e⟩ | ⟨kvs,e⟩
 .obtain⟨_,hd,vs,_,dd⟩:=zb2 I.hok e
  refine⟨dd.typeIs,λb q=>?_,hd⟩;cases q;obtain⟨ob,_,_,h1,h2,_⟩:=dd;exact⟨ob,h1,h2.2.1⟩
 .obtain⟨_,hd,xs,_,dd⟩:=zdy I.hok e
  refine⟨dd.typeIs,λb q=>?_,hd⟩;cases q;obtain⟨ob,_,_,h1,h2,_⟩:=dd;exact⟨ob,h1,h2.2.1⟩
section
variable{X:Cx}{pins:List (Addr×Obj)}{σ:St}{H:Hp}{s:Shared}{a:Addr}{y d:V}{u r:Value}{o:Option V}{A:Around}{E:Value->Shared->Prop}
def zm4{Q:Value->Shared->Prop}(hu:A.units+1<cLine)(I:Inv X pins σ H s)(g:DGet H a y o)(ry:RelV y u)(rd:RelV d r)(h:∀w' s',Inv X pins σ H s'->RelV (o.getD d) w'->Q w' s') :
  wpAny (model X.prog X.w) A (call (.builtin "dict.get") [.ref a,u,r]) Q E s:=by
 rcases g with ⟨kvs,k,e,ey,l⟩ | ⟨kvs,k,b,e,ey,eb,l⟩
 .subst ey
  obtain⟨z,hd,vs,rel,dd⟩:=zb2 I.hok e;refine call_meetsIn wj dd.typeIs yM (yI _ _ _) (meets_dict_get_default (uy X.prog X.w) a (zcJ ry) hd r) ⟨_,dd.mapOf,h _ _ (I.tok _) ?_⟩;rw[l];exact(rel.val k).getD rd
 .subst ey
  cases (show u=Value.ref b from ry);obtain⟨z,hd,xs,rel,dd⟩:=zdy I.hok e;refine call_meetsIn wj dd.typeIs yM (yI _ _ _) (meetsH_dict_get_default (tupleKind (uy X.prog X.w)) a b hd r) ⟨yp hu,k,xs,zdN I.hok eb,dd,h _ _ (I.tok _) ?_⟩;rw[l];exact(rel.val k).getD rd
end
def zn2(td ty tx:TE):TE:=λσ H Q=>td σ H λx H1=>∃a,x=.ref a/\IsD H1 a/\ty σ H1 λy H2=>tx σ H2 λz H3=>∃o,DGet H3 a y o/\Q (o.getD z) H3
section
variable{X:Cx}{o e f:Expr}{apos cpos:Pos}{td ty tx:TE}
def zj9(hu:X.A.units+1<cLine)(ho:PE X o td)(he:PE X e ty)(hf:PE X f tx)(m:M2 X o "get" apos e f cpos):PE X (.Call (.Attribute o "get" apos) [e,f] [] cpos) (zn2 td ty tx):=by
 intro pins s σ H Q I h;refine wpAny_Call_method m.base m.few m.line PySem.F.plainAttrs_dict wj PySem.F.type_dict_get (thn (ho pins s σ H _ I h) λu s1 ⟨x,H1,I1,rx,a,ex,d,q1⟩=>?_);subst ex;obtain rfl:u=Value.ref a:=rx;obtain⟨t1,t2,_⟩:=znx I1 d;refine⟨t1,t2,?_⟩;rw[m.trees]
 refine wM rfl (Calls.evalArgs_plain (qF (thn (he pins s1 σ H1 _ I1 q1) λiv s2 ⟨y,H2,I2,ry,q2⟩=>
  qF (thn (hf pins s2 σ H2 _ I2 q2) λfv s3 ⟨z,H3,I3,rz,ov,g,q3⟩=>vB ?_))))
 exact zm4 hu I3 g ry rz λw' s4 I4 rw'=>⟨_,H3,I4,rw',q3⟩
end
section
variable{X:Cx}{pins:List (Addr×Obj)}{σ:St}{H:Hp}{s:Shared}{a:Addr}{kvs:List (Key×V)}{A:Around}{E:Value->Shared->Prop}
def zf5{Q:Value->Shared->Prop}(I:Inv X pins σ H s)(e:Rd H a (.dK kvs))(h:∀p s',H p=none->Inv X pins σ (upd H p (.dK kvs)) s'->Q (.ref p) s'):wpAny (model X.prog X.w) A (call (.type "dict") [.ref a]) Q E s:=by
 obtain⟨z,hd,vs,rel,dd⟩:=zb2 I.hok e;refine kt_call_dict hd dd (by rw[<-rel.length]; exact z) λh' dd' hs=>?_
 refine h _ _ (I.hok.fresh (zj _)) (I.laid (a:=s.heap.objs.size) (o:=.dK kvs) (t':=s.toks) (λb q hq=>?_) (zj _) (zdx z (jt.mpr (kY (zW I.big))) rel dd'));exact(hs.2 b (zW (zB hq))).trans (zf _ hq)
end
end L2
namespace Att
open PySem PySem.W PySem.Calls PyProof.Rows
def zdI{P:Params}{h:Heap}:∀(ns:List Int) (vs:List Value),WellAll P h vs (ns.map WData.int)->IntsAre vs ns:=by
 intro ns;induction ns with
 | nil=>
  intro vs w;rw[ji] at w;cases w;exact .nil
 | cons n ns ih=>
  intro vs w;rw[zy] at w;cases w with
  | cons a b=>
   cases a;exact .cons _ _ (ih _ b)
def zik{l:OpenLaw}{n:Nat}(hn:l.most=some n){P:Params}{h:Heap}{args:List WData}{vals:List Value}
  (hpre:l.row.toRowW.claim.pre args=true) (hwl:WellAll P h vals args) :
  ∃a vs ns,vals=[Value.ref a]/\args=[WData.list (ns.map WData.int)]/\h.get? a=some { cls:=.type "list",data:=.seq vs.toArray }/\IntsAre vs ns/\ns.length<=n:=by
 have hsh:WShape.hasAll [] args [.list .int]=true:=(pre_splitW hpre).1;have hc:l.pre.holds [] { args:=args }=true:=(pre_splitW hpre).2;obtain⟨d,r,rfl,h1,h2⟩:=hasAllW_cons hsh;obtain rfl:=hasAllW_nil h2;obtain⟨xs,rfl,h3⟩:=hasW_list h1;obtain⟨ns,rfl⟩:=items_int h3;have hlen:ns.length<=n:=by
  unfold OpenLaw.pre at hc;have h4:(WTm.not (.lt (.lit (.int (n:Int))) (.len (.arg 0)))).holds [] { args:=[.list (ns.map .int)] }=true:=by
   have h4:=(holds_andW hc).1;rw[hn] at h4;exact h4
  have h5:=condW_of h4 (w_not (w_lt w_lit (w_len_list (w_arg rfl))));rw[zH] at h5;refine Nat.le_of_not_lt λq=>?_
  have q':(n:Int)<((ns.length:Nat):Int):=by omega
  first
   | (rw[qw q'] at h5; exact absurd h5 (by decide))
   | (simp at h5; omega)
 cases hwl with
 | cons w1 w2=>
  cases w2;cases w1 with
  | list ho hall=>exact⟨_,_,ns,rfl,rfl,ho,zdI ns _ hall,hlen⟩
theorem ziW(l:OpenLaw)(args:List WData):l.row.toRowW.claim.post args (.bool true) args=true:=
 postW_of (r:=l.row.toRowW) (X:=(true==true))
  (show WShape.has [] (.bool true) .bool=true by first | rfl | decide | simp[WShape.has,WShape.arms,WShape.armsAll])
  (show(WTm.eq .res (.lit (.bool true))).value [] { args:=args,res:=some (.bool true),after:=args }=some (.bool (true==true)) from w_eq_bool (w_res rfl) w_lit) rfl
def attach_call{l:OpenLaw}{n:Nat}{q:Program}{loose:List Str}{XP:(Str->Option Value)->Heap->Prop}{YP:World->Heap->Prop}{d:DefRec}
  (hn:l.most=some n) (hdf:d.params.defaults=[])
  (call:∀(w:World) (s₀ s₁:Shared) (mg mb:Str->Option Value) (fa:Addr) (o:Obj) (pm cd doc:Value) (a:Addr) (vs:List Value) (ns:List Int),
   Ground q loose [] XP w s₀ mg mb s₁.heap->YP w s₁.heap->
   s₁.heap.get? fa=some o->o.data=.func (docDef d.name d.params d.body d.scope pm cd doc)->s₁.heap.CodeRec cd d.name->mg d.name=some (.ref fa)->
   s₁.heap.get? a=some { cls:=.type "list",data:=.seq vs.toArray }->IntsAre vs ns->ns.length<=n->s₁.gens = #[]->
   codeAny (model l.prog w) callerA (.call (.ref fa) ⟨[.ref a],[]⟩) (λr s'=>r=.ok (.ret (.bool true))/\OldK s₁.heap s'.heap/\s'.os=s₁.os/\AllBare s'.gens) s₁) :
  WalkO q loose XP YP l.row.toRowW d [] (λf vs=>PySem.call f vs):=by
 intro w s₀ s₁ mg mb G Y fa o pm cd doc dV kV ho hd hcd hD hmg hg args vals as hpre hlay hrd hwl hlo;obtain rfl:dV=.none:=Dflts.none hD hdf;obtain rfl:kV=.none:=Dflts.noKw hD;obtain⟨a,vs,ns,rfl,rfl,hobj,hints,hlen⟩:=zik hn hpre hwl;refine enter_call (yF (call w s₀ s₁ mg mb fa o pm cd doc a vs ns G Y ho (fd_plain hd) hcd hmg hobj hints hlen hg) λr s' hq=>?_);obtain⟨rfl,h2,h3,h4⟩:=hq;exact⟨.inl ⟨.bool true,.bool true,[],rfl,λ_=>rfl,.bool true,ziW l _,λ_=>⟨List.Pairwise.nil,λ_ hm=>(nomatch hm)⟩⟩,h2,h3,h4⟩
end Att
namespace L2
open PySem PySem.Spec PyProof.Rows
theorem zeJ:∀{vs:List Value} {ns:List Int},IntsAre vs ns->Vals (ns.map V.int) vs
 | _,_,.nil=>.nil
 | _,_,.cons n t h=>.cons ⟨t,rfl⟩ (zeJ h)
def Only(H:Hp):Prop:=∀b,H b=none\/∃o xs,H b=some (.frz o (.lst xs))
def zjN{P:Program}{w:World}{K:PySem.W.Frag}{mg mb:Str->Option Value}{CX:CXT}{k:Nat}{fa a:Addr}{fd:FuncData}{x:Str}{sp:Sp}{s₁:Shared}{vs:List Value}{ns:List Int}
  (KX:K.In s₁.heap) (hns:s₁.heap.Ns mainGlobals mg) (hb:s₁.heap.Ns builtinsNs mb) (hbb:∀x:Str,x≠"__name__"->mb x=bootBuiltins x) (hlim:s₁.heap.NoLimit) (hg:s₁.gens = #[])
  (ha:s₁.heap.get? a=some { cls:=.type "list",data:=.seq vs.toArray }) (hi:IntsAre vs ns) (hl:ns.length<=sizeLine) (hr:Room k callerA)
  (F:∀base:Heap,K.In base->base.Ns mainGlobals mg->FnOk P w K mg base CX k fa fd [x] sp) (hbind:∀(s:Shared) (u:Value),BindsTo s fd ⟨[u],[]⟩ [(x,u)])
  (hsp:∀H:Hp,Only H->SqL K H a (ns.map V.int)->sp [.ref a] H (λv _=>v=.bl true) λ_ _ _=>False)
  (hCX:∀H e s',CX [] H s₁ (λ_ _ _=>False) e s'->False) :
  codeAny (model P w) callerA (.call (.ref fa) ⟨[.ref a],[]⟩) (λr s'=>r=.ok (.ret (.bool true))/\OldK s₁.heap s'.heap/\s'.os=s₁.os/\AllBare s'.gens) s₁:=by
 have rv:=zeJ hi;have lenV:=hi.length;have core:∀H:Hp,Only H->SqL K H a (ns.map V.int)->HOk P w H s₁.heap->(∀b,H b≠none->b=a)->(H a≠none->K.lookup a=none)->
   codeAny (model P w) callerA (.call (.ref fa) ⟨[.ref a],[]⟩) (λr s'=>r=.ok (.ret (.bool true))/\OldK s₁.heap s'.heap/\s'.os=s₁.os/\AllBare s'.gens) s₁:=by
  intro H hO hS hok hA hK;have base_of:∀{b:Addr} {o:Obj},s₁.heap.get? b=some o->H b=none->(hidT s₁.heap H).get? b=some o:=λe n=>zkp e n
  have noA:∀{b:Addr} {o:Obj} {es:Array DictEntry} {ep:Nat},s₁.heap.get? b=some o->o.data=.dict es ep->H b=none:=λ{b o es ep} e d=>by
   cases q:H b with
   | none=>rfl
   | some u=>
    have e':b=a:=hA b (by rw[q]; simp);subst e';rw[ha] at e; cases e;have d':Data.seq vs.toArray _=Data.dict es ep:=d;cases d'
  have nsK:∀{b:Addr} {m:Str->Option Value},s₁.heap.Ns b m->(hidT s₁.heap H).Ns b m:=λ{b m} ⟨o,es,ep,e,d,r⟩=>⟨o,es,ep,base_of e (noA e d),d,r⟩
  have hKb:K.In (hidT s₁.heap H):=λb o e=>base_of (KX b o e) (by
   cases q:H b with
   | none=>rfl
   | some u=>
    have e':b=a:=hA b (by rw[q]; simp);subst e'
    rw[hK (by rw[q]; simp)] at e; cases e)
  have hM:Mod K mg (hidT s₁.heap H):=⟨hKb,nsK hns,⟨mb,nsK hb,hbb⟩,let ⟨mc,h1,h2⟩:=hlim; ⟨mc,nsK h1,h2⟩⟩;have e0:Env0 P w K mg (hidT s₁.heap H) callerA [] s₁ H:=⟨rfl,hM,λb o e=>zmq e,Nat.le_of_eq (zh4 _ _),trivial,λb hb=>absurd (show b∈([]:List Addr) from hb) (by simp),hok,.of_eq hg⟩;refine yF ((F _ hKb (nsK hns)).run callerA [] s₁ H ⟨[.ref a],[]⟩ [.ref a] [.ref a] _ _ hr e0 (hbind s₁ (.ref a)) (.cons rfl .nil) (hsp H hO hS)) λr s' h=>?_
  cases r with
  | error e=>exact(hCX H e s' h).elim
  | ok fl=>
   cases fl with
   | next=>exact False.elim h
   | brk=>exact False.elim h
   | cont=>exact False.elim h
   | ret u=>
    obtain⟨v,H',os,bare,un,hok',r',q⟩:=h;have q':v=.bl true:=q;subst q';obtain rfl:u=Value.bool true:=r';refine⟨rfl,OldK.of_keep λb o e=>?_,os,bare⟩;cases q:H b with
    | none=>exact un.keep b o e q (by intro z; exact absurd (show b∈([]:List Addr) from z) (by simp)) (by simp)
    | some u=>
     rcases hO b with z | ⟨ob,xs,z⟩
     .rw[q] at z; cases z
     .have z2:=un.frzs b ob _ z
      obtain⟨e1,_⟩:=hok b _ z;obtain⟨e2,_⟩:=hok' b _ z2;rw[e] at e1; cases e1;exact e2
 cases hk:K.lookup a with
 | some o=>
  have e:=KX a o hk;rw[ha] at e;cases e;refine core (λ_=>none) (λ_=>.inl rfl) (.inr ⟨_,vs.toArray,_,hk,rfl,rfl,rfl,by rw[zL,lenV]; exact hl,by simpa using rv⟩) (λb u z=>by have z':(none:Option HO)=some u:=z; cases z') (λb z=>absurd rfl z) λz=>absurd rfl z
 | none=>
  refine core (λb=>if b=a then some (.frz { cls:=.type "list",data:=.seq vs.toArray } (.lst (ns.map V.int))) else none) (λb=>?_) (.inl (.inr ⟨{ cls:=.type "list",data:=.seq vs.toArray },zX rfl⟩)) (λb u z=>?_) (λb z=>?_) λ_=>hk
  .by_cases hb:b=a
   .exact .inr ⟨_,_,zX hb⟩
   .exact .inl (kO hb)
  .by_cases hb:b=a
   .have z':=(zX hb).symm.trans z
    cases z';subst hb;exact⟨ha,by rw[zH]; exact hl,vs,_,rv,ha⟩
   .have z':=(kO hb).symm.trans z
    cases z'
  .by_cases hb:b=a
   .exact hb
   .exact absurd (kO hb) z
end L2
namespace L2
open PySem PySem.Spec PyProof.Rows
end L2
namespace L2
open PySem PySem.Spec PyProof.Rows
def uD(s:Stmt):Arguments:=match s with
 | .FunctionDef _ a _ _ _ _ _ _ _ _=>a
 | _=>{ posonlyargs:=[],args:=[],vararg:=none,kwonlyargs:=[],kw_defaults:=[],kwarg:=none,defaults:=[] }
def uh(s:Stmt):List Stmt:=match s with
 | .FunctionDef _ _ b _ _ _ _ _ _ _=>b
 | _=>[]
def xV(s:Stmt):Scope:=match s with
 | .FunctionDef _ _ _ _ _ _ sc _ _ _=>sc
 | _=>{ kind:=.function,names:=[],isGenerator:=false,isCoroutine:=false }
abbrev CX0:CXT:=λ_ _ _ _ _ _=>False
abbrev E0:XK:=λ_ _ _=>False
def zcK{X:Cx}:za5 CX0 X E0:=λ_ _ _ _ _ _ _ h=>h.elim
structure Fun(K:PySem.W.Frag)(x qual:Str)(st:Stmt)(f:Addr)(fd:FuncData):Prop where
 ex:∃(oc:Value) (od:Option Addr) (kV doc pm:Value) (an:Option Addr) (cdv ct:Value) (osl:Array (Option Value)),
  fd=PySem.W.fnOf x qual (uD st) (uh st) (xV st) .none kV doc pm an cdv ct/\K.lookup f=some ⟨oc,od,.func fd,osl⟩/\PySem.W.codeIn K cdv qual=true
 kp:PySem.W.keepIn K (.ref f)=true
section
variable{P:Program}{w:World}{K:PySem.W.Frag}{mg:Str->Option Value}{base:Heap}
def Fun.ok{x qual:Str}{st:Stmt}{f:Addr}{fd:FuncData}{N ps:List Str}{k:Nat}{sp:Sp}(F:Fun K x qual st f fd)(S:FnScope N ps (xV st))(len:∀vs H Q E,sp vs H Q E->vs.length=ps.length)
  (hbody:∀(cdv:Value) (A:Around) (outer:List Env) (s:Shared) (H:Hp) (vs:List V) (Q:VK) (E:XK),Room k (A.deeper (envOfC qual (xV st) s.heap.objs.size f cdv))->sp vs H Q E->
   ∃t,PSs (cxOf CX0 P w K mg base N qual (xV st) f cdv A outer s H E).nox (uh st) t/\t { nx:=λ_ H'=>Q .non H',rt:=Q } (start N vs) H):FnOk P w K mg base CX0 (k+1) f fd ps sp:=by
 obtain⟨oc,od,kV,doc,pm,an,cdv,ct,osl,rfl,lk,hcd⟩:=F.ex;refine zoZ lk hcd S len λA outer s H vs Q E hr hsp=>?_
 obtain⟨t,h,q⟩:=hbody cdv A outer s H vs Q E hr hsp;exact⟨t,h.nox,q⟩
def Fun.binds{x qual:Str}{st:Stmt}{f:Addr}{fd:FuncData}{ps:List Str}(F:Fun K x qual st f fd)
  (h:∀(kV doc pm:Value) (an:Option Addr) (cdv ct:Value) (us:List Value),us.length=ps.length->bindArgs (PySem.W.fnOf x qual (uD st) (uh st) (xV st) .none kV doc pm an cdv ct) ⟨us,[]⟩=pure (ps.zip us)):Binds K fd ps []:=by
 obtain⟨oc,od,kV,doc,pm,an,cdv,ct,osl,rfl,lk,hcd⟩:=F.ex;exact .all (h kV doc pm an cdv ct)
def znD{x qual:Str}{st:Stmt}{f:Addr}{oc:Value}{od an:Option Addr}{osl:Array (Option Value)}{kV doc pm cdv ct:Value}(l:K.lookup f=some ⟨oc,od,.func (PySem.W.fnOf x qual (uD st) (uh st) (xV st) .none kV doc pm an cdv ct),osl⟩)
  (c:PySem.W.codeIn K cdv qual=true) (k:PySem.W.keepIn K (.ref f)=true):Fun K x qual st f (PySem.W.fnOf x qual (uD st) (uh st) (xV st) .none kV doc pm an cdv ct):=⟨⟨oc,od,kV,doc,pm,an,cdv,ct,osl,rfl,l,c⟩,k⟩
end
end L2
end
set_option bootstrap.genMatcherCode false
set_option genSizeOf false
set_option genSizeOfSpec false
namespace L2
open PySem PySem.W PyProof.Rows
section
variable{prog:Program}{w:World}{A:Around}{E:Value->Shared->Prop}
theorem zey{items:Array Value}(hh:A.handled=none)(hne:t≠it):∀(n i:Nat) (s:Shared) (Q:List Value->Shared->Prop),s.heap.IsListIter it t i->s.heap.IsList t items->i+n<=items.size->
  (∀h' tk,h'.IsListIter it t (i+n)->h'.IsList t items->(∀b o,b≠it->s.heap.get? b=some o->h'.get? b=some o)->Q ((items.toList.drop i).take n) { s with heap:=h',toks:=tk })->wpAny (model prog w) A (draw (.ref it) n) Q E s
 | 0,i,s,Q,hit,ht,_,hQ=>by
  show wpAny _ _ (pure []) Q E s
  exact zr (by simpa using hQ s.heap s.toks hit ht λ_ _ _ e=>e)
 | n+1,i,s,Q,hit,ht,hle,hQ=>by
  have hlt:i<items.size:=by omega
  show wpAny _ _ (pyNext (.ref it) >>= _) Q E s
  refine za ((xr hh it t hne items).item i s _ _ hlt ⟨hit,ht⟩ λv h1 tk hv st k1=>?_);rw[show items[i]?=some items[i] by simp[hlt]] at hv;cases hv;refine za (jc (zey hh hne n (i+1) _ _ st.1 st.2 ∅ λh2 tk2 a1 a2 a3=>zr ?_));have hd:items.toList.drop i=items[i]::items.toList.drop (i+1):=by simp[qJ,hlt]
  have:=hQ h2 tk2 (by rw[show i+(n+1)=i+1+n by omega]; exact a1) a2 λb o ne e=>a3 b o ne (k1 b o (by simpa using ne) e)
  rw[hd,List.take_succ_cons] at this;exact this
def zgo{s:Shared}{items:Array Value}{targets:List (Bool×(Value->Sem Unit))}(hh:A.handled=none)(ht:s.heap.IsList t items)
  (hn:targets.length=items.size) (hstar:targets.findIdx? (·.1)=none)
  (h:∀h' tk,(∀b o,s.heap.get? b=some o->h'.get? b=some o)->wpAny (model prog w) A (assignInOrder (targets.map (·.2)) items.toList) Q E { s with heap:=h',toks:=tk }) :
  wpAny (model prog w) A (unpack (.ref t) targets) Q E s:=by
 have hlt:t<s.heap.objs.size:=by obtain⟨o,ho,_⟩:=ht; exact zB ho
 unfold unpack;rw[hn,hstar];refine za (jc ?_);unfold unpackItems notIterableAtAll;refine za (za (vQ ht.typeIs PySem.slot_list_iter.lookup (zr ?_)));simp only[jG,jm];refine za (jc (vp ht ?_));refine za (jc (zey hh (zW hlt) items.size 0 _ _ ⟨_,zT _ rfl,rfl,rfl⟩ (ht.push _) ∅ λh1 tk hit1 ht1 k1=>?_));have hall:List.take items.size (List.drop 0 items.toList)=items.toList:=by
  rw[wI]; exact yN (by simp)
 rw[hall,kO (by simp)];refine za (jc ((xr hh s.heap.objs.size t (zW hlt) items).done _ _ _ ⟨by simpa using hit1,ht1⟩ λh2 tk2 k2=>?_));simp only[Option.isSome_none,jG,jm];refine zr (h h2 tk2 λb o e=>?_);have ne:=zW (zB e);exact k2 b o (by simpa using ne) (k1 b o ne (zf _ e))
end
variable{X:Cx}{pos:Pos}
def gLst(K:PySem.W.Frag)(n:Nat)(t:TGs):TG:=λv σ H Q=>∃a xs,v=.ref a/\SqL K H a xs/\xs.length=n/\t xs σ H Q
def zox(hc:X.calm=true)(h:PGs X es t)
  (hn:(assignEach es X.env).length=n) (hst:(assignEach es X.env).findIdx? (·.1)=none):PG X (.Tuple es k pos) (gLst X.K n t):=by
 intro pins s σ H v u Q I r hw;obtain⟨a,xs,e1,hq,hl,hw⟩:=hw;subst e1;cases r;obtain⟨its,rv,⟨o,m,g1,g2,g3,g4⟩,hz⟩:=I.list hq;rw[assign_Tuple];refine za (yj (zgo (items:=its.toArray) (I.ok.hd hc) ⟨o,g1,g2,m,g4⟩ (by simp[hn,<-hl,rv.length]) hst λh' tk hx=>?_));have I1:Inv X pins σ H { s with heap:=h',toks:=tk }:=I.kept (t':=tk) λb o e=>hx b o e
 exact h pins _ σ H xs _ Q I1 (by simpa using rv) hw
end L2
namespace ML
open PySem PySem.Spec PyProof.Rows L2
inductive W where
 | non | bl (b:Bool) | int (i:Int) | str (x:Str) | tup (l:List W) | fls (l:List W) | ref (n:Nat) | fdc (l:List (Key×W)) | fn (a:Addr)
 deriving Inhabited
inductive MO where
 | lst (l:List W) | dic (l:List (Key×W)) | ins (c:Nat) (fs:List (Str×W)) | tdc (ks:List (List Str))
structure Cl where
 c:Nat->Addr
 P:Program
 w:World
noncomputable def TDat(P:Program)(w:World)(a:Addr)(xs:List (List Str×Addr×Value)):Heap->Prop:=λh=>∃o es ep,h.get? a=some o/\o.ExactDict/\o.data=.dict es ep/\es.toList=xs.map (entryOfKey (tupleKind (strKind P w)))
abbrev MH:=List MO
abbrev M(α:Type):=MH->Option (α×MH)
abbrev En:=List (Option W)
abbrev ME:=En->M W
abbrev MT:=En->M Bool
noncomputable def bnd{α β:Type}(m:M α)(f:α->M β):M β:=λh=>match m h with
 | some (a,h')=>f a h'
 | none=>none
def zjC{α β:Type}{m:M α}{f:α->M β}{h h':MH}{a:α}(e:m h=some (a,h')):bnd m f h=f a h':=by unfold bnd; rw[e]
def xP{α β:Type}{m:M α}{f:α->M β}{h:MH}{r:β×MH}(e:bnd m f h=some r):∃a h',m h=some (a,h')/\f a h'=some r:=by
 unfold bnd at e;split at e
 .rename_i a h' e'
  exact⟨a,h',e',e⟩
 .cases e
noncomputable def SqF(K:PySem.W.Frag)(μ:List Addr)(H:Hp)(a:Addr)(vs:List V):Prop:=(Rd H a (.lst vs)/\a∉μ) \/
 ∃(o:Obj) (its:Array Value) (n:Nat),K.lookup a=some o/\o.cls=.type "list" /\ o.dict=none/\o.data=.seq its n/\its.size<=sizeLine/\Vals vs its.toList
def SqF.sq{K:PySem.W.Frag}{μ:List Addr}{H:Hp}(h:SqF K μ H a vs):SqL K H a vs:=h.elim (λh=>.inl h.1) .inr
noncomputable def SqD(μ:List Addr)(H:Hp)(a:Addr)(l:List (Key×V)):Prop:=Rd H a (.dK l)/\a∉μ
section rel
variable(K:PySem.W.Frag)(cl:Cl)(μ:List Addr)(H:Hp)
mutual
inductive RW:W->V->Prop
 | non:RW .non .non
 | bl (b:Bool):RW (.bl b) (.bl b)
 | int (i:Int):RW (.int i) (.int i)
 | str (x:Str):RW (.str x) (.str x)
 | tup {a:Addr} {vs:List V} {l:List W}:SqT K H a vs->RWs l vs->RW (.tup l) (.ref a)
 | ref {n:Nat} {a:Addr}:μ[n]?=some a->RW (.ref n) (.ref a)
 | fls {a:Addr} {vs:List V} {l:List W}:SqF K μ H a vs->RWs l vs->RW (.fls l) (.ref a)
 | fdc {a:Addr} {l:List (Key×W)} {l':List (Key×V)} {ws:List W} {vs:List V}:SqD μ H a l'->l.map (·.1)=l'.map (·.1)->ws=l.map (·.2)->vs=l'.map (·.2)->RWs ws vs->RW (.fdc l) (.ref a)
 | fn {a:Addr}:RW (.fn a) (.ref a)
inductive RWs:List W->List V->Prop
 | nil:RWs [] []
 | cons {w:W} {v:V} {l:List W} {vs:List V}:RW w v->RWs l vs->RWs (w::l) (v::vs)
end
noncomputable def RKs{κ:Type}(l:List (κ×W))(l':List (κ×V)):Prop:=l.map (·.1)=l'.map (·.1)/\RWs K μ H (l.map (·.2)) (l'.map (·.2))
noncomputable def OR(a:Addr):MO->Prop
 | .lst l=>∃vs,H a=some (.lst vs)/\RWs K μ H l vs
 | .dic l=>∃l',H a=some (.dK l')/\RKs K μ H l l'
 | .ins c fs=>∃dx fs',H a=some (.ins (cl.c c) dx fs')/\RKs K μ H fs fs'
 | .tdc ks=>∃xs:List (List Str×Addr×Value),H a=some (.ext (TDat cl.P cl.w a xs))/\xs.map (·.1)=ks/\ks.Nodup/\(a==sysModules)=false/\RWs K μ H (ks.map λk=>.tup (k.map .str)) (xs.map λx=>.ref x.2.1)
structure HR(h:MH):Prop where
 len:μ.length=h.length
 nd:μ.Nodup
 ob:∀(n:Nat) (a:Addr) (o:MO),μ[n]?=some a->h[n]?=some o->OR K cl μ H a o
structure ER(ρ:En)(σ:L2.St):Prop where
 len:ρ.length=σ.length
 at_:∀(i:Nat) (w:W),ρ[i]?=some (some w)->∃v,σ[i]?=some (some v)/\RW K μ H w v
end rel
structure Ext(μ:List Addr)(H:Hp)(μ':List Addr)(H':Hp):Prop where
 pre:μ<+:μ'
 fr:∀b o,H b=some o->b∉μ->H' b=some o/\b∉μ'
section
variable{K:PySem.W.Frag}{cl:Cl}{μ μ' μ'':List Addr}{H H' H'':Hp}{h h':MH}
def Ext.refl:Ext μ H μ H:=⟨zR _,λ_ _ e n=>⟨e,n⟩⟩
theorem Ext.trans(a:Ext μ H μ' H')(b:Ext μ' H' μ'' H''):Ext μ H μ'' H'':=
 ⟨a.pre.trans b.pre,λc o e n=>let ⟨e1,n1⟩:=a.fr c o e n; b.fr c o e1 n1⟩
def Ext.get(a:Ext μ H μ' H'){n:Nat}(e:μ[n]?=some x):μ'[n]?=some x:=by
 obtain⟨r,rfl⟩:=a.pre;rw[zu (zU.mp e).1]; exact e
theorem OR.some(q:OR K cl μ H a o):∃u,H a=some u/\Mut (some u):=by
 cases o with
 | lst l=>obtain⟨vs,q,_⟩:=q; exact⟨_,q,trivial⟩
 | dic l=>obtain⟨l',q,_⟩:=q; exact⟨_,q,trivial⟩
 | ins c fs=>obtain⟨dx,fs',q,_⟩:=q; exact⟨_,q,trivial⟩
 | tdc ks=>obtain⟨xs,q,_⟩:=q; exact⟨_,q,trivial⟩
def HR.mem_some(R:HR K cl μ H h)(hm:a∈μ):∃u,H a=some u/\Mut (some u):=by
 obtain⟨n,hn⟩:=jA.mp hm;have hl:n<h.length:=by rw[<-R.len]; exact(zU.mp hn).1
 exact(R.ob n a h[n] hn (zA hl)).some
def HR.fresh(R:HR K cl μ H h)(e:H a=none):a∉μ:=λhm=>by
 obtain⟨u,q,_⟩:=R.mem_some hm;rw[e] at q; cases q
def HR.notours(R:HR K cl μ H h)(e:H a=some u)(n:¬Mut (some u)):a∉μ:=λhm=>by
 obtain⟨u',q,m⟩:=R.mem_some hm;rw[e] at q; cases q;exact n m
def HR.notup(R:HR K cl μ H h)(e:Rd H a (.tup xs)):a∉μ:=by
 rcases e with e | ⟨o,e⟩
 .exact R.notours e λz=>z
 .exact R.notours e λz=>z
def SqF.ext(E:Ext μ H μ' H')(e:SqF K μ H a vs):SqF K μ' H' a vs:=by
 rcases e with ⟨e | ⟨o,e⟩,n⟩ | e
 .exact .inl ⟨.inl (E.fr _ _ e n).1,(E.fr _ _ e n).2⟩
 .exact .inl ⟨.inr ⟨o,(E.fr _ _ e n).1⟩,(E.fr _ _ e n).2⟩
 .exact .inr e
def SqD.ext(E:Ext μ H μ' H')(e:SqD μ H a l):SqD μ' H' a l:=by
 obtain⟨e | ⟨o,e⟩,n⟩:=e
 .exact⟨.inl (E.fr _ _ e n).1,(E.fr _ _ e n).2⟩
 .exact⟨.inr ⟨o,(E.fr _ _ e n).1⟩,(E.fr _ _ e n).2⟩
def SqT.ext(R:HR K cl μ H h)(E:Ext μ H μ' H')(e:SqT K H a xs):SqT K H' a xs:=by
 rcases e with e | e
 .have n:=R.notup e
  rcases e with e | ⟨o,e⟩
  .exact .inl (.inl (E.fr _ _ e n).1)
  .exact .inl (.inr ⟨o,(E.fr _ _ e n).1⟩)
 .exact .inr e
mutual
theorem RW.ext(R:HR K cl μ H h)(E:Ext μ H μ' H'):∀{w:W} {v:V},RW K μ H w v->RW K μ' H' w v
 | _,_,.non=>.non
 | _,_,.bl b=>.bl b
 | _,_,.int i=>.int i
 | _,_,.str x=>.str x
 | _,_,.tup s r=>.tup (SqT.ext R E s) (RWs.ext R E r)
 | _,_,.ref e=>.ref (E.get e)
 | _,_,.fls s r=>.fls (SqF.ext E s) (RWs.ext R E r)
 | _,_,.fdc s k e1 e2 r=>.fdc (SqD.ext E s) k e1 e2 (RWs.ext R E r)
 | _,_,.fn=>.fn
theorem RWs.ext(R:HR K cl μ H h)(E:Ext μ H μ' H'):∀{l:List W} {vs:List V},RWs K μ H l vs->RWs K μ' H' l vs
 | _,_,.nil=>.nil
 | _,_,.cons r t=>.cons (RW.ext R E r) (RWs.ext R E t)
end
theorem ER.ext(R:HR K cl μ H h)(E:Ext μ H μ' H')(e:ER K μ H ρ σ):ER K μ' H' ρ σ:=
 ⟨e.len,λi w q=>let ⟨v,q1,r⟩:=e.at_ i w q; ⟨v,q1,r.ext R E⟩⟩
theorem RWs.length:∀{l:List W} {vs:List V},RWs K μ H l vs->l.length=vs.length
 | _,_,.nil=>rfl
 | _,_,.cons _ t=>jW (· + 1) (RWs.length t)
theorem RWs.get:∀{l:List W} {vs:List V} {i:Nat} {w:W},RWs K μ H l vs->l[i]?=some w->∃v,vs[i]?=some v/\RW K μ H w v
 | _,_,_,_,.nil,e=>by simp at e
 | _,_,0,_,.cons r _,e=>by simp at e; subst e; exact⟨_,rfl,r⟩
 | _,_,i+1,w,.cons _ t,e=>by
  obtain⟨v,h1,h2⟩:=RWs.get (i:=i) (w:=w) t (by simpa using e);exact⟨v,by simpa using h1,h2⟩
theorem RWs.append:∀{l l':List W} {vs vs':List V},RWs K μ H l vs->RWs K μ H l' vs'->RWs K μ H (l++l') (vs++vs')
 | _,_,_,_,.nil,s=>s
 | _,_,_,_,.cons r t,s=>.cons r (RWs.append t s)
theorem RWs.take:∀{l:List W} {vs:List V} (n:Nat),RWs K μ H l vs->RWs K μ H (l.take n) (vs.take n)
 | _,_,0,_=>.nil
 | _,_,_+1,.nil=>.nil
 | _,_,n+1,.cons r t=>.cons r (RWs.take n t)
theorem RWs.drop:∀{l:List W} {vs:List V} (n:Nat),RWs K μ H l vs->RWs K μ H (l.drop n) (vs.drop n)
 | _,_,0,r=>r
 | _,_,_+1,.nil=>.nil
 | _,_,n+1,.cons _ t=>RWs.drop n t
theorem RWs.set(r:RW K μ H w v):∀{l:List W} {vs:List V} (i:Nat),RWs K μ H l vs->RWs K μ H (l.set i w) (vs.set i v)
 | _,_,_,.nil=>.nil
 | _,_,0,.cons _ t=>.cons r t
 | _,_,i+1,.cons q t=>.cons q (RWs.set r i t)
theorem RWs.dropLast:∀{l:List W} {vs:List V},RWs K μ H l vs->RWs K μ H l.dropLast vs.dropLast
 | _,_,.nil=>.nil
 | _,_,.cons _ .nil=>.nil
 | _,_,.cons r (.cons r2 t)=>.cons r (RWs.dropLast (.cons r2 t))
theorem RWs.rep(r:RWs K μ H l vs):∀k:Nat,RWs K μ H (List.replicate k l).flatten (List.replicate k vs).flatten
 | 0=>.nil
 | k+1=>by
  rw[jH,jH,qi,qi];exact r.append (RWs.rep r k)
theorem RWs.ints:∀ns:List Int,RWs K μ H (ns.map W.int) (ns.map V.int)
 | []=>.nil
 | n::r=>.cons (.int n) (RWs.ints r)
theorem OR.ext(R:HR K cl μ H h)(E:Ext μ H μ' H')(e:H' a=H a)(q:OR K cl μ H a o):OR K cl μ' H' a o:=by
 cases o with
 | lst l=>obtain⟨vs,q,r⟩:=q; exact⟨vs,e.trans q,r.ext R E⟩
 | dic l=>obtain⟨l',q,k,r⟩:=q; exact⟨l',e.trans q,k,r.ext R E⟩
 | ins c fs=>obtain⟨dx,fs',q,k,r⟩:=q; exact⟨dx,fs',e.trans q,k,r.ext R E⟩
 | tdc ks=>obtain⟨xs,q,k1,k2,k3,r⟩:=q; exact⟨xs,e.trans q,k1,k2,k3,r.ext R E⟩
def Ext.new(hp:H p=none):Ext μ H (μ++[p]) (upd H p u):=
 ⟨jh _ _,λb o e n=>by
  have ne:b≠p:=ux e hp
  exact⟨by rw[uc ne]; exact e,by simp[n,ne]⟩⟩
def Ext.side(hp:H p=none):Ext μ H μ (upd H p u):=
 ⟨zR _,λb o e n=>⟨by rw[uc (ux e hp)]; exact e,n⟩⟩
theorem HR.side(R:HR K cl μ H h)(hp:H p=none):HR K cl μ (upd H p u) h:=
 have hm:=R.fresh hp;⟨R.len,R.nd,λn a o e1 e2=>OR.ext R (Ext.side hp) (uc (by rintro rfl; exact hm (jF e1))) (R.ob n a o e1 e2)⟩
theorem HR.new(R:HR K cl μ H h)(hp:H p=none)(q:OR K cl (μ++[p]) (upd H p u) p o):HR K cl (μ++[p]) (upd H p u) (h++[o]):=by
 have hm:=R.fresh hp;refine⟨by simp[R.len],?_,λn a o' e1 e2=>?_⟩
 .rw[yc]
  exact⟨R.nd,by simp,by simp; exactλa ha=>by rintro rfl; exact hm ha⟩
 .by_cases hn:n<μ.length
  .rw[zu hn] at e1
   rw[zu (by rw[<-R.len]; exact hn)] at e2;exact OR.ext R (Ext.new hp) (uc (by rintro rfl; exact hm (jF e1))) (R.ob n a o' e1 e2)
  .rw[zE ∅] at e1
   rw[zE (by rw[<-R.len]; omega)] at e2;rw[R.len] at e1;have:n-h.length=0:=by
    by_cases z:n-h.length=0
    .exact z
    .rw[jB (by simp; omega)] at e1; cases e1
   rw[this] at e1 e2;simp at e1 e2;subst e1; subst e2;exact q
def Ext.put{n:Nat}{a:Addr}(hn:μ[n]?=some a):Ext μ H μ (upd H a u):=
 ⟨zR _,λb o e m=>⟨by rw[uc (by rintro rfl; exact m (jF hn))]; exact e,m⟩⟩
theorem HR.put{n:Nat}{a:Addr}(R:HR K cl μ H h)(hn:μ[n]?=some a)(q:OR K cl μ (upd H a u) a o):HR K cl μ (upd H a u) (h.set n o):=by
 refine⟨by simp[R.len],R.nd,λm b o' e1 e2=>?_⟩;by_cases hm:m=n
 .subst hm
  rw[hn] at e1; cases e1;rw[zK (by rw[<-R.len]; exact(zU.mp hn).1)] at e2;cases e2;exact q
 .rw[zJ (kY hm)] at e2
  have ne:b≠a:=by
   rintro rfl;obtain⟨h1,e1'⟩:=zU.mp e1;obtain⟨h2,e2'⟩:=zU.mp hn;exact hm ((vh R.nd).mp (e1'.trans e2'.symm))
  exact OR.ext R (Ext.put hn) (uc ne) (R.ob m b o' e1 e2)
end
noncomputable def KQ(K:PySem.W.Frag)(cl:Cl)(μ:List Addr)(H:Hp)(h':MH)(w:W)(Q:VK):Prop:=
 ∀μ' H' v,Ext μ H μ' H'->HR K cl μ' H' h'->RW K μ' H' w v->Q v H'
inductive tM(K:PySem.W.Frag)(cl:Cl)(m:ME)(σ:L2.St)(H:Hp)(Q:VK):Prop
 | mk (μ:List Addr) (h:MH) (ρ:En) (w:W) (h':MH) (p0:HR K cl μ H h) (p1:ER K μ H ρ σ) (p2:m ρ h=some (w,h')) (p3:KQ K cl μ H h' w Q):tM K cl m σ H Q
inductive tMT(K:PySem.W.Frag)(cl:Cl)(m:MT)(σ:L2.St)(H:Hp)(Q:Bool->Hp->Prop):Prop
 | mk (μ:List Addr) (h:MH) (ρ:En) (b:Bool) (h':MH) (p0:HR K cl μ H h) (p1:ER K μ H ρ σ) (p2:m ρ h=some (b,h')) (p3:∀μ' H',Ext μ H μ' H'->HR K cl μ' H' h'->Q b H'):tMT K cl m σ H Q
abbrev SE(X:Cx)(cl:Cl)(e:Expr)(m:ME):Prop:=PE X e (tM X.K cl m)
abbrev ST(X:Cx)(cl:Cl)(e:Expr)(m:MT):Prop:=PT X e (tMT X.K cl m)
def PE.wk(h:PE X e t)(w:∀σ H Q,t' σ H Q->t σ H Q):PE X e t':=λpins s σ H Q I q=>h pins s σ H Q I (w σ H Q q)
def PT.wk(h:PT X e t)(w:∀σ H Q,t' σ H Q->t σ H Q):PT X e t':=λpins s σ H Q I q=>h pins s σ H Q I (w σ H Q q)
def PA.wk(h:PA X e t)(w:∀σ H Q,t' σ H Q->t σ H Q):PA X e t':=λpos pins s σ H Q I q=>h pos pins s σ H Q I (w σ H Q q)
def PS.wk(h:PS X e t)(w:∀D σ H,t' D σ H->t D σ H):PS X e t':=λpins s σ H D I q=>h pins s σ H D I (w D σ H q)
def PSs.wk(h:PSs X e t)(w:∀D σ H,t' D σ H->t D σ H):PSs X e t':=λpins s σ H D I q=>h pins s σ H D I (w D σ H q)
noncomputable def eVar(i:Nat):ME:=λρ h=>match ρ[i]? with
 | some (some w)=>some (w,h)
 | _=>none
noncomputable def eC(w:W):ME:=λ_ h=>some (w,h)
noncomputable def eOp(f:W->W->M W)(a b:ME):ME:=λρ=>bnd (a ρ) λx=>bnd (b ρ) λy=>f x y
noncomputable def eUn(f:W->M W)(a:ME):ME:=λρ=>bnd (a ρ) f
noncomputable def xU:List ME->En->M (List W)
 | [],_=>λh=>some ([],h)
 | m::r,ρ=>bnd (m ρ) λx=>bnd (xU r ρ) λxs h=>some (x::xs,h)
noncomputable def xK(f:List W->M W)(as:List ME):ME:=λρ=>bnd (xU as ρ) f
noncomputable def asB(w:W):M Bool:=λh=>match w with
 | .bl b=>some (b,h)
 | _=>none
noncomputable def tVal(a:ME):MT:=λρ=>bnd (a ρ) asB
noncomputable def zbC(a b:MT):MT:=λρ=>bnd (a ρ) λx=>if x=true then b ρ else λh=>some (false,h)
noncomputable def tOrM(a b:MT):MT:=λρ=>bnd (a ρ) λx=>if x=true then (λh=>some (true,h)) else b ρ
noncomputable def eIf(t:MT)(a b:ME):ME:=λρ=>bnd (t ρ) λc=>if c=true then a ρ else b ρ
noncomputable def za1(f g:W->W->M W)(a b c:ME):ME:=λρ=>bnd (a ρ) λx=>bnd (b ρ) λy=>bnd (f x y) λz=>bnd (asB z) λk=>if k=true then bnd (c ρ) λu=>g y u else λh=>some (.bl false,h)
inductive rM(K:PySem.W.Frag)(cl:Cl)(f:W->W->M W)(x:V)(y:V)(H:Hp)(Q:VK):Prop
 | mk (μ:List Addr) (h:MH) (wx:W) (wy:W) (w:W) (h':MH) (p0:HR K cl μ H h) (p1:RW K μ H wx x) (p2:RW K μ H wy y) (p3:f wx wy h=some (w,h')) (p4:KQ K cl μ H h' w Q):rM K cl f x y H Q
inductive rM1(K:PySem.W.Frag)(cl:Cl)(f:W->M W)(x:V)(H:Hp)(Q:VK):Prop
 | mk (μ:List Addr) (h:MH) (wx:W) (w:W) (h':MH) (p0:HR K cl μ H h) (p1:RW K μ H wx x) (p2:f wx h=some (w,h')) (p3:KQ K cl μ H h' w Q):rM1 K cl f x H Q
inductive rMs(K:PySem.W.Frag)(cl:Cl)(f:List W->M W)(xs:List V)(H:Hp)(Q:VK):Prop
 | mk (μ:List Addr) (h:MH) (ws:List W) (w:W) (h':MH) (p0:HR K cl μ H h) (p1:RWs K μ H ws xs) (p2:f ws h=some (w,h')) (p3:KQ K cl μ H h' w Q):rMs K cl f xs H Q
inductive tMA(K:PySem.W.Frag)(cl:Cl)(ms:List ME)(σ:L2.St)(H:Hp)(Q:List V->Hp->Prop):Prop
 | mk (μ:List Addr) (h:MH) (ρ:En) (ws:List W) (h':MH) (p0:HR K cl μ H h) (p1:ER K μ H ρ σ) (p2:xU ms ρ h=some (ws,h')) (p3:∀μ' H' vs,Ext μ H μ' H'->HR K cl μ' H' h'->RWs K μ' H' ws vs->Q vs H'):tMA K cl ms σ H Q
abbrev SA(X:Cx)(cl:Cl)(es:List Expr)(ms:List ME):Prop:=PA X es (tMA X.K cl ms)
section
variable{X:Cx}{cl:Cl}{a b c:Expr}{ma mb mc:ME}{pos:Pos}{μ μ':List Addr}{H H':Hp}{h h':MH}
def KQ.pure{w:W}{v:V}{Q:VK}{K:PySem.W.Frag}(k:KQ K cl μ H h w Q)(R:HR K cl μ H h)(r:RW K μ H w v):Q v H:=k μ H v .refl R r
def KQ.ext{w:W}{Q:VK}{K:PySem.W.Frag}(E:Ext μ H μ' H')(k:KQ K cl μ H h w Q):KQ K cl μ' H' h w Q:=λμ2 H2 v E2 R2 r2=>k μ2 H2 v (E.trans E2) R2 r2
def znl(i:Nat)(hN:X.N[i]?=some x:=by rfl)(hv:Vis X.env.scope x:=by first | exact Or.inl rfl | exact Or.inr (Or.inl rfl) | exact Or.inr (Or.inr rfl))
  (hd:(x==("__debug__":Str))=false:=by decide) (hcd:(x==("__classdict__":Str))=false:=by decide):SE X cl (.Name x pos) (eVar i):=
 PE.wk (zoq (i:=i) hN hv hd hcd) λσ H Q q0=>by
  obtain⟨μ,h,ρ,w,h',R,er,e,k⟩:=q0;unfold eVar at e;split at e
  .rename_i w' q
   cases e;obtain⟨v,q1,r⟩:=er.at_ i _ q;exact⟨v,q1,k.pure R r⟩
  .cases e
def se_c{w:W}{v:V}(he:PE X a (tC v))(r:∀μ H,RW X.K μ H w v):SE X cl a (eC w):=
 PE.wk he λσ H Q q0=>by
  obtain⟨μ,h,ρ,w',h',R,er,e,k⟩:=q0;cases e;exact k.pure R (r μ H)
def zno{i:Int}{j}:SE X cl (.Constant (.int i) j pos) (eC (.int i)):=se_c zoD λ_ _=>.int i
def zpC{i:Bool}{j}:SE X cl (.Constant (.bool i) j pos) (eC (.bl i)):=se_c zo0 λ_ _=>.bl i
def zot{j}:SE X cl (.Constant .none j pos) (eC .non):=se_c zoI λ_ _=>.non
def zoA{i:Str}{j}:SE X cl (.Constant (.str i) j pos) (eC (.str i)):=se_c zn7 λ_ _=>.str i
def zm0(hm:X.mg x=some u)(r:RelV v u)(rw:∀μ H,RW X.K μ H w v)(hg:Gl X x:=by rfl)(hd:(x==("__debug__":Str))=false:=by decide):SE X cl (.Name x pos) (eC w):=
 se_c (zg5 hg hm r hd) rw
def zbl{K:PySem.W.Frag}{f:W->W->M W}(q:tM K cl (eOp f ma mb) σ H Q):tOp (rM K cl f) (tM K cl ma) (tM K cl mb) σ H Q:=by
 obtain⟨μ,h,ρ,w,h',R,er,e,k⟩:=q;obtain⟨x,h1,e1,e⟩:=xP e;obtain⟨y,h2,e2,e3⟩:=xP e;exact⟨μ,h,ρ,x,h1,R,er,e1,λμ1 H1 vx E1 R1 rx=>⟨μ1,h1,ρ,y,h2,R1,er.ext R E1,e2,λμ2 H2 vy E2 R2 ry=>⟨μ2,h2,x,y,w,h',R2,rx.ext R1 E2,ry,e3,k.ext (E1.trans E2)⟩⟩⟩
def zo2{f:W->W->M W}(ho:OpR X (binaryOp op) (rM X.K cl f))(ha:SE X cl a ma)(hb:SE X cl b mb):SE X cl (.BinOp a op b pos) (eOp f ma mb):=
 PE.wk (zpH ho ha hb) λσ H Q q=>zbl q
def znw{f:W->W->M W}(ho:OpR X (compareOp op) (rM X.K cl f))(ha:SE X cl a ma)(hb:SE X cl b mb)(hm:behindInMarks op b=false:=by first | exact nomark _ | rfl):SE X cl (.Compare a [op] [b] pos) (eOp f ma mb):=
 PE.wk (zmW ho ha hb hm) λσ H Q q=>zbl q
def zo5{f:W->M W}(ho:UnR X (unaryOp op) (rM1 X.K cl f))(ha:SE X cl a ma):SE X cl (.UnaryOp op a pos) (eUn f ma):=
 PE.wk (zpd ho ha) λσ H Q q0=>by
  obtain⟨μ,h,ρ,w,h',R,er,e,k⟩:=q0;obtain⟨x,h1,e1,e⟩:=xP e;exact⟨μ,h,ρ,x,h1,R,er,e1,λμ1 H1 vx E1 R1 rx=>⟨μ1,h1,x,w,h',R1,rx,e,k.ext E1⟩⟩
theorem RW.bl_of{K:PySem.W.Frag}{k:Bool}(r:RW K μ H (.bl k) v):v=.bl k:=by cases r; rfl
def zh8{w:W}{b:Bool}(e:asB w h=some (b,h')):w=.bl b/\h=h':=by
 unfold asB at e; split at e
 .cases e; exact⟨rfl,rfl⟩
 .cases e
def zcn{K:PySem.W.Frag}{σ:L2.St}(q:tMT K cl (tVal ma) σ H Q):tM K cl ma σ H λx H1=>∃c,x=.bl c/\Q c H1:=by
 obtain⟨μ,h,ρ,b,h',R,er,e,k⟩:=q;obtain⟨x,h1,e1,e⟩:=xP e;obtain⟨rfl,rfl⟩:=zh8 e;exact⟨μ,h,ρ,_,h1,R,er,e1,λμ1 H1 vx E1 R1 rx=>⟨b,rx.bl_of,k μ1 H1 E1 R1⟩⟩
def zm3(ha:SE X cl a ma)(he:∀whole,isTrue a X.env whole=(do let v <-whole; standAt a.pos; holding [v] (truthy v)):=by intro _; rfl):ST X cl a (tVal ma):=
 PT.wk (znq ha he) λσ H Q q=>zcn q
def zol{f:W->W->M W}(ho:OpR X (compareOp op) (rM X.K cl f))(ha:SE X cl a ma)(hb:SE X cl b mb)(hm:behindInMarks op b=false:=by first | exact nomark _ | rfl):ST X cl (.Compare a [op] [b] pos) (tVal (eOp f ma mb)):=
 PT.wk (zmp ho ha hb hm) λσ H Q q=>by
  obtain⟨μ,h,ρ,w,h',R,er,e,k⟩:=zcn q;exact zbl ⟨μ,h,ρ,w,h',R,er,e,k⟩
def zdv{K:PySem.W.Frag}{f g:W->W->M W}(q:tM K cl (za1 f g ma mb mc) σ H Q):zfh (rM K cl f) (rM K cl g) (tM K cl ma) (tM K cl mb) (tM K cl mc) σ H Q:=by
 obtain⟨μ,h,ρ,w,h',R,er,e,k⟩:=q;obtain⟨x,h1,e1,e⟩:=xP e;obtain⟨y,h2,e2,e⟩:=xP e;obtain⟨z,h3,e3,e⟩:=xP e;obtain⟨c,h4,e4,e⟩:=xP e;obtain⟨rfl,rfl⟩:=zh8 e4;refine⟨μ,h,ρ,x,h1,R,er,e1,λμ1 H1 vx E1 R1 rx=>⟨μ1,h1,ρ,y,h2,R1,er.ext R E1,e2,λμ2 H2 vy E2 R2 ry=>⟨μ2,h2,x,y,_,h3,R2,rx.ext R1 E2,ry,e3,λμ3 H3 vz E3 R3 rz=>⟨c,rz.bl_of,?_⟩⟩⟩⟩;cases c with
 | true=>
  rw[zX rfl] at e ⊢;obtain⟨u,h5,e5,e6⟩:=xP e;exact⟨μ3,h3,ρ,u,h5,R3,((er.ext R E1).ext R1 E2).ext R2 E3,e5,λμ4 H4 vu E4 R4 ru=>⟨μ4,h5,y,u,w,h',R4,(ry.ext R2 E3).ext R3 E4,ru,e6,k.ext (E1.trans (E2.trans (E3.trans E4)))⟩⟩
 | false=>
  rw[kO z9] at e ⊢;cases e;exact k μ3 H3 _ (E1.trans (E2.trans E3)) R3 (.bl false)
def zky{f:W->W->M W}(ho:OpR X (compareOp op) (rM X.K cl f))(ho':OpR X (compareOp op') (rM X.K cl g))(ha:SE X cl a ma)(hb:SE X cl b mb)(hc:SE X cl c mc)
  (hm:lastMarks [op,op'] [b,c]=false:=by with_unfolding_all rfl):SE X cl (.Compare a [op,op'] [b,c] pos) (za1 f g ma mb mc):=
 PE.wk (zka ho ho' ha hb hc hm) λσ H Q q=>zdv q
def zkO{f:W->W->M W}(ho:OpR X (compareOp op) (rM X.K cl f))(ho':OpR X (compareOp op') (rM X.K cl g))(ha:SE X cl a ma)(hb:SE X cl b mb)(hc:SE X cl c mc)
  (hm:lastMarks [op,op'] [b,c]=false:=by with_unfolding_all rfl):ST X cl (.Compare a [op,op'] [b,c] pos) (tVal (za1 f g ma mb mc)):=
 PT.wk (zkE ho ho' ha hb hc hm) λσ H Q q=>by
  obtain⟨μ,h,ρ,w,h',R,er,e,k⟩:=zcn q;exact zdv ⟨μ,h,ρ,w,h',R,er,e,k⟩
abbrev SW(X:Cx)(cl:Cl)(e:Expr)(m:MT):Prop:=PW X e (tMT X.K cl m)
def PW.wk(h:PW X e t)(w:∀σ H Q,t' σ H Q->t σ H Q):PW X e t':=λwh pins s σ H Q I q=>h wh pins s σ H Q I (w σ H Q q)
variable{ta tb:MT}{rest:List Expr}
def zlL(ha:ST X cl a ta):SW X cl (.BoolOp .And [a] pos) ta:=pw_and1 ha
def zm2(ha:ST X cl a ta):SW X cl (.BoolOp .Or [a] pos) ta:=pw_or1 ha
def znR(ha:ST X cl a ta)(hb:SW X cl (.BoolOp .And (b::rest) pos) tb):SW X cl (.BoolOp .And (a::b::rest) pos) (zbC ta tb):=
 PW.wk (pw_and ha hb) λσ H Q q0=>by
  obtain⟨μ,h,ρ,w,h',R,er,e,k⟩:=q0;obtain⟨x,h1,e1,e⟩:=xP e;refine⟨μ,h,ρ,x,h1,R,er,e1,λμ1 H1 E1 R1=>?_⟩;cases x with
  | true=>rw[zX rfl] at e ⊢; exact⟨μ1,h1,ρ,w,h',R1,er.ext R E1,e,λμ2 H2 E2 R2=>k μ2 H2 (E1.trans E2) R2⟩
  | false=>rw[kO z9] at e ⊢; cases e; exact k μ1 H1 E1 R1
def zpp(ha:ST X cl a ta)(hb:SW X cl (.BoolOp .Or (b::rest) pos) tb):SW X cl (.BoolOp .Or (a::b::rest) pos) (tOrM ta tb):=
 PW.wk (pw_or ha hb) λσ H Q q0=>by
  obtain⟨μ,h,ρ,w,h',R,er,e,k⟩:=q0;obtain⟨x,h1,e1,e⟩:=xP e;refine⟨μ,h,ρ,x,h1,R,er,e1,λμ1 H1 E1 R1=>?_⟩;cases x with
  | false=>rw[kO z9] at e ⊢; exact⟨μ1,h1,ρ,w,h',R1,er.ext R E1,e,λμ2 H2 E2 R2=>k μ2 H2 (E1.trans E2) R2⟩
  | true=>rw[zX rfl] at e ⊢; cases e; exact k μ1 H1 E1 R1
def zmG(h:SW X cl a ta):ST X cl a ta:=h.pt
def zo8(ht:ST X cl t ta)(ha:SE X cl a ma)(hb:SE X cl b mb):SE X cl (.IfExp t a b pos) (eIf ta ma mb):=
 PE.wk (zkb ht ha hb) λσ H Q q0=>by
  obtain⟨μ,h,ρ,w,h',R,er,e,k⟩:=q0;obtain⟨x,h1,e1,e⟩:=xP e;refine⟨μ,h,ρ,x,h1,R,er,e1,λμ1 H1 E1 R1=>?_⟩;cases x with
  | true=>rw[zX rfl] at e ⊢; exact⟨μ1,h1,ρ,w,h',R1,er.ext R E1,e,k.ext E1⟩
  | false=>rw[kO z9] at e ⊢; exact⟨μ1,h1,ρ,w,h',R1,er.ext R E1,e,k.ext E1⟩
variable{es:List Expr}{ms:List ME}{e:Expr}{m:ME}
def zcr:SA X cl [] []:=PA.wk zjk λσ H Q q0=>by
 obtain⟨μ,h,ρ,ws,h',R,er,e,k⟩:=q0;cases e;exact k μ H [] .refl R .nil
def zaU(ha:SE X cl e m)(hr:SA X cl es ms)(hs:starEach (e::es) X.env=(false,eval e X.env)::starEach es X.env:=by rfl):SA X cl (e::es) (m::ms):=
 PA.wk (zd7 ha hr hs) λσ H Q q0=>by
  obtain⟨μ,h,ρ,ws,h',R,er,e,k⟩:=q0;obtain⟨x,h1,e1,e⟩:=xP e;obtain⟨xs,h2,e2,e⟩:=xP e;cases e;exact⟨μ,h,ρ,x,h1,R,er,e1,λμ1 H1 vx E1 R1 rx=>⟨μ1,h1,ρ,xs,_,R1,er.ext R E1,e2,λμ2 H2 vs E2 R2 rs=>k μ2 H2 _ (E1.trans E2) R2 (.cons (rx.ext R1 E2) rs)⟩⟩
noncomputable def cap:Nat:=16000000
def zax:cap<=sizeLine:=by decide
noncomputable def tupW:List W->M W:=λws h=>if ws.length<=cap then some (.tup ws,h) else none
noncomputable def flsW:List W->M W:=λws h=>if ws.length<=cap then some (.fls ws,h) else none
noncomputable def lstW:List W->M W:=λws h=>if ws.length<=cap then some (.ref h.length,h++[.lst ws]) else none
theorem KQ.tup{K:PySem.W.Frag}{ws:List W}{xs:List V}{Q:VK}{p:Addr}(k:KQ K cl μ H h (.tup ws) Q)(R:HR K cl μ H h)(rs:RWs K μ H ws xs)(hp:H p=none):Q (.ref p) (upd H p (.tup xs)):=
 k μ _ _ (.side hp) (R.side hp) (.tup (SqT.of uv) (rs.ext R (.side hp)))
theorem KQ.lst{K:PySem.W.Frag}{ws:List W}{xs:List V}(k:KQ K cl μ H (h++[.lst ws]) (.ref h.length) Q)(R:HR K cl μ H h)(rs:RWs K μ H ws xs)(hp:H p=none):Q (.ref p) (upd H p (.lst xs)):=
 k (μ++[p]) _ _ (.new hp) (R.new hp ⟨xs,uv,rs.ext R (.new hp)⟩) (.ref (by rw[<-R.len]; simp))
theorem KQ.fls{K:PySem.W.Frag}{ws:List W}{xs:List V}{Q:VK}{p:Addr}(k:KQ K cl μ H h (.fls ws) Q)(R:HR K cl μ H h)(rs:RWs K μ H ws xs)(hp:H p=none):Q (.ref p) (upd H p (.lst xs)):=
 k μ _ _ (.side hp) (R.side hp) (.fls (.inl ⟨.inl uv,R.fresh hp⟩) (rs.ext R (.side hp)))
def znj{x1}(hs:SA X cl es ms):SE X cl (.Tuple es x1 pos) (xK tupW ms):=
 PE.wk (znH hs) λσ H Q q0=>by
  obtain⟨μ,h,ρ,w,h',R,er,e,k⟩:=q0;obtain⟨ws,h1,e1,e⟩:=xP e;refine⟨μ,h,ρ,ws,h1,R,er,e1,λμ1 H1 vs E1 R1 rs=>?_⟩;unfold tupW at e;split at e
  .rename_i hl
   cases e;exact⟨zQ (by rw[<-rs.length]; exact hl) zax,λp hp=>(k.ext E1).tup R1 rs hp⟩
  .cases e
def znL(hs:SA X cl es ms):SE X cl (.List es pos) (xK flsW ms):=
 PE.wk (zi6 hs) λσ H Q q0=>by
  obtain⟨μ,h,ρ,w,h',R,er,e,k⟩:=q0;obtain⟨ws,h1,e1,e⟩:=xP e;refine⟨μ,h,ρ,ws,h1,R,er,e1,λμ1 H1 vs E1 R1 rs=>?_⟩;unfold flsW at e;split at e
  .rename_i hl
   cases e;exact⟨zQ (by rw[<-rs.length]; exact hl) zax,λp hp=>(k.ext E1).fls R1 rs hp⟩
  .cases e
def zon(hs:SA X cl es ms):SE X cl (.List es pos) (xK lstW ms):=
 PE.wk (zi6 hs) λσ H Q q0=>by
  obtain⟨μ,h,ρ,w,h',R,er,e,k⟩:=q0;obtain⟨ws,h1,e1,e⟩:=xP e;refine⟨μ,h,ρ,ws,h1,R,er,e1,λμ1 H1 vs E1 R1 rs=>?_⟩;unfold lstW at e;split at e
  .rename_i hl
   cases e;exact⟨zQ (by rw[<-rs.length]; exact hl) zax,λp hp=>(k.ext E1).lst R1 rs hp⟩
  .cases e
end
noncomputable def spM(K:PySem.W.Frag)(cl:Cl)(f:List W->M W):Sp:=λvs H Q _=>rMs K cl f vs H Q
mutual
noncomputable def low(m:Nat):W->Bool
 | .tup l=>lows m l
 | .fls l=>lows m l
 | .ref n=>decide (n<m)
 | .fdc l=>lowk m l
 | _=>true
noncomputable def lowk(m:Nat):List (Key×W)->Bool
 | []=>true
 | (_,w)::r=>low m w&&lowk m r
noncomputable def lows(m:Nat):List W->Bool
 | []=>true
 | w::r=>low m w&&lows m r
end
open Classical in
noncomputable def gc(f:List W->M W):List W->M W:=λws h=>match f ws h with
 | some (w,h')=>if h<+:h'/\w≠.non then (if low h.length w=true then some (w,h) else match w with
   | .ref n=>match h'[n]? with
    | some (.lst l)=>if lows h.length l=true then some (.fls l,h) else some (w,h')
    | _=>some (w,h')
   | _=>some (w,h')) else some (w,h')
 | none=>none
def u5{f:List W->M W}{h:MH}(e:f ws h=some (w,h'))(p:low h.length w=true)(q:h<+:h')(n:w≠.non\/h'=h:=by first | exact .inr rfl | exact .inl nofun):gc f ws h=some (w,h):=by
 unfold gc; rw[e];by_cases z:w=.non
 .have:=n.resolve_left (λy=>y z)
  subst this;simp only[z,ne_eq,not_true_eq_false,and_false,jm]
 .have c:h<+:h'/\w≠.non:=⟨q,z⟩
  simp only;rw[zX c,zX p]
def zin{f:List W->M W}{h h':MH}(e:f ws h=some (.ref n,h'))(q:h<+:h')(hn:h.length<=n)(o:h'[n]?=some (.lst l))(p:lows h.length l=true):gc f ws h=some (.fls l,h):=by
 unfold gc; rw[e];have b:low h.length (.ref n)=false:=by unfold low; simp; omega
 have c:h<+:h'/\W.ref n≠.non:=⟨q,nofun⟩;simp only;rw[zX c];simp only[b,kI,o,p,jG,jm]
theorem zec(m:Nat):∀l:List (Key×W),lowk m l=lows m (l.map (·.2))
 | []=>by unfold lowk lows; rfl
 | (k,w)::r=>by unfold lowk; rw[zec m r]; simp only[zy]; conv=>rhs; unfold lows
section
variable{K:PySem.W.Frag}{cl:Cl}{μ μ':List Addr}{H H':Hp}
mutual
theorem RW.low:∀{w:W} {v:V},RW K μ H w v->ML.low μ.length w=true
 | _,_,.non=>by unfold ML.low; rfl
 | _,_,.bl b=>by unfold ML.low; rfl
 | _,_,.int i=>by unfold ML.low; rfl
 | _,_,.str x=>by unfold ML.low; rfl
 | _,_,.tup s r=>by unfold ML.low; exact RWs.low r
 | _,_,.fls s r=>by unfold ML.low; exact RWs.low r
 | _,_,.fdc s k e1 e2 r=>by unfold ML.low; rw[zec,<-e1]; exact RWs.low r
 | _,_,.fn=>by unfold ML.low; rfl
 | _,_,.ref e=>by unfold ML.low; simpa using (zU.mp e).1
theorem RWs.low:∀{l:List W} {vs:List V},RWs K μ H l vs->lows μ.length l=true
 | _,_,.nil=>by unfold lows; rfl
 | _,_,.cons r t=>by unfold lows; rw[RW.low r,RWs.low t]; rfl
end
mutual
theorem RW.cut(pre:μ<+:μ'):∀{w:W} {v:V},ML.low μ.length w=true->RW K μ' H w v->RW K μ H w v
 | _,_,_,.non=>.non
 | _,_,_,.bl b=>.bl b
 | _,_,_,.int i=>.int i
 | _,_,_,.str x=>.str x
 | .tup l,_,p,.tup s r=>.tup s (RWs.cut pre (by unfold ML.low at p; exact p) r)
 | .fls l,_,p,.fls s r=>.fls (s.elim (λz=>.inl ⟨z.1,λq=>z.2 (pre.subset q)⟩) .inr) (RWs.cut pre (by unfold ML.low at p; exact p) r)
 | .fdc l,_,p,.fdc s k e1 e2 r=>.fdc ⟨s.1,λq=>s.2 (pre.subset q)⟩ k e1 e2 (RWs.cut pre (by unfold ML.low at p; rw[zec,<-e1] at p; exact p) r)
 | .fn _,_,_,.fn=>.fn
 | .ref n,_,p,.ref e=>by
  have p':n<μ.length:=by unfold ML.low at p; simpa using p
  obtain⟨t,rfl⟩:=pre;rw[zu p'] at e;exact .ref e
theorem RWs.cut(pre:μ<+:μ'):∀{l:List W} {vs:List V},lows μ.length l=true->RWs K μ' H l vs->RWs K μ H l vs
 | _,_,_,.nil=>.nil
 | w::l,_,p,.cons r t=>by
  have p':ML.low μ.length w=true/\lows μ.length l=true:=by unfold lows at p; simpa using p
  exact .cons (RW.cut pre p'.1 r) (RWs.cut pre p'.2 t)
end
theorem HR.cut(R:HR K cl μ H h)(E:Ext μ H μ' H')(R':HR K cl μ' H' h')(p:h<+:h'):HR K cl μ H' h:=by
 obtain⟨t,rfl⟩:=p;refine⟨R.len,R.nd,λn a o e1 e2=>?_⟩;have q:=R.ob n a o e1 e2;have q':=R'.ob n a o (E.get e1) (by rw[zu (zU.mp e2).1]; exact e2);cases o with
 | lst l=>obtain⟨vs0,_,r0⟩:=q; obtain⟨vs,z,r⟩:=q'; exact⟨vs,z,RWs.cut E.pre r0.low r⟩
 | dic l=>obtain⟨l0,_,_,r0⟩:=q; obtain⟨l',z,k,r⟩:=q'; exact⟨l',z,k,RWs.cut E.pre r0.low r⟩
 | ins c fs=>obtain⟨_,fs0,_,_,r0⟩:=q; obtain⟨dx,fs',z,k,r⟩:=q'; exact⟨dx,fs',z,k,RWs.cut E.pre r0.low r⟩
 | tdc ks=>obtain⟨_,_,_,_,_,r0⟩:=q; obtain⟨xs,z,k1,k2,k3,r⟩:=q'; exact⟨xs,z,k1,k2,k3,RWs.cut E.pre r0.low r⟩
def zpf{f:List W->M W}(q:spM K cl (gc f) vs H Q E):spM K cl f vs H Q E:=by
 obtain⟨μ,h,ws,w,h',R,rs,e,k⟩:=q;unfold gc at e;split at e
 .rename_i w1 h1 e1
  have plain:∀{w h'},some (w1,h1)=some (w,h')->KQ K cl μ H h' w Q->spM K cl f vs H Q E:=λq k=>by cases q; exact⟨μ,h,ws,_,_,R,rs,e1,k⟩
  split at e
  .rename_i c
   replace c:=c.1
   have cut:∀{μ' H'},Ext μ H μ' H'->Ext μ H μ H':=λE'=>⟨zR _,λb o e n=>⟨(E'.fr b o e n).1,n⟩⟩
   split at e
   .rename_i p
    cases e;refine⟨μ,h,ws,_,h1,R,rs,e1,λμ' H' v E' R' r'=>?_⟩;exact k μ H' v (cut E') (R.cut E' R' c) (RW.cut E'.pre (by rw[R.len]; exact p) r')
   .rename_i p
    split at e
    .rename_i n
     split at e
     .rename_i l ho
      split at e
      .rename_i pl
       cases e;refine⟨μ,h,ws,_,h1,R,rs,e1,λμ' H' v E' R' r'=>?_⟩;cases r' with
       | @ref _ a hm=>
        obtain⟨vs',hv,rv⟩:=R'.ob n a _ hm ho;refine k μ H' _ (cut E') (R.cut E' R' c) (.fls (.inl ⟨.inl hv,λz=>?_⟩) (RWs.cut E'.pre (by rw[R.len]; exact pl) rv));obtain⟨m,hmm⟩:=jA.mp z;have h2:=E'.get hmm;have hlt:m<μ.length:=(zU.mp hmm).1;obtain⟨z1,z2⟩:=zU.mp h2;obtain⟨z3,z4⟩:=zU.mp hm;have:m=n:=(vh R'.nd).mp (z2.trans z4.symm);subst this;refine p ?_;unfold low;rw[R.len] at hlt;simpa using hlt
      .exact plain e k
     .exact plain e k
    .exact plain e k
  .exact plain e k
 .cases e
end
section
variable{X:Cx}{cl:Cl}{k:Nat}{f:Addr}{fd:FuncData}{ps:List Str}{x:Str}{p pos:Pos}{e:Expr}{es:List Expr}{g:List W->M W}{m:ME}{ms:List ME}
def zbw{K:PySem.W.Frag}{f:List W->M W}{σ:L2.St}{H:Hp}(q:tM K cl (xK f ms) σ H Q):tMA K cl ms σ H λvs H1=>rMs K cl f vs H1 Q:=by
 obtain⟨μ,h,ρ,w,h',R,er,e,k⟩:=q;obtain⟨ws,h1,e1,e⟩:=xP e;exact⟨μ,h,ρ,ws,h1,R,er,e1,λμ1 H1 vs E1 R1 rs=>⟨μ1,h1,ws,w,h',R1,rs,e,k.ext E1⟩⟩
def zmM(F:FnOk X.prog X.w X.K X.mg X.base CX0 k f fd ps (spM X.K cl g))(hr:Room k X.A)(hm:X.mg x=some (.ref f))(hk:PySem.W.keepIn X.K (.ref f)=true)(hb:Binds X.K fd ps [])
  (ha:SA X cl (e::es) ms) (hg:Gl X x:=by rfl) (hdb:(x==("__debug__":Str))=false:=by decide) (hst:starEach (e::es) X.env=(false,eval e X.env)::starEach es X.env:=by rfl) (hpl:(backTo pos (starEach es X.env)).any (·.1)=false:=by rfl):SE X cl (.Call (.Name x p) (e::es) [] pos) (xK g ms):=
 PE.wk (zlD F hr hg hm hk hb .nil zcK ha hdb hst hpl) λσ H Q q=>by
  obtain⟨μ,h,ρ,ws,h1,R,er,e1,k1⟩:=zbw q;exact⟨μ,h,ρ,ws,h1,R,er,e1,λμ1 H1 vs E1 R1 rs=>by show spM X.K cl g (vs++[]) H1 Q E0; rw[kh]; exact k1 μ1 H1 vs E1 R1 rs⟩
def zjB(F:FnOk X.prog X.w X.K X.mg X.base CX0 k f fd ps (spM X.K cl g))(hr:Room k X.A)(hm:X.mg x=some (.ref f))(hk:PySem.W.keepIn X.K (.ref f)=true)(hb:Binds X.K fd ps [])
  (hg:Gl X x:=by rfl) (hdb:(x==("__debug__":Str))=false:=by decide):SE X cl (.Call (.Name x p) [] [] pos) (xK g []):=
 PE.wk (zj6 F hr hg hm hk hb .nil zcK hdb) λσ H Q q=>by
  obtain⟨μ,h,ρ,ws,h1,R,er,e1,k1⟩:=zbw q;cases e1;exact k1 μ H [] .refl R .nil
def zjJ{id:String}(hc:zad X (.builtin id) (rMs X.K cl g))(hm:X.mg x=none)(hv:bootBuiltins x=some (.builtin id))(ha:SA X cl (e::es) ms)(hg:Gl X x:=by rfl)(hn:x≠"__name__":=by decide)(hdb:(x==("__debug__":Str))=false:=by decide)(hst:starEach (e::es) X.env=(false,eval e X.env)::starEach es X.env:=by rfl)(hpl:(backTo pos (starEach es X.env)).any (·.1)=false:=by rfl) :
  SE X cl (.Call (.Name x p) (e::es) [] pos) (xK g ms):=
 PE.wk (zfO hc hg hm hv ha hn hdb hst hpl) λσ H Q q=>zbw q
def zix{id:String}(hc:zad X (.type id) (rMs X.K cl g))(hm:X.mg x=none)(hv:bootBuiltins x=some (.type id))(ha:SA X cl (e::es) ms)(hg:Gl X x:=by rfl)(hn:x≠"__name__":=by decide)(hdb:(x==("__debug__":Str))=false:=by decide)(hst:starEach (e::es) X.env=(false,eval e X.env)::starEach es X.env:=by rfl)(hpl:(backTo pos (starEach es X.env)).any (·.1)=false:=by rfl) :
  SE X cl (.Call (.Name x p) (e::es) [] pos) (xK g ms):=
 PE.wk (zib hc hg hm hv ha hn hdb hst hpl) λσ H Q q=>zbw q
end
inductive Fl where
 | nx (ρ:En) | ret (w:W) | bk (ρ:En) | ct (ρ:En)
abbrev MS:=En->MH->Option (Fl×MH)
abbrev MG:=W->En->M En
noncomputable def KF(K:PySem.W.Frag)(cl:Cl)(μ:List Addr)(H:Hp)(h':MH)(fl:Fl)(D:Ends):Prop:=∀μ' H',Ext μ H μ' H'->HR K cl μ' H' h'->match fl with
 | .nx ρ=>∀σ,ER K μ' H' ρ σ->D.nx σ H'
 | .ret w=>∀v,RW K μ' H' w v->D.rt v H'
 | .bk ρ=>∀σ,ER K μ' H' ρ σ->D.bk σ H'
 | .ct ρ=>∀σ,ER K μ' H' ρ σ->D.ct σ H'
inductive tMS(K:PySem.W.Frag)(cl:Cl)(m:MS)(D:Ends)(σ:L2.St)(H:Hp):Prop
 | mk (μ:List Addr) (h:MH) (ρ:En) (fl:Fl) (h':MH) (p0:HR K cl μ H h) (p1:ER K μ H ρ σ) (p2:m ρ h=some (fl,h')) (p3:KF K cl μ H h' fl D):tMS K cl m D σ H
abbrev SS(X:Cx)(cl:Cl)(st:Stmt)(m:MS):Prop:=PS X st (tMS X.K cl m)
abbrev SB(X:Cx)(cl:Cl)(st:List Stmt)(m:MS):Prop:=PSs X st (tMS X.K cl m)
inductive tMG(K:PySem.W.Frag)(cl:Cl)(g:MG)(v:V)(σ:L2.St)(H:Hp)(Q:L2.St->Hp->Prop):Prop
 | mk (μ:List Addr) (h:MH) (ρ:En) (w:W) (ρ':En) (h':MH) (p0:HR K cl μ H h) (p1:ER K μ H ρ σ) (p2:RW K μ H w v) (p3:g w ρ h=some (ρ',h')) (p4:∀μ' H' σ',Ext μ H μ' H'->HR K cl μ' H' h'->ER K μ' H' ρ' σ'->Q σ' H'):tMG K cl g v σ H Q
abbrev SG(X:Cx)(cl:Cl)(e:Expr)(g:MG):Prop:=PG X e (tMG X.K cl g)
def PG.wk(h:PG X e t)(w:∀v σ H Q,t' v σ H Q->t v σ H Q):PG X e t':=λpins s σ H v u Q I r q=>h pins s σ H v u Q I r (w v σ H Q q)
def KF.ext{K:PySem.W.Frag}{cl:Cl}{μ μ':List Addr}{H H':Hp}{D:Ends}(E:Ext μ H μ' H')(k:KF K cl μ H h fl D):KF K cl μ' H' h fl D:=λμ2 H2 E2 R2=>k μ2 H2 (E.trans E2) R2
theorem KF.nx{K:PySem.W.Frag}{cl:Cl}{μ:List Addr}{H:Hp}{D:Ends}(k:KF K cl μ H h (.nx ρ) D)(R:HR K cl μ H h)(er:ER K μ H ρ σ):D.nx σ H:=k μ H .refl R σ er
noncomputable def ue:MS:=λρ h=>some (.nx ρ,h)
noncomputable def sSeq(a b:MS):MS:=λρ h=>match a ρ h with
 | some (.nx ρ',h')=>b ρ' h'
 | r=>r
noncomputable def xT(m:ME):MS:=λρ h=>match m ρ h with
 | some (_,h')=>some (.nx ρ,h')
 | none=>none
noncomputable def sRet(m:ME):MS:=λρ h=>match m ρ h with
 | some (w,h')=>some (.ret w,h')
 | none=>none
noncomputable def sIf(t:MT)(a b:MS):MS:=λρ h=>match t ρ h with
 | some (c,h')=>if c=true then a ρ h' else b ρ h'
 | none=>none
noncomputable def sAsg(m:ME)(g:MG):MS:=λρ h=>match m ρ h with
 | some (w,h')=>match g w ρ h' with
  | some (ρ',h2)=>some (.nx ρ',h2)
  | none=>none
 | none=>none
noncomputable def gNm(i:Nat):MG:=λw ρ h=>if i<ρ.length then some (ρ.set i (some w),h) else none
noncomputable def gTps:List MG->List W->En->M En
 | [],[]=>λρ h=>some (ρ,h)
 | g::gs,w::ws=>λρ=>bnd (g w ρ) λρ'=>gTps gs ws ρ'
 | _,_=>λ_ _=>none
noncomputable def gTp(gs:List MG):MG:=λw=>match w with
 | .tup ws=>gTps gs ws
 | .fls ws=>gTps gs ws
 | _=>λ_ _=>none
section
variable{X:Cx}{cl:Cl}{st:Stmt}{rest:List Stmt}{a b:MS}{e:Expr}{m:ME}{pos:Pos}
theorem ER.set{K:PySem.W.Frag}{μ:List Addr}{H:Hp}{ρ:En}{σ:L2.St}{i:Nat}(er:ER K μ H ρ σ)(hi:i<ρ.length)(r:RW K μ H w v):ER K μ H (ρ.set i (some w)) (σ.set i (some v)):=by
 refine⟨by simp[er.len],λj w' e=>?_⟩;by_cases hj:j=i
 .subst hj
  rw[zK hi] at e;cases e;exact⟨v,by rw[zK (by rw[<-er.len]; exact hi)],r⟩
 .rw[zJ (kY hj)] at e
  obtain⟨v',e',r'⟩:=er.at_ j w' e;exact⟨v',by rw[zJ (kY hj)]; exact e',r'⟩
def zoK:SB X cl [] ue:=PSs.wk zlZ λD σ H q0=>by
 obtain⟨μ,h,ρ,fl,h',R,er,e,k⟩:=q0;cases e;exact k.nx R er
def zn3(h1:SS X cl st a):SB X cl [st] a:=zmP h1
def zmt(h1:SS X cl st a)(h2:SB X cl rest b):SB X cl (st::rest) (sSeq a b):=PSs.wk (zjO h1 h2) λD σ H q0=>by
 obtain⟨μ,h,ρ,fl,h',R,er,e,k⟩:=q0;unfold sSeq at e;split at e
 .rename_i ρ1 h1 e1
  exact⟨μ,h,ρ,_,h1,R,er,e1,λμ1 H1 E1 R1 σ1 er1=>⟨μ1,h1,ρ1,fl,h',R1,er1,e,k.ext E1⟩⟩
 .rename_i r hr
  refine⟨μ,h,ρ,fl,h',R,er,e,λμ1 H1 E1 R1=>?_⟩;have k1:=k μ1 H1 E1 R1;cases fl with
  | nx ρ1=>exact absurd e (hr ρ1 h')
  | ret w=>exact k1
  | bk ρ1=>exact k1
  | ct ρ1=>exact k1
def zmU:SS X cl (.Pass pos) ue:=PS.wk zlk λD σ H q0=>by
 obtain⟨μ,h,ρ,fl,h',R,er,e,k⟩:=q0;cases e;exact k.nx R er
def zlV(he:SE X cl e m)(hs:swapsWith e none pos.line X.env=pure false:=by rfl):SS X cl (.Expr e pos) (xT m):=PS.wk (zlo he hs) λD σ H q0=>by
 obtain⟨μ,h,ρ,fl,h',R,er,e,k⟩:=q0;unfold xT at e;split at e
 .rename_i w h1 e1
  cases e;exact⟨μ,h,ρ,w,_,R,er,e1,λμ1 H1 v E1 R1 _=>k μ1 H1 E1 R1 σ (er.ext R E1)⟩
 .cases e
def znZ(he:SE X cl e m):SS X cl (.Return (some e) pos) (sRet m):=PS.wk (znB he) λD σ H q0=>by
 obtain⟨μ,h,ρ,fl,h',R,er,e,k⟩:=q0;unfold sRet at e;split at e
 .rename_i w h1 e1
  cases e;exact⟨μ,h,ρ,w,_,R,er,e1,λμ1 H1 v E1 R1 r=>k μ1 H1 E1 R1 v r⟩
 .cases e
def zo6{c:Expr}(hc:ST X cl c t)(ha:SB X cl sa a)(hb:SB X cl sb b):SS X cl (.If c sa sb pos) (sIf t a b):=PS.wk (zo7 hc ha hb) λD σ H q0=>by
 obtain⟨μ,h,ρ,fl,h',R,er,e,k⟩:=q0;unfold sIf at e;split at e
 .rename_i c h1 e1
  refine⟨μ,h,ρ,c,h1,R,er,e1,λμ1 H1 E1 R1=>?_⟩;cases c with
  | true=>rw[zX rfl] at e ⊢; exact⟨μ1,h1,ρ,fl,h',R1,er.ext R E1,e,k.ext E1⟩
  | false=>rw[kO z9] at e ⊢; exact⟨μ1,h1,ρ,fl,h',R1,er.ext R E1,e,k.ext E1⟩
 .cases e
def zgL(i:Nat)(hN:X.N.Nodup)(hi:X.N[i]?=some x:=by rfl)(hx:Loc X.env.scope x:=by first | exact Or.inl rfl | exact Or.inr rfl)(hf:X.fn x=true\/X.env.scope.names.lookup x=some .local:=by first | exact .inl rfl | exact .inr rfl | assumption):SG X cl (.Name x pos) (gNm i):=
 PG.wk (zl5 (i:=i) hN hi hx hf) λv σ H Q q0=>by
  obtain⟨μ,h,ρ,w,ρ',h',R,er,r,e,k⟩:=q0;unfold gNm at e;split at e
  .rename_i hi
   cases e;exact k μ H _ .refl R (er.set hi r)
  .cases e
inductive tMGs(K:PySem.W.Frag)(cl:Cl)(gs:List MG)(vs:List V)(σ:L2.St)(H:Hp)(Q:L2.St->Hp->Prop):Prop
 | mk (μ:List Addr) (h:MH) (ρ:En) (ws:List W) (ρ':En) (h':MH) (p0:HR K cl μ H h) (p1:ER K μ H ρ σ) (p2:RWs K μ H ws vs) (p3:gTps gs ws ρ h=some (ρ',h')) (p4:∀μ' H' σ',Ext μ H μ' H'->HR K cl μ' H' h'->ER K μ' H' ρ' σ'->Q σ' H'):tMGs K cl gs vs σ H Q
abbrev SGs(X:Cx)(cl:Cl)(es:List Expr)(gs:List MG):Prop:=PGs X es (tMGs X.K cl gs)
def PGs.wk(h:PGs X es t)(w:∀v σ H Q,t' v σ H Q->t v σ H Q):PGs X es t':=λpins s σ H v u Q I r q=>h pins s σ H v u Q I r (w v σ H Q q)
def zmk:SGs X cl [] []:=PGs.wk zlY λvs σ H Q q0=>by
 obtain⟨μ,h,ρ,ws,ρ',h',R,er,rs,e,k⟩:=q0;cases rs with
 | nil=>cases e; exact⟨rfl,k μ H _ .refl R er⟩
 | cons r t=>cases e
def zjR(h1:SG X cl e g)(h2:SGs X cl es gs)
  (hs:(assignEach (e::es) X.env).map (·.2)=assign e X.env::(assignEach es X.env).map (·.2):=by rfl):SGs X cl (e::es) (g::gs):=PGs.wk (zkf h1 h2 hs) λvs σ H Q q0=>by
 obtain⟨μ,h,ρ,ws,ρ',h',R,er,rs,e,k⟩:=q0;cases rs with
 | nil=>cases e
 | cons r t=>
  obtain⟨ρ1,h1,e1,e2⟩:=xP e;exact⟨_,_,rfl,μ,h,ρ,_,ρ1,h1,R,er,r,e1,λμ1 H1 σ1 E1 R1 er1=>⟨μ1,h1,ρ1,_,ρ',h',R1,er1,t.ext R E1,e2,λμ2 H2 σ2 E2 R2 er2=>k μ2 H2 σ2 (E1.trans E2) R2 er2⟩⟩
def zfE:∀{gs:List MG} {l:List W} {ρ:En} {h:MH},gTps gs l ρ h=some (ρ',h')->gs.length=l.length:=by
 intro gs;induction gs with
 | nil=>intro l ρ h e; cases l with | nil=>rfl | cons=>cases e
 | cons g gs ih=>
  intro l ρ h e;cases l with
  | nil=>cases e
  | cons w l=>
   obtain⟨ρ1,h1,e1,e2⟩:=xP e;simp only[zm]; rw[ih e2]
def PG.or(h1:PG X e t1)(h2:PG X e t2)(k:∀v σ H Q,t v σ H Q->t1 v σ H Q\/t2 v σ H Q):PG X e t:=λpins s σ H v u Q I r q=>(k v σ H Q q).elim (h1 pins s σ H v u Q I r) (h2 pins s σ H v u Q I r)
def znW{gs:List MG}(hc:X.calm=true)(hg:SGs X cl es gs)
  (hl:(assignEach es X.env).length=gs.length:=by rfl) (hst:(assignEach es X.env).findIdx? (·.1)=none:=by rfl):SG X cl (.Tuple es n pos) (gTp gs):=PG.or (zoP hc hg hl hst) (zox hc hg hl hst) λv σ H Q q0=>by
 obtain⟨μ,h,ρ,w,ρ',h',R,er,r,e,k⟩:=q0;cases r with
 | @tup a vs l s rs=>
  have e':gTps gs l ρ h=some (ρ',h'):=e;exact .inl ⟨a,vs,rfl,s,by rw[<-rs.length]; exact(zfE e').symm,μ,h,ρ,l,ρ',h',R,er,rs,e',k⟩
 | @fls a vs l s rs=>
  have e':gTps gs l ρ h=some (ρ',h'):=e;exact .inr ⟨a,vs,rfl,s.sq,by rw[<-rs.length]; exact(zfE e').symm,μ,h,ρ,l,ρ',h',R,er,rs,e',k⟩
 | _=>cases e
def zjb(he:SE X cl e m)(hg:SG X cl tg g)(hs:swapsWithSole [tg] e pos.line X.env=pure false:=by rfl)(hw:swappedStores [tg] e X.env=pure none:=by rfl)
  (h1:(assignEach [tg] X.env).map (·.2)=[assign tg X.env]:=by rfl):SS X cl (.Assign [tg] e pos) (sAsg m g):=PS.wk (zow he hg hs hw h1) λD σ H q0=>by
 obtain⟨μ,h,ρ,fl,h',R,er,e,k⟩:=q0;unfold sAsg at e;split at e
 .rename_i w h1 e1
  split at e
  .rename_i ρ2 h2 e2
   cases e;exact⟨μ,h,ρ,w,h1,R,er,e1,λμ1 H1 v E1 R1 r=>⟨μ1,h1,ρ,w,ρ2,_,R1,er.ext R E1,r,e2,λμ2 H2 σ2 E2 R2 er2=>k μ2 H2 (E1.trans E2) R2 σ2 er2⟩⟩
  .cases e
 .cases e
def zoT(i:Nat)(hN:X.N.Nodup)(he:SE X cl e m)(hi:X.N[i]?=some x:=by rfl)(hx:Loc X.env.scope x:=by first | exact Or.inl rfl | exact Or.inr rfl)(hs:swapsWith e (some (.Name x pos')) pos.line X.env=pure false:=by rfl)
  (hf:X.fn x=true\/X.env.scope.names.lookup x=some .local:=by first | exact .inl rfl | exact .inr rfl | assumption):SS X cl (.Assign [.Name x pos'] e pos) (sAsg m (gNm i)):=PS.wk (zoG (i:=i) hN hi hx he hs hf) λD σ H q0=>by
 obtain⟨μ,h,ρ,fl,h',R,er,e,k⟩:=q0;unfold sAsg at e;split at e
 .rename_i w h1 e1
  split at e
  .rename_i ρ2 h2 e2
   cases e;refine⟨μ,h,ρ,w,h1,R,er,e1,λμ1 H1 v E1 R1 r=>?_⟩;unfold gNm at e2;split at e2
   .rename_i hi
    cases e2;exact k μ1 H1 E1 R1 _ ((er.ext R E1).set hi r)
   .cases e2
  .cases e
 .cases e
end
noncomputable def uw(c:MT)(b:MS):Nat->MS
 | 0=>λ_ _=>none
 | n+1=>λρ h=>match c ρ h with
  | some (true,h1)=>match b ρ h1 with
   | some (.nx ρ2,h2)=>uw c b n ρ2 h2
   | some (.ct ρ2,h2)=>uw c b n ρ2 h2
   | some (.bk ρ2,h2)=>some (.nx ρ2,h2)
   | some (.ret w,h2)=>some (.ret w,h2)
   | none=>none
  | some (false,h1)=>some (.nx ρ,h1)
  | none=>none
theorem za0{c:MT}:∀{n:Nat} {ρ:En} {h:MH} {r:Fl×MH},uw c b n ρ h=some r->∀k,uw c b (n+k) ρ h=some r
 | 0,_,_,_,e,_=>by cases e
 | n+1,ρ,h,r,e,k=>by
  rw[show n+1+k=(n+k)+1 by omega];unfold uw at e ⊢;cases e1:c ρ h with
  | none=>rw[e1] at e; cases e
  | some p=>
   obtain⟨t,h1⟩:=p;rw[e1] at e;cases t with
   | false=>exact e
   | true=>
    simp only at e ⊢;cases e2:b ρ h1 with
    | none=>rw[e2] at e; cases e
    | some q=>
     obtain⟨fl,h2⟩:=q;rw[e2] at e;cases fl with
     | nx ρ2=>exact za0 (n:=n) e k
     | ct ρ2=>exact za0 (n:=n) e k
     | bk ρ2=>exact e
     | ret w=>exact e
open Classical in
noncomputable def zav(c:MT)(b:MS):MS:=λρ h=>if q:∃n r,uw c b n ρ h=some r then some q.choose_spec.choose else none
def za7{c:MT}(e:uw c b n ρ h=some r):zav c b ρ h=some r:=by
 unfold zav;have q:∃n r,uw c b n ρ h=some r:=⟨n,r,e⟩;rw[dif_pos q];have e1:=q.choose_spec.choose_spec;have e2:=za0 e1 n;have e3:=za0 e q.choose;rw[vd] at e3;rw[e2] at e3;exact e3
def ziI{c:MT}(e:zav c b ρ h=some r):∃n,uw c b n ρ h=some r:=by
 unfold zav at e;split at e
 .rename_i q
  have e1:=q.choose_spec.choose_spec;cases e;exact⟨_,e1⟩
 .cases e
section
variable{X:Cx}{cl:Cl}{pos:Pos}
def zjK{c:Expr}(hc:ST X cl c t)(hb:SB X cl body b)(hp:PassesOwn (model X.prog X.w) X.A X.env X.xe:=by exact wU):SS X cl (.While c body [] pos) (zav t b):=PS.wk (zju hp hc hb) λD σ H q0=>by
 obtain⟨μ,h,ρ,fl,h',R,er,e,k⟩:=q0;obtain⟨n0,e⟩:=ziI e;refine⟨λn σ H=>∃μ h ρ fl h',HR X.K cl μ H h/\ER X.K μ H ρ σ/\uw t b n ρ h=some (fl,h')/\KF X.K cl μ H h' fl D,⟨n0,μ,h,ρ,fl,h',R,er,e,k⟩,?_⟩;rintro n σ H ⟨μ,h,ρ,fl,h',R,er,e,k⟩;cases n with
 | zero=>cases e
 | succ n=>
  unfold uw at e;cases e1:t ρ h with
  | none=>rw[e1] at e; cases e
  | some p=>
   obtain⟨c,h1⟩:=p;rw[e1] at e;refine⟨μ,h,ρ,c,h1,R,er,e1,λμ1 H1 E1 R1=>?_⟩;cases c with
   | false=>
    rw[kO z9];cases e;exact k μ1 H1 E1 R1 σ (er.ext R E1)
   | true=>
    rw[zX rfl];refine⟨λσ' H'=>∃μ h ρ fl h',HR X.K cl μ H' h/\ER X.K μ H' ρ σ'/\uw t b n ρ h=some (fl,h')/\KF X.K cl μ H' h' fl D,λσ' H' q=>⟨n,jX n,q⟩,?_⟩;simp only at e;cases e2:b ρ h1 with
    | none=>rw[e2] at e; cases e
    | some q=>
     obtain⟨f2,h2⟩:=q;rw[e2] at e;refine⟨μ1,h1,ρ,f2,h2,R1,er.ext R E1,e2,λμ2 H2 E2 R2=>?_⟩;cases f2 with
     | nx ρ2=>exactλσ2 er2=>⟨μ2,h2,ρ2,fl,h',R2,er2,e,k.ext (E1.trans E2)⟩
     | ct ρ2=>exactλσ2 er2=>⟨μ2,h2,ρ2,fl,h',R2,er2,e,k.ext (E1.trans E2)⟩
     | bk ρ2=>cases e; exactλσ2 er2=>k μ2 H2 (E1.trans E2) R2 σ2 er2
     | ret w=>cases e; exactλv rv=>k μ2 H2 (E1.trans E2) R2 v rv
end
inductive Src where
 | items (l:List W) | live (n:Nat)
noncomputable def zaj(s:Src)(i:Nat)(h:MH):Option (Option W):=match s with
 | .items l=>some l[i]?
 | .live n=>match h[n]? with
  | some (.lst l)=>some l[i]?
  | _=>none
noncomputable def JR(K:PySem.W.Frag)(cl:Cl)(J:It)(s:Src)(μ:List Addr)(H:Hp):Prop:=∀μ2 H2 h2,Ext μ H μ2 H2->HR K cl μ2 H2 h2->∀i,
 (∀w,zaj s i h2=some (some w)->J.go i H2/\∀x H3,J.yld i H2 x H3->Ext μ2 H2 μ2 H3/\HR K cl μ2 H3 h2/\RW K μ2 H3 w x)/\(zaj s i h2=some none->J.stop i H2)
abbrev MI:=En->M Src
inductive tMI(K:PySem.W.Frag)(cl:Cl)(m:MI)(σ:L2.St)(H:Hp)(R:It->Hp->Prop):Prop
 | mk (μ:List Addr) (h:MH) (ρ:En) (src:Src) (h':MH) (p0:HR K cl μ H h) (p1:ER K μ H ρ σ) (p2:m ρ h=some (src,h')) (p3:∀μ' H' J,Ext μ H μ' H'->HR K cl μ' H' h'->JR K cl J src μ' H'->R J H'):tMI K cl m σ H R
abbrev SI(X:Cx)(cl:Cl)(tg e:Expr)(m:MI):Prop:=PI X tg e (tMI X.K cl m)
def PI.wk(h:PI X tg e t)(w:∀σ H Q,t' σ H Q->t σ H Q):PI X tg e t':=λpins s σ H Q I q=>h pins s σ H Q I (w σ H Q q)
def JR.ext{K:PySem.W.Frag}{cl:Cl}{J:It}{H:Hp}(E:Ext μ H μ' H')(j:JR K cl J s μ H):JR K cl J s μ' H':=λμ2 H2 h2 E2=>j μ2 H2 h2 (E.trans E2)
noncomputable def forN(s:Src)(g:MG)(b:MS):Nat->Nat->MS
 | 0,_=>λ_ _=>none
 | k+1,i=>λρ h=>match zaj s i h with
  | some (some w)=>match g w ρ h with
   | some (ρ1,h1)=>match b ρ1 h1 with
    | some (.nx ρ2,h2)=>forN s g b k (i+1) ρ2 h2
    | some (.ct ρ2,h2)=>forN s g b k (i+1) ρ2 h2
    | some (.bk ρ2,h2)=>some (.nx ρ2,h2)
    | some (.ret w,h2)=>some (.ret w,h2)
    | none=>none
   | none=>none
  | some none=>some (.nx ρ,h)
  | none=>none
noncomputable def forL(g:MG)(b:MS):List W->MS
 | []=>λρ h=>some (.nx ρ,h)
 | w::r=>λρ h=>match g w ρ h with
  | some (ρ1,h1)=>match b ρ1 h1 with
   | some (.nx ρ2,h2)=>forL g b r ρ2 h2
   | some (.ct ρ2,h2)=>forL g b r ρ2 h2
   | some (.bk ρ2,h2)=>some (.nx ρ2,h2)
   | some (.ret w,h2)=>some (.ret w,h2)
   | none=>none
  | none=>none
theorem zb8(l:List W):∀(k i:Nat) (ρ:En) (h:MH),l.length+1<=i+k->i<=l.length->forN (.items l) g b k i ρ h=forL g b (l.drop i) ρ h
 | 0,i,ρ,h,hk,hi=>by omega
 | k+1,i,ρ,h,hk,hi=>by
  by_cases hl:i<l.length
  .rw[qJ hl]
   unfold forN forL;simp only[zaj,zA hl];cases e1:g l[i] ρ h with
   | none=>rfl
   | some p=>
    obtain⟨ρ1,h1⟩:=p;simp only;cases e2:b ρ1 h1 with
    | none=>rfl
    | some q=>
     obtain⟨fl,h2⟩:=q;cases fl with
     | nx ρ2=>exact zb8 l k (i+1) ρ2 h2 ∅ hl
     | ct ρ2=>exact zb8 l k (i+1) ρ2 h2 ∅ hl
     | bk ρ2=>rfl
     | ret w=>rfl
  .have hi':i=l.length:=by omega
   subst hi';rw[yh];unfold forN forL;simp[zaj]
noncomputable def zbH(s:Src)(h:MH):Nat:=match s with
 | .items l=>l.length
 | .live n=>match h[n]? with
  | some (.lst l)=>l.length
  | _=>0
noncomputable def sFor(mi:MI)(g:MG)(b:MS):MS:=λρ h=>match mi ρ h with
 | some (.items l,h1)=>forL g b l ρ h1
 | some (.live n,h1)=>forN (.live n) g b (zbH (.live n) h1+1) 0 ρ h1
 | none=>none
section
variable{X:Cx}{cl:Cl}{pos:Pos}
def zfR{K:PySem.W.Frag}{J:It}{src:Src}{g:MG}{b:MS}{D:Ends}{σ:L2.St}{H:Hp}(R:HR K cl μ H h)(er:ER K μ H ρ σ)(j:JR K cl J src μ H)(e:forN src g b k0 0 ρ h=some (fl,h'))
  (k:KF K cl μ H h' fl D):∃W:Nat->Nat->L2.St->Hp->Prop,(∃m,W 0 m σ H)/\∀i m σ H,W i m σ H->
   (J.stop i H/\D.nx σ H)\/(J.go i H/\∃N:L2.St->Hp->Prop,(∀σ' H',N σ' H'->∃m',m'<m/\W (i+1) m' σ' H')/\∀x H',J.yld i H x H'->tMG K cl g x σ H' λσ2 H2=>tMS K cl b { D with nx:=N,ct:=N,bk:=D.nx } σ2 H2):=by
 refine⟨λi m σ H=>∃μ h ρ fl h',HR K cl μ H h/\ER K μ H ρ σ/\JR K cl J src μ H/\forN src g b m i ρ h=some (fl,h')/\KF K cl μ H h' fl D,⟨k0,μ,h,ρ,fl,h',R,er,j,e,k⟩,?_⟩;rintro i m σ H ⟨μ,h,ρ,fl,h',R,er,j,e,k⟩;cases m with
 | zero=>cases e
 | succ m=>
  unfold forN at e;obtain⟨jg,js⟩:=j μ H h .refl R i;cases es:zaj src i h with
  | none=>rw[es] at e; cases e
  | some o=>
   rw[es] at e;cases o with
   | none=>
    cases e;exact .inl ⟨js es,k.nx R er⟩
   | some w=>
    obtain⟨go,yl⟩:=jg w es;simp only at e;cases e1:g w ρ h with
    | none=>rw[e1] at e; cases e
    | some p=>
     obtain⟨ρ1,h1⟩:=p;rw[e1] at e;simp only at e;cases e2:b ρ1 h1 with
     | none=>rw[e2] at e; cases e
     | some q=>
      obtain⟨f2,h2⟩:=q;rw[e2] at e;refine .inr ⟨go,λσ' H'=>∃μ h ρ fl h',HR K cl μ H' h/\ER K μ H' ρ σ'/\JR K cl J src μ H'/\forN src g b m (i+1) ρ h=some (fl,h')/\KF K cl μ H' h' fl D,λσ' H' q=>⟨m,jX m,q⟩,λx H1 y1=>?_⟩;obtain⟨E1,R1,rx⟩:=yl x H1 y1;refine⟨μ,h,ρ,w,ρ1,h1,R1,er.ext R E1,rx,e1,λμ2 H2 σ2 E2 R2 er2=>⟨μ2,h1,ρ1,f2,h2,R2,er2,e2,λμ3 H3 E3 R3=>?_⟩⟩;have E:=E1.trans (E2.trans E3);cases f2 with
      | nx ρ2=>exactλσ3 er3=>⟨μ3,h2,ρ2,fl,h',R3,er3,j.ext E,e,k.ext E⟩
      | ct ρ2=>exactλσ3 er3=>⟨μ3,h2,ρ2,fl,h',R3,er3,j.ext E,e,k.ext E⟩
      | bk ρ2=>cases e; exactλσ3 er3=>k μ3 H3 E R3 σ3 er3
      | ret w=>cases e; exactλv rv=>k μ3 H3 E R3 v rv
def zov(hc:X.calm=true)(hi:SI X cl tg iter mi)(hg:SG X cl tg g)(hb:SB X cl body b)
  (hs:∀x,foldedSetIterable iter X.env x=pure x:=by intro _; rfl) (hp:PassesOwn (model X.prog X.w) X.A X.env X.xe:=by exact wU):SS X cl (.For tg iter body [] pos) (sFor mi g b):=PS.wk (znf hp hc hi hg hb hs) λD σ H q0=>by
 obtain⟨μ,h,ρ,fl,h',R,er,e,k⟩:=q0;unfold sFor at e;split at e
 .rename_i l h1 e1
  refine⟨μ,h,ρ,.items l,h1,R,er,e1,λμ1 H1 J E1 R1 j=>?_⟩;have q:=zb8 (g:=g) (b:=b) l (l.length+1) 0 ρ h1 ∅ ∅;rw[wI,e] at q;exact zfR R1 (er.ext R E1) j q (k.ext E1)
 .rename_i n h1 e1
  exact⟨μ,h,ρ,.live n,h1,R,er,e1,λμ1 H1 J E1 R1 j=>zfR R1 (er.ext R E1) j e (k.ext E1)⟩
 .cases e
end
noncomputable def fnM(np k:Nat)(b:MS):List W->M W:=λws h=>if ws.length=np then (match b (ws.map some++List.replicate k none) h with
 | some (.ret w,h')=>some (w,h')
 | some (.nx _,h')=>some (.non,h')
 | _=>none) else none
section
variable{P:Program}{w:World}{K:PySem.W.Frag}{mg:Str->Option Value}{base:Heap}{cl:Cl}
def zfV{H:Hp}{N:List Str}{ws:List W}{vs:List V}(rs:RWs K μ H ws vs)(hk:N.length-vs.length=k):ER K μ H (ws.map some++List.replicate k none) (L2.start N vs):=by
 subst hk;unfold L2.start;refine⟨by simp[rs.length],λi w e=>?_⟩;by_cases hi:i<ws.length
 .rw[zu (by simpa using hi),je] at e
  cases e1:ws[i]? with
  | none=>rw[e1] at e; cases e
  | some w'=>
   rw[e1] at e;cases e;obtain⟨v,e2,r⟩:=rs.get e1;exact⟨v,by rw[zu (by rw[zH,<-rs.length]; exact hi),je,e2]; rfl,r⟩
 .rw[zE (by simpa using hi),jY] at e
  split at e<;>cases e
def zps{x qual:Str}{st:Stmt}{f:Addr}{fd:FuncData}{N ps:List Str}(F:Fun K x qual st f fd)(S:FnScope N ps (xV st))(hnp:ps.length=np)(hns:N.length-np=ns)
  (hb:∀(cdv:Value) (A:Around) (outer:List Env) (s:Shared) (H:Hp) (E:XK),Room k (A.deeper (envOfC qual (xV st) s.heap.objs.size f cdv))->
   SB (cxOf CX0 P w K mg base N qual (xV st) f cdv A outer s H E).nox cl (uh st) b):FnOk P w K mg base CX0 (k+1) f fd ps (spM K cl (gc (fnM np ns b))):=by
 have len:∀vs H Q E,spM K cl (fnM np ns b) vs H Q E->vs.length=ps.length:=by
  rintro vs H Q E ⟨μ,h,ws,w,h',R,rs,e,k⟩;unfold fnM at e;split at e
  .rename_i hl
   rw[hnp,<-hl,rs.length]
  .cases e
 refine FnOk.imp (sp:=spM K cl (fnM np ns b)) (F.ok S len λcdv A outer s H vs Q E hr hsp=>⟨_,hb cdv A outer s H E hr,?_⟩) λvs H Q E q=>zpf (E:=E) q
 have hlen:=len _ _ _ _ hsp;obtain⟨μ,h,ws,w,h',R,rs,e,k⟩:=hsp;unfold fnM at e;split at e
 .rename_i hl
  split at e
  .rename_i w1 h1 e1
   cases e;exact⟨μ,h,_,_,_,R,zfV rs (by rw[hlen,hnp]; exact hns),e1,λμ1 H1 E1 R1 v rv=>k μ1 H1 v E1 R1 rv⟩
  .rename_i ρ1 h1 e1
   cases e;exact⟨μ,h,_,_,_,R,zfV rs (by rw[hlen,hnp]; exact hns),e1,λμ1 H1 E1 R1 σ1 _=>k μ1 H1 .non E1 R1 .non⟩
  .cases e
 .cases e
end
noncomputable def getL(h:MH):W->Option (List W)
 | .fls l=>some l
 | .ref n=>match h[n]? with
  | some (.lst l)=>some l
  | _=>none
 | _=>none
section
variable{K:PySem.W.Frag}{cl:Cl}{μ:List Addr}{H:Hp}{h:MH}
def u6(R:HR K cl μ H h)(r:RW K μ H w v)(e:getL h w=some l):∃a vs,v=.ref a/\SqL K H a vs/\RWs K μ H l vs:=by
 cases r with
 | @fls a vs l' s rs=>cases e; exact⟨a,vs,rfl,s.sq,rs⟩
 | @ref n a hn=>
  simp only[getL] at e;split at e
  .rename_i l' ho
   cases e;obtain⟨vs,hv,rs⟩:=R.ob n a _ hn ho;exact⟨a,vs,rfl,SqL.of hv,rs⟩
  .cases e
 | _=>cases e
theorem RW.int_of{i:Int}(r:RW K μ H (.int i) v):v=.int i:=by cases r; rfl
theorem RW.str_of{i:Str}(r:RW K μ H (.str i) v):v=.str i:=by cases r; rfl
def RW.tup_of(r:RW K μ H (.tup l) v):∃a vs,v=.ref a/\SqT K H a vs/\RWs K μ H l vs:=by cases r with | @tup a vs l s rs=>exact⟨a,vs,rfl,s,rs⟩
end
noncomputable def addI(x y:W):Option W:=match x,y with
 | .int i,.int j=>some (.int (i+j))
 | .tup l,.tup l'=>if l.length+l'.length<=cap then some (.tup (l++l')) else none
 | _,_=>none
noncomputable def addW(x y:W):M W:=λh=>match addI x y with
 | some w=>some (w,h)
 | none=>match getL h x,getL h y with
  | some l,some l'=>if l.length+l'.length<=cap then some (.fls (l++l'),h) else none
  | _,_=>none
section
variable{prog:Program}{w:World}{A:Around}{E:Value->Shared->Prop}{s:Shared}
def zkB{vs ws:List Value}(ht:s.heap.IsList t vs.toArray)(hb:s.heap.IsList b ws.toArray)
  (h2:Q (.ref s.heap.objs.size) { s with heap:=s.heap.push { cls:=.type "list",data:=.seq (vs++ws).toArray } })
  (hsz:vs.length+ws.length<=sizeLine):wpAny (model prog w) A (binaryOp .Add (.ref t) (.ref b)) Q E s:=by
 obtain⟨⟨cls,dd,data,sl⟩,ho,hc,n,hd⟩:=id ht;obtain⟨⟨cls2,dd2,data2,sl2⟩,ho2,hc2,n2,hd2⟩:=id hb;simp only at hc hd hc2 hd2;subst hc hd hc2 hd2;have e:vs.toArray++ws.toArray=(vs++ws).toArray:=by simp
 refine yE ⟨_,ho,rfl⟩ ⟨_,ho2,rfl⟩ noFill_list_add seq_list_add PySem.F.slot_list_add PySem.F.entry_list_add (PySem.F.args_list_add_2 _ _)
  (list_addW t b vs.toArray ws.toArray n n2 dd dd2 sl sl2 (by rw[zL,zL]; exact hsz)) ⟨ho,ho2,?_⟩
 rw[e];exact h2
def zkw{ws:List Value}(ht:IsTup s.heap t ([]:List Value).toArray)(hb:IsTup s.heap b ws.toArray)(h1:Q (.ref b) s) :
  wpAny (model prog w) A (binaryOp .Add (.ref t) (.ref b)) Q E s:=by
 obtain⟨⟨cls,dd,data,sl⟩,ho,hc,n,hd⟩:=id ht;obtain⟨⟨cls2,dd2,data2,sl2⟩,ho2,hc2,n2,hd2⟩:=id hb;simp only at hc hd hc2 hd2;subst hc hd hc2 hd2;exact yE ⟨_,ho,rfl⟩ ⟨_,ho2,rfl⟩ yH seq_tuple_add wg vZ (vW _ _)
  (tuple_addW0 t b _ ws.toArray n n2 dd dd2 sl sl2 rfl) ⟨ho,ho2,h1⟩
end
section
variable{X:Cx}{cl:Cl}
def zlE{P:List W->MH->W->MH->Prop}{H:Hp}{l l':List W}(I:Inv X pins σ H s)(rx:RelV x v)(ry:RelV y u)
  (R:HR X.K cl μ H h) (ax:RW X.K μ H wx x) (ay:RW X.K μ H wy y) (e1:getL h wx=some l) (e2:getL h wy=some l') (hl:l.length+l'.length<=cap)
  (k:∀p xs,H p=none->RWs X.K μ H (l++l') xs->Q (.ref p) (upd H p (.lst xs))):wpAny (model X.prog X.w) X.A (binaryOp .Add v u) (EP X pins σ Q) X.xe s:=by
 obtain⟨a,vs,rfl,sa,ra⟩:=u6 R ax e1;obtain⟨b,vs',rfl,sb,rb⟩:=u6 R ay e2;cases rx;cases ry;obtain⟨its,r1,p1,_⟩:=I.list sa;obtain⟨its2,r2,p2,_⟩:=I.list sb;have hz:vs.length+vs'.length<=sizeLine:=zQ (by rw[<-ra.length,<-rb.length]; exact hl) zax;refine zkB p1.isList p2.isList ?_ (by rw[<-r1.length,<-r2.length]; exact hz);exact⟨.ref _,_,I.lnew (t':=s.toks) (r1.append r2) (by rw[zF]; exact hz),rfl,k _ _ I.fresh (ra.append rb)⟩
def zmD:OpR X (binaryOp .Add) (rM X.K cl addW):=by
 rintro pins s σ H x y v u Q I rx ry ⟨μ,h,wx,wy,w,h',R,ax,ay,e,k⟩;unfold addW at e;split at e
 .rename_i w' e'
  cases e;unfold addI at e';split at e'
  .rename_i i j
   cases e';exact zn0 pins s σ H x y v u Q I rx ry ⟨i,j,ax.int_of,ay.int_of,k.pure R (.int _)⟩
  .rename_i l l'
   split at e'
   .rename_i hl
    cases e';obtain⟨a,vs,rfl,sa,ra⟩:=ax.tup_of;obtain⟨b,vs',rfl,sb,rb⟩:=ay.tup_of;by_cases hv:vs=[]
    .subst hv
     cases ra;cases rx;cases ry;obtain⟨its,r1,p1,_⟩:=I.tuple sa;obtain⟨its2,r2,p2,_⟩:=I.tuple sb;cases r1;exact zkw p1 p2 ⟨.ref b,H,I,rfl,k.pure R (.tup sb rb)⟩
    .refine zls pins s σ H _ _ v u Q I rx ry ⟨a,b,vs,vs',rfl,rfl,sa,sb,hv,zQ (by rw[<-ra.length,<-rb.length]; exact hl) zax,λz=>?_,λ_ p hp=>k.tup R (ra.append rb) hp⟩
     subst z;cases rb;rw[kh] at k;exact k.pure R (.tup sa ra)
   .cases e'
  .cases e'
 .split at e
  .rename_i l l' e1 e2
   split at e
   .rename_i hl
    cases e;exact zlE (P:=λ_ _ _ _=>True) I rx ry R ax ay e1 e2 hl λp xs hp rs=>k.fls R rs hp
   .cases e
  .cases e
end
noncomputable def subW(x y:W):M W:=λh=>match x,y with
 | .int i,.int j=>some (.int (i-j),h)
 | _,_=>none
noncomputable def small(i:Int):Bool:=decide (-(2 ^ 64)<i/\i<2 ^ 64)
noncomputable def mulW(x y:W):M W:=λh=>match x,y with
 | .int i,.int j=>if (small i||small j)=true then some (.int (i*j),h) else none
 | .tup l,.int j=>if 0<=j/\j<=1000/\l.length<=1000 then some (.tup (List.replicate j.toNat l).flatten,h) else none
 | .fls l,.int j=>if 0<=j/\j<=1000000/\l.length<=10 then some (.fls (List.replicate j.toNat l).flatten,h) else none
 | _,_=>none
noncomputable def modW(x y:W):M W:=λh=>match x,y with
 | .int i,.int j=>if 0<j then some (.int (i%j),h) else none
 | _,_=>none
noncomputable def divW(x y:W):M W:=λh=>match x,y with
 | .int i,.int j=>if 0<j/\j<1073741824 then some (.int (i/j),h) else none
 | _,_=>none
noncomputable def cmpI(p:Int->Int->Bool)(x y:W):M W:=λh=>match x,y with
 | .int i,.int j=>some (.bl (p i j),h)
 | _,_=>none
noncomputable def negW(x:W):M W:=λh=>match x with
 | .int i=>some (.int (-i),h)
 | _=>none
noncomputable def uY(b:Bool)(x y:W):M W:=λh=>match x,y with
 | .non,.non=>some (.bl b,h)
 | .tup _,.non=>some (.bl (!b),h)
 | .fls _,.non=>some (.bl (!b),h)
 | .int _,.non=>some (.bl (!b),h)
 | .str _,.non=>some (.bl (!b),h)
 | .bl _,.non=>some (.bl (!b),h)
 | .ref _,.non=>some (.bl (!b),h)
 | _,_=>none
section
variable{X:Cx}{cl:Cl}
def zmK:OpR X (binaryOp .Sub) (rM X.K cl subW):=by
 rintro pins s σ H x y v u Q I rx ry ⟨μ,h,wx,wy,w,h',R,ax,ay,e,k⟩;unfold subW at e;split at e
 .cases e; exact zoN pins s σ H x y v u Q I rx ry ⟨_,_,ax.int_of,ay.int_of,k.pure R (.int _)⟩
 .cases e
def zmm:OpR X (binaryOp .Mod) (rM X.K cl modW):=by
 rintro pins s σ H x y v u Q I rx ry ⟨μ,h,wx,wy,w,h',R,ax,ay,e,k⟩;unfold modW at e;split at e
 .split at e
  .rename_i hj; cases e; exact zm6 pins s σ H x y v u Q I rx ry ⟨_,_,ax.int_of,ay.int_of,hj,k.pure R (.int _)⟩
  .cases e
 .cases e
def zlB:OpR X (binaryOp .FloorDiv) (rM X.K cl divW):=by
 rintro pins s σ H x y v u Q I rx ry ⟨μ,h,wx,wy,w,h',R,ax,ay,e,k⟩;unfold divW at e;split at e
 .split at e
  .rename_i hj; cases e; exact zmB pins s σ H x y v u Q I rx ry ⟨_,_,ax.int_of,ay.int_of,hj,k.pure R (.int _)⟩
  .cases e
 .cases e
def zd0(ho:OpR X (compareOp op) (rI0 λi j=>.bl (p i j))):OpR X (compareOp op) (rM X.K cl (cmpI p)):=by
 rintro pins s σ H x y v u Q I rx ry ⟨μ,h,wx,wy,w,h',R,ax,ay,e,k⟩;unfold cmpI at e;split at e
 .cases e; exact ho pins s σ H x y v u Q I rx ry ⟨_,_,ax.int_of,ay.int_of,k.pure R (.bl _)⟩
 .cases e
def zoL:OpR X (compareOp .Lt) (rM X.K cl (cmpI λi j=>decide (i<j))):=zd0 zpx
def zm7:OpR X (compareOp .LtE) (rM X.K cl (cmpI λi j=>decide (i<=j))):=zd0 zpj
def znJ:OpR X (compareOp .Gt) (rM X.K cl (cmpI λi j=>decide (j<i))):=zd0 zoY
def zmS:UnR X (unaryOp .USub) (rM1 X.K cl negW):=by
 rintro pins s σ H x v Q I rx ⟨μ,h,wx,w,h',R,ax,e,k⟩;unfold negW at e;split at e
 .cases e; exact zni pins s σ H x v Q I rx ⟨_,ax.int_of,k.pure R (.int _)⟩
 .cases e
def zdL{K:PySem.W.Frag}{μ:List Addr}{H:Hp}{h h':MH}(ax:RW K μ H wx x)(ay:RW K μ H wy y)(e:uY b wx wy h=some (w,h')):h=h'/\y=.non/\w=.bl (if b then decide (x=.non) else !decide (x=.non)):=by
 unfold uY at e;split at e<;>first | (cases e; cases ax; cases ay; refine⟨rfl,rfl,?_⟩; cases b<;>simp) | cases e
def znV:OpR X (compareOp .Is) (rM X.K cl (uY true)):=by
 rintro pins s σ H x y v u Q I rx ry ⟨μ,h,wx,wy,w,h',R,ax,ay,e,k⟩;obtain⟨rfl,hy,rfl⟩:=zdL ax ay e;exact zm5 pins s σ H x y v u Q I rx ry ⟨hy,k.pure R (.bl _)⟩
def zh7:OpR X (compareOp .IsNot) (rM X.K cl (uY false)):=by
 rintro pins s σ H x y v u Q I rx ry ⟨μ,h,wx,wy,w,h',R,ax,ay,e,k⟩;obtain⟨rfl,hy,rfl⟩:=zdL ax ay e;exact zlq pins s σ H x y v u Q I rx ry ⟨hy,k.pure R (.bl _)⟩
end
noncomputable def lenW(ws:List W):M W:=λh=>match ws with
 | [.tup l]=>some (.int l.length,h)
 | [w]=>match getL h w with
  | some l=>some (.int l.length,h)
  | none=>none
 | _=>none
noncomputable def ixW(x y:W):M W:=λh=>match x,y with
 | .tup l,.int i=>match atI l i with
  | some w=>some (w,h)
  | none=>none
 | .str z,.int i=>if z.length<=cap then (match atI z.cps.toList i with
  | some c=>some (.str ⟨#[c]⟩,h)
  | none=>none) else none
 | x,.int i=>match getL h x with
  | some l=>match atI l i with
   | some w=>some (w,h)
   | none=>none
  | none=>none
 | _,_=>none
noncomputable def cutW(l:List W)(lo hi:Option Int):List W:=(l.drop (HT.sIx l.length 0 lo)).take (HT.sIx l.length l.length hi-HT.sIx l.length 0 lo)
theorem RWs.atI{K:PySem.W.Frag}{μ:List Addr}{H:Hp}{l:List W}{i:Int}(rs:RWs K μ H l vs)(e:L2.atI l i=some w):∃v,L2.atI vs i=some v/\RW K μ H w v:=by
 unfold L2.atI at e ⊢;rw[<-rs.length];cases q:ixN l.length i with
 | none=>rw[q] at e; cases e
 | some j=>
  rw[q] at e;exact rs.get e
theorem RWs.cutW{K:PySem.W.Frag}{μ:List Addr}{H:Hp}(rs:RWs K μ H l vs)(lo hi:Option Int):RWs K μ H (cutW l lo hi) (cutV vs lo hi):=by
 unfold ML.cutW cutV;rw[<-rs.length];exact(rs.drop _).take _
section
variable{X:Cx}{cl:Cl}{a b:Expr}{ma mb:ME}{pos:Pos}
def ziA:zad X (.builtin "len") (rMs X.K cl lenW):=by
 rintro pins s σ H xs us Q I rs ⟨μ,h,ws,w,h',R,ax,e,k⟩;unfold lenW at e;split at e
 .rename_i l
  cases e;cases ax with | cons r t=>cases t with | nil=>
   obtain⟨a,vs,rfl,sa,ra⟩:=r.tup_of;exact zco pins s σ H _ us Q I rs ⟨a,vs,rfl,.inr sa,by rw[<-ra.length]; exact k.pure R (.int _)⟩
 .split at e
  .rename_i l el
   cases e;cases ax with | cons r t=>cases t with | nil=>
    obtain⟨a,vs,rfl,sa,ra⟩:=u6 R r el;exact zco pins s σ H _ us Q I rs ⟨a,vs,rfl,.inl sa,by rw[<-ra.length]; exact k.pure R (.int _)⟩
  .cases e
 .cases e
def ix_W:IxR X (rM X.K cl ixW):=by
 rintro value slice pins s σ H x y v u Q I rx ry ⟨μ,h,wx,wy,w,h',R,ax,ay,e,k⟩ hs;unfold ixW at e;split at e
 .rename_i l i
  split at e
  .rename_i w' e'
   cases e;obtain⟨a,vs,rfl,sa,ra⟩:=ax.tup_of;obtain⟨v',ev,rv⟩:=ra.atI e';exact zga value slice pins s σ H _ y v u Q I rx ry ⟨a,vs,i,v',rfl,ay.int_of,sa,ev,k.pure R rv⟩ hs
  .cases e
 .rename_i z i
  split at e
  .rename_i hl
   split at e
   .rename_i c e'
    cases e;exact zoF value slice pins s σ H _ y v u Q I rx ry ⟨z,i,c,ax.str_of,ay.int_of,zQ hl zax,e',k.pure R (.str _)⟩ hs
   .cases e
  .cases e
 .rename_i i hn1 hn2
  split at e
  .rename_i l el
   split at e
   .rename_i w' e'
    cases e;obtain⟨a,vs,rfl,sa,ra⟩:=u6 R ax el;obtain⟨v',ev,rv⟩:=ra.atI e';exact zmZ value slice pins s σ H _ y v u Q I rx ry ⟨a,vs,i,v',rfl,ay.int_of,sa,ev,k.pure R rv⟩ hs
   .cases e
  .cases e
 .cases e
def zpq(ha:SE X cl a ma)(hb:SE X cl b mb)(hs:zaR b:=by exactλ_ _=>rfl):SE X cl (.Subscript a b pos) (eOp ixW ma mb):=
 PE.wk (zhD ix_W ha hb hs) λσ H Q q=>zbl q
end
section
variable{prog:Program}{w:World}{A:Around}{E:Value->Shared->Prop}{s:Shared}
open HT in
def zci{t sl:Addr}{items:Array Value}{vl vu:Value}{lo hi:Option Int}{Q:Value->Shared->Prop}(ht:IsTup s.heap t items)(hs:s.heap.IsSliceOf sl vl vu .none)(pl:IsPart vl lo)(pu:IsPart vu hi)
  (hw:sIx items.size 0 lo=0/\sIx items.size items.size hi=items.size) (h:Q (.ref t) s):wpAny (model prog w) A (getItem (.ref t) (.ref sl)) Q E s:=by
 obtain⟨os,hos,hcs,hds⟩:=id hs;have hTs:s.TypeIs (.ref sl) "slice":=⟨os,hos,hcs⟩;unfold getItem;try with_reducible refine jc ?_
 first | refine za (zr ?_) | skip
 refine za (wpAny_sequenceKey ht.typeIs (by decide) ?_)
 refine za (jo (name:=Str.ofString "__getitem__") ht.typeIs jD
  (jx jD ht.typeIs entry_tuple_getitem ?_ (args_tuple_getitem _ _)))
 show wpAny _ _ (Builtin.Tuple.tupleItemsOf (.ref t) >>= _) _ _ s
 refine za (ye ht ?_);refine za (j7 hTs ?_);rw[zX (by decide)];refine za (zbr hs pl pu ?_);have hno:((((sIx items.size 0 lo:Nat):Int)==0&&(1:Int)==1&&(sIx items.size items.size hi-sIx items.size 0 lo)==items.size)=true):=by
  rw[hw.1,hw.2]; simp
 show wpAny _ _ (if (((sIx items.size 0 lo:Nat):Int)==0&&(1:Int)==1&&(sIx items.size items.size hi-sIx items.size 0 lo)==items.size)=true then _ else _) _ _ s
 rw[zX hno];unfold Builtin.Tuple.tupleIsExact;refine za (za (j7 ht.typeIs (zr ?_)));rw[zX (by decide)];first
  | exact za (qy (zr ⟨_,rfl,zr h⟩))
  | exact za (qy (za (zr (zr ⟨_,rfl,zr h⟩))))
  | exact za (za (qy (zr ⟨_,rfl,zr h⟩)))
end
noncomputable def slW(x:W)(lo hi:Option Int):M W:=λh=>match x with
 | .tup l=>some (.tup (cutW l lo hi),h)
 | x=>match getL h x with
  | some l=>some (.fls (cutW l lo hi),h)
  | none=>none
noncomputable def zaY(m:Option ME):En->M (Option Int):=λρ=>match m with
 | none=>λh=>some (none,h)
 | some m=>bnd (m ρ) λw h=>match w with
  | .int i=>some (some i,h)
  | _=>none
noncomputable def eSl(a:ME)(lo hi:Option ME):ME:=λρ=>bnd (a ρ) λx=>bnd (zaY lo ρ) λl=>bnd (zaY hi ρ) λu=>slW x l u
section
variable{X:Cx}{cl:Cl}{a:Expr}{ma:ME}{pos p2:Pos}
inductive tMO(K:PySem.W.Frag)(cl:Cl)(m:Option ME)(σ:L2.St)(H:Hp)(Q:Option Int->Hp->Prop):Prop
 | mk (μ:List Addr) (h:MH) (ρ:En) (o:Option Int) (h':MH) (p0:HR K cl μ H h) (p1:ER K μ H ρ σ) (p2:zaY m ρ h=some (o,h')) (p3:∀μ' H',Ext μ H μ' H'->HR K cl μ' H' h'->Q o H'):tMO K cl m σ H Q
abbrev SO(X:Cx)(cl:Cl)(e:Option Expr)(m:Option ME):Prop:=PO X e (tMO X.K cl m)
def PO.wk(h:PO X e t)(w:∀σ H Q,t' σ H Q->t σ H Q):PO X e t':=λpins s σ H Q I q=>h pins s σ H Q I (w σ H Q q)
def zlz:SO X cl none none:=PO.wk zmf λσ H Q q0=>by
 obtain⟨μ,h,ρ,o,h',R,er,e,k⟩:=q0;cases e;exact k μ H .refl R
def zlF(ha:SE X cl a ma):SO X cl (some a) (some ma):=PO.wk (zli ha) λσ H Q q0=>by
 obtain⟨μ,h,ρ,o,h',R,er,e,k⟩:=q0;obtain⟨x,h1,e1,e⟩:=xP e;split at e
 .rename_i i
  cases e;exact⟨μ,h,ρ,_,_,R,er,e1,λμ1 H1 v E1 R1 r=>⟨i,r.int_of,k μ1 H1 E1 R1⟩⟩
 .cases e
def zlX{pins:List (Addr×Obj)}{s:Shared}{σ:L2.St}{H:Hp}{a:Addr}{v vl vu:Value}{lo hi:Option Int}{sl:Addr}{Q:VK}{xs:List V}(I:Inv X pins σ H s)(rx:RelV (.ref a) v)(hs:s.heap.IsSliceOf sl vl vu .none)(pl:IsPart vl lo)(pu:IsPart vu hi)
  (hx:SqT X.K H a xs) (q1:cutV xs lo hi=xs->Q (.ref a) H) (q2:∀p,H p=none->Q (.ref p) (upd H p (.tup (cutV xs lo hi)))) :
  ∃T id,typeLookup (.type T) "__getitem__" = pure (some (.builtin id))/\s.TypeIs v T/\wpAny (model X.prog X.w) X.A (getItem v (.ref sl)) (EP X pins σ Q) X.xe s:=by
 by_cases hw:HT.sIx xs.length 0 lo=0/\HT.sIx xs.length xs.length hi=xs.length
 .cases rx
  obtain⟨its,r,ht,hz⟩:=I.tuple hx;have hlen:its.toArray.size=xs.length:=by rw[zL]; exact r.length.symm
  refine⟨"tuple",_,jD.lookup,ht.typeIs,?_⟩;refine zci ht hs pl pu (by rw[hlen]; exact hw) ⟨.ref a,H,I,rfl,q1 ?_⟩;unfold cutV;rw[hw.1,hw.2];simp
 .exact zos pins s σ H _ v vl vu lo hi sl Q I rx hs pl pu ⟨a,xs,rfl,hx,hw,q2⟩
def zpk{lo hi:Option Expr}(ha:SE X cl a ma)(hl:SO X cl lo ml)(hh:SO X cl hi mh):SE X cl (.Subscript a (.Slice lo hi none p2) pos) (eSl ma ml mh):=by
 have hr:SlR X (λx lo hi H Q=>∃μ h wx w h',HR X.K cl μ H h/\RW X.K μ H wx x/\slW wx lo hi h=some (w,h')/\KQ X.K cl μ H h' w Q):=by
  rintro pins s σ H x v vl vu lo hi sl Q I rx hs pl pu ⟨μ,h,wx,w,h',R,ax,e,k⟩;unfold slW at e;split at e
  .rename_i l
   cases e;obtain⟨a,vs,rfl,sa,ra⟩:=ax.tup_of;refine zlX I rx hs pl pu sa (λz=>k.pure R (.tup sa ?_)) λp hp=>k.tup R (ra.cutW lo hi) hp
   have q:=ra.cutW lo hi;rw[z] at q;exact q
  .split at e
   .rename_i l el
    cases e;obtain⟨a,vs,rfl,sa,ra⟩:=u6 R ax el;exact zlT pins s σ H _ v vl vu lo hi sl Q I rx hs pl pu ⟨a,vs,rfl,sa,λp hp=>k.fls R (ra.cutW lo hi) hp⟩
   .cases e
 refine PE.wk (zjv hr ha hl hh) λσ H Q ⟨μ,h,ρ,w,h',R,er,e,k⟩=>?_
 obtain⟨x,h1,e1,e⟩:=xP e;obtain⟨l,h2,e2,e⟩:=xP e;obtain⟨u,h3,e3,e⟩:=xP e
 exact⟨μ,h,ρ,x,h1,R,er,e1,λμ1 H1 vx E1 R1 rx=>⟨μ1,h1,ρ,l,h2,R1,er.ext R E1,e2,λμ2 H2 E2 R2=>⟨μ2,h2,ρ,u,h3,R2,(er.ext R E1).ext R1 E2,e3,λμ3 H3 E3 R3=>
  ⟨μ3,h3,x,w,h',R3,(rx.ext R1 E2).ext R2 E3,e,k.ext (E1.trans (E2.trans E3))⟩⟩⟩⟩
end
def zdk:fillsNumberSlot (.type "tuple") "mul" = pure false:=
 PySem.fillsNumberSlot_seq (id:="tuple.__mul__") (r:=some (.builtin "tuple.__rmul__")) vI.lookup ⋯ F.slot_tuple_rmul.lookup ⋯
theorem zfk:seqRepeat? (.type "tuple")=pure (some (.builtin "tuple.__mul__")):=by
 unfold seqRepeat?;rw[PySem.seqSlot_of (T:="tuple") (name:="__mul__") (id:="tuple.__mul__") vI.lookup ⋯,PySem.seqSlot_of (T:="tuple") (name:="__rmul__") (id:="tuple.__rmul__") F.slot_tuple_rmul.lookup ⋯];rfl
def zbF(a:Int)(t:Tok)(l:Addr)(items:Array Value)(n:Nat)(dd:Option Addr)(sl:Array (Option Value)) :
  Meets (Builtin.«int.__rmul__» ⟨[.int a t,.ref l],[]⟩) (λ_ R s=>s.heap.get? l=some { cls:=.type "tuple",dict:=dd,data:=.seq items n,slots:=sl }/\R (.ok (.ret Value.notImplemented)) s):=
 .of_wp λprog w A R s h=>by obtain⟨hp,g,d,tk,os⟩:=s; obtain⟨hl,h⟩:=h; wp_walk; exact⟨_,rfl,h⟩
def zhn(l:Addr)(items:Array Value)(n:Nat)(dd:Option Addr)(sl:Array (Option Value))(x:Int)(u:Tok)(hf:¬((decide (x < -2 ^ 63)||decide (x>=2 ^ 63))=true))(hc:(items.isEmpty||x==1)=true) :
  Meets (Builtin.«tuple.__mul__» ⟨[.ref l,.int x u],[]⟩) (λ_ R s=>s.heap.get? l=some { cls:=.type "tuple",dict:=dd,data:=.seq items n,slots:=sl }/\R (.ok (.ret (.ref l))) s):=
 .of_wp λprog w A R s h=>by
  obtain⟨hp,g,d,tk,os⟩:=s; obtain⟨hl,h⟩:=h;have f1:=vJ;have ht:IsTup ({ heap:=hp,gens:=g,drawn:=d,toks:=tk,os:=os }:Shared).heap l items:=⟨_,hl,rfl,n,rfl⟩;wp_walk using wpAny_loadPart' hl
  rw[kO hf];try dsimp only
  refine za (ye ht ?_);try dsimp only
  rw[zX hc];unfold Builtin.Tuple.tupleIsExact;refine za (za (j7 ht.typeIs (zr ?_)));rw[zX (by decide)];exact za (qy (zr ⟨_,rfl,h⟩))
def zhF (l : Addr) (items : Array Value) (n : Nat) (dd : Option Addr) (sl : Array (Option Value)) (x : Int) (u : Tok) (hf : ¬ ((decide (x < -2 ^ 63) || decide (x >= 2 ^ 63)) = true)) (hc : ¬ (items.isEmpty || x == 1) = true) (h0 : ¬ (decide (x <= 0) || items.isEmpty) = true)
   (h1 : ¬ (items.size * x > (2 ^ 63 - 1) / 8)) (h2 : ¬ Builtin.Tuple.tupleTooMany (items.size * x) = true) (hz : sizeOk (Data.seq (List.foldl (λx1 x2 => x1 ++ x2) #[] (List.replicate x.toNat items)))) :
    Meets (Builtin.«tuple.__mul__» ⟨[.ref l, .int x u], []⟩) (λ_ R s => s.heap.get? l = some { cls := .type "tuple", dict := dd, data := .seq items n, slots := sl } /\
      R (.ok (.ret (.ref s.heap.objs.size))) { s with heap := s.heap.push { cls := Value.type "tuple", data := Data.seq (List.foldl (λx1 x2 => x1 ++ x2) #[] (List.replicate x.toNat items)) } }) :=
  .of_wp λprog w A R s h => by
    obtain ⟨hp, g, d, tk, os⟩ := s; obtain ⟨hl, h⟩ := h;have f1 := vJ;have ht : IsTup ({ heap := hp, gens := g, drawn := d, toks := tk, os := os } : Shared).heap l items := ⟨_, hl, rfl, n, rfl⟩;wp_walk using wpAny_loadPart' hl
    rw [kO hf];try dsimp only
    refine za (ye ht ?_);try dsimp only
    rw [kO hc, kO h0, kO h1, kO h2];refine za (m := Builtin.Tuple.tupleExact _) (jn (zr ⟨_, rfl, h⟩) hz)
def zhR(l:Addr)(items:Array Value)(n:Nat)(dd:Option Addr)(sl:Array (Option Value))(x:Int)(u:Tok)(hf:¬((decide (x < -2 ^ 63)||decide (x>=2 ^ 63))=true))(hc:¬(items.isEmpty||x==1)=true)(h0:(decide (x<=0)||items.isEmpty)=true) :
  Meets (Builtin.«tuple.__mul__» ⟨[.ref l,.int x u],[]⟩) (λ_ R s=>s.heap.get? l=some { cls:=.type "tuple",dict:=dd,data:=.seq items n,slots:=sl } /\
   R (.ok (.ret (.ref s.heap.objs.size))) { s with heap:=s.heap.push { cls:=Value.type "tuple",data:=Data.seq #[] } }):=
 .of_wp λprog w A R s h=>by
  obtain⟨hp,g,d,tk,os⟩:=s; obtain⟨hl,h⟩:=h;have f1:=vJ;have ht:IsTup ({ heap:=hp,gens:=g,drawn:=d,toks:=tk,os:=os }:Shared).heap l items:=⟨_,hl,rfl,n,rfl⟩;wp_walk using wpAny_loadPart' hl
  rw[kO hf];try dsimp only
  refine za (ye ht ?_);try dsimp only
  rw[kO hc,zX h0];refine za (m:=Builtin.Tuple.tupleExact _) (jn (zr ⟨_,rfl,h⟩) (by show 0<=sizeLine; decide))
section
variable{X:Cx}{cl:Cl}
def zmx{H:Hp}{k:Int}{xs:List V}(I:Inv X pins σ H s)(rx:RelV (.ref a) v)(ry:RelV (.int k) u)(hx:SqT X.K H a xs)(h1:0<=k)(h2:k<=1000)(hz:xs.length<=1000)
  (q1:(List.replicate k.toNat xs).flatten=xs->Q (.ref a) H) (q2:∀p,H p=none->Q (.ref p) (upd H p (.tup (List.replicate k.toNat xs).flatten))):wpAny (model X.prog X.w) X.A (binaryOp .Mult v u) (EP X pins σ Q) X.xe s:=by
 cases rx;obtain⟨t,rfl⟩:=ry;obtain⟨its,r,ht,_⟩:=I.tuple hx;have hlen:=r.length;obtain⟨⟨cls,dd,data,sl⟩,e,hc,n,hd⟩:=id ht;simp only at hc hd;subst hc hd;have hsl:(sizeLine:Nat)=16777216:=vq;have hnew:List.foldl (λx1 x2=>x1++x2) #[] (List.replicate k.toNat its.toArray)=(List.replicate k.toNat its).flatten.toArray:=by
  have:=foldl_rep its k.toNat [];rw[zY] at this;exact this
 have hrl:k.toNat*its.length<=1000*1000:=Nat.mul_le_mul ∅ ∅;have hf:¬((decide (k < -2 ^ 63)||decide (k>=2 ^ 63))=true):=by
  simp only[Bool.or_eq_true,vR]; omega
 have road:∀{R:Value->Shared->Prop},wpAny (model X.prog X.w) X.A (call (.builtin "tuple.__mul__") [.ref a,.int k t]) R X.xe s->wpAny (model X.prog X.w) X.A (binaryOp .Mult (.ref a) (.int k t)) R X.xe s:=λhcall=>
  xg (T:="tuple") (U:="int") (by decide) ⟨_,e,rfl⟩ (λs'=>yx s' k t) zdk F.fills_int_mul wW zfk F.slot_int_index.lookup
   (vA wW (yx s k t) F.entry_int_rmul (F.args_int_rmul_2 _ _) (zbF k t a its.toArray n dd sl) ⟨e,rfl,⟨_,e,rfl⟩,hcall⟩)
 refine road ?_;by_cases c1:(its.toArray.isEmpty||k==1)=true
 .refine vA vI ⟨_,e,rfl⟩ yD (yw _ _) (zhn a its.toArray n dd sl k t hf c1) ⟨e,.ref a,H,I,rfl,q1 ?_⟩
  rcases xq.mp c1 with c | c
  .have:its=[]:=by simpa using c
   subst this;cases r;simp
  .have:k=1:=by simpa using c
   subst this;simp
 .by_cases c2:(decide (k<=0)||its.toArray.isEmpty)=true
  .refine vA vI ⟨_,e,rfl⟩ yD (yw _ _) (zhR a its.toArray n dd sl k t hf c1 c2) ⟨e,?_⟩
   have hk:k=0:=by
    have ne:its.toArray.isEmpty=false:=by
     cases z:its.toArray.isEmpty with
     | false=>rfl
     | true=>exact absurd (by rw[z]; rfl) c1
    rw[ne,Bool.or_false] at c2;have:=qz c2;omega
   subst hk;exact⟨.ref _,_,I.laid (t':=s.toks) (o:=.tup (List.replicate (0:Int).toNat xs).flatten) (λb ob q=>zf _ q) (zj _) ⟨by simp,[],by simpa using Paired.nil,IsTup.new _ _,.new _ _⟩,rfl,q2 _ I.fresh⟩
  .refine vA vI ⟨_,e,rfl⟩ yD (yw _ _) (zhF a its.toArray n dd sl k t hf c1 c2 ?_ ?_ ?_) ⟨e,?_⟩
   .rw[zL]
    have:(its.length:Int)*k<=1000*1000:=by
     have:(its.length:Int)*k=((k.toNat*its.length:Nat):Int):=by
      rw[yS]; push_cast; rw[xn h1]
     omega
    omega
   .rw[zL]
    unfold Builtin.Tuple.tupleTooMany;have:(its.length:Int)*k<=1000*1000:=by
     have:(its.length:Int)*k=((k.toNat*its.length:Nat):Int):=by
      rw[yS]; push_cast; rw[xn h1]
     omega
    simp only[vR];omega
   .rw[hnew]
    show((List.replicate k.toNat its).flatten.toArray).size<=sizeLine
    rw[zL,len_rep];omega
   .rw[hnew]
    exact⟨.ref _,_,I.laid (t':=s.toks) (o:=.tup (List.replicate k.toNat xs).flatten) (λb ob q=>zf _ q) (zj _) ⟨by rw[len_rep,hlen]; omega,_,r.rep k.toNat,IsTup.new _ _,.new _ _⟩,rfl,q2 _ I.fresh⟩
def zmX{H:Hp}{k:Int}{xs:List V}(I:Inv X pins σ H s)(rx:RelV (.ref a) v)(ry:RelV (.int k) u)(hx:SqL X.K H a xs)(h1:0<=k)(h2:k<=1000000)(hz:xs.length<=10)
  (q2:∀p,H p=none->Q (.ref p) (upd H p (.lst (List.replicate k.toNat xs).flatten))):wpAny (model X.prog X.w) X.A (binaryOp .Mult v u) (EP X pins σ Q) X.xe s:=by
 cases rx;obtain⟨t,rfl⟩:=ry;obtain⟨its,r,⟨o,n,e,hc,hd,hda⟩,_⟩:=I.list hx;obtain⟨cls,dd,data,sl⟩:=o;simp only at hc hd hda;subst hc hda;have hlen:=r.length;have hsl:(sizeLine:Nat)=16777216:=vq;have hrl:its.length*k.toNat<=10*1000000:=Nat.mul_le_mul ∅ ∅;have hfit:¬(!Builtin.List.listFitsIndex k)=true:=by simp[Builtin.List.listFitsIndex]; omega
 have hcap:¬its.toArray.size*k.toNat>(2 ^ 63-1)/8:=by rw[zL]; omega
 have hlong:¬Builtin.List.listTooLong (its.toArray.size*k.toNat)=true:=by rw[zL]; simp[Builtin.List.listTooLong,sizeLine]; omega
 have hnew:List.foldl (λx1 x2=>x1++x2) #[] (List.replicate (if its.toArray.isEmpty=true then 0 else k.toNat) its.toArray)=(List.replicate k.toNat its).flatten.toArray:=by
  have f0:∀m:Nat,List.foldl (λx1 x2=>x1++x2) #[] (List.replicate m its.toArray)=(List.replicate m its).flatten.toArray:=λm=>by
   have z:=foldl_rep its m [];rw[zY] at z;exact z
  rw[f0];cases its with
  | nil=>simp
  | cons c r'=>rw[kO (by simp)]
 refine xg (T:="list") (U:="int") (by decide) ⟨_,e,rfl⟩ (λs'=>yx s' k t) noFill_list_mul F.fills_int_mul wW repeat_list F.slot_int_index.lookup (vA wW (yx s k t) F.entry_int_rmul (F.args_int_rmul_2 _ _) (lm_int_rmul_list_any k t a its.toArray n dd sl) ⟨e,rfl,⟨_,e,rfl⟩,vA F.slot_list_mul ⟨_,e,rfl⟩ F.entry_list_mul (F.args_list_mul_2 _ _) (lm_list_mul_any a its.toArray n dd sl k t hfit hcap hlong) ⟨e,?_⟩⟩);rw[hnew];exact⟨.ref _,_,I.lnew (t':=s.toks) (r.rep k.toNat) (by rw[len_rep,hlen,yS]; omega),rfl,q2 _ I.fresh⟩
def zl1:OpR X (binaryOp .Mult) (rM X.K cl mulW):=by
 rintro pins s σ H x y v u Q I rx ry ⟨μ,h,wx,wy,w,h',R,ax,ay,e,k⟩;unfold mulW at e;split at e
 .rename_i i j
  split at e
  .rename_i hj
   cases e;refine znd pins s σ H x y v u Q I rx ry ⟨_,_,ax.int_of,ay.int_of,?_,k.pure R (.int _)⟩;unfold small at hj;rw[Bool.or_eq_true,vR,vR] at hj;exact hj
  .cases e
 .rename_i l j
  split at e
  .rename_i hj
   cases e;obtain⟨a,vs,rfl,sa,ra⟩:=ax.tup_of;cases ay.int_of;refine zmx I rx ry sa hj.1 hj.2.1 (by rw[<-ra.length]; exact hj.2.2) (λz=>k.pure R (.tup sa ?_)) λp hp=>k.tup R (ra.rep _) hp
   have q:=ra.rep j.toNat;rw[z] at q;exact q
  .cases e
 .rename_i l j
  split at e
  .rename_i hj
   cases e;obtain⟨a,vs,rfl,sa,ra⟩:=u6 R ax (show getL _ (.fls l)=some l from rfl);cases ay.int_of;exact zmX I rx ry sa hj.1 hj.2.1 (by rw[<-ra.length]; exact hj.2.2) λp hp=>k.fls R (ra.rep _) hp
  .cases e
 .cases e
end
noncomputable def mapO{α β:Type}(f:α->Option β):List α->Option (List β)
 | []=>some []
 | x::r=>match f x,mapO f r with
  | some y,some ys=>some (y::ys)
  | _,_=>none
noncomputable def ug:Nat->MH->W->Option PyData
 | 0,_,_=>none
 | _+1,_,.non=>some .none
 | _+1,_,.bl b=>some (.bool b)
 | _+1,_,.int i=>some (.int i)
 | _+1,_,.str x=>if PyData.strOk x then some (.str x) else none
 | n+1,h,.tup l=>(mapO (ug n h) l).map .tuple
 | n+1,h,.fls l=>(mapO (ug n h) l).map .list
 | n+1,h,.ref k=>match h[k]? with
  | some (.lst l)=>(mapO (ug n h) l).map .list
  | _=>none
 | _+1,_,.fdc _=>none
 | _+1,_,.fn _=>none
section
variable{X:Cx}{cl:Cl}{pins:List (Addr×Obj)}{σ:L2.St}{μ:List Addr}{H:Hp}{s:Shared}{h:MH}
def zaw(I:Inv X pins σ H s)(R:HR X.K cl μ H h):∀(n:Nat) {w:W} {x:V} {v:Value} {d:PyData},RW X.K μ H w x->RelV x v->ug n h w=some d->(∃as,Reads s.heap v d as)/\d.canLay0=true/\d.depth<=n:=by
 intro n;induction n with
 | zero=>intro w x v d _ _ e; cases e
 | succ n ih=>
  have all:∀{l:List W} {vs:List V} {us:List Value} {ds:List PyData},RWs X.K μ H l vs->Vals vs us->mapO (ug n h) l=some ds->(∃as,ReadsAll s.heap us ds as)/\PyData.canLayAll0 ds=true/\PyData.depthAll ds<=n:=by
   intro l;induction l with
   | nil=>intro vs us ds r t e; cases r; cases t; cases e; exact⟨⟨_,.nil⟩,by unfold PyData.canLayAll0; rfl,by unfold PyData.depthAll; omega⟩
   | cons w l ihl=>
    intro vs us ds r t e;cases r with | cons r rs=>cases t with | cons t ts=>
    unfold mapO at e;split at e
    .rename_i y ys e1 e2
     cases e;obtain⟨⟨as,h1⟩,h2,h3⟩:=ih r t e1;obtain⟨⟨bs,g1⟩,g2,g3⟩:=ihl rs ts e2;refine⟨⟨_,.cons h1 g1⟩,by unfold PyData.canLayAll0; rw[h2,g2]; rfl,?_⟩;unfold PyData.depthAll;omega
    .cases e
  have lists:∀{l:List W} {a:Addr} {vs:List V} {d:PyData},SqL X.K H a vs->RWs X.K μ H l vs->(mapO (ug n h) l).map PyData.list=some d->(∃as,Reads s.heap (.ref a) d as)/\d.canLay0=true/\d.depth<=n+1:=by
   intro l a vs d sq rs e;cases e1:mapO (ug n h) l with
   | none=>rw[e1] at e; cases e
   | some ds=>
    rw[e1] at e;cases e;obtain⟨its,rv,⟨o,m,h1,h2,h3,h4⟩,_⟩:=I.list sq;obtain⟨⟨as,g1⟩,g2,g3⟩:=all rs rv e1;exact⟨⟨_,.list h1 h2 h4 (by simpa using g1)⟩,by unfold PyData.canLay0; exact g2,by unfold PyData.depth; omega⟩
  intro w x v d r t e;cases r with
  | non=>cases e; cases t; exact⟨⟨_,.none⟩,by unfold PyData.canLay0; rfl,by unfold PyData.depth; omega⟩
  | bl b=>cases e; cases t; exact⟨⟨_,.bool b⟩,by unfold PyData.canLay0; rfl,by unfold PyData.depth; omega⟩
  | int i=>cases e; obtain⟨tk,rfl⟩:=t; exact⟨⟨_,.int i tk⟩,by unfold PyData.canLay0; rfl,by unfold PyData.depth; omega⟩
  | str z=>
   simp only[ug] at e;split at e
   .rename_i ok
    cases e; obtain⟨tk,rfl⟩:=t; exact⟨⟨_,.str z tk⟩,by unfold PyData.canLay0; exact ok,by unfold PyData.depth; omega⟩
   .cases e
  | @tup a vs l sq rs=>
   simp only[ug] at e;cases t;cases e1:mapO (ug n h) l with
   | none=>rw[e1] at e; cases e
   | some ds=>
    rw[e1] at e;cases e;obtain⟨its,rv,⟨o,h1,h2,m,h4⟩,_⟩:=I.tuple sq;obtain⟨⟨as,g1⟩,g2,g3⟩:=all rs rv e1;exact⟨⟨_,.tuple h1 h2 h4 (by simpa using g1)⟩,by unfold PyData.canLay0; exact g2,by unfold PyData.depth; omega⟩
  | @fls a vs l sq rs=>cases t; simp only[ug] at e; exact lists sq.sq rs e
  | fdc=>cases e
  | fn=>cases e
  | @ref k a hk=>
   cases t;simp only[ug] at e;split at e
   .rename_i l ho
    obtain⟨vs,hv,rs⟩:=R.ob k a _ hk ho;exact lists (SqL.of hv) rs e
   .cases e
end
section
variable{X:Cx}{cl:Cl}{pins:List (Addr×Obj)}{σ:L2.St}{μ:List Addr}{H:Hp}{s:Shared}{h:MH}
def zgr(I:Inv X pins σ H s)(R:HR X.K cl μ H h)(n:Nat):∀{l:List W} {vs:List V} {us:List Value} {ds:List PyData},RWs X.K μ H l vs->Vals vs us->mapO (ug n h) l=some ds->(∃as,ReadsAll s.heap us ds as)/\PyData.canLayAll0 ds=true:=by
 intro l;induction l with
 | nil=>intro vs us ds r t e; cases r; cases t; cases e; exact⟨⟨_,.nil⟩,by unfold PyData.canLayAll0; rfl⟩
 | cons w l ihl=>
  intro vs us ds r t e;cases r with | cons r rs=>cases t with | cons t ts=>
  unfold mapO at e;split at e
  .rename_i y ys e1 e2
   cases e;obtain⟨⟨as,h1⟩,h2,h3⟩:=zaw I R n r t e1;obtain⟨⟨bs,g1⟩,g2⟩:=ihl rs ts e2;exact⟨⟨_,.cons h1 g1⟩,by unfold PyData.canLayAll0; rw[h2,g2]; rfl⟩
  .cases e
end
noncomputable def deep:Nat:=60
noncomputable def eqF(x y:W):Option Bool:=match x,y with
 | .str a,.str b=>some (a==b)
 | .int a,.int b=>some (a==b)
 | .bl a,.bl b=>some (a==b)
 | _,_=>none
noncomputable def eqB(h:MH)(x y:W):Option Bool:=match eqF x y with
 | some b=>some b
 | none=>match ug deep h x,ug deep h y with
  | some d,some e=>some (PyData.eqv d e)
  | _,_=>none
noncomputable def eqW(neg:Bool)(x y:W):M W:=λh=>match eqB h x y with
 | some b=>some (.bl (if neg then !b else b),h)
 | none=>none
noncomputable def zao(h:MH):W->Option (List W)
 | .tup l=>some l
 | w=>getL h w
noncomputable def inB(h:MH)(x y:W):Option Bool:=match zao h y with
  | some l=>match ug deep h x,mapO (ug deep h) l with
   | some d,some ds=>some (ds.any λe=>PyData.eqv e d)
   | _,_=>none
  | none=>none
noncomputable def inW(neg:Bool)(x y:W):M W:=λh=>match inB h x y with
 | some b=>some (.bl (if neg then !b else b),h)
 | none=>none
section
variable{X:Cx}{cl:Cl}
def zjq(hu:X.A.units+64<cLine){H:Hp}(I:Inv X pins σ H s)(rx:RelV x v)(ry:RelV y u)
  (R:HR X.K cl μ H h) (ax:RW X.K μ H wx x) (ay:RW X.K μ H wy y) (e:eqB h wx wy=some b) :
  (Q (.bl b) H->wpAny (model X.prog X.w) X.A (compareOp .Eq v u) (EP X pins σ Q) X.xe s)/\(Q (.bl (!b)) H->wpAny (model X.prog X.w) X.A (compareOp .NotEq v u) (EP X pins σ Q) X.xe s):=by
 unfold eqB at e;split at e
 .rename_i b' e'
  cases e;unfold eqF at e';split at e'
  .rename_i i j
   cases e';cases ax.str_of;cases ay.str_of;exact⟨λq=>zhG pins s σ H _ _ v u Q I rx ry ⟨rfl,by rw[zcS]; exact q⟩,λq=>zh0 pins s σ H _ _ v u Q I rx ry ⟨rfl,by rw[zcS]; exact q⟩⟩
  .rename_i i j
   cases e';cases ax.int_of;cases ay.int_of;exact⟨λq=>zhG pins s σ H _ _ v u Q I rx ry ⟨rfl,by rw[zcO]; exact q⟩,λq=>zh0 pins s σ H _ _ v u Q I rx ry ⟨rfl,by rw[zcO]; exact q⟩⟩
  .rename_i i j
   cases e';cases ax.bl_of;cases ay.bl_of;exact⟨λq=>zhG pins s σ H _ _ v u Q I rx ry ⟨rfl,by rw[zdK]; exact q⟩,λq=>zh0 pins s σ H _ _ v u Q I rx ry ⟨rfl,by rw[zdK]; exact q⟩⟩
  .cases e'
 .split at e
  .rename_i d d' e1 e2
   cases e;obtain⟨⟨as,r1⟩,c1,d1⟩:=zaw I R deep ax rx e1;obtain⟨⟨bs,r2⟩,c2,d2⟩:=zaw I R deep ay ry e2;have hr:X.A.units+min d.depth d'.depth<cLine:=by
    have:min d.depth d'.depth<=d.depth:=Nat.min_le_left _ _;unfold deep at d1;omega
   exact⟨λq=>SeqAt.compareEq_reads r1 r2 c1 c2 hr ⟨.bl _,H,I,rfl,q⟩,λq=>SeqAt.compareNe_reads r1 r2 c1 c2 hr ⟨.bl _,H,I,rfl,q⟩⟩
  .cases e
def zod(hu:X.A.units+64<cLine):OpR X (compareOp .Eq) (rM X.K cl (eqW false)):=by
 rintro pins s σ H x y v u Q I rx ry ⟨μ,h,wx,wy,w,h',R,ax,ay,e,k⟩;unfold eqW at e;split at e
 .rename_i b eb
  cases e;exact(zjq hu I rx ry R ax ay eb).1 (k.pure R (.bl _))
 .cases e
def zoh(hu:X.A.units+64<cLine):OpR X (compareOp .NotEq) (rM X.K cl (eqW true)):=by
 rintro pins s σ H x y v u Q I rx ry ⟨μ,h,wx,wy,w,h',R,ax,ay,e,k⟩;unfold eqW at e;split at e
 .rename_i b eb
  cases e;exact(zjq hu I rx ry R ax ay eb).2 (k.pure R (.bl _))
 .cases e
def zbZ{K:PySem.W.Frag}{μ:List Addr}{H:Hp}{h:MH}(R:HR K cl μ H h)(r:RW K μ H w v)(e:zao h w=some l):∃a vs,v=.ref a/\(SqL K H a vs\/SqT K H a vs)/\RWs K μ H l vs:=by
 unfold zao at e;split at e
 .cases e
  obtain⟨a,vs,rfl,sa,ra⟩:=r.tup_of;exact⟨a,vs,rfl,.inr sa,ra⟩
 .obtain⟨a,vs,rfl,sa,ra⟩:=u6 R r e
  exact⟨a,vs,rfl,.inl sa,ra⟩
def zm8(hu:X.A.units+64<cLine){pins:List (Addr×Obj)}{s:Shared}{σ:L2.St}{H:Hp}{x y:V}{v u:Value}(I:Inv X pins σ H s)(rx:RelV x v)(ry:RelV y u)
  (R:HR X.K cl μ H h) (ax:RW X.K μ H wx x) (ay:RW X.K μ H wy y) (e:inB h wx wy=some b) :
  (Q (.bl b) H->wpAny (model X.prog X.w) X.A (compareOp .In v u) (EP X pins σ Q) X.xe s)/\(Q (.bl (!b)) H->wpAny (model X.prog X.w) X.A (compareOp .NotIn v u) (EP X pins σ Q) X.xe s):=by
 unfold inB at e;split at e
 .rename_i l el
  split at e
  .rename_i d ds e1 e2
   cases e;obtain⟨a,vs,rfl,sa,ra⟩:=zbZ R ay el;cases ry;obtain⟨⟨as,r1⟩,c1,d1⟩:=zaw I R deep ax rx e1;have big:ug (deep+1) h (.tup l)=some (.tuple ds):=by simp only[ug]; rw[e2]; rfl
   have big2:ug (deep+1) h (.fls l)=some (.list ds):=by simp only[ug]; rw[e2]; rfl
   have hr:X.A.units+1+min (PyData.depthAll ds) d.depth<cLine:=by
    have:min (PyData.depthAll ds) d.depth<=d.depth:=Nat.min_le_right _ _;unfold deep at d1;omega
   rcases sa with sa | sa
   .obtain⟨its,rv,⟨o,m,h1,h2,h3,h4⟩,_⟩:=I.list sa
    obtain⟨⟨as2,g1⟩,c2⟩:=zgr I R deep ra rv e2;have r2:Reads s.heap (.ref a) (.list ds) _:=.list h1 h2 h4 (by simpa using g1);exact⟨λq=>SeqAt.in_list_reads r2 r1 c2 c1 hr ⟨.bl _,H,I,rfl,q⟩,λq=>SeqAt.notIn_list_reads r2 r1 c2 c1 hr ⟨.bl _,H,I,rfl,q⟩⟩
   .obtain⟨⟨bs,r2⟩,c2,_⟩:=zaw I R (deep+1) (.tup sa ra) rfl big
    have c2':PyData.canLayAll0 ds=true:=by unfold PyData.canLay0 at c2; exact c2
    exact⟨λq=>SeqAt.in_tuple_reads r2 r1 c2' c1 hr ⟨.bl _,H,I,rfl,q⟩,λq=>SeqAt.notIn_tuple_reads r2 r1 c2' c1 hr ⟨.bl _,H,I,rfl,q⟩⟩
  .cases e
 .cases e
def znz(hu:X.A.units+64<cLine):OpR X (compareOp .In) (rM X.K cl (inW false)):=by
 rintro pins s σ H x y v u Q I rx ry ⟨μ,h,wx,wy,w,h',R,ax,ay,e,k⟩;unfold inW at e;split at e
 .rename_i b eb
  cases e;exact(zm8 hu I rx ry R ax ay eb).1 (k.pure R (.bl _))
 .cases e
end
inductive Ty where
 | int | str | bool | tuple | list | dict
 deriving DecidableEq
noncomputable def Ty.name:Ty->String
 | .int=>"int" | .str=>"str" | .bool=>"bool" | .tuple=>"tuple" | .list=>"list" | .dict=>"dict"
noncomputable def tyW(h:MH):W->Option Ty
 | .bl _=>some .bool
 | .int _=>some .int
 | .str _=>some .str
 | .tup _=>some .tuple
 | .fls _=>some .list
 | .ref n=>match h[n]? with
  | some (.lst _)=>some .list
  | some (.dic _)=>some .dict
  | _=>none
 | .fdc _=>some .dict
 | .fn _=>none
 | .non=>none
noncomputable def isTy(T:Ty)(x:W)(h:MH):Option Bool:=match x with
 | .non=>some false
 | x=>match tyW h x with
  | some t=>some (decide (t=T)||(decide (t=.bool)&&decide (T=.int)))
  | none=>none
noncomputable def isW(T:Ty)(x:W):M W:=λh=>match isTy T x h with
 | some b=>some (.bl b,h)
 | none=>none
def ziR(K:PySem.W.Frag):∀(t T:Ty),PySem.W.kitOne K (.type t.name) (.type T.name)=some (decide (t=T)||(decide (t=.bool)&&decide (T=.int))):=by
 intro t T;cases t<;>cases T<;>kernel_rfl
def zjF(K:PySem.W.Frag):∀(T:Ty),PySem.W.kitOne K (.type "NoneType") (.type T.name)=some false:=by
 intro T;cases T<;>kernel_rfl
section
variable{X:Cx}{cl:Cl}{a:Expr}{ma:ME}{pos p p2:Pos}
def zjo(T:Ty):zad X (.builtin "isinstance") (λxs H Q=>∃x,xs=[x,.ty T.name]/\rM1 X.K cl (isW T) x H Q):=by
 rintro pins s σ H xs us Q I rs ⟨x,rfl,μ,h,wx,w,h',R,ax,e,k⟩;obtain⟨u,u2,rfl,ru,ru2⟩:=vals2 rs;obtain rfl:u2=.type T.name:=ru2;unfold isW at e;split at e
 .rename_i b eb
  cases e;have q:Q (.bl b) H:=k.pure R (.bl _);have fin:∀tk,EP X pins σ Q (.bool b) { s with toks:=tk }:=λtk=>⟨.bl b,H,I.tok tk,rfl,q⟩
  have go:∀{t:Ty},tyW h wx=some t->PySem.W.kitOne X.K (.type t.name) (.type T.name)=some b:=λ{t} e1=>by
   rw[ziR];unfold isTy at eb;split at eb
   .cases e1
   .rw[e1] at eb; exact eb
  cases ax with
  | non=>
   cases eb;cases ru;exact jf PySem.W.kitx_none I.kIn True.intro (zjF X.K T) (λz=>nomatch z) fin
  | bl y=>cases ru; exact jf PySem.W.kitx_bool I.kIn True.intro (go (t:=.bool) rfl) (λz=>nomatch z) fin
  | int i=>obtain⟨t,rfl⟩:=ru; exact jf PySem.W.kitx_int I.kIn True.intro (go (t:=.int) rfl) (λz=>nomatch z) fin
  | str y=>obtain⟨t,rfl⟩:=ru; exact jf PySem.W.kitx_str I.kIn True.intro (go (t:=.str) rfl) (λz=>nomatch z) fin
  | @tup a vs l sa ra=>
   cases ru;obtain⟨its,_,⟨o,h1,h2,_⟩,_⟩:=I.tuple sa;exact jf xu I.kIn ⟨o,h1,h2⟩ (go (t:=.tuple) rfl) (λz=>nomatch z) fin
  | @fls a vs l sa ra=>
   cases ru;obtain⟨its,_,⟨o,n,h1,h2,_⟩,_⟩:=I.list sa.sq;exact jf vV I.kIn ⟨o,h1,h2⟩ (go (t:=.list) rfl) (λz=>nomatch z) fin
  | @fdc a l l' ws vs sa kk e1 e2 ra=>
   cases ru;have g:=go (t:=.dict) rfl;obtain⟨_,_,vs',_,dd⟩:=zb2 I.hok sa.1;obtain⟨o,es,ep,h1,h2,_⟩:=dd;exact jf wZ I.kIn ⟨o,h1,h2.1⟩ g (λz=>nomatch z) fin
  | @fn a=>
   simp only[isTy,tyW] at eb;cases eb
  | @ref n a hn=>
   cases ru;cases et:tyW h (.ref n) with
   | none=>simp only[isTy,et] at eb; cases eb
   | some t=>
    have g:=go et;simp only[tyW] at et;split at et
    .rename_i l ho
     cases et;obtain⟨vs,hv,_⟩:=R.ob n a _ hn ho;obtain⟨its,_,⟨o,n,h1,h2,_⟩,_⟩:=I.list (SqL.of hv);exact jf vV I.kIn ⟨o,h1,h2⟩ g (λz=>nomatch z) fin
    .rename_i l ho
     cases et;obtain⟨l',hv,_⟩:=R.ob n a _ hn ho;exact zi7 (x:=.ref a) I rfl (.dK hv) g fin
    .cases et
 .cases e
def zoM(T:Ty)(ha:SE X cl a ma)(hi:X.mg "isinstance" = none)(ht:X.mg y=none)(hv:bootBuiltins y=some (.type T.name))(hg:Gl X "isinstance":=by rfl)(hg2:Gl X y:=by rfl)
  (hn:y≠"__name__":=by decide) (hdb:(y==("__debug__":Str))=false:=by decide)
  (hs1:starEach [a,.Name y p2] X.env=(false,eval a X.env)::starEach [.Name y p2] X.env:=by rfl) (hs2:starEach [.Name y p2] X.env=(false,eval (.Name y p2) X.env)::starEach [] X.env:=by rfl)
  (hpl:(backTo pos (starEach [.Name y p2] X.env)).any (·.1)=false:=by rfl):SE X cl (.Call (.Name "isinstance" p) [a,.Name y p2] [] pos) (eUn (isW T) ma):=
 PE.wk (zfO (zjo (cl:=cl) T) hg hi PyProof.Rows.boot_isinstance (zd7 ha (zd7 (zmy hg2 ht hv (show RelV (.ty T.name) (.type T.name) from rfl) hn hdb) zjk hs2) hs1) (by decide) (by decide) hs1 hpl) λσ H Q q0=>by
  obtain⟨μ,h,ρ,w,h',R,er,e,k⟩:=q0;obtain⟨x,h1,e1,e⟩:=xP e;exact⟨μ,h,ρ,x,h1,R,er,e1,λμ1 H1 vx E1 R1 rx=>⟨vx,rfl,μ1,h1,x,w,h',R1,rx,e,k.ext E1⟩⟩
noncomputable def zay(ws:List W):M W:=λh=>match ws with
 | [.tup l]=>some (.tup l,h)
 | [w]=>match getL h w with
  | some l=>some (.tup l,h)
  | none=>none
 | _=>none
noncomputable def zce(ws:List W):M W:=λh=>match ws with
 | [w]=>match zao h w with
  | some l=>some (.fls l,h)
  | none=>none
 | _=>none
def zgq:zad X (.type "tuple") (rMs X.K cl zay):=by
 rintro pins s σ H xs us Q I rs ⟨μ,h,ws,w,h',R,ax,e,k⟩;unfold zay at e;split at e
 .rename_i l
  cases e;cases ax with | cons r t=>cases t with | nil=>
   obtain⟨a,vs,rfl,sa,ra⟩:=r.tup_of;exact zcf pins s σ H _ us Q I rs ⟨a,vs,rfl,.inr ⟨sa,k.pure R (.tup sa ra)⟩⟩
 .split at e
  .rename_i l el
   cases e;cases ax with | cons r t=>cases t with | nil=>
    obtain⟨a,vs,rfl,sa,ra⟩:=u6 R r el;exact zcf pins s σ H _ us Q I rs ⟨a,vs,rfl,.inl ⟨sa,λp hp=>k.tup R ra hp⟩⟩
  .cases e
 .cases e
def zhy:zad X (.type "list") (rMs X.K cl zce):=by
 rintro pins s σ H xs us Q I rs ⟨μ,h,ws,w,h',R,ax,e,k⟩;unfold zce at e;split at e
 .split at e
  .rename_i l el
   cases e;cases ax with | cons r t=>cases t with | nil=>
    obtain⟨a,vs,rfl,sa,ra⟩:=zbZ R r el;exact zfv pins s σ H _ us Q I rs ⟨a,vs,rfl,sa,λp hp=>k.fls R ra hp⟩
  .cases e
 .cases e
end
noncomputable def ut(x:W)(ws:List W):M W:=λh=>match x,ws with
 | .ref n,[y]=>match h[n]? with
  | some (.lst l)=>if l.length<cap then some (.non,h.set n (.lst (l++[y]))) else none
  | _=>none
 | _,_=>none
noncomputable def zaT(x:W)(ws:List W):M W:=λh=>match x,ws with
 | .ref n,[y]=>match h[n]?,zao h y with
  | some (.lst l),some l'=>if l.length+l'.length<=cap then some (.non,h.set n (.lst (l++l'))) else none
  | _,_=>none
 | _,_=>none
noncomputable def popM(x:W)(ws:List W):M W:=λh=>match x,ws with
 | .ref n,[]=>match h[n]? with
  | some (.lst l)=>match l[l.length-1]? with
   | some y=>some (y,h.set n (.lst l.dropLast))
   | none=>none
  | _=>none
 | _,_=>none
noncomputable def xX(f:W->List W->M W)(o:ME)(ms:List ME):ME:=λρ=>bnd (o ρ) λx h=>if (getL h x).isSome=true then bnd (xU ms ρ) (λws=>f x ws) h else none
section
variable{X:Cx}{cl:Cl}{o e:Expr}{es:List Expr}{mo:ME}{ms:List ME}{apos cpos:Pos}{f:W->List W->M W}
inductive rMm(K:PySem.W.Frag)(cl:Cl)(f:W->List W->M W)(x:V)(xs:List V)(H:Hp)(Q:VK):Prop
 | mk (μ:List Addr) (h:MH) (wx:W) (ws:List W) (w:W) (h':MH) (p0:HR K cl μ H h) (p1:RW K μ H wx x) (p2:RWs K μ H ws xs) (p3:f wx ws h=some (w,h')) (p4:KQ K cl μ H h' w Q):rMm K cl f x xs H Q
def zew{H:Hp}(q:tM X.K cl (xX f mo ms) σ H Q):tBM X.K "list" (rMm X.K cl f) (tM X.K cl mo) (tMA X.K cl ms) σ H Q:=by
 obtain⟨μ,h,ρ,w,h',R,er,e,k⟩:=q;obtain⟨x,h1,e1,e⟩:=xP e;split at e
 .rename_i hl
  obtain⟨ws,h2,e2,e⟩:=xP e;refine⟨μ,h,ρ,x,h1,R,er,e1,λμ1 H1 vx E1 R1 rx=>?_⟩;obtain⟨l,hl⟩:=qe.mp hl;obtain⟨a,vs,rfl,sa,ra⟩:=u6 R1 rx hl;exact⟨.inl ⟨rfl,vs,sa⟩,μ1,h1,ρ,ws,h2,R1,er.ext R E1,e2,λμ2 H2 xs E2 R2 rs=>⟨μ2,h2,x,ws,w,h',R2,rx.ext R1 E2,rs,e,k.ext (E1.trans E2)⟩⟩
 .cases e
def zhE{H:Hp}(q:tM X.K cl (xX f mo []) σ H Q):tBM0 X.K "list" (rMm X.K cl f) (tM X.K cl mo) σ H Q:=by
 obtain⟨μ,h,ρ,w,h',R,er,e,k⟩:=q;obtain⟨x,h1,e1,e⟩:=xP e;split at e
 .rename_i hl
  obtain⟨ws,h2,e2,e⟩:=xP e;cases e2;refine⟨μ,h,ρ,x,h1,R,er,e1,λμ1 H1 vx E1 R1 rx=>?_⟩;obtain⟨l,hl⟩:=qe.mp hl;obtain⟨a,vs,rfl,sa,ra⟩:=u6 R1 rx hl;exact⟨.inl ⟨rfl,vs,sa⟩,μ1,h1,x,[],w,h',R1,rx,.nil,e,k.ext E1⟩
 .cases e
theorem KQ.put{K:PySem.W.Frag}{μ:List Addr}{H:Hp}{h:MH}{n:Nat}{a:Addr}(k:KQ K cl μ H (h.set n (.lst l)) w Q)(R:HR K cl μ H h)(hn:μ[n]?=some a)(rs:RWs K μ H l vs)(r:RW K μ H w v):Q v (upd H a (.lst vs)):=
 k μ _ v (.put hn) (R.put hn ⟨vs,uv,rs.ext R (.put hn)⟩) (r.ext R (.put hn))
def zhY:MtM X "list.append" (rMm X.K cl ut):=by
 rintro pins s σ H x xs v us Q I rx rs ⟨μ,h,wx,ws,w,h',R,ax,as,e,k⟩;unfold ut at e;split at e
 .rename_i n y
  split at e
  .rename_i l ho
   split at e
   .rename_i hl
    cases e;cases ax with | @ref _ a hn=>
    cases as with | cons r t=>cases t with | nil=>
    obtain⟨vs,hv,rl⟩:=R.ob n a _ hn ho;exact zeC pins s σ H _ _ v us Q I rx rs ⟨a,vs,_,rfl,rfl,hv,zM (by rw[<-rl.length]; exact hl) zax,k.put R hn (rl.append (.cons r .nil)) .non⟩
   .cases e
  .cases e
 .cases e
def zl6:MtM X "list.pop" (rMm X.K cl popM):=by
 rintro pins s σ H x xs v us Q I rx rs ⟨μ,h,wx,ws,w,h',R,ax,as,e,k⟩;unfold popM at e;split at e
 .rename_i n
  split at e
  .rename_i l ho
   split at e
   .rename_i y hy
    cases e;cases ax with | @ref _ a hn=>
    cases as;obtain⟨vs,hv,rl⟩:=R.ob n a _ hn ho;obtain⟨v',ev,rv⟩:=rl.get hy;exact znF pins s σ H _ _ v us Q I rx rs ⟨a,vs,v',rfl,rfl,hv,by rw[<-rl.length]; exact ev,k.put R hn rl.dropLast rv⟩
   .cases e
  .cases e
 .cases e
def zfN(T:String)(hT:T="list" \/ T="tuple")(l:Addr)(items:Array Value)(n:Nat)(b:Addr)(items2:Array Value)(n2:Nat)(dd2:Option Addr)(sl2:Array (Option Value))(hc0:¬(!items.isEmpty&&Builtin.List.listTooLong (items.size+items2.size))=true)(hc1:items.size<=sizeLine)(hs2:items.size+items2.size<=sizeLine+1) :
  Meets (Builtin.«list.extend» ⟨[.ref l,.ref b],[]⟩) (λ_ R s=>s.heap.get? l=some { cls:=.type "list",dict:=none,data:=.seq items n,slots:=#[] }/\s.heap.get? b=some { cls:=.type T,dict:=dd2,data:=.seq items2 n2,slots:=sl2 }/\R (.ok (.ret Value.none)) { s with heap:=s.heap.update l (Obj.mapSeq λx=>x++items2),toks:=s.toks }):=by
 rcases hT with rfl | rfl
 .exact .of_wp λprog w A R s h=>by
   obtain⟨hp,g,d,tk,os⟩:=s; obtain⟨hl,hb,h⟩:=h; have f1:=vJ; have f2:=xH; have f3:=AutoSeq1.sub_list_list; have f4:=AutoSeq1.sub_tuple_list; have f5:=AutoSeq1.sub_list_tuple;have hz':(items++items2).size<=sizeLine+1:=by rw[Array.size_append]; exact hs2
   wp_walk using (vP hl rfl (hz:=hc1) (_hz':=hz')),wpAny_loadPart' hl,wpAny_loadPart' hb; exact⟨_,rfl,h⟩
 .exact .of_wp λprog w A R s h=>by
   obtain⟨hp,g,d,tk,os⟩:=s; obtain⟨hl,hb,h⟩:=h; have f1:=vJ; have f2:=xH; have f3:=AutoSeq1.sub_list_list; have f4:=AutoSeq1.sub_tuple_list; have f5:=AutoSeq1.sub_list_tuple;have hz':(items++items2).size<=sizeLine+1:=by rw[Array.size_append]; exact hs2
   wp_walk using (vP hl rfl (hz:=hc1) (_hz':=hz')),wpAny_loadPart' hl,wpAny_loadPart' hb; exact⟨_,rfl,h⟩
def zhP{H:Hp}{xs zs:List V}(I:Inv X pins σ H s)(rx:RelV (.ref l) v)(ru:RelV (.ref b) u)(hH:H l=some (.lst xs))(hB:SqL X.K H b zs\/SqT X.K H b zs)(hz:xs.length+zs.length<=sizeLine)
  (q:Q .non (upd H l (.lst (xs++zs)))):wpAny (model X.prog X.w) X.A (call (.builtin "list.extend") [v,u]) (EP X pins σ Q) X.xe s:=by
 cases rx;cases ru;obtain⟨z,its,n,r,hl,e⟩:=I.lstM hH;have go:∀{T:String} {its2:List Value} {n2:Nat} {dd2:Option Addr} {sl2:Array (Option Value)},(T="list" \/ T="tuple")->Vals zs its2->s.heap.get? b=some { cls:=.type T,dict:=dd2,data:=.seq its2.toArray n2,slots:=sl2 }->
   wpAny (model X.prog X.w) X.A (call (.builtin "list.extend") [.ref l,.ref b]) (EP X pins σ Q) X.xe s:=by
  intro T its2 n2 dd2 sl2 hT r2 e2;have hl2:=r2.length;have hsz:its.toArray.size+its2.toArray.size<=sizeLine:=by rw[zL,zL]; omega
  have hlong:¬(!its.toArray.isEmpty&&Builtin.List.listTooLong (its.toArray.size+its2.toArray.size))=true:=by
   rw[zkg hsz,Bool.and_false];exact z9
  refine vA F.slot_list_extend ⟨_,e,rfl⟩ F.entry_list_extend (F.args_list_extend_2 _ _) (zfN T hT l its.toArray n b its2.toArray n2 dd2 sl2 hlong (by rw[zL]; omega) ∅) ⟨e,e2,?_⟩;refine⟨.non,_,I.lset (its':=its++its2) hH e (by simp) (r.append r2) ?_,rfl,q⟩;rw[zF];omega
 rcases hB with hB | hB
 .obtain⟨its2,r2,⟨⟨c2,d2,dt2,sl2⟩,n2,h1,h2,h3,h4⟩,_⟩:=I.list hB
  simp only at h2 h4;subst h2 h4;exact go (.inl rfl) r2 h1
 .obtain⟨its2,r2,⟨⟨c2,d2,dt2,sl2⟩,h1,h2,n2,h4⟩,_⟩:=I.tuple hB
  simp only at h2 h4;subst h2 h4;exact go (.inr rfl) r2 h1
def zht:MtM X "list.extend" (rMm X.K cl zaT):=by
 rintro pins s σ H x xs v us Q I rx rs ⟨μ,h,wx,ws,w,h',R,ax,as,e,k⟩;unfold zaT at e;split at e
 .rename_i n y
  split at e
  .rename_i l l' ho el
   split at e
   .rename_i hl
    cases e;cases ax with | @ref _ a hn=>
    cases as with | cons r t=>cases t with | nil=>
    obtain⟨vs,hv,rl⟩:=R.ob n a _ hn ho;obtain⟨b,zs,rfl,sb,rb⟩:=zbZ R r el;obtain⟨u,rfl,ru⟩:=rs.one;exact zhP I rx ru hv sb (zQ (by rw[<-rl.length,<-rb.length]; exact hl) zax) (k.put R hn (rl.append rb) .non)
   .cases e
  .cases e
 .cases e
def ziO(ho:SE X cl o mo)(ha:SA X cl (e::es) ms)(hbase:attributeBase o "append" X.env (eval o X.env)=eval o X.env:=by rfl)
  (hfew:((backTo cpos (starEach (e::es) X.env)).all (λx=>!x.1)&&(backToKw cpos (keywordEach [] X.env)).all (λx=>x.1.isSome)
   && decide ((e::es).length+([]:List Keyword).length+(if ([]:List Keyword).isEmpty then 0 else 1)<30))=true:=by rfl)
  (hline:(apos.endLine==cpos.line)=true:=by rfl) (hs:starEach (e::es) X.env=(false,eval e X.env)::starEach es X.env:=by rfl) (hplain:(backTo cpos (starEach es X.env)).any (·.1)=false:=by rfl) :
  SE X cl (.Call (.Attribute o "append" apos) (e::es) [] cpos) (xX ut mo ms):=
 PE.wk (zkZ vY PySem.F.slot_list_append PySem.F.type_list_append zhY ho ha hbase hfew hline hs hplain) λσ H Q q=>zew q
def zjf(ho:SE X cl o mo)(ha:SA X cl (e::es) ms)(hbase:attributeBase o "extend" X.env (eval o X.env)=eval o X.env:=by rfl)
  (hfew:((backTo cpos (starEach (e::es) X.env)).all (λx=>!x.1)&&(backToKw cpos (keywordEach [] X.env)).all (λx=>x.1.isSome)
   && decide ((e::es).length+([]:List Keyword).length+(if ([]:List Keyword).isEmpty then 0 else 1)<30))=true:=by rfl)
  (hline:(apos.endLine==cpos.line)=true:=by rfl) (hs:starEach (e::es) X.env=(false,eval e X.env)::starEach es X.env:=by rfl) (hplain:(backTo cpos (starEach es X.env)).any (·.1)=false:=by rfl) :
  SE X cl (.Call (.Attribute o "extend" apos) (e::es) [] cpos) (xX zaT mo ms):=
 PE.wk (zkZ vY PySem.F.slot_list_extend PySem.F.type_list_extend zht ho ha hbase hfew hline hs hplain) λσ H Q q=>zew q
def znu(ho:SE X cl o mo)(hbase:attributeBase o "pop" X.env (eval o X.env)=eval o X.env:=by rfl)(hline:(apos.endLine==cpos.line)=true:=by rfl) :
  SE X cl (.Call (.Attribute o "pop" apos) [] [] cpos) (xX popM mo []):=
 PE.wk (zn5 vY PySem.F.slot_list_pop PySem.F.type_list_pop zl6 ho hbase hline) λσ H Q q=>zhE q
end
noncomputable def srcOf(x:W):M Src:=λh=>match x with
 | .tup l=>some (.items l,h)
 | .fls l=>some (.items l,h)
 | .ref n=>match h[n]? with
  | some (.lst _)=>some (.live n,h)
  | _=>none
 | _=>none
noncomputable def iSeq(m:ME):MI:=λρ=>bnd (m ρ) srcOf
noncomputable def upto(n:Nat):List W:=(_root_.List.range n).map λ(i:Nat)=>W.int (i:Int)
noncomputable def rngW(ws:List W):M Src:=λh=>match ws with
 | [.int j]=>if -(2 ^ 62)<=j/\j<2 ^ 62 then some (.items (upto j.toNat),h) else none
 | _=>none
noncomputable def iRng(ms:List ME):MI:=λρ=>bnd (xU ms ρ) rngW
section
variable{X:Cx}{cl:Cl}{tg e:Expr}{m:ME}{ms:List ME}{p pos:Pos}
def zoH(hl:PE X e tl):PI X tg e (λσ H R=>tl σ H λx H1=>∃a,x=.ref a/\(((∃xs,SqL X.K H1 a xs)/\R (Itl X.K a) H1)\/((∃xs,SqT X.K H1 a xs)/\R (Itt X.K a) H1))):=by
 intro pins s σ H R I h;refine thn (hl pins s σ H _ I h) λv s1 ⟨x,H1,I1,r1,q1⟩=>?_
 obtain⟨a,e,q1⟩:=q1;subst e;cases r1;rcases q1 with ⟨⟨xs,hq⟩,q⟩ | ⟨⟨xs,hq⟩,q⟩
 .obtain⟨its,rv,p,hz⟩:=I1.list hq
  refine vp p.isList ?_;refine⟨s1.heap.objs.size,[s1.heap.objs.size],_,_,H1,rfl,I1.kept (t':=s1.toks) λb o e=>zf _ e,zij a _,⟨_,zT _ rfl,rfl,rfl⟩,λb hb=>?_,q⟩;have e:b=s1.heap.objs.size:=by simpa using hb
  subst e;exact I1.fpOk (zj _) (I1.hok.fresh (zj _))
 .obtain⟨its,rv,p,hz⟩:=I1.tuple hq
  refine ym (show s1.heap.IsTuple a its.toArray from p) ?_;refine⟨s1.heap.objs.size,[s1.heap.objs.size],_,_,H1,rfl,I1.kept (t':=s1.toks) λb o e=>zf _ e,zhZ a _,⟨_,zT _ rfl,rfl,rfl⟩,λb hb=>?_,q⟩;have e:b=s1.heap.objs.size:=by simpa using hb
  subst e;exact I1.fpOk (zj _) (I1.hok.fresh (zj _))
def zoy{K:PySem.W.Frag}{μ:List Addr}{H:Hp}{h:MH}(R:HR K cl μ H h)(sa:SqT K H a vs)(ra:RWs K μ H l vs):JR K cl (Itt K a) (.items l) μ H:=by
 intro μ2 H2 h2 E2 R2 i;have sa2:=SqT.ext R E2 sa;have ra2:=ra.ext R E2;refine⟨λw ew=>?_,λes=>?_⟩
 .have ew':l[i]?=some w:=kj ew
  obtain⟨v,ev,rv⟩:=ra2.get ew';refine⟨⟨vs,v,sa2,ev⟩,λx H3 y=>?_⟩;obtain⟨rfl,y⟩:=y;have:=y vs sa2;rw[ev] at this;cases this;exact⟨.refl,R2,rv⟩
 .have es':l[i]?=none:=kj es
  exact⟨vs,sa2,by rw[<-ra.length]; exact jR.mp es'⟩
def znG{K:PySem.W.Frag}{μ:List Addr}{H:Hp}{h:MH}(R:HR K cl μ H h)(sa:SqF K μ H a vs)(ra:RWs K μ H l vs):JR K cl (Itl K a) (.items l) μ H:=by
 intro μ2 H2 h2 E2 R2 i;have sa2:=(SqF.ext E2 sa).sq;have ra2:=ra.ext R E2;refine⟨λw ew=>?_,λes=>?_⟩
 .have ew':l[i]?=some w:=kj ew
  obtain⟨v,ev,rv⟩:=ra2.get ew';refine⟨⟨vs,v,sa2,ev⟩,λx H3 y=>?_⟩;obtain⟨rfl,y⟩:=y;have:=y vs sa2;rw[ev] at this;cases this;exact⟨.refl,R2,rv⟩
 .have es':l[i]?=none:=kj es
  exact⟨vs,sa2,by rw[<-ra.length]; exact jR.mp es'⟩
def zlJ{K:PySem.W.Frag}{μ:List Addr}{H:Hp}(hn:μ[n]?=some a):JR K cl (Itl K a) (.live n) μ H:=by
 intro μ2 H2 h2 E2 R2 i;have hn2:=E2.get hn;refine⟨λw ew=>?_,λes=>?_⟩
 .unfold zaj at ew
  dsimp only at ew;split at ew
  .rename_i l ho
   have ew':l[i]?=some w:=kj ew;obtain⟨vs,hv,ra⟩:=R2.ob n a _ hn2 ho;obtain⟨v,ev,rv⟩:=ra.get ew';refine⟨⟨vs,v,SqL.of hv,ev⟩,λx H3 y=>?_⟩;obtain⟨rfl,y⟩:=y;have:=y vs (SqL.of hv);rw[ev] at this;cases this;exact⟨.refl,R2,rv⟩
  .cases ew
 .unfold zaj at es
  dsimp only at es;split at es
  .rename_i l ho
   have es':l[i]?=none:=kj es;obtain⟨vs,hv,ra⟩:=R2.ob n a _ hn2 ho;exact⟨vs,SqL.of hv,by rw[<-ra.length]; exact jR.mp es'⟩
  .cases es
def znN(he:SE X cl e m):SI X cl tg e (iSeq m):=PI.wk (zoH he) λσ H Q q0=>by
 obtain⟨μ,h,ρ,src,h',R,er,e,k⟩:=q0;obtain⟨x,h1,e1,e⟩:=xP e;refine⟨μ,h,ρ,x,h1,R,er,e1,λμ1 H1 v E1 R1 r=>?_⟩;unfold srcOf at e;split at e
 .cases e
  obtain⟨a,vs,rfl,sa,ra⟩:=r.tup_of;exact⟨a,rfl,.inr ⟨⟨vs,sa⟩,k μ1 H1 _ E1 R1 (zoy R1 sa ra)⟩⟩
 .cases e
  cases r with | @fls a vs l sa ra=>
  exact⟨a,rfl,.inl ⟨⟨vs,sa.sq⟩,k μ1 H1 _ E1 R1 (znG R1 sa ra)⟩⟩
 .rename_i n
  split at e
  .rename_i l ho
   cases e;cases r with | @ref _ a hn=>
   obtain⟨vs,hv,ra⟩:=R1.ob n a _ hn ho;exact⟨a,rfl,.inl ⟨⟨vs,SqL.of hv⟩,k μ1 H1 _ E1 R1 (zlJ hn)⟩⟩
  .cases e
 .cases e
def znm{K:PySem.W.Frag}{μ:List Addr}{H:Hp}:JR K cl (Itr 0 n) (.items (upto n)) μ H:=by
 intro μ2 H2 h2 E2 R2 i;refine⟨λw ew=>?_,λes=>?_⟩
 .have ew':(upto n)[i]?=some w:=kj ew
  unfold upto at ew';rw[je] at ew';by_cases hi:i<n
  .rw[List.getElem?_range hi] at ew'
   cases ew';refine⟨hi,λx H3 y=>?_⟩;obtain⟨rfl,rfl⟩:=y;exact⟨.refl,R2,by rw[Int.zero_add]; exact .int _⟩
  .rw[jB (by simpa using hi)] at ew'
   cases ew'
 .have es':(upto n)[i]?=none:=kj es
  have:=jR.mp es';unfold upto at this;rw[zH,qY] at this;exact this
def znX(hm:X.mg "range" = none)(ha:SA X cl [e] ms)(hg:Gl X "range":=by rfl)(hs:starEach [e] X.env=[(false,eval e X.env)]:=by rfl):SI X cl tg (.Call (.Name "range" p) [e] [] pos) (iRng ms):=
 PI.wk (ziX hg hm ha hs) λσ H Q q0=>by
  obtain⟨μ,h,ρ,src,h',R,er,e,k⟩:=q0;obtain⟨ws,h1,e1,e⟩:=xP e;refine⟨μ,h,ρ,ws,h1,R,er,e1,λμ1 H1 vs E1 R1 rs=>?_⟩;unfold rngW at e;split at e
  .rename_i j
   split at e
   .rename_i hj
    cases e;cases rs with | cons r t=>cases t with | nil=>
    cases r.int_of;exact⟨j,rfl,hj.1,hj.2,k μ1 H1 _ E1 R1 znm⟩
   .cases e
  .cases e
end
noncomputable def relS(sc scope:Scope):Scope:={ scope with names:=scope.names.map λ(n,k)=>if (k==.free&&sc.kind==.function&&sc.names.lookup n==some .cell) then (n,.cell) else (n,k) }
noncomputable def cof(sc:Scope)(x:Str):Bool:=sc.names.lookup x==some .cell||sc.names.lookup x==some .free
noncomputable def zaI(sc:Scope)(N:List Str)(scope:Scope)(N':List Str)(nl:Nat)(ks:List Nat):Bool:=
 scope.kind==.function&&scope.names.all (λy=>y.2 != .cell)&&scope.names.all (λy=>y.2 != .local||scope.names.lookup y.1==some .local)
 && N'.length==nl+ks.length&&scope.names.all (λy=>y.2 != .free||cof sc y.1)
 && (List.range ks.length).all λj=>match ks[j]?,N'[nl+j]? with
  | some k,some x=>N[k]?==some x&&cof sc x&&cof (relS sc scope) x
  | _,_=>false
structure CompOk(sc:Scope)(N:List Str)(scope:Scope)(N':List Str)(nl:Nat)(ks:List Nat):Prop where
 kind:scope.kind=.function
 ncell:∀y∈scope.names,y.2≠.cell
 names:∀y∈scope.names,y.2=.local->scope.names.lookup y.1=some .local
 len:N'.length=nl+ks.length
 fall:∀y∈scope.names,y.2=.free->cof sc y.1=true
 fr:∀j k,ks[j]?=some k->∃x,N[k]?=some x/\N'[nl+j]?=some x/\cof sc x=true/\cof (relS sc scope) x=true
def za2(h:zaI sc N scope N' nl ks=true):CompOk sc N scope N' nl ks:=by
 unfold zaI at h;simp only[zx] at h;obtain⟨⟨⟨⟨⟨h1,h2⟩,h3⟩,h4⟩,h5⟩,h6⟩:=h;refine⟨by simpa using h1,λy hy=>?_,λy hy e=>?_,by simpa using h4,λy hy e=>?_,λj k e=>?_⟩
 .have:=kW.mp h2 y hy; simpa using this
 .have:=kW.mp h3 y hy; simpa[e] using this
 .have:=kW.mp h5 y hy; simpa[e] using this
 .have hj:j<ks.length:=(zU.mp e).1
  have:=kW.mp h6 j (yC.mpr hj);rw[e] at this;cases e2:N'[nl+j]? with
  | none=>rw[e2] at this; simp at this
  | some x=>
   rw[e2] at this;simp only[zx] at this;exact⟨x,by simpa using this.1.1,rfl,this.1.2,this.2⟩
def zcp{sc:Scope}(h:cof sc x=true):sc.names.lookup x=some .cell\/sc.names.lookup x=some .free:=by
 unfold cof at h;rcases xq.mp h with h | h
 .exact .inl (by simpa using h)
 .exact .inr (by simpa using h)
noncomputable def cxC(X:Cx)(scope:Scope)(cs:List (Str×Addr))(C:Addr)(N:List Str)(s₀:Shared)(H₀:Hp)(ex:List Addr):Cx:=
 { X with N:=N,s₀:=s₀,H₀:=H₀,env:=compEnvC scope cs C X.env,outer:=X.stack,ex:=ex,fn:=λ_=>false,pn:=[],xe:=λ_ _=>False }
def zhu{env:Env}(names:List (Str×NameKind))(h:∀y∈names,y.2=.free->∃c,env.cells.lookup y.1=some c):∀cs0:List (Str×Addr),(∀x c,cs0.lookup x=some c->env.cells.lookup x=some c)->
  ∃cs,(forIn names cs0 λ(x:Str×NameKind) (r:List (Str×Addr))=>if (x.2==NameKind.free)=true then do
    let a <-cellOf env x.1
    pure (ForInStep.yield ((x.1,a)::r)) else pure (ForInStep.yield r):Sem (List (Str×Addr)))=pure cs/\(∀x c,cs.lookup x=some c->env.cells.lookup x=some c)/\(∀y∈names,y.2=.free->∃c,cs.lookup y.1=some c)/\∀x c,cs0.lookup x=some c->∃c',cs.lookup x=some c':=by
 induction names with
 | nil=>intro cs0 h0; exact⟨cs0,by simp,h0,λy hy=>by simp at hy,λx c e=>⟨c,e⟩⟩
 | cons y r ih=>
  intro cs0 h0;have hr:∀z∈r,z.2=.free->∃c,env.cells.lookup z.1=some c:=λz hz=>h z (zN _ hz)
  by_cases hy:(y.2==NameKind.free)=true
  .obtain⟨c,hc⟩:=h y zZ (by simpa using hy)
   have h1:∀x c',((y.1,c)::cs0).lookup x=some c'->env.cells.lookup x=some c':=λx c' e=>by
    rw[kJ] at e;split at e
    .rename_i q
     have:x=y.1:=by simpa using q
     subst this;rw[<-e]; exact hc
    .exact h0 x c' e
   obtain⟨cs,e1,e2,e3,e4⟩:=ih hr ((y.1,c)::cs0) h1;have hself:∃c',cs.lookup y.1=some c':=e4 y.1 c (by rw[kJ]; simp);refine⟨cs,?_,e2,λz hz e=>?_,λx c' e=>?_⟩
   .rw[qU,zX hy]
    have:cellOf env y.1=pure c:=by unfold cellOf; rw[hc]
    rw[this];simp only[pure_bind];exact e1
   .rcases zb.mp hz with rfl | hz
    .exact hself
    .exact e3 z hz e
   .by_cases q:x=y.1
    .subst q; exact hself
    .refine e4 x c' ?_
     rw[kJ];have:(x==y.1)=false:=by simpa using q
     rw[this]; exact e
  .obtain⟨cs,e1,e2,e3,e4⟩:=ih hr cs0 h0
   refine⟨cs,?_,e2,λz hz e=>?_,e4⟩
   .rw[qU,kO hy]
    simp only[pure_bind];exact e1
   .rcases zb.mp hz with rfl | hz
    .exact absurd (by simpa using e) hy
    .exact e3 z hz e
theorem zeQ{env:Env}{scope:Scope}(h:∀y∈scope.names,y.2=.free->∃c,env.cells.lookup y.1=some c) :
  ∃cs,closureFor scope env=pure cs/\(∀x c,cs.lookup x=some c->env.cells.lookup x=some c)/\(∀y∈scope.names,y.2=.free->∃c,cs.lookup y.1=some c):=by
 obtain⟨cs,e1,e2,e3,_⟩:=zhu scope.names h [] (λx c e=>by simp at e);refine⟨cs,?_,e2,e3⟩
 have q:closureFor scope env=((forIn scope.names ([]:List (Str×Addr)) λ(x:Str×NameKind) (r:List (Str×Addr))=>if (x.2==NameKind.free)=true then do
    let a <-cellOf env x.1
    pure (ForInStep.yield ((x.1,a)::r)) else pure (ForInStep.yield r):Sem (List (Str×Addr))) >>= λcs=>pure cs):=rfl
 rw[q,e1];rfl
section
variable{X:Cx}{pins:List (Addr×Obj)}{σ:L2.St}{H:Hp}{s:Shared}
def ze7{scope:Scope}(nc:∀y∈scope.names,y.2≠.cell)(h:cof (relS sc scope) x=true):∃y∈scope.names,y.1=x/\y.2=.free:=by
 have go:∀l:List (Str×NameKind),(∀y∈l,y.2≠.cell)->∀k:NameKind,(k=.cell\/k=.free)->(l.map λ(n,k)=>if (k==NameKind.free&&sc.kind==ScopeKind.function&&sc.names.lookup n==some NameKind.cell) then (n,NameKind.cell) else (n,k)).lookup x=some k->∃y∈l,y.1=x/\y.2=.free:=by
  intro l;induction l with
  | nil=>intro _ k _ e; simp at e
  | cons y r ih=>
   obtain⟨n,k0⟩:=y;intro nc k hk e;rw[zy,kJ] at e;have fstq:(if (k0==NameKind.free&&sc.kind==ScopeKind.function&&sc.names.lookup n==some NameKind.cell)=true then (n,NameKind.cell) else (n,k0)).1=n:=by split<;>rfl
   by_cases q:x=n
   .refine⟨(n,k0),zZ,q.symm,?_⟩
    have:(x==n)=true:=by simpa using q
    simp only[fstq,this] at e;split at e
    .rename_i c
     simp only[zx] at c;simpa using c.1.1
    .have e':k0=k:=by simpa using e
     rcases hk with rfl | rfl
     .exact absurd e' (nc (n,k0) zZ)
     .exact e'
   .have:(x==n)=false:=by simpa using q
    simp only[fstq,this] at e;obtain⟨y,hy,e1,e2⟩:=ih (λy hy=>nc y (zN _ hy)) k hk e;exact⟨y,zN _ hy,e1,e2⟩
 rcases zcp h with h | h
 .exact go scope.names nc _ (.inl rfl) h
 .exact go scope.names nc _ (.inr rfl) h
def zoW{scope:Scope}{cs:List (Str×Addr)}(I:Inv X pins σ H s)(hsc:X.env.scope=sc)(ok:CompOk sc N scope N' nl ks)
  (hcs:∀x c,cs.lookup x=some c->X.env.cells.lookup x=some c) (hall:∀y∈scope.names,y.2=.free->∃c,cs.lookup y.1=some c) (hC:s.heap.objs.size<=C) (hex:∀b∈ex,FpOk X pins H b) (hob:∀b∈ex,b<s.heap.objs.size):(cxC X scope cs C N' s H ex).Ok:=by
 subst hsc;refine⟨I.ok.mod,ok.kind,I.ok.glob,I.ok.blt,hC,λx y c h1 h2=>I.ok.inj x y c (hcs x c h1) (hcs y c h2),λx hx=>?_,λx c h=>?_,I.ok.hd,I.ok.frames,.inl rfl,λb hb=>?_,I.bs,zQ I.ok.bsz I.sz,λb o e hb=>?_,λb hb z=>?_,I.stack,I.stkFree⟩
 .have hc:cof (relS X.env.scope scope) x=true:=by
   unfold cof;rcases hx with hx | hx
   .rw[show(relS X.env.scope scope).names.lookup x=some .cell from hx]; rfl
   .rw[show(relS X.env.scope scope).names.lookup x=some .free from hx]; rfl
  obtain⟨y,hy,rfl,e⟩:=ze7 ok.ncell hc;exact hall y hy e
 .cases h
 .obtain⟨h0,h1,h2,h3,h4,h5⟩:=hex b hb
  exact⟨λz=>absurd (zM (hob b hb) (z▸hC)) (jE _),λx c e=>h4 x c (hcs x c e)⟩
 .obtain⟨h0,h1,h2,h3,h4,h5⟩:=hex b hb
  rcases h3 with h3 | h3
  .exact I.ok.noex b o e h3
  .exact absurd (zM (zB e) (zQ I.ok.bsz h3)) (jE _)
 .obtain⟨h0,h1,h2,h3,h4,h5⟩:=hex b hb
  rcases zb.mp (I.stkSub b z) with e | e
  .exact h1 e
  .exact h2 e
end
section
variable{prog:Program}{w:World}{A:Around}{R:Result->Shared->Prop}{s:Shared}
noncomputable def zgF(ifs:List Expr)(env:Env):Sem Bool:=forIn ifs true λc r=>if r=true then do let ok <-isTrue c env (eval c env); pure (ForInStep.yield ok) else pure (ForInStep.yield r)
def zfJ(I:Nat->Shared->Prop)
  (turn:∀n s,I n s->wpAny (model prog w) A (pyNext it) (λr s₁=>match r with
   | none=>R (.ok .next) s₁
   | some v=>wpAny (model prog w) A (letOwnedTupleGo target it v) (λ_ s₁'=>wpAny (model prog w) A (assign target env v) (λ_ s₂=>
     wpAny (model prog w) A (zgF ifs env) (λok s₃=>
      if ok=true then wpAny (model prog w) A (eval elt env) (λx s₄=>
       wpAny (model prog w) A (call (.builtin "list.append") [acc,x]) (λ_ s₅=>∃m,m<n/\I m s₅) (λ_ _=>False) s₄) (λ_ _=>False) s₃
      else ∃m,m<n/\I m s₃) (λ_ _=>False) s₂) (λ_ _=>False) s₁') (λ_ _=>False) s₁) (λ_ _=>False) s)
  (n:Nat) (h:I n s) :
  codeAny (model prog w) A (.compLoop (.ListComp elt [⟨target,iter,ifs,0⟩] scope pos) 0 it acc env) R s:=by
 refine codeAny_loop rfl I (λn s hI=>?_) n h;show wpAny _ A ((compTurn (.ListComp elt [⟨target,iter,ifs,0⟩] scope pos) 0 it acc env).onRaise (λx=>do noteFrame x env; theTreesLotGoes x)) _ _ s
 refine wpAny_noted ?_;rw[compTurn_list];refine za (yj (za (qM (turn n s hI) (λr s₁ h₁=>?_) λ_ _ h'=>h'.elim)));cases r with
 | none=>exact zr h₁
 | some v=>
  refine za (qM h₁ (λ_ s₁' h₁'=>?_) λ_ _ h'=>h'.elim);refine za (qM h₁' (λ_ s₂ h₂=>za (qM h₂ (λok s₃ h₃=>?_) λ_ _ h'=>h'.elim)) λ_ _ h'=>h'.elim);cases ok with
  | false=>exact zr ⟨rfl,h₃⟩
  | true=>
   exact za (za (qM h₃ (λx s₄ h₄=>za (qM h₄ (λ_ s₅ h₅=>zr (zr ⟨rfl,h₅⟩)) λ_ _ h'=>h'.elim)) λ_ _ h'=>h'.elim))
end
noncomputable def STs(X:Cx)(cl:Cl)(ifs:List Expr)(t:MT):Prop:=∀(pins:List (Addr×Obj)) (s:Shared) (σ:L2.St) (H:Hp) (Q:Bool->Hp->Prop),Inv X pins σ H s->tMT X.K cl t σ H Q->wpAny (model X.prog X.w) X.A (zgF ifs X.env) (TP X pins σ Q) X.xe s
noncomputable def ud:MT:=λ_ h=>some (true,h)
section
variable{X:Cx}{cl:Cl}{c:Expr}{t:MT}
def zlm:STs X cl [] ud:=λpins s σ H Q I q0=>by
 obtain⟨μ,h,ρ,b,h',R,er,e,k⟩:=q0;cases e;exact wpAny_tests_nil ⟨H,I,k μ H .refl R⟩
def zl7(h:ST X cl c t):STs X cl [c] t:=λpins s σ H Q I q=>wpAny_tests_one (h pins s σ H Q I q)
end
noncomputable def blank(nl:Nat)(ρ:En):En:=List.replicate nl none++ρ.drop nl
noncomputable def zai(src:Src)(nl:Nat)(g:MG)(t:MT)(m:ME)(n0:Nat):Nat->Nat->En->MH->Option MH
 | 0,_,_,_=>none
 | k+1,i,ρ,h=>match zaj src i h with
  | none=>none
  | some none=>some h
  | some (some w)=>match g w ρ h with
   | none=>none
   | some (ρ1,h1)=>match t ρ1 h1 with
    | none=>none
    | some (false,h2)=>zai src nl g t m n0 k (i+1) (blank nl ρ1) h2
    | some (true,h2)=>match m ρ1 h2 with
     | none=>none
     | some (y,h3)=>match h3[n0]? with
      | some (.lst acc)=>if acc.length<cap then zai src nl g t m n0 k (i+1) (blank nl ρ1) (h3.set n0 (.lst (acc++[y]))) else none
      | _=>none
noncomputable def uH(nl:Nat)(g:MG)(t:MT)(m:ME)(n0:Nat):List W->En->MH->Option MH
 | [],_,h=>some h
 | w::r,ρ,h=>match g w ρ h with
   | none=>none
   | some (ρ1,h1)=>match t ρ1 h1 with
    | none=>none
    | some (false,h2)=>uH nl g t m n0 r (blank nl ρ1) h2
    | some (true,h2)=>match m ρ1 h2 with
     | none=>none
     | some (y,h3)=>match h3[n0]? with
      | some (.lst acc)=>if acc.length<cap then uH nl g t m n0 r (blank nl ρ1) (h3.set n0 (.lst (acc++[y]))) else none
      | _=>none
theorem zbE(l:List W):∀(k i:Nat) (ρ:En) (h:MH),l.length+1<=i+k->i<=l.length->zai (.items l) nl g t m n0 k i ρ h=uH nl g t m n0 (l.drop i) ρ h
 | 0,i,ρ,h,hk,hi=>by omega
 | k+1,i,ρ,h,hk,hi=>by
  by_cases hl:i<l.length
  .rw[qJ hl]
   unfold zai uH;simp only[zaj,zA hl];cases e1:g l[i] ρ h with
   | none=>rfl
   | some p=>
    obtain⟨ρ1,h1⟩:=p;simp only;cases e2:t ρ1 h1 with
    | none=>rfl
    | some q=>
     obtain⟨b,h2⟩:=q;cases b with
     | false=>exact zbE l k (i+1) _ h2 ∅ hl
     | true=>
      simp only;cases e3:m ρ1 h2 with
      | none=>rfl
      | some q3=>
       obtain⟨y,h3⟩:=q3;simp only;split
       .split
        .exact zbE l k (i+1) _ _ ∅ hl
        .rfl
       .rfl
  .have hi':i=l.length:=by omega
   subst hi';rw[yh];unfold zai uH;simp[zaj]
noncomputable def zaW(mi:MI)(nl:Nat)(ks:List Nat)(g:MG)(t:MT)(m:ME):En->MH->Option (Nat×MH×MH):=λρ h=>match mi ρ h with
 | none=>none
 | some (.items l,h1)=>match uH nl g t m h1.length l (List.replicate nl none++ks.map λk=>(ρ[k]?).join) (h1++[.lst []]) with
  | some h2=>some (h1.length,h1,h2)
  | none=>none
 | some (.live n,h1)=>match zai (.live n) nl g t m h1.length (zbH (.live n) h1+1) 0 (List.replicate nl none++ks.map λk=>(ρ[k]?).join) (h1++[.lst []]) with
  | some h2=>some (h1.length,h1,h2)
  | none=>none
noncomputable def zak(mi:MI)(nl:Nat)(ks:List Nat)(g:MG)(t:MT)(m:ME):ME:=λρ h=>match zaW mi nl ks g t m ρ h with
 | some (n,_,h2)=>some (.ref n,h2)
 | none=>none
open Classical in
noncomputable def uo(mi:MI)(nl:Nat)(ks:List Nat)(g:MG)(t:MT)(m:ME):ME:=λρ h=>match zaW mi nl ks g t m ρ h with
 | some (n,h1,h2)=>match h2[n]? with
  | some (.lst l)=>if h1<+:h2/\lows h1.length l=true then some (.fls l,h1) else none
  | _=>none
 | none=>none
theorem ER.blank{K:PySem.W.Frag}{μ:List Addr}{H:Hp}{ρ:En}(er:ER K μ H ρ σ)(hl:nl<=ρ.length):ER K μ H (ML.blank nl ρ) σ:=by
 unfold ML.blank;refine⟨by simp; rw[<-er.len]; omega,λi w e=>?_⟩;by_cases hi:i<nl
 .rw[zu (by simpa using hi),jY] at e
  split at e<;>cases e
 .rw[zE (by simpa using hi),jK,xG] at e
  exact er.at_ i w (by rw[<-e]; congr 1; omega)
section
variable{X:Cx}{cl:Cl}{pins:List (Addr×Obj)}{σ:L2.St}
noncomputable def σC(nl:Nat)(ks:List Nat)(σ:L2.St):L2.St:=List.replicate nl none++ks.map λk=>(σ[k]?).join
noncomputable def ρC(nl:Nat)(ks:List Nat)(ρ:En):En:=List.replicate nl none++ks.map λk=>(ρ[k]?).join
def erC{K:PySem.W.Frag}{μ:List Addr}{H:Hp}(er:ER K μ H ρ σ):ER K μ H (ρC nl ks ρ) (σC nl ks σ):=by
 unfold ρC σC;refine⟨by simp,λi w e=>?_⟩;by_cases hi:i<nl
 .rw[zu (by simpa using hi),jY] at e
  split at e<;>cases e
 .rw[zE (by simpa using hi),jK,je] at e
  rw[zE (by simpa using hi),jK,je];cases e1:ks[i-nl]? with
  | none=>rw[e1] at e; cases e
  | some k=>
   rw[e1] at e;have e2:(ρ[k]?).join=some w:=kj e;have e3:ρ[k]?=some (some w):=by
    cases q:ρ[k]? with
    | none=>rw[q] at e2; cases e2
    | some o=>rw[q] at e2; cases o with
     | none=>cases e2
     | some z=>cases e2; rfl
   obtain⟨v,ev,r⟩:=er.at_ k w e3;exact⟨v,by simp[ev],r⟩
def ziV{scope:Scope}{cs:List (Str×Addr)}{H:Hp}{s:Shared}{h₁:Heap}(I:Inv X pins σ H s)(hsc:X.env.scope=sc)(hN:X.N=N)(ok:CompOk sc N scope N' nl ks)
  (hcs:∀x c,cs.lookup x=some c->X.env.cells.lookup x=some c) (hall:∀y∈scope.names,y.2=.free->∃c,cs.lookup y.1=some c) (hex:∀b∈ex,FpOk X pins H b) (hob:∀b∈ex,b<s.heap.objs.size)
   (hns:h₁.Ns (s.heap.objs.size+1) m0) (old:∀b o,s.heap.get? b=some o->h₁.get? b=some o) (hD:h₁.get? s.heap.objs.size=some { cls:=.type "list",data:=.seq ([]:List Value).toArray }) :
  Inv (cxC X scope cs (s.heap.objs.size+1) N' s H ex) [] (σC nl ks σ) (upd H s.heap.objs.size (.lst [])) { s with heap:=h₁,toks:=tk }:=by
 have hfr:H s.heap.objs.size=none:=I.hok.fresh (zj _);have ltD:∀{b:Addr} {o:Obj},s.heap.get? b=some o->b≠s.heap.objs.size:=λe=>zW (zB e)
 refine⟨zoW I hsc ok hcs hall (vC _) hex hob,rfl,I.bare,Un.laid old (zj _) hfr,⟨m0,hns,λi x v e1 e2 e3=>?_⟩,λx c e=>?_,?_,λx c e=>?_,λp hp=>absurd (show p∈([]:List (Addr×Obj)) from hp) (by simp),I.hok.laid old (zj _) ⟨by simp,[],_,.nil,hD⟩,?_⟩
 .have e1':N'[i]?=some x:=e1
  unfold σC at e2;by_cases hi:i<nl
  .rw[zu (by simpa using hi),jY] at e2
   split at e2<;>cases e2
  .rw[zE (by simpa using hi),jK,je] at e2
   cases q1:ks[i-nl]? with
   | none=>rw[q1] at e2; cases e2
   | some k=>
    rw[q1] at e2;have q2:(σ[k]?).join=some v:=kj e2;have q3:σ[k]?=some (some v):=by
     cases q:σ[k]? with
     | none=>rw[q] at q2; cases q2
     | some o=>rw[q] at q2; cases o with
      | none=>cases q2
      | some z=>cases q2; rfl
    obtain⟨x',hx1,hx2,hx3,hx4⟩:=ok.fr (i-nl) k q1;have:x'=x:=by
     rw[show nl+(i-nl)=i by omega,e1'] at hx2;exact(kj hx2).symm
    subst this;subst hsc;obtain⟨m,hn,hl⟩:=I.loc;have vis:Vis X.env.scope x':=by rcases zcp hx3 with z | z; exact .inr (.inl z); exact .inr (.inr z)
    obtain⟨u,ru,lk⟩:=hl k x' v (by rw[hN]; exact hx1) q3 vis;refine⟨u,ru,?_⟩;rcases lk with ⟨z,_⟩ | ⟨_,c,hc,ic⟩
    .rcases zcp hx3 with y | y<;>(rw[show X.env.kindOf x'=X.env.scope.names.lookup x' from rfl,y] at z; cases z)
    .refine .inr ⟨zcp hx4,?_⟩
     obtain⟨y,hy,rfl,hyf⟩:=ze7 ok.ncell hx4;obtain⟨c',hc'⟩:=hall y hy hyf;have:=hcs _ _ hc';rw[hc] at this;cases this;obtain⟨o,ho,hd⟩:=ic;exact⟨c,hc',o,old _ _ ho,hd⟩
 .obtain⟨v,o,ho,hd⟩:=I.cell x c (hcs x c e)
  exact⟨v,o,old _ _ ho,hd⟩
 .show(upd H s.heap.objs.size (.lst [])) (s.heap.objs.size+1)=none
  rw[uc (Nat.succ_ne_self _)];exact I.hok.fresh (vC _)
 .obtain⟨v,o,ho,hd⟩:=I.cell x c (hcs x c e)
  rw[uc (ltD ho)];exact I.freeC x c (hcs x c e)
 .show(σC nl ks σ).length=N'.length
  unfold σC;rw[ok.len];simp
def zig{elt tg iter:Expr}{ifs:List Expr}{scope sc:Scope}{pos:Pos}{N N':List Str}{nl:Nat}{ks:List Nat}{cs:List (Str×Addr)}{J:It}{it:Addr}{fp:List Addr}{tn:Nat->Heap->Prop}{g:MG}{t:MT}{m:ME}{src:Src}{k0:Nat}
  {H2:Hp} {s2:Shared} {μ:List Addr} {h h':MH} {ρ:En} {RR:Value->Addr->Result->Shared->Prop} {E:Value->Shared->Prop}
  (hc:X.calm=true) (hsc:X.env.scope=sc) (hN:X.N=N) (ok:CompOk sc N scope N' nl ks)
  (hg:∀cs C s₀ H₀ ex,SG (cxC X scope cs C N' s₀ H₀ ex) cl tg g) (ht:∀cs C s₀ H₀ ex,STs (cxC X scope cs C N' s₀ H₀ ex) cl ifs t) (he:∀cs C s₀ H₀ ex,SE (cxC X scope cs C N' s₀ H₀ ex) cl elt m)
  (I2:Inv X pins σ H2 s2) (T:Turn X.prog X.w X.K tg J fp it tn) (st2:tn 0 s2.heap) (f2:∀b∈fp,FpOk X pins H2 b)
  (hcs:∀x c,cs.lookup x=some c->X.env.cells.lookup x=some c) (hall:∀y∈scope.names,y.2=.free->∃c,cs.lookup y.1=some c)
  (R2:HR X.K cl μ H2 h) (er:ER X.K μ H2 ρ σ) (j:JR X.K cl J src μ H2) (e:zai src nl g t m h.length k0 0 (ρC nl ks ρ) (h++[.lst []])=some h')
  (hRR:∀D C s' H' μ' m',D≠C->s'.heap.Ns C m'->Inv X pins σ H' s'->H' C=none->s2.heap.objs.size<=C->Ext μ H2 μ' H'->HR X.K cl μ' H' h'->μ'[h.length]?=some D->RR (.ref D) C (.ok .next) s') :
  wpAny (model X.prog X.w) X.A (newList []) (λacc s₃=>wpAny (model X.prog X.w) X.A (newFunctionEnv scope X.env.globals cs [] X.env.qual none .none (some X.env)) (λcenv s₄=>
   codeAny (model X.prog X.w) X.A (.compStart (.ListComp elt [⟨tg,iter,ifs,0⟩] scope pos) 0 (.ref it) acc { cenv with scope:=relabel scope X.env }) (RR acc cenv.locals) s₄) E s₃) E s2:=by
 refine jn (wpAny_newFunctionEnv ok.ncell (by intro y hy; simp at hy) (λh₁ hns₁ hsb₁=>?_) ok.kind);dsimp only at hns₁ hsb₁ ⊢;generalize hP:s2.heap.push { cls:=.type "list",dict:=none,data:=.seq ([]:List Value).toArray }=P at hns₁ hsb₁ ⊢;have hC:P.objs.size=s2.heap.objs.size+1:=by rw[<-hP,j9]
 rw[hC] at hns₁ hsb₁ ⊢;have old:∀b o,s2.heap.get? b=some o->h₁.get? b=some o:=λb o e=>hsb₁.extBut b o (zW (vX (zB e))) (zf _ (hP▸zf _ e))
 have hD:h₁.get? s2.heap.objs.size=some { cls:=.type "list",data:=.seq ([]:List Value).toArray }:=hsb₁.extBut _ _ (zW (jX _)) (zf _ (hP▸zT _ rfl));have hob:∀b∈fp,b<s2.heap.objs.size:=λb hb=>by
  obtain⟨o,ho,_⟩:=T.obj 0 _ st2 b hb;exact zB ho
 have fr2:H2 s2.heap.objs.size=none:=I2.hok.fresh (zj _);have I3:=ziV (X:=X) (tk:=s2.toks+([]:List (Str×Value)).length) I2 hsc hN ok hcs hall f2 hob hns₁ old hD;have st3:tn 0 h₁:=T.keep 0 _ _ st2 λb _ o e=>old b o e
 have fr3:∀b∈fp,(upd H2 s2.heap.objs.size (.lst [])) b=none:=λb hb=>by
  rw[uc (zW (hob b hb))];exact(f2 b hb).1
 have fpk:∀{H:Hp},(∀b∈fp,H b=none)->∀b∈fp,FpOk (cxC X scope cs (s2.heap.objs.size+1) N' s2 H2 fp) [] H b:=λhn b hb=>by
  obtain⟨g0,g1,g2,g3,g4,g5⟩:=f2 b hb;refine⟨hn b hb,zW (vX (hob b hb)),λz=>?_,.inl hb,λx c e=>g4 x c (hcs x c e),λp hp=>absurd (show p∈([]:List (Addr×Obj)) from hp) (by simp)⟩;rcases zb.mp (I2.stkSub b z) with q | q
  .exact g1 q
  .exact g2 q
 have loop:∀s:Shared,s={ s2 with heap:=h₁,toks:=s2.toks+([]:List (Str×Value)).length }->
   codeAny (model X.prog X.w) X.A (.compLoop (.ListComp elt [⟨tg,iter,ifs,0⟩] scope pos) 0 (.ref it) (.ref s2.heap.objs.size) (compEnvC scope cs (s2.heap.objs.size+1) X.env)) (RR (.ref s2.heap.objs.size) (s2.heap.objs.size+1)) s:=by
  rintro s rfl
  refine zfJ (λn s=>∃i σ' H ρ' μ' hh,Inv (cxC X scope cs (s2.heap.objs.size+1) N' s2 H2 fp) [] σ' H s/\tn i s.heap/\(∀b∈fp,H b=none)/\HR X.K cl μ' H hh/\ER X.K μ' H ρ' σ'/\Ext μ H2 μ' H/\nl<=ρ'.length/\μ'[h.length]?=some s2.heap.objs.size /\
   zai src nl g t m h.length n i ρ' hh=some h') ?_ k0 ?_
  .rintro n s ⟨i,σ',H,ρ',μ',hh,I,st,fr,R,er',E',hl,hm,e⟩
   cases n with
   | zero=>cases e
   | succ n=>
    unfold zai at e;obtain⟨jg,js⟩:=j μ' H hh E' R i;cases es:zaj src i hh with
    | none=>rw[es] at e; cases e
    | some o=>
     rw[es] at e;cases o with
     | none=>
      cases e;refine thn (T.done (cxC X scope cs (s2.heap.objs.size+1) N' s2 H2 fp) rfl rfl rfl hc i [] s σ' H _ I (fpk fr) st (js es)) λr s1 ⟨hr,I1⟩=>?_
      subst hr;obtain⟨m1,hn1,_⟩:=I1.loc;refine hRR _ _ s1 H μ' m1 (zW (jX _)) hn1 ?_ I1.free (vC _) E' R hm;exact I2.call' I1.os I1.base I1.hok I1.bare λb hb=>⟨(f2 b hb).2.2.2.1,(f2 b hb).2.1,(f2 b hb).2.2.2.2.1,(f2 b hb).2.2.2.2.2⟩
     | some w=>
      obtain⟨go,yl⟩:=jg w es;simp only at e;cases e1:g w ρ' hh with
      | none=>rw[e1] at e; cases e
      | some p=>
       obtain⟨ρ1,h1⟩:=p;rw[e1] at e;simp only at e;refine thn (T.item (cxC X scope cs (s2.heap.objs.size+1) N' s2 H2 fp) rfl rfl rfl hc i [] s σ' H _ I (fpk fr) st go) λr s1 ⟨u,hr,q1⟩=>?_
       subst hr;refine thn q1 λ_ s5 ⟨x,H5,I5,r5,y5,st5,fr5⟩=>?_
       obtain⟨E5,R5,rx⟩:=yl x H5 y5;have I5':=I5.pinned (fpk fr5) (T.obj _ _ st5);refine thn (hg cs _ s2 H2 fp _ s5 σ' H5 x u (λσ6 H6=>∃μ6,Ext μ' H5 μ6 H6/\HR X.K cl μ6 H6 h1/\ER X.K μ6 H6 ρ1 σ6) I5' r5 ⟨μ',hh,ρ',w,ρ1,h1,R5,er'.ext R E5,rx,e1,λμ6 H6 σ6 E6 R6 er6=>⟨μ6,E6,R6,er6⟩⟩) λ_ s6 ⟨σ6,H6,I6,μ6,E6,R6,er6⟩=>?_
       have hl6:nl<=ρ1.length:=by
        rw[er6.len,I6.len];show nl<=N'.length
        rw[ok.len]; omega
       have E06:Ext μ H2 μ6 H6:=E'.trans (E5.trans E6);have fin:∀{s9:Shared} {H9:Hp} {μ9:List Addr} {h9:MH},Inv (cxC X scope cs (s2.heap.objs.size+1) N' s2 H2 fp) ([]++zcm fp s5.heap) σ6 H9 s9->Ext μ6 H6 μ9 H9->HR X.K cl μ9 H9 h9->zai src nl g t m h.length n (i+1) (ML.blank nl ρ1) h9=some h'->
         ∃k,k<n+1/\∃i σ' H ρ' μ' hh,Inv (cxC X scope cs (s2.heap.objs.size+1) N' s2 H2 fp) [] σ' H s9/\tn i s9.heap/\(∀b∈fp,H b=none)/\HR X.K cl μ' H hh/\ER X.K μ' H ρ' σ'/\Ext μ H2 μ' H/\nl<=ρ'.length/\μ'[h.length]?=some s2.heap.objs.size/\zai src nl g t m h.length k i ρ' hh=some h':=by
        intro s9 H9 μ9 h9 I9 E9 R9 e9;refine⟨n,jX n,i+1,σ6,H9,ML.blank nl ρ1,μ9,h9,I9.unpinned,T.keep _ _ _ st5 λb hb o e=>(I9.pin (b,o) (jd _ (jd _ (zbc hb e)))).1,λb hb=>?_,R9,(er6.ext R6 E9).blank hl6,E06.trans E9,?_,E9.get (E6.get (E5.get hm)),e9⟩
        .obtain⟨o,e,d⟩:=T.obj _ _ st5 b hb
         exact(I9.pin (b,o) (jd _ (jd _ (zbc hb e)))).2.1
        .unfold ML.blank; simp
       cases e2:t ρ1 h1 with
       | none=>rw[e2] at e; cases e
       | some p2=>
        obtain⟨bb,h2⟩:=p2;rw[e2] at e;refine thn (ht cs _ s2 H2 fp _ s6 σ6 H6 (λb' H7=>b'=bb/\∃μ7,Ext μ6 H6 μ7 H7/\HR X.K cl μ7 H7 h2) I6 ⟨μ6,h1,ρ1,bb,h2,R6,er6,e2,λμ7 H7 E7 R7=>⟨rfl,μ7,E7,R7⟩⟩) λb' s7 ⟨H7,I7,hb',μ7,E7,R7⟩=>?_
        subst hb';cases b' with
        | false=>
         rw[kO z9];exact fin I7 E7 R7 e
        | true=>
         rw[zX rfl];simp only at e;cases e3:m ρ1 h2 with
         | none=>rw[e3] at e; cases e
         | some p3=>
          obtain⟨y,h3⟩:=p3;rw[e3] at e;simp only at e;refine thn (he cs _ s2 H2 fp _ s7 σ6 H7 (λv H8=>∃μ8,Ext μ7 H7 μ8 H8/\HR X.K cl μ8 H8 h3/\RW X.K μ8 H8 y v) I7 ⟨μ7,h2,ρ1,y,h3,R7,er6.ext R6 E7,e3,λμ8 H8 v E8 R8 r8=>⟨μ8,E8,R8,r8⟩⟩) λxv s8 ⟨v,H8,I8,rv,μ8,E8,R8,r8⟩=>?_
          split at e
          .rename_i acc ho
           split at e
           .rename_i hlt
            have hm8:μ8[h.length]?=some s2.heap.objs.size:=E8.get (E7.get (E6.get (E5.get hm)));obtain⟨vs,hv,ra⟩:=R8.ob _ _ _ hm8 ho;refine thn (zeC (X:=cxC X scope cs (s2.heap.objs.size+1) N' s2 H2 fp) _ s8 σ6 H8 (.ref s2.heap.objs.size) [v] (.ref s2.heap.objs.size) [xv] (λ_ H9=>H9=upd H8 s2.heap.objs.size (.lst (vs++[v]))) I8 rfl (.cons rv .nil) ⟨_,vs,v,rfl,rfl,hv,zM (by rw[<-ra.length]; exact hlt) zax,rfl⟩) λ_ s9 ⟨_,H9,I9,_,hH9⟩=>?_
            subst hH9;exact fin I9 (E7.trans (E8.trans (.put hm8))) (R8.put (o:=.lst (acc++[y])) hm8 ⟨vs++[v],uv,(ra.append (.cons r8 .nil)).ext R8 (.put hm8)⟩) e
           .cases e
          .cases e
  .have R3:HR X.K cl (μ++[s2.heap.objs.size]) (upd H2 s2.heap.objs.size (.lst [])) (h++[.lst []]):=R2.new fr2 ⟨[],uv,.nil⟩
   exact⟨0,σC nl ks σ,_,ρC nl ks ρ,_,_,I3,st3,fr3,R3,(erC er).ext R2 (.new fr2),.new fr2,by unfold ρC; simp,by rw[<-R2.len]; simp,e⟩
 exact codeAny_compStart_list (loop _ rfl) (T.self _ 0 _ _ _ st3 (loop _ rfl))
def zdc{H:Hp}{h1:MH}
  (hc:X.calm=true) (hsc:X.env.scope=sc) (hN:X.N=N) (ok:CompOk sc N scope N' nl ks) (hi:SI X cl tg iter mi)
  (hg:∀cs C s₀ H₀ ex,SG (cxC X scope cs C N' s₀ H₀ ex) cl tg g) (ht:∀cs C s₀ H₀ ex,STs (cxC X scope cs C N' s₀ H₀ ex) cl ifs t) (he:∀cs C s₀ H₀ ex,SE (cxC X scope cs C N' s₀ H₀ ex) cl elt m)
  (I:Inv X pins σ H s) (R:HR X.K cl μ H h) (er:ER X.K μ H ρ σ) (e:zaW mi nl ks g t m ρ h=some (n0,h1,h2)) (hs:∀x,foldedSetIterable iter X.env x=pure x)
  (k:∀D C s' H' μ' m' s2 H1 μ1,D≠C->s'.heap.Ns C m'->Inv X pins σ H' s'->H' C=none->X.env.locals≠C->(∀x c,X.env.cells.lookup x=some c->c≠C)->(X.s₀.heap.objs.size<=C)->(∀p∈X.pn++pins,p.1≠C)->Inv X pins σ H1 s2->Ext μ H μ1 H1->HR X.K cl μ1 H1 h1->Ext μ1 H1 μ' H'->HR X.K cl μ' H' h2->h1.length=n0->μ'[n0]?=some D->
   compPost (model X.prog X.w) X.A X.xe use Q (.ref D) C (.ok .next) s') :
  wpAny (model X.prog X.w) X.A (comprehension (.ListComp elt [⟨tg,iter,ifs,0⟩] scope pos) scope X.env p2 (newList []) false (eval iter X.env) use) Q X.xe s:=by
 subst hsc;have hcell:∀y∈scope.names,y.2=.free->∃c,X.env.cells.lookup y.1=some c:=λy hy e=>I.ok.has y.1 (zcp (ok.fall y hy e))
 obtain⟨cs,hclos,hcs,hall⟩:=zeQ hcell;have key:∀{src:Src} {k0:Nat},mi ρ h=some (src,h1)->zai src nl g t m h1.length k0 0 (ρC nl ks ρ) (h1++[.lst []])=some h2->n0=h1.length->
   wpAny (model X.prog X.w) X.A (comprehension (.ListComp elt [⟨tg,iter,ifs,0⟩] scope pos) scope X.env p2 (newList []) false (eval iter X.env) use) Q X.xe s:=by
  intro src k0 e1 e2 hn0;subst hn0;refine wpAny_comprehension_free (use:=use) rfl hs hclos ok.kind ok.names ?_;refine thn (hi pins s σ H (λJ H1=>∃μ1,Ext μ H μ1 H1/\HR X.K cl μ1 H1 h1/\JR X.K cl J src μ1 H1) I ⟨μ,h,ρ,src,h1,R,er,e1,λμ1 H1 J E1 R1 j=>⟨μ1,E1,R1,j⟩⟩) λv s1 q1=>thn q1 λitv s2 q2=>?_
  obtain⟨it,fp,tn,J,H2,rfl,I2,T,st2,f2,μ2,E2,R2,j⟩:=q2;refine zig (RR:=λacc C=>compPost (model X.prog X.w) X.A X.xe use Q acc C) hc rfl hN ok hg ht he I2 T st2 f2 hcs hall R2 (er.ext R E2) j e2 ?_;intro D C s' H' μ' m' hDC hns I' hfC hC E' R' hm;refine k D C s' H' μ' m' s2 H2 μ2 hDC hns I' hfC (zW (zM I2.lt hC)) (λx c e z=>?_) (zQ I2.sz hC) (λp hp z=>?_) I2 E2 R2 E' R' rfl hm
  .obtain⟨v,o,ho,_⟩:=I2.cell x c e
   exact absurd (zM (zB ho) (z▸hC)) (jE _)
  .exact absurd (zM (zB (I2.pin p hp).1) (z▸hC)) (jE _)
 unfold zaW at e;split at e
 .cases e
 .rename_i l h1' e1
  split at e
  .rename_i h2' e2
   cases e;have q:=zbE (nl:=nl) (g:=g) (t:=t) (m:=m) (n0:=h1.length) l (l.length+1) 0 (ρC nl ks ρ) (h1++[.lst []]) ∅ ∅;rw[wI] at q;exact key e1 (q.trans e2) rfl
  .cases e
 .rename_i n h1' e1
  split at e
  .rename_i h2' e2
   cases e;exact key e1 e2 rfl
  .cases e
def zjs(sc:Scope)(N N':List Str)(nl:Nat)(ks:List Nat)(hc:X.calm=true)(ok:zaI sc N scope N' nl ks=true)(hi:SI X cl tg iter mi)
  (hg:∀cs C s₀ H₀ ex,SG (cxC X scope cs C N' s₀ H₀ ex) cl tg g) (ht:∀cs C s₀ H₀ ex,STs (cxC X scope cs C N' s₀ H₀ ex) cl ifs t) (he:∀cs C s₀ H₀ ex,SE (cxC X scope cs C N' s₀ H₀ ex) cl elt m)
  (hsc:X.env.scope=sc:=by rfl) (hN:X.N=N:=by rfl) (hs:∀x,foldedSetIterable iter X.env x=pure x:=by intro _; rfl):SE X cl (.ListComp elt [⟨tg,iter,ifs,0⟩] scope pos) (zak mi nl ks g t m):=by
 rintro pins s σ H Q I ⟨μ,h,ρ,w,h',R,er,e,k⟩;unfold zak at e;split at e
 .rename_i n0 h1 h2 e1
  cases e;rw[eval_ListComp];refine zdc (use:=none) hc hsc hN (za2 ok) hi hg ht he I R er e1 hs λD C s' H' μ' m' s2 H1 μ1 hDC hns I' hfC hL hcl hs0 hpn I2 E1 R1 E' R' hn hm=>?_
  exact⟨m',hns,λh'' hsb=>⟨.ref D,H',I'.turned (t':=s'.toks) (λb o hb e=>(hsb.2 b hb).trans e) hfC (kY hL) (.inr hs0) hcl hpn,rfl,k μ' H' _ (E1.trans E') R' (.ref hm)⟩⟩
 .cases e
def zdJ{K:PySem.W.Frag}{μ μ1 μ':List Addr}{H H1 H':Hp}{h1 h2:MH}{D:Addr}(k:KQ K cl μ H h1 (.fls l) Q)(E1:Ext μ H μ1 H1)(R1:HR K cl μ1 H1 h1)(E':Ext μ1 H1 μ' H')(R':HR K cl μ' H' h2)(hn:h1.length=n0)(hm:μ'[n0]?=some D)
  (ho:h2[n0]?=some (.lst l)) (pre:h1<+:h2) (lo:lows h1.length l=true):Q (.ref D) H':=by
 obtain⟨vs,hv,rv⟩:=R'.ob _ _ _ hm ho;have cut:Ext μ1 H1 μ1 H':=⟨zR _,λb o e n=>⟨(E'.fr b o e n).1,n⟩⟩;refine k μ1 H' _ (E1.trans cut) (R1.cut E' R' pre) (.fls (.inl ⟨.inl hv,λz=>?_⟩) (RWs.cut E'.pre (by rw[R1.len]; exact lo) rv));obtain⟨q,hq⟩:=jA.mp z;have h3:=E'.get hq;have hlt:q<μ1.length:=(zU.mp hq).1;obtain⟨z1,z2⟩:=zU.mp h3;obtain⟨z3,z4⟩:=zU.mp hm;have:q=n0:=(vh R'.nd).mp (z2.trans z4.symm);subst this;rw[R1.len] at hlt;omega
def zlN(sc:Scope)(N N':List Str)(nl:Nat)(ks:List Nat)(hc:X.calm=true)(ok:zaI sc N scope N' nl ks=true)(hi:SI X cl tg iter mi)
  (hg:∀cs C s₀ H₀ ex,SG (cxC X scope cs C N' s₀ H₀ ex) cl tg g) (ht:∀cs C s₀ H₀ ex,STs (cxC X scope cs C N' s₀ H₀ ex) cl ifs t) (he:∀cs C s₀ H₀ ex,SE (cxC X scope cs C N' s₀ H₀ ex) cl elt m)
  (hsc:X.env.scope=sc:=by rfl) (hN:X.N=N:=by rfl) (hs:∀x,foldedSetIterable iter X.env x=pure x:=by intro _; rfl):SE X cl (.ListComp elt [⟨tg,iter,ifs,0⟩] scope pos) (uo mi nl ks g t m):=by
 rintro pins s σ H Q I ⟨μ,h,ρ,w,h',R,er,e,k⟩;unfold uo at e;split at e
 .rename_i n0 h1 h2 e1
  split at e
  .rename_i l ho
   split at e
   .rename_i c
    cases e;rw[eval_ListComp];refine zdc (use:=none) hc hsc hN (za2 ok) hi hg ht he I R er e1 hs λD C s' H' μ' m' s2 H1 μ1 hDC hns I' hfC hL hcl hs0 hpn I2 E1 R1 E' R' hn hm=>?_
    exact⟨m',hns,λh'' hsb=>⟨.ref D,H',I'.turned (t':=s'.toks) (λb o hb e=>(hsb.2 b hb).trans e) hfC (kY hL) (.inr hs0) hcl hpn,rfl,zdJ k E1 R1 E' R' hn hm ho c.1 c.2⟩⟩
   .cases e
  .cases e
 .cases e
def zdn{spos:Pos}{H:Hp}{h1:MH}{i:Nat}{D:Ends}
  (hNd:X.N.Nodup) (hix:X.N[i]?=some x) (hx:X.env.kindOf x=some .local) (hsw:swapsWith (.ListComp elt [⟨tg,iter,ifs,0⟩] scope pos) (some (.Name x px)) spos.line X.env=pure true)
  (hc:X.calm=true) (hsc:X.env.scope=sc) (hN:X.N=N) (ok:CompOk sc N scope N' nl ks) (hi:SI X cl tg iter mi)
  (hg:∀cs C s₀ H₀ ex,SG (cxC X scope cs C N' s₀ H₀ ex) cl tg g) (ht:∀cs C s₀ H₀ ex,STs (cxC X scope cs C N' s₀ H₀ ex) cl ifs t) (he:∀cs C s₀ H₀ ex,SE (cxC X scope cs C N' s₀ H₀ ex) cl elt m)
  (I:Inv X pins σ H s) (R:HR X.K cl μ H h) (er:ER X.K μ H ρ σ) (e:zaW mi nl ks g t m ρ h=some (n0,h1,h2)) (hs:∀x,foldedSetIterable iter X.env x=pure x)
  (k:∀A H' μ' H1 μ1,Ext μ H μ1 H1->HR X.K cl μ1 H1 h1->Ext μ1 H1 μ' H'->HR X.K cl μ' H' h2->h1.length=n0->μ'[n0]?=some A->D.nx (σ.set i (some (.ref A))) H') :
  wpAny (model X.prog X.w) X.A (exec (.Assign [.Name x px] (.ListComp elt [⟨tg,iter,ifs,0⟩] scope pos) spos) X.env) (SP X pins D) X.xe s:=by
 rw[exec_Assign_Name_used _ _ _ _ hsw];refine za (yj (za ?_));show wpAny _ X.A (do let _ <-comprehension (.ListComp elt [⟨tg,iter,ifs,0⟩] scope pos) scope X.env _ (newList []) false (eval iter X.env) (some (assign (.Name x px) X.env))) _ _ s
 refine za (qM (zdc (use:=some (assign (.Name x px) X.env)) (Q:=λ_ s'=>SP X pins D .next s') hc hsc hN ok hi hg ht he I R er e hs ?_) (λ_ s' hq=>zr (zr hq)) λ_ _ e=>e);intro A C s' H' μ' m' s2 H1 μ1 hDC hns I' hfC hL hcl hs0 hpn I2 E1 R1 E' R' hn hm;show wpAny _ X.A (assign (.Name x px) X.env (.ref A)) _ _ _
 refine wpAny_assign_Name (zeo (v:=.ref A) I' hNd hix (.inl hx) rfl (λs'' I'' hsb=>?_) (.inr hx));obtain⟨a,sb,ha⟩:=hsb;have hCa:C≠a:=by
  rcases ha with rfl | ha
  .exact kY hL
  .exact λz=>hcl x a ha z.symm
 refine⟨m',hns.sameBut sb hCa,λh3 sb3=>⟨_,H',I''.turned (t':=s''.toks) (λb o hb e=>(sb3.2 b hb).trans e) hfC (kY hL) (.inr hs0) hcl hpn,k A H' μ' H1 μ1 E1 R1 E' R' hn hm⟩⟩
def zj5(i:Nat)(sc:Scope)(N N':List Str)(nl:Nat)(ks:List Nat){spos:Pos}(hNd:X.N.Nodup)(hc:X.calm=true)(ok:zaI sc N scope N' nl ks=true)(hi:SI X cl tg iter mi)
  (hg:∀cs C s₀ H₀ ex,SG (cxC X scope cs C N' s₀ H₀ ex) cl tg g) (ht:∀cs C s₀ H₀ ex,STs (cxC X scope cs C N' s₀ H₀ ex) cl ifs t) (he:∀cs C s₀ H₀ ex,SE (cxC X scope cs C N' s₀ H₀ ex) cl elt m)
  (hsc:X.env.scope=sc:=by rfl) (hN:X.N=N:=by rfl) (hs:∀x,foldedSetIterable iter X.env x=pure x:=by intro _; rfl) (hix:X.N[i]?=some x:=by rfl) (hx:X.env.kindOf x=some .local:=by rfl)
  (hsw:swapsWith (.ListComp elt [⟨tg,iter,ifs,0⟩] scope pos) (some (.Name x px)) spos.line X.env=pure true:=by rfl):SS X cl (.Assign [.Name x px] (.ListComp elt [⟨tg,iter,ifs,0⟩] scope pos) spos) (sAsg (zak mi nl ks g t m) (gNm i)):=by
 rintro pins s σ H D I ⟨μ,h,ρ,fl,h',R,er,e,k⟩;unfold sAsg at e;split at e
 .rename_i w h2 e1
  split at e
  .rename_i ρ2 h3 e2
   cases e;unfold zak at e1;split at e1
   .rename_i n0 h1 h2' e0
    cases e1;unfold gNm at e2;split at e2
    .rename_i hi'
     cases e2;exact zdn hNd hix hx hsw hc hsc hN (za2 ok) hi hg ht he I R er e0 hs λA H' μ' H1 μ1 E1 R1 E' R' hn hm=>k μ' H' (E1.trans E') R' _ ((er.ext R (E1.trans E')).set hi' (.ref hm))
    .cases e2
   .cases e1
  .cases e
 .cases e
def zlR(i:Nat)(sc:Scope)(N N':List Str)(nl:Nat)(ks:List Nat){elt tg iter:Expr}{ifs:List Expr}{scope:Scope}{pos spos px:Pos}{x:Str}(hNd:X.N.Nodup)(hc:X.calm=true)(ok:zaI sc N scope N' nl ks=true)(hi:SI X cl tg iter mi)
  (hg:∀cs C s₀ H₀ ex,SG (cxC X scope cs C N' s₀ H₀ ex) cl tg g) (ht:∀cs C s₀ H₀ ex,STs (cxC X scope cs C N' s₀ H₀ ex) cl ifs t) (he:∀cs C s₀ H₀ ex,SE (cxC X scope cs C N' s₀ H₀ ex) cl elt m)
  (hsc:X.env.scope=sc:=by rfl) (hN:X.N=N:=by rfl) (hs:∀x,foldedSetIterable iter X.env x=pure x:=by intro _; rfl) (hix:X.N[i]?=some x:=by rfl) (hx:X.env.kindOf x=some .local:=by rfl)
  (hsw:swapsWith (.ListComp elt [⟨tg,iter,ifs,0⟩] scope pos) (some (.Name x px)) spos.line X.env=pure true:=by rfl):SS X cl (.Assign [.Name x px] (.ListComp elt [⟨tg,iter,ifs,0⟩] scope pos) spos) (sAsg (uo mi nl ks g t m) (gNm i)):=by
 rintro pins s σ H D I ⟨μ,h,ρ,fl,h',R,er,e,k⟩;unfold sAsg at e;split at e
 .rename_i w h2 e1
  split at e
  .rename_i ρ2 h3 e2
   cases e;unfold uo at e1;split at e1
   .rename_i n0 h1 h2' e0
    split at e1
    .rename_i l ho
     split at e1
     .rename_i c
      cases e1;unfold gNm at e2;split at e2
      .rename_i hi'
       cases e2;refine zdn hNd hix hx hsw hc hsc hN (za2 ok) hi hg ht he I R er e0 hs λA H' μ' H1 μ1 E1 R1 E' R' hn hm=>?_
       exact zdJ (Q:=λv H'=>D.nx (σ.set i (some v)) H') (λμ3 H3 v E3 R3 r3=>k μ3 H3 E3 R3 _ ((er.ext R E3).set hi' r3)) E1 R1 E' R' hn hm ho c.1 c.2
      .cases e2
     .cases e1
    .cases e1
   .cases e1
  .cases e
 .cases e
end
def zhf{X:Cx}{pins:List (Addr×Obj)}{σ:L2.St}{H:Hp}{s:Shared}{h':Heap}{t':Nat}{fp:List Addr}(I:Inv X pins σ H s)(k:∀b o,b∉fp->s.heap.get? b=some o->h'.get? b=some o)(hf:∀b∈fp,FpOk X pins H b) :
  Inv X pins σ H { s with heap:=h',toks:=t' }:=by
 have away:∀b u,H b=some u->b∉fp:=λb u e z=>by rw[(hf b z).1] at e; cases e
 refine I.step (g':=s.gens) (d':=s.drawn) (ch:=fp) (λb hb=>⟨(hf b hb).2.2.2.1,(hf b hb).2.1,(hf b hb).2.2.2.2.1,(hf b hb).2.2.2.2.2⟩) (λb o _ _ hc e _=>k b o hc e) (λb o _ _ hc e _=>⟨o.slots,k b o hc e⟩) (λ_ _ _ _ n=>n)
  (λb o hc e=>⟨o,k b o hc e⟩) (λ_ _ e=>e) (λ_ _ _ e=>e) (λb ps e=>⟨#[],by rw[e]; simp⟩) (λm hm=>?_) (λb u e=>?_) I.bare
 .obtain⟨o,es,ep,ho,r⟩:=hm
  exact⟨o,es,ep,k _ o (λz=>(hf _ z).2.1 rfl) ho,r⟩
 .refine(I.hok b u e).stay (λc v hc q=>k c v ?_ q) (λ_ q=>q) λ_ _ q=>q
  rcases hc with z | z
  .rw[z]; exact away b u e
  .exact away c _ z
structure Stp(it a:Addr)(P:Nat->Heap->Prop)(C:Heap->List Value->Prop):Prop where
 keep:∀{i:Nat} {h h':Heap},P i h->(∀o,h.get? it=some o->h'.get? it=some o)->P i h'
 keepC:∀{h h':Heap} {l:List Value},C h l->(∀o,h.get? a=some o->h'.get? a=some o)->C h' l
 obj:∀{i:Nat} {h:Heap},P i h->∃o,h.get? it=some o/\∀v,o.data≠.cell v
 item:∀{prog:Program} {w:World} {A:Around} {E:Value->Shared->Prop} {s:Shared} {i:Nat} {l:List Value} {x:Value} {Q:Value->Shared->Prop},P i s.heap->C s.heap l->l[i]?=some x->
  (∀h',P (i+1) h'->Heap.SameBut it s.heap h'->Q x { s with heap:=h' })->wpAny (model prog w) A (Builtin.SmallTypes.nextOf (.ref it)) Q E s
 last:∀{prog:Program} {w:World} {A:Around} {E:Value->Shared->Prop} {s:Shared} {i:Nat} {l:List Value} {Q:Value->Shared->Prop},A.handled=none->P i s.heap->C s.heap l->l[i]?=none->
  (∀h' e,Heap.ExtBut it s.heap h'->(∃o,h'.get? e=some o/\o.cls=.type "StopIteration")->E (.ref e) { s with heap:=h' })->wpAny (model prog w) A (Builtin.SmallTypes.nextOf (.ref it)) Q E s
def zks(it a:Addr):Stp it a (λi h=>h.IsListIter it a i) (λh l=>h.IsList a l.toArray) where
 keep:=λp k=>p.at λo e=>k o e
 keepC:=λp k=>p.at λo e=>k o e
 obj:=λ⟨o,e,_,d⟩=>⟨o,e,λv z=>by rw[d] at z; cases z⟩
 item:=λp c e q=>wpAny_nextOf_list_item p c (by simpa using e) q
 last:=λhh p c e q=>wpAny_nextOf_list_end hh p c (by simpa using e) q
section
variable{prog:Program}{w:World}{A:Around}{E:Value->Shared->Prop}{s:Shared}
def zcY{i:Nat}{items:Array Value}(hit:s.heap.IsTupleIter it t i)(ht:s.heap.IsTuple t items)(hx:items[i]?=some x)
  (hQ:∀h',h'.IsTupleIter it t (i+1)->Heap.SameBut it s.heap h'->Q x { s with heap:=h' }):wpAny (model prog w) A (Builtin.SmallTypes.nextOf (.ref it)) Q E s:=by
 obtain⟨oi,gi,ci,di⟩:=id hit; obtain⟨ot,gt,_,nt,dt⟩:=ht; unfold Builtin.SmallTypes.nextOf;refine za (jo (name:=Str.ofString "__next__") hit.typeIs qQ (jx qQ hit.typeIs yW ?_ (yP _)));show wpAny _ _ (field (.ref it) 0 >>= _) _ _ s; refine za (jl gi di (x:=.ref t) rfl ?_)
 show wpAny _ _ (if (Value.ref t==Value.none)=true then _ else _) _ _ s; rw[kO (show ¬((Value.ref t==Value.none)=true) from z9)]
 show wpAny _ _ (field (.ref it) 1 >>= _) _ _ s; refine za (jl gi di (x:=.int i 0) rfl ?_)
 show wpAny _ _ (seqItems? (.ref t) >>= _) _ _ s; refine za (jJ gt dt ?_)
 simp only[j0,hx]; refine za (v8 gi di (by simp) (zr ⟨x,rfl,zr (hQ _ ?_ (qx ..))⟩));exact⟨_,jP _ gi (wV (qD di _)),(Obj.cls_mapFields ..).trans ci,by rw[qD di]; simp[rawInt]⟩
def zdh{i:Nat}{items:Array Value}(hh:A.handled=none)(hit:s.heap.IsTupleIter it t i)(ht:s.heap.IsTuple t items)(hx:items[i]?=none)
  (hE:∀h' e,Heap.ExtBut it s.heap h'->(∃o,h'.get? e=some o/\o.cls=.type "StopIteration")->E (.ref e) { s with heap:=h' }):wpAny (model prog w) A (Builtin.SmallTypes.nextOf (.ref it)) Q E s:=by
 obtain⟨oi,gi,ci,di⟩:=id hit; obtain⟨ot,gt,_,nt,dt⟩:=ht; unfold Builtin.SmallTypes.nextOf;refine za (jo (name:=Str.ofString "__next__") hit.typeIs qQ (jx qQ hit.typeIs yW ?_ (yP _)));show wpAny _ _ (field (.ref it) 0 >>= _) _ _ s; refine za (jl gi di (x:=.ref t) rfl ?_)
 show wpAny _ _ (if (Value.ref t==Value.none)=true then _ else _) _ _ s; rw[kO (show ¬((Value.ref t==Value.none)=true) from z9)]
 show wpAny _ _ (field (.ref it) 1 >>= _) _ _ s; refine za (jl gi di (x:=.int i 0) rfl ?_)
 show wpAny _ _ (seqItems? (.ref t) >>= _) _ _ s; refine za (jJ gt dt ?_)
 simp only[j0,hx]; refine za (qy (za (v8 gi di (by simp) ?_))); show wpAny _ _ (newExc (.type "StopIteration") [] >>= _) _ _ _
 refine za ?_; simp only[newExc,newTuple]; refine za (jn ?_ (by size_fits));refine za (m:=firstArgMember _ _) (jV (a:=Value.none) (by first | rfl | (simp only[firstArgMember]; rfl)) ?_); refine jn ?_ (by size_fits);simp only[raiseNew]; refine za (wpAny_handled ?_); first | rw[show A.in1.handled=none from hh] | rw[hh]
 refine za (zr (wC ?_)); exact hE _ _ (((qx ..).extBut.push _).push _) ⟨_,zT _ rfl,rfl⟩
end
def zis(it a:Addr):Stp it a (λi h=>h.IsTupleIter it a i) (λh l=>h.IsTuple a l.toArray) where
 keep:=λp k=>p.at λo e=>k o e
 keepC:=λp k=>p.at λo e=>k o e
 obj:=λ⟨o,e,_,d⟩=>⟨o,e,λv z=>by rw[d] at z; cases z⟩
 item:=λp c e q=>zcY p c (by simpa using e) q
 last:=λhh p c e q=>zdh hh p c (by simpa using e) q
structure ZApart(z TI TO i1 i2 a1 a2:Addr):Prop where
 nd:[z,TI,TO,i1,i2].Nodup
 f1:a1∉[z,TI,TO,i1,i2]
 f2:a2∉[z,TI,TO,i1,i2]
noncomputable def ZSt(z TI TO i1 i2:Addr)(P1 P2:Nat->Heap->Prop)(f0:Value)(k1 k2:Nat)(h:Heap):Prop:=IsZip h z TI TO f0/\IsPair h TI (.ref i1) (.ref i2)/\(∃a b,IsPair h TO a b)/\P1 k1 h/\P2 k2 h
section
variable{prog:Program}{w:World}{A:Around}{E:Value->Shared->Prop}{s:Shared}{z TI TO i1 i2 a1 a2:Addr}{P1 P2:Nat->Heap->Prop}{C1 C2:Heap->List Value->Prop}
def zfA(S1:Stp i1 a1 P1 C1)(S2:Stp i2 a2 P2 C2)(D:ZApart z TI TO i1 i2 a1 a2){l1 l2:List Value}(st:ZSt z TI TO i1 i2 P1 P2 .none k k s.heap)(c1:C1 s.heap l1)(c2:C2 s.heap l2)(hx:l1[k]?=some x)(hy:l2[k]?=some y)
  (hQ:∀h',ZSt z TI TO i1 i2 P1 P2 (rawInt s.heap.objs.size) (k+1) (k+1) h'->h'.get? s.heap.objs.size=some { cls:=.type "tuple",data:=.seq #[x,y] }->(∀c o,c∉[z,TI,TO,i1,i2]->s.heap.get? c=some o->h'.get? c=some o)->Q (some (.ref s.heap.objs.size)) { s with heap:=h' }) :
  wpAny (model prog w) A (pyNext (.ref z)) Q E s:=by
 obtain⟨hz,hTI,⟨a,b,hTO⟩,p1,p2⟩:=st;have n:=D.nd;simp only[jz,zb,zc,zO,j8] at n;obtain⟨⟨n1,n2,n3,n4⟩,⟨n5,n6,n7⟩,⟨n8,n9⟩,n10,_⟩:=n;have g1:=D.f1; have g2:=D.f2;simp only[zb,zc,zO,j8] at g1 g2;obtain⟨g11,g12,g13,g14,g15⟩:=g1;obtain⟨g21,g22,g23,g24,g25⟩:=g2;have hT:s.TypeIs (.ref z) "zip":=⟨_,hz,rfl⟩;unfold pyNext;refine za (j6 (jo (name:=Str.ofString "__next__") hT qu (jx qu hT wJ ?_ (wB _))));show wpAny _ _ (field (.ref z) 2 >>= _) _ _ _; refine za (jl hz rfl (x:=.bool false) rfl ?_)
 show wpAny _ _ (field (.ref z) 3 >>= _) _ _ _; refine za (jl hz rfl (x:=.ref TI) rfl ?_)
 refine za (jJ hTI rfl ?_); show wpAny _ _ (Builtin.SmallTypes.ownedTupleIsFree (.ref z) >>= _) _ _ _
 refine za ?_; unfold Builtin.SmallTypes.ownedTupleIsFree;refine za (jl hz rfl (x:=.none) rfl (zr ?_)); simp only[kI];refine za (qy ?_); refine za (jl hz rfl (x:=.ref TO) rfl ?_);refine za (qb hz (by simp) λh1 q1 e1=>?_); replace q1:IsZip h1 z TI TO .ellipsis:=q1;refine za ?_; simp only[List.zipIdx_cons,List.zipIdx_nil,qU,wG];refine za (za (yo ?_)); show wpAny _ _ (Builtin.SmallTypes.nextOf (.ref i1) >>= _) _ _ _
 refine za (S1.item (S1.keep p1 λo e=>e1.extBut _ _ (kY n3) e) (S1.keepC c1 λo e=>e1.extBut _ _ g11 e) hx λh2 r1 e2=>zr ?_);have t2:IsPair h2 TO a b:=e2.extBut _ _ n8 (e1.extBut _ _ (kY n2) hTO);refine za (jJ t2 rfl ?_); refine za (wY t2 λh3 t3 e3=>?_);replace t3:IsPair h3 TO x b:=t3
 refine za (yQ (zr ?_)); refine za (za (yo ?_)); show wpAny _ _ (Builtin.SmallTypes.nextOf (.ref i2) >>= _) _ _ _
 refine za (S2.item (S2.keep p2 λo e=>e3.extBut _ _ (kY n9) (e2.extBut _ _ (kY n10) (e1.extBut _ _ (kY n4) e))) (S2.keepC c2 λo e=>e3.extBut _ _ g23 (e2.extBut _ _ g24 (e1.extBut _ _ g21 e))) hy λh4 r2 e4=>zr ?_);have t4:IsPair h4 TO x b:=e4.extBut _ _ n9 t3;refine za (jJ t4 rfl ?_); refine za (wY t4 λh5 t5 e5=>?_);replace t5:IsPair h5 TO x y:=t5
 refine za (yQ (zr (zr ?_))); refine za (jJ t5 rfl ?_); refine za (wpAny_newTuple ?_);have sz:h5.objs.size=s.heap.objs.size:=by rw[e5.1,e4.1,e3.1,e2.1,e1.1]
 have all:∀c o,c∉[z,TI,TO,i1,i2]->s.heap.get? c=some o->h5.get? c=some o:=λc o hc e=>by
  simp only[zb,zc,zO,j8] at hc;exact e5.extBut _ _ hc.2.2.1 (e4.extBut _ _ hc.2.2.2.2 (e3.extBut _ _ hc.2.2.1 (e2.extBut _ _ hc.2.2.2.1 (e1.extBut _ _ hc.1 e))))
 have z5:IsZip h5 z TI TO .ellipsis:=e5.extBut _ _ n2 (e4.extBut _ _ n4 (e3.extBut _ _ n2 (e2.extBut _ _ n3 q1)));have ti5:IsPair h5 TI (.ref i1) (.ref i2):=e5.extBut _ _ n5 (e4.extBut _ _ n7 (e3.extBut _ _ n5 (e2.extBut _ _ n6 (e1.extBut _ _ (kY n1) hTI))));have u1:P1 (k+1) h5:=S1.keep r1 λo e=>e5.extBut _ _ (kY n8) (e4.extBut _ _ n10 (e3.extBut _ _ (kY n8) e))
 have u2:P2 (k+1) h5:=S2.keep r2 λo e=>e5.extBut _ _ (kY n9) e
 have zlt:z<h5.objs.size:=zB z5;show wpAny _ _ (Builtin.SmallTypes.ownedTupleHandOut (.ref z) (.ref h5.objs.size) >>= _) _ _ _
 refine za ?_; unfold Builtin.SmallTypes.ownedTupleHandOut;have z6:IsZip (h5.push { cls:=.type "tuple",data:=.seq #[x,y] }) z TI TO .ellipsis:=zf _ z5;refine za (qb z6 (by simp) λh7 z7 e7=>?_); replace z7:IsZip h7 z TI TO (rawInt h5.objs.size):=z7;refine qb z7 (by simp) λh8 z8 e8=>?_
 replace z8:IsZip h8 z TI TO (rawInt h5.objs.size):=z8
 have up:∀c o,c≠z->h5.get? c=some o->h8.get? c=some o:=λc o c1 e=>e8.extBut _ _ c1 (e7.extBut _ _ c1 (zf _ e))
 have t8:h8.get? h5.objs.size=some { cls:=.type "tuple",data:=.seq #[x,y] }:=e8.extBut _ _ (qj zlt) (e7.extBut _ _ (qj zlt) (zT _ rfl));rw[sz] at z8 t8;refine zr ⟨_,rfl,zr ?_⟩;show Q (some (.ref h5.objs.size)) _
 rw[sz];exact hQ h8 ⟨z8,up _ _ (kY n1) ti5,⟨x,y,up _ _ (kY n2) t5⟩,S1.keep u1 λo e=>up _ o (kY n3) e,S2.keep u2 λo e=>up _ o (kY n4) e⟩ t8 λc o hc e=>up c o (λq=>hc (by simp[q])) (all c o hc e)
def zfT(S1:Stp i1 a1 P1 C1)(S2:Stp i2 a2 P2 C2)(D:ZApart z TI TO i1 i2 a1 a2){l1 l2:List Value}(hh:A.handled=none)(st:ZSt z TI TO i1 i2 P1 P2 .none k k s.heap)(c1:C1 s.heap l1)(c2:C2 s.heap l2)(he:l1[k]?=none\/l2[k]?=none)
  (hQ:∀h',(∀c o,c∉[z,TI,TO,i1,i2]->s.heap.get? c=some o->h'.get? c=some o)->Q none { s with heap:=h' }):wpAny (model prog w) A (pyNext (.ref z)) Q E s:=by
 obtain⟨hz,hTI,⟨a,b,hTO⟩,p1,p2⟩:=st;have n:=D.nd;simp only[jz,zb,zc,zO,j8] at n;obtain⟨⟨n1,n2,n3,n4⟩,⟨n5,n6,n7⟩,⟨n8,n9⟩,n10,_⟩:=n;have g1:=D.f1; have g2:=D.f2;simp only[zb,zc,zO,j8] at g1 g2;obtain⟨g11,g12,g13,g14,g15⟩:=g1;obtain⟨g21,g22,g23,g24,g25⟩:=g2;have hT:s.TypeIs (.ref z) "zip":=⟨_,hz,rfl⟩;have stop:∀{h':Heap} {e:Addr},(∃o,h'.get? e=some o/\o.cls=.type "StopIteration")->(∀c o,c∉[z,TI,TO,i1,i2]->s.heap.get? c=some o->h'.get? c=some o)->
   wpAny (model prog w) A (isInstance (.ref e) (.type "StopIteration") >>= λx=>if x=true then pure none else throw (.ref e)) Q E { s with heap:=h' }:=λ{h' e} ⟨o,ho,hc⟩ kk=>
  za (jZ (T:="StopIteration") (b:=true) ⟨o,ho,hc⟩ xj (zr (hQ _ kk)))
 unfold pyNext;refine za (j6 (jo (name:=Str.ofString "__next__") hT qu (jx qu hT wJ ?_ (wB _))));show wpAny _ _ (field (.ref z) 2 >>= _) _ _ _; refine za (jl hz rfl (x:=.bool false) rfl ?_)
 show wpAny _ _ (field (.ref z) 3 >>= _) _ _ _; refine za (jl hz rfl (x:=.ref TI) rfl ?_)
 refine za (jJ hTI rfl ?_); show wpAny _ _ (Builtin.SmallTypes.ownedTupleIsFree (.ref z) >>= _) _ _ _
 refine za ?_; unfold Builtin.SmallTypes.ownedTupleIsFree;refine za (jl hz rfl (x:=.none) rfl (zr ?_)); simp only[kI];refine za (qy ?_); refine za (jl hz rfl (x:=.ref TO) rfl ?_);refine za (qb hz (by simp) λh1 q1 e1=>?_); replace q1:IsZip h1 z TI TO .ellipsis:=q1;refine za ?_; simp only[List.zipIdx_cons,List.zipIdx_nil,qU,wG];refine za (za (yo ?_)); show wpAny _ _ (Builtin.SmallTypes.nextOf (.ref i1) >>= _) _ _ _
 have p1':=S1.keep (h':=h1) p1 λo e=>e1.extBut _ _ (kY n3) e
 have c1':=S1.keepC (h':=h1) c1 λo e=>e1.extBut _ _ g11 e
 cases hx:l1[k]? with
 | none=>
  refine za (S1.last hh p1' c1' hx λh2 e e2 ⟨oe,ge,ce⟩=>?_);have z2:IsZip h2 z TI TO .ellipsis:=e2 _ _ n3 q1;have ne:e≠z:=λq=>by subst q; rw[z2] at ge; cases ge; simp at ce
  refine qb z2 (by simp) λh3 _ e3=>?_
  refine stop ⟨oe,e3.extBut _ _ ne ge,ce⟩ λc o hc g=>?_
  simp only[zb,zc,zO,j8] at hc;exact e3.extBut _ _ hc.1 (e2 _ _ hc.2.2.2.1 (e1.extBut _ _ hc.1 g))
 | some x=>
  have hy:l2[k]?=none:=by rcases he with h | h; rw[hx] at h; cases h; exact h
  refine za (S1.item p1' c1' hx λh2 r1 e2=>zr ?_);have t2:IsPair h2 TO a b:=e2.extBut _ _ n8 (e1.extBut _ _ (kY n2) hTO);refine za (jJ t2 rfl ?_); refine za (wY t2 λh3 t3 e3=>?_);refine za (yQ (zr ?_)); refine za (za (yo ?_)); show wpAny _ _ (Builtin.SmallTypes.nextOf (.ref i2) >>= _) _ _ _
  refine za (S2.last hh (S2.keep p2 λo e=>e3.extBut _ _ (kY n9) (e2.extBut _ _ (kY n10) (e1.extBut _ _ (kY n4) e))) (S2.keepC c2 λo e=>e3.extBut _ _ g23 (e2.extBut _ _ g24 (e1.extBut _ _ g21 e))) hy λh4 e e4 ⟨oe,ge,ce⟩=>?_);have z4:IsZip h4 z TI TO .ellipsis:=e4 _ _ n4 (e3.extBut _ _ n2 (e2.extBut _ _ n3 q1));have ne:e≠z:=λq=>by subst q; rw[z4] at ge; cases ge; simp at ce
  refine qb z4 (by simp) λh5 _ e5=>?_
  refine stop ⟨oe,e5.extBut _ _ ne ge,ce⟩ λc o hc g=>?_
  simp only[zb,zc,zO,j8] at hc;exact e5.extBut _ _ hc.1 (e4 _ _ hc.2.2.2.2 (e3.extBut _ _ hc.2.2.1 (e2.extBut _ _ hc.2.2.2.1 (e1.extBut _ _ hc.1 g))))
end
noncomputable def Itb(v:Value)(o:Obj)(C:Heap->Prop):Prop:=∀(prog:Program) (w:World) (A:Around) (E:Value->Shared->Prop) (s:Shared) (Q:Value->Shared->Prop),C s.heap->Q (.ref s.heap.objs.size) { s with heap:=s.heap.push o }->wpAny (model prog w) A (pyIter v) Q E s
def zjV(a:Addr)(l:List Value):Itb (.ref a) { cls:=.type "list_iterator",data:=.fields #[.ref a,.int 0 0] } (λh=>h.IsList a l.toArray):=λ_ _ _ _ _ _ c q=>vp c q
def ziv(a:Addr)(l:List Value):Itb (.ref a) { cls:=.type "tuple_iterator",data:=.fields #[.ref a,.int 0 0] } (λh=>h.IsTuple a l.toArray):=λ_ _ _ _ _ _ c q=>ym c q
section
variable{v1 v2:Value}{o1 o2:Obj}{C1 C2:Heap->Prop}
abbrev zp1(h:Heap)(o1:Obj):Heap:=h.push o1
abbrev zp2(h:Heap)(o1 o2:Obj):Heap:=(zp1 h o1).push o2
abbrev zp3(h:Heap)(o1 o2:Obj):Heap:=(zp2 h o1 o2).push { cls:=.type "tuple",data:=.seq #[.ref h.objs.size,.ref (zp1 h o1).objs.size] }
abbrev zp4(h:Heap)(o1 o2:Obj):Heap:=(zp3 h o1 o2).push { cls:=.type "tuple",data:=.seq #[.none,.none] }
abbrev zp5(h:Heap)(o1 o2:Obj):Heap:=(zp4 h o1 o2).push { cls:=.type "zip",data:=.fields #[.none,.bool false,.bool false,.ref (zp2 h o1 o2).objs.size,.ref (zp3 h o1 o2).objs.size] }
def zlQ(r1:Itb v1 o1 C1)(r2:Itb v2 o2 C2) :
  Meets (Builtin.«zip.__new__» ⟨[.type "zip",v1,v2],[]⟩) (λ_ R s=>C1 s.heap/\C2 (s.heap.push o1)/\R (.ok (.ret (.ref (zp4 s.heap o1 o2).objs.size))) { s with heap:=zp5 s.heap o1 o2 }):=
 .of_wp λprog w A R s h=>by
  obtain⟨hp,g,d,tk,os⟩:=s; obtain⟨k1,k2,h⟩:=h;have hsub:=sub_zip;have q1:∀{A:Around} {E:Value->Shared->Prop} {Q:Value->Shared->Prop},Q (.ref hp.objs.size) ⟨hp.push o1,g,d,tk,os⟩->wpAny (model prog w) A (pyIter v1) Q E ⟨hp,g,d,tk,os⟩:=λq=>r1 prog w _ _ _ _ k1 q
  have q2:∀{A:Around} {E:Value->Shared->Prop} {Q:Value->Shared->Prop},Q (.ref (hp.push o1).objs.size) ⟨(hp.push o1).push o2,g,d,tk,os⟩->wpAny (model prog w) A (pyIter v2) Q E ⟨hp.push o1,g,d,tk,os⟩:=λq=>r2 prog w _ _ _ _ k2 q
  wp_walk using q1,q2
  exact⟨_,rfl,h⟩
end
section
variable{prog:Program}{w:World}{A:Around}{E:Value->Shared->Prop}{s:Shared}{v1 v2:Value}{o1 o2:Obj}{C1 C2:Heap->Prop}
def zfM(r1:Itb v1 o1 C1)(r2:Itb v2 o2 C2)(k1:C1 s.heap)(k2:C2 (s.heap.push o1))(hf1:o1.isFreed=false)(hf2:o2.isFreed=false)
  (h:∀h',IsZip h' (s.heap.objs.size+4) (s.heap.objs.size+2) (s.heap.objs.size+3) .none->IsPair h' (s.heap.objs.size+2) (.ref s.heap.objs.size) (.ref (s.heap.objs.size+1))->
   IsPair h' (s.heap.objs.size+3) .none .none->h'.get? s.heap.objs.size=some o1->h'.get? (s.heap.objs.size+1)=some o2->(∀c o,s.heap.get? c=some o->h'.get? c=some o)->Q (.ref (s.heap.objs.size+4)) { s with heap:=h' }) :
  wpAny (model prog w) A (call (.type "zip") [v1,v2]) Q E s:=by
 refine callType_new F.called_zip (by decide) (F.typeCall_zip_2 _ _) (F.newCall_zip_2 _ _) (λobj=>F.args_object_init_3 obj _ _) F.entry_zip_new (zlQ r1 r2) ⟨k1,k2,?_⟩;have y1:(zp1 s.heap o1).objs.size=s.heap.objs.size+1:=j9 ..;have y2:(zp2 s.heap o1 o2).objs.size=s.heap.objs.size+2:=by rw[j9,y1]
 have y3:(zp3 s.heap o1 o2).objs.size=s.heap.objs.size+3:=by rw[j9,y2]
 have y4:(zp4 s.heap o1 o2).objs.size=s.heap.objs.size+4:=by rw[j9,y3]
 have b5:(zp5 s.heap o1 o2).get? (zp4 s.heap o1 o2).objs.size=some _:=zT _ rfl;have b4:(zp5 s.heap o1 o2).get? (zp3 s.heap o1 o2).objs.size=some _:=zf _ (zT _ rfl);have b3:(zp5 s.heap o1 o2).get? (zp2 s.heap o1 o2).objs.size=some _:=zf _ (zf _ (zT _ rfl));have b2:(zp5 s.heap o1 o2).get? (zp1 s.heap o1).objs.size=some _:=zf _ (zf _ (zf _ (zT _ hf2)));have b1:(zp5 s.heap o1 o2).get? s.heap.objs.size=some _:=zf _ (zf _ (zf _ (zf _ (zT _ hf1))));show _/\_
 rw[y2,y3,y4] at b5; rw[y1,y2] at b3; rw[y3] at b4; rw[y1] at b2; rw[y4];exact⟨⟨_,b5,rfl⟩,h _ b5 b3 b4 b1 b2 λc o x=>zf _ (zf _ (zf _ (zf _ (zf _ x))))⟩
end
def zeb{X:Cx}{pins:List (Addr×Obj)}{σ:L2.St}{H:Hp}{s:Shared}{h':Heap}{t':Nat}{fp:List Addr}{p:Addr}{o:HO}(I:Inv X pins σ H s)(k:∀b o,b∉fp->s.heap.get? b=some o->h'.get? b=some o)(hf:∀b∈fp,FpOk X pins H b)
  (hp:s.heap.objs.size<=p) (new:ObjOk X.prog X.w (upd H p o) h' p o):Inv X pins σ (upd H p o) { s with heap:=h',toks:=t' }:=by
 have hn:H p=none:=I.hok.fresh hp;have away:∀b u,H b=some u->b∉fp:=λb u e z=>by rw[(hf b z).1] at e; cases e
 have lt:∀b u,s.heap.get? b=some u->b≠p:=λb u e=>zW (zM (zB e) hp)
 refine I.step (g':=s.gens) (d':=s.drawn) (ch:=fp) (λb hb=>⟨(hf b hb).2.2.2.1,(hf b hb).2.1,(hf b hb).2.2.2.2.1,(hf b hb).2.2.2.2.2⟩) (λb o _ _ hc e _=>k b o hc e) (λb o _ _ hc e _=>⟨o.slots,k b o hc e⟩) (λb u _ e n=>by rw[uc (lt b u e)]; exact n)
  (λb o hc e=>⟨o,k b o hc e⟩) (λb xs e=>by rw[uc (ux e hn)]; exact e) (λb u v e=>by rw[uc (ux e hn)]; exact e) (λb ps e=>⟨#[],by rw[uc (ux e hn),e]; simp⟩) (λm hm=>?_) (λb u e=>?_) I.bare
 .obtain⟨o,es,ep,ho,r⟩:=hm
  exact⟨o,es,ep,k _ o (λz=>(hf _ z).2.1 rfl) ho,r⟩
 .by_cases hb:b=p
  .subst hb; rw[uv] at e; cases e; exact new
  .rw[uc hb] at e
   refine(I.hok b u e).stay (λc v hc q=>k c v ?_ q) (λc q=>by rw[uc (ux q hn)]; exact q) λc xs q=>by rw[uc (ux q hn)]; exact q
   rcases hc with z | z
   .rw[z]; exact away b u e
   .exact away c _ z
noncomputable def SqX(K:PySem.W.Frag)(tp:Bool)(H:Hp)(a:Addr)(xs:List V):Prop:=if tp=true then SqT K H a xs else SqL K H a xs
noncomputable def Ctn(tp:Bool)(a:Addr)(h:Heap)(l:List Value):Prop:=if tp=true then h.IsTuple a l.toArray else h.IsList a l.toArray
noncomputable def Pit(tp:Bool)(it a:Addr)(i:Nat)(h:Heap):Prop:=if tp=true then h.IsTupleIter it a i else h.IsListIter it a i
noncomputable def itO(tp:Bool)(a:Addr):Obj:=if tp=true then { cls:=.type "tuple_iterator",data:=.fields #[.ref a,.int 0 0] } else { cls:=.type "list_iterator",data:=.fields #[.ref a,.int 0 0] }
def zac(tp:Bool)(it a:Addr):Stp it a (Pit tp it a) (Ctn tp a):=by
 cases tp
 .exact zks it a
 .exact zis it a
def zeT(tp:Bool)(a:Addr)(l:List Value):Itb (.ref a) (itO tp a) (λh=>Ctn tp a h l):=by
 cases tp
 .exact zjV a l
 .exact ziv a l
theorem zca(tp:Bool)(a:Addr):(itO tp a).isFreed=false:=by cases tp<;>rfl
def zcT{h:Heap}(e:h.get? it=some (itO tp a)):Pit tp it a 0 h:=by
 cases tp
 .exact⟨_,e,rfl,rfl⟩
 .exact⟨_,e,rfl,rfl⟩
section
variable{X:Cx}{pins:List (Addr×Obj)}{σ:L2.St}{H:Hp}{s:Shared}
def zaL(I:Inv X pins σ H s)(h:SqX X.K tp H a xs):∃l,Vals xs l/\Ctn tp a s.heap l:=by
 cases tp
 .obtain⟨its,r,p,_⟩:=I.list (show SqL X.K H a xs from h)
  exact⟨its,r,p.isList⟩
 .obtain⟨its,r,p,_⟩:=I.tuple (show SqT X.K H a xs from h)
  exact⟨its,r,p⟩
def zgW(I:Inv X pins σ H s)(h:SqX X.K tp H a xs)(h':SqX X.K tp H a ys):xs=ys:=by
 cases tp
 .exact I.list_inj (show SqL X.K H a xs from h) h'
 .exact I.tuple_inj (show SqT X.K H a xs from h) h'
def zcd(I:Inv X pins σ H s)(h:SqX X.K tp H a xs)(f:FpOk X pins H b):a≠b:=by
 have k:∀o,X.K.lookup a=some o->a≠b:=λo e z=>by
  subst z;have eb:X.base.get? a=some o:=I.mod.kin _ _ e;rcases f.2.2.2.1 with q | q
  .exact I.ok.noex _ _ eb q
  .exact absurd (zM (zB eb) (zQ I.ok.bsz q)) (jE _)
 have r:∀u,Rd H a u->a≠b:=λu q=>by
  rcases q with q | ⟨o,q⟩<;>exact ux q f.1
 cases tp
 .rcases(show SqL X.K H a xs from h) with q | ⟨o,_,_,e,_⟩
  .exact r _ q
  .exact k o e
 .rcases(show SqT X.K H a xs from h) with q | ⟨o,_,_,e,_⟩
  .exact r _ q
  .exact k o e
end
noncomputable def Itz (K : PySem.W.Frag) (t1 t2 : Bool) (a1 a2 : Addr) : It :=
  ⟨λi H => ∃ xs ys x y, SqX K t1 H a1 xs /\ SqX K t2 H a2 ys /\ xs[i]? = some x /\ ys[i]? = some y,
   λi H v H' => ∃ p x y, H p = none /\ v = .ref p /\ H' = upd H p (.tup [x, y]) /\ (∀ xs, SqX K t1 H a1 xs -> xs[i]? = some x) /\ ∀ ys, SqX K t2 H a2 ys -> ys[i]? = some y,
   λi H => ∃ xs ys, SqX K t1 H a1 xs /\ SqX K t2 H a2 ys /\ (xs.length <= i \/ ys.length <= i)⟩
def zjD{P:Program}{w:World}{K:PySem.W.Frag}{elts:List Expr}{n:Nat}{tpos:Pos}(t1 t2:Bool)(z TI TO i1 i2 a1 a2:Addr)(nd:[z,TI,TO,i1,i2].Nodup) :
  Turn P w K (.Tuple elts n tpos) (Itz K t1 t2 a1 a2) [z,TI,TO,i1,i2] z (λi h=>ZSt z TI TO i1 i2 (Pit t1 i1 a1) (Pit t2 i2 a2) .none i i h) where
 mem:=by simp
 obj:=λi h st b hb=>by
  obtain⟨hz,hTI,⟨a,b',hTO⟩,p1,p2⟩:=st;simp only[zb,zc,zO] at hb;rcases hb with rfl | rfl | rfl | rfl | rfl
  .exact⟨_,hz,λv q=>by cases q⟩
  .exact⟨_,hTI,λv q=>by cases q⟩
  .exact⟨_,hTO,λv q=>by cases q⟩
  .exact(zac t1 _ a1).obj p1
  .exact(zac t2 _ a2).obj p2
 keep:=λi h h' st k=>by
  obtain⟨hz,hTI,⟨a,b',hTO⟩,p1,p2⟩:=st;exact⟨k z (by simp) _ hz,k TI (by simp) _ hTI,⟨a,b',k TO (by simp) _ hTO⟩,(zac t1 i1 a1).keep p1 λo e=>k i1 (by simp) o e,(zac t2 i2 a2).keep p2 λo e=>k i2 (by simp) o e⟩
 item:=by
  intro X hP hw hK hc i pins s σ H E I hf st hg;subst hP hw hK;obtain⟨xs,ys,x,y,d1,d2,hx,hy⟩:=hg;obtain⟨l1,r1,c1⟩:=zaL I d1;obtain⟨l2,r2,c2⟩:=zaL I d2;obtain⟨u1,e1,ru1⟩:=r1.get hx;obtain⟨u2,e2,ru2⟩:=r2.get hy;have D:ZApart z TI TO i1 i2 a1 a2:=⟨nd,λq=>zcd I d1 (hf _ q) rfl,λq=>zcd I d2 (hf _ q) rfl⟩;refine zfA (zac t1 i1 a1) (zac t2 i2 a2) D st c1 c2 e1 e2 λh' st' ht kp=>⟨_,rfl,?_⟩
  obtain⟨hz,hTI,⟨a,b',hTO⟩,p1,p2⟩:=st';have n:=nd;simp only[jz,zb,zc,zO,j8] at n;obtain⟨⟨n1,n2,n3,n4⟩,_⟩:=n;refine wpAny_letOwnedTupleGo_zip hz λh2 hz2 sb=>?_
  have zlt:z<s.heap.objs.size:=by obtain⟨q,_⟩:=st; exact zB q
  have ht2:h2.get? s.heap.objs.size=some { cls:=.type "tuple",data:=.seq #[u1,u2] }:=sb.extBut _ _ (qj zlt) ht;have I2:Inv X pins σ (upd H s.heap.objs.size (.tup [x,y])) { s with heap:=h2 }:=zeb (t':=s.toks) (fp:=[z,TI,TO,i1,i2]) I (λb o hb e=>sb.extBut _ _ (λq=>hb (by simp[q])) (kp b o hb e)) hf (zj _)
   ⟨by show 2<=sizeLine; decide,[u1,u2],.cons ru1 (.cons ru2 .nil),⟨_,ht2,rfl,_,rfl⟩,⟨_,ht2,rfl⟩⟩
  refine⟨.ref s.heap.objs.size,_,I2,rfl,⟨_,x,y,I.hok.fresh (zj _),rfl,rfl,λxs' q=>by rw[zgW I q d1]; exact hx,λys' q=>by rw[zgW I q d2]; exact hy⟩,?_,λb hb=>?_⟩
  .exact⟨hz2,sb.extBut _ _ (kY n1) hTI,⟨a,b',sb.extBut _ _ (kY n2) hTO⟩,(zac t1 i1 a1).keep p1 λo e=>sb.extBut _ _ (kY n3) e,(zac t2 i2 a2).keep p2 λo e=>sb.extBut _ _ (kY n4) e⟩
  .obtain⟨o,ho,_⟩:∃o,s.heap.get? b=some o/\True:=by
    obtain⟨hz0,hTI0,⟨a0,b0,hTO0⟩,p10,p20⟩:=st;simp only[zb,zc,zO] at hb;rcases hb with rfl | rfl | rfl | rfl | rfl
    .exact⟨_,hz0,trivial⟩
    .exact⟨_,hTI0,trivial⟩
    .exact⟨_,hTO0,trivial⟩
    .obtain⟨o,q,_⟩:=(zac t1 _ a1).obj p10; exact⟨o,q,trivial⟩
    .obtain⟨o,q,_⟩:=(zac t2 _ a2).obj p20; exact⟨o,q,trivial⟩
   rw[uc (zW (zB ho))];exact(hf b hb).1
 done:=by
  intro X hP hw hK hc i pins s σ H E I hf st hg;subst hP hw hK;obtain⟨xs,ys,d1,d2,he⟩:=hg;obtain⟨l1,r1,c1⟩:=zaL I d1;obtain⟨l2,r2,c2⟩:=zaL I d2;have D:ZApart z TI TO i1 i2 a1 a2:=⟨nd,λq=>zcd I d1 (hf _ q) rfl,λq=>zcd I d2 (hf _ q) rfl⟩;refine zfT (zac t1 i1 a1) (zac t2 i2 a2) D (I.ok.hd hc) st c1 c2 ?_ λh' kp=>⟨rfl,zhf (t':=s.toks) I kp hf⟩
  rcases he with he | he
  .exact .inl (jB (by rw[<-r1.length]; exact he))
  .exact .inr (jB (by rw[<-r2.length]; exact he))
 self:=λ_ _ _ _ _ st h=>yG st.1 h
noncomputable def zaX(h:MH)(w:W):Option (List W):=match w with
 | .tup l=>some l
 | .fls l=>some l
 | _=>none
noncomputable def zipW(ws:List W):M Src:=λh=>match ws with
 | [x,y]=>match zaX h x,zaX h y with
  | some l,some l'=>some (.items ((l.zip l').map λp=>.tup [p.1,p.2]),h)
  | _,_=>none
 | _=>none
noncomputable def iZip(ms:List ME):MI:=λρ=>bnd (xU ms ρ) zipW
section
variable{X:Cx}{cl:Cl}{elts:List Expr}{n:Nat}{tpos p pos:Pos}{e1 e2:Expr}{ms:List ME}
def zbX{K:PySem.W.Frag}{μ:List Addr}{H:Hp}{h:MH}(r:RW K μ H w v)(e:zaX h w=some l):∃tp a vs,v=.ref a/\RWs K μ H l vs/\SqX K tp H a vs/\(∀μ2 H2 h2,HR K cl μ H h->Ext μ H μ2 H2->HR K cl μ2 H2 h2->SqX K tp H2 a vs):=by
 unfold zaX at e;split at e
 .cases e
  obtain⟨a,vs,rfl,sa,ra⟩:=r.tup_of;exact⟨true,a,vs,rfl,ra,sa,λμ2 H2 h2 R E R2=>SqT.ext R E sa⟩
 .cases e
  cases r with | @fls a vs l sa ra=>
  exact⟨false,a,vs,rfl,ra,sa.sq,λμ2 H2 h2 R E R2=>(SqF.ext E sa).sq⟩
 .cases e
def znY(hm:X.mg "zip" = none)(ha:SA X cl [e1,e2] ms)(hg:Gl X "zip":=by rfl)(hst:starEach [e1,e2] X.env=(false,eval e1 X.env)::starEach [e2] X.env:=by rfl)(hpl:(backTo pos (starEach [e2] X.env)).any (·.1)=false:=by rfl) :
  SI X cl (.Tuple elts n tpos) (.Call (.Name "zip" p) [e1,e2] [] pos) (iZip ms):=by
 rintro pins s σ H R I ⟨μ,h,ρ,src,h',R0,er,e,k⟩;obtain⟨ws,h1,e1',e⟩:=xP e;have hv:bootBuiltins "zip" = some (.type "zip"):=by decide +kernel
 refine jy (zaB I hg hm hv ?_ (by decide) (by decide));refine jq (thn (ha pos pins s σ H (λvs H1=>∃μ1,Ext μ H μ1 H1/\HR X.K cl μ1 H1 h1/\RWs X.K μ1 H1 ws vs) I ⟨μ,h,ρ,ws,h1,R0,er,e1',λμ1 H1 vs E1 R1 rs=>⟨μ1,E1,R1,rs⟩⟩) λus s1 ⟨vs,H1,I1,r1,μ1,E1,R1,rs⟩=>?_) hst hpl;unfold zipW at e;split at e
 .rename_i x y
  split at e
  .rename_i l l' q1 q2
   cases e;cases rs with | cons rx t=>cases t with | cons ry t=>cases t with | nil=>
   obtain⟨t1,a1,xs,rfl,ra1,d1,f1⟩:=zbX (cl:=cl) rx q1;obtain⟨t2,a2,ys,rfl,ra2,d2,f2⟩:=zbX (cl:=cl) ry q2;obtain⟨u1,u2,rfl,ru1,ru2⟩:=vals2 r1;cases ru1;cases ru2;obtain⟨l1,v1,c1⟩:=zaL I1 d1;obtain⟨l2,v2,c2⟩:=zaL I1 d2;refine zfM (zeT t1 a1 l1) (zeT t2 a2 l2) c1 ((zac t2 0 a2).keepC c2 λo e=>zf _ e) (zca t1 a1) (zca t2 a2) λh2 b5 b3 b4 b1 b2 kp=>?_
   refine yG b5 ?_;have nd:[s1.heap.objs.size+4,s1.heap.objs.size+2,s1.heap.objs.size+3,s1.heap.objs.size,s1.heap.objs.size+1].Nodup:=by
    simp only[jz,zb,zc,zO,j8,vN,and_true,not_false_eq_true];omega
   refine⟨_,_,_,_,H1,rfl,I1.kept (t':=s1.toks) kp,zjD t1 t2 _ _ _ _ _ a1 a2 nd,⟨b5,b3,⟨_,_,b4⟩,zcT b1,zcT b2⟩,λb hb=>?_,k μ1 H1 _ E1 R1 ?_⟩
   .have hge:s1.heap.objs.size<=b:=by
     simp only[zb,zc,zO] at hb;rcases hb with rfl | rfl | rfl | rfl | rfl<;>omega
    exact I1.fpOk hge (I1.hok.fresh hge)
   .intro μ2 H2 h3 E2 R2 i
    have d1':=f1 μ2 H2 h3 R1 E2 R2;have d2':=f2 μ2 H2 h3 R1 E2 R2;have ra1':=ra1.ext R1 E2;have ra2':=ra2.ext R1 E2;refine⟨λw ew=>?_,λes=>?_⟩
    .have ew':((l.zip l').map λp=>W.tup [p.1,p.2])[i]?=some w:=kj ew
     rw[je] at ew';cases ez:(l.zip l')[i]? with
     | none=>rw[ez] at ew'; cases ew'
     | some pr=>
      rw[ez] at ew';cases ew';obtain⟨ea,eb⟩:=List.getElem?_zip_eq_some.mp ez;obtain⟨vx,evx,rvx⟩:=ra1'.get ea;obtain⟨vy,evy,rvy⟩:=ra2'.get eb;refine⟨⟨xs,ys,vx,vy,d1',d2',evx,evy⟩,λv H3 yl=>?_⟩;obtain⟨pp,x',y',hp,rfl,rfl,w1,w2⟩:=yl;have z1:=w1 xs d1';have z2:=w2 ys d2';rw[evx] at z1; rw[evy] at z2;cases z1; cases z2;exact⟨.side hp,R2.side hp,.tup (SqT.of uv) (.cons (rvx.ext R2 (.side hp)) (.cons (rvy.ext R2 (.side hp)) .nil))⟩
    .have es':((l.zip l').map λp=>W.tup [p.1,p.2])[i]?=none:=kj es
     have hl:=jR.mp es';rw[zH,qg] at hl;refine⟨xs,ys,d1',d2',?_⟩;rw[<-ra1.length,<-ra2.length];omega
  .cases e
 .cases e
end
noncomputable def intsOf:List W->Option (List Int)
 | []=>some []
 | .int b::r=>match intsOf r with
  | some l=>some (b::l)
  | none=>none
 | _=>none
noncomputable def sumL:List Int->Int
 | []=>0
 | i::r=>i+sumL r
noncomputable def sumW(ws:List W):M W:=λh=>match ws with
 | [w]=>match zao h w with
  | some l=>match intsOf l with
   | some bs=>some (.int (sumL bs),h)
   | none=>none
  | none=>none
 | _=>none
section
variable{K:PySem.W.Frag}{μ:List Addr}{H:Hp}
theorem zez:∀{l:List W} {vs:List V} {us:List Value} {bs:List Int},intsOf l=some bs->RWs K μ H l vs->Vals vs us->us.length=bs.length/\∀i u,us[i]?=some u->∃t,u=Value.int (bs.getD i 0) t
 | [],_,_,_,e,.nil,.nil=>by cases e; exact⟨rfl,λi u e=>by simp at e⟩
 | .int b::r,_,_,_,e,.cons rb rr,.cons tb tr=>by
  unfold intsOf at e;split at e
  .rename_i l e'
   cases e;cases rb;obtain⟨t,rfl⟩:=tb;obtain⟨h1,h2⟩:=zez e' rr tr;refine⟨by simp[h1],λi u e=>?_⟩;cases i with
   | zero=>simp at e; subst e; exact⟨t,rfl⟩
   | succ i=>simpa using h2 i u (by simpa using e)
  .cases e
 | .non::r,_,_,_,e,_,_=>by cases e
 | .bl _::r,_,_,_,e,_,_=>by cases e
 | .str _::r,_,_,_,e,_,_=>by cases e
 | .tup _::r,_,_,_,e,_,_=>by cases e
 | .fls _::r,_,_,_,e,_,_=>by cases e
 | .ref _::r,_,_,_,e,_,_=>by cases e
 | .fdc _::r,_,_,_,e,_,_=>by cases e
 | .fn _::r,_,_,_,e,_,_=>by cases e
end
def zgj(a b:List Int):sumL (a++b)=sumL a+sumL b:=by
 induction a with
 | nil=>simp[sumL]
 | cons x r ih=>simp only[jk,sumL,ih]; omega
theorem preSum_eq(bs:List Int):∀n,n<=bs.length->preSum (λi=>bs.getD i 0) n=sumL (bs.take n)
 | 0,_=>by simp[preSum,sumL]
 | n+1,h=>by
  have ih:=preSum_eq bs n ∅;have:preSum (λi=>bs.getD i 0) (n+1)=preSum (λi=>bs.getD i 0) n+bs.getD n 0:=rfl;rw[this,ih,List.take_succ,zgj];simp[zA (show n<bs.length by omega),sumL]
section
variable{X:Cx}{cl:Cl}
def zjT{s:Shared}{H:Hp}{A:Around}(I:Inv X pins σ H s)(sq:SqL X.K H a vs\/SqT X.K H a vs)(hh:A.handled=none)
  (k:∀(us:List Value) (it:Addr) (fp wr:List Addr) (St:Nat->Heap->Prop) (h1:Heap),Vals vs us->Walks X.prog X.w A it fp wr us.length (λi v=>us[i]?=some v) St->St 0 h1->(∀b∈fp,b<h1.objs.size)->
   (∀b∈wr,s.heap.objs.size<=b)->(∀b o,s.heap.get? b=some o->h1.get? b=some o)->R (.ref it) { s with heap:=h1 }) :
  wpAny (model X.prog X.w) A (pyIter (.ref a)) R E s:=by
 rcases sq with sq | sq
 .obtain⟨its,rv,p,hz⟩:=I.list sq
  refine vp p.isList ?_;have hlt:a<s.heap.objs.size:=by obtain⟨o,ho,_⟩:=p.isList; exact zB ho
  have W0:=xr (prog:=X.prog) (w:=X.w) hh s.heap.objs.size a (zW hlt) its.toArray;have W1:Walks X.prog X.w A s.heap.objs.size [s.heap.objs.size,a] [s.heap.objs.size] its.length (λi v=>its[i]?=some v) (λi h=>h.IsListIter s.heap.objs.size a i/\h.IsList a its.toArray):=by simpa using W0
  refine k its _ _ _ _ _ rv W1 ⟨⟨_,zT _ rfl,rfl,rfl⟩,p.isList.at λo e=>zf _ e⟩ (λb hb=>?_) (λb hb=>?_) λb o e=>zf _ e
  .simp only[zb,zc,zO] at hb
   simp only[j9];rcases hb with rfl | rfl
   .exact jX _
   .exact vX hlt
  .simp only[zb,zc,zO] at hb
   rw[hb];exact zj _
 .obtain⟨its,rv,p,hz⟩:=I.tuple sq
  refine ym (show s.heap.IsTuple a its.toArray from p) ?_;have hlt:a<s.heap.objs.size:=by obtain⟨o,ho,_⟩:=id p; exact zB ho
  have p':s.heap.IsTuple a its.toArray:=p;have W0:=Walks.tuple (prog:=X.prog) (w:=X.w) hh s.heap.objs.size a (zW hlt) its.toArray;have W1:Walks X.prog X.w A s.heap.objs.size [s.heap.objs.size,a] [s.heap.objs.size] its.length (λi v=>its[i]?=some v) (λi h=>h.IsTupleIter s.heap.objs.size a i/\h.IsTuple a its.toArray):=by simpa using W0
  refine k its _ _ _ _ _ rv W1 ⟨⟨_,zT _ rfl,rfl,rfl⟩,p'.at λo e=>zf _ e⟩ (λb hb=>?_) (λb hb=>?_) λb o e=>zf _ e
  .simp only[zb,zc,zO] at hb
   simp only[j9];rcases hb with rfl | rfl
   .exact jX _
   .exact vX hlt
  .simp only[zb,zc,zO] at hb
   rw[hb];exact zj _
def zhB{pins:List (Addr×Obj)}{s:Shared}{σ:L2.St}{H:Hp}{h1 h2:Heap}{tk:Nat}{wr:List Addr}(I:Inv X pins σ H s)(k1:∀b o,s.heap.get? b=some o->h1.get? b=some o)(hw:∀b∈wr,s.heap.objs.size<=b)(k2:∀b o,b∉wr->h1.get? b=some o->h2.get? b=some o) :
  Inv X pins σ H { s with heap:=h2,toks:=tk }:=
 I.kept (t':=tk) λb o e=>k2 b o (λz=>absurd (zB e) (Nat.not_lt.mpr (hw b z))) (k1 b o e)
def ziH(hc:X.calm=true):zad X (.builtin "sum") (rMs X.K cl sumW):=by
 rintro pins s σ H xs us Q I rs ⟨μ,h,ws,w,h',R,ax,e,k⟩;unfold sumW at e;split at e
 .split at e
  .rename_i l el
   split at e
   .rename_i bs eb
    cases e;cases ax with | cons r t=>cases t with | nil=>
    obtain⟨a,vs,rfl,sa,ra⟩:=zbZ R r el;obtain⟨u,rfl,ru⟩:=rs.one;cases ru;have hh:=I.ok.hd hc;refine call_sum_walkG (zjT (A:=X.A.in1) I sa hh λus it fp wr St h1 rv W hst hfp hwr k1=>?_);obtain⟨hl,hv⟩:=zez eb ra rv;refine⟨it,fp,wr,_,_,St,λi=>bs.getD i 0,rfl,W,hst,hfp,hv,λh2 tk t' k2=>?_⟩;rw[hl,preSum_eq bs _ (zj _),yg];exact⟨.int _,H,(show Inv X pins σ H { s with heap:=h2,toks:=tk } from zhB I k1 hwr k2),⟨t',rfl⟩,k.pure R (.int _)⟩
   .cases e
  .cases e
 .cases e
def boot_sum:bootBuiltins "sum" = some (.builtin "sum"):=by decide +kernel
def zeI:bootBuiltins "tuple" = some (.type Ty.tuple.name):=by decide +kernel
def zkr:bootBuiltins "list" = some (.type Ty.list.name):=by decide +kernel
def zfP:bootBuiltins "dict" = some (.type Ty.dict.name):=by decide +kernel
end
noncomputable abbrev ltW:W->W->M W:=cmpI λi j=>decide (i<j)
noncomputable abbrev leW:W->W->M W:=cmpI λi j=>decide (i<=j)
noncomputable abbrev gtW:W->W->M W:=cmpI λi j=>decide (j<i)
noncomputable abbrev augI:W->W->M W:=λx y=>match x,y with | .int i,.int j=>λh=>some (.int (i+j),h) | _,_=>λ_=>none
structure Glob(K:PySem.W.Frag)(mg:Str->Option Value)(x:Str)(w:W):Prop where
 ex:∃(v:V) (u:Value),mg x=some u/\RelV v u/\∀μ H,RW K μ H w v
def Glob.se{X:Cx}(G:Glob X.K X.mg x w)(hg:Gl X x:=by rfl)(hd:(x==("__debug__":Str))=false:=by decide):SE X cl (.Name x pos) (eC w):=by
 obtain⟨v,u,hm,r,rw⟩:=G.ex;exact zm0 hm r rw hg hd
mutual
inductive KW(K:PySem.W.Frag):W->Value->Prop
 | int {i:Int} {t:Tok}:KW K (.int i) (.int i t)
 | str {i:Str} {t:Tok}:KW K (.str i) (.str i t)
 | fn {a:Addr}:KW K (.fn a) (.ref a)
 | tup {a:Addr} {l:List W} {o:Obj} {its:Array Value} {n:Nat}:K.lookup a=some o->(o.cls=.type "tuple" /\ o.dict=none)->o.data=.seq its n->its.size<=sizeLine->KWs K l its.toList->KW K (.tup l) (.ref a)
inductive KWs(K:PySem.W.Frag):List W->List Value->Prop
 | nil:KWs K [] []
 | cons {w:W} {v:Value} {l:List W} {vs:List Value}:KW K w v->KWs K l vs->KWs K (w::l) (v::vs)
end
mutual
theorem KW.rw{K:PySem.W.Frag}:∀{w:W} {u:Value},KW K w u->∃v,RelV v u/\∀μ H,RW K μ H w v
 | _,_,.int (i:=i) (t:=t)=>⟨.int i,⟨t,rfl⟩,λ_ _=>.int _⟩
 | _,_,.str (i:=i) (t:=t)=>⟨.str i,⟨t,rfl⟩,λ_ _=>.str _⟩
 | _,_,.fn (a:=a)=>⟨.ref a,rfl,λ_ _=>.fn⟩
 | _,_,.tup (a:=a) e c d z r=>by
  obtain⟨vs,rv,rr⟩:=KWs.rw r;exact⟨.ref a,rfl,λμ H=>.tup (.inr ⟨_,_,_,e,c,d,z,rv⟩) (rr μ H)⟩
theorem KWs.rw{K:PySem.W.Frag}:∀{l:List W} {us:List Value},KWs K l us->∃vs,Vals vs us/\∀μ H,RWs K μ H l vs
 | _,_,.nil=>⟨[],.nil,λ_ _=>.nil⟩
 | _,_,.cons r t=>by
  obtain⟨v,r1,r2⟩:=KW.rw r;obtain⟨vs,t1,t2⟩:=KWs.rw t;exact⟨v::vs,.cons r1 t1,λμ H=>.cons (r2 μ H) (t2 μ H)⟩
end
def KW.glob{K:PySem.W.Frag}{mg:Str->Option Value}{x:Str}(hm:mg x=some u)(k:KW K w u):Glob K mg x w:=by
 obtain⟨v,r1,r2⟩:=k.rw;exact⟨v,u,hm,r1,r2⟩
inductive TabRel(K:PySem.W.Frag):List (Str×W)->List DictEntry->Prop
 | nil:TabRel K [] []
 | cons {k:Str} {t:Tok} {w:W} {hs:Int} {v:Value} {l:List (Str×W)} {es:List DictEntry} {e:DictEntry}:e.key=.str k t->KW K w e.val->TabRel K l es->TabRel K ((k,w)::l) (e::es)
structure TabOk(K:PySem.W.Frag)(P:Params)(mg:Str->Option Value)(x:Str)(l:List (Str×W)):Prop where
 ex:∃(a:Addr) (es:Array DictEntry) (n:Nat),mg x=some (.ref a)/\K.lookup a=some ⟨.type "dict",none,.dict es n,#[]⟩/\PySem.W.KeysLit P es.toList/\(a==sysModules)=false/\TabRel K l es.toList
theorem TabRel.find{K:PySem.W.Frag}:∀{l:List (Str×W)} {es:List DictEntry},TabRel K l es->match l.lookup k with
  | some w=>∃v,(es.find? λe=>Value.isStrOf k e.key).map (·.val)=some v/\KW K w v
  | none=>(es.find? λe=>Value.isStrOf k e.key).map (·.val)=none
 | _,_,.nil=>rfl
 | _,_,.cons (k:=k') (l:=l) (es:=es) (e:=e) hk r t=>by
  have ih:=TabRel.find (k:=k) t;rw[kJ];by_cases q:k=k'
  .subst q
   have e1:(k==k)=true:=by simp
   have e2:Value.isStrOf k e.key=true:=by rw[hk]; simp[Value.isStrOf]
   simp only[e1,jC,e2];exact⟨_,rfl,r⟩
  .have e1:(k==k')=false:=by simpa using q
   have e2:Value.isStrOf k e.key=false:=by rw[hk]; simp[Value.isStrOf]; exactλz=>q z.symm
   simp only[e1,jC,e2];exact ih
noncomputable def zbj(l:List (Str×W))(w:W):M W:=λh=>match w with
 | .str k=>match l.lookup k with
  | some v=>some (v,h)
  | none=>none
 | _=>none
section
variable{X:Cx}{cl:Cl}{a:Expr}{ma:ME}{x:Str}{l:List (Str×W)}{p pos:Pos}
def TabOk.at{s:Shared}{H:Hp}{es:Array DictEntry}(I:Inv X pins σ H s)(hl:X.K.lookup d=some ⟨.type "dict",none,.dict es n,#[]⟩)(hk:PySem.W.KeysLit X.w.params es.toList) :
  s.heap.MapOf (strKind X.prog X.w) d (λk=>findBy Value.isStrOf es k):=PySem.W.mapOf_K I.kIn hl hk
def zes(hu:X.A.units+64<cLine)(T:TabOk X.K X.w.params X.mg x l)(ha:SE X cl a ma)(hs:zaR a:=by exactλ_ _=>rfl)(hg:Gl X x:=by rfl)(hd:(x==("__debug__":Str))=false:=by decide):SE X cl (.Subscript (.Name x p) a pos) (eUn (zbj l) ma):=by
 obtain⟨d,es,n,e1,e2,e3,e4,e5⟩:=T.ex;have hix:IxR X (λx y H Q=>∃k w,x=.ref d/\y=.str k/\l.lookup k=some w/\∀v,(∀μ H,RW X.K μ H w v)->Q v H):=by
  rintro value slice pins s σ H x y v u Q I rx ry ⟨k,w,rfl,rfl,el,q⟩ hs;cases rx;obtain⟨t,rfl⟩:=ry;have hm:=TabOk.at I e2 e3;have:=e5.find (k:=k);rw[el] at this;obtain⟨v0,ev,kw⟩:=this;obtain⟨v1,r1,r2⟩:=kw.rw;refine tail_any hm.typeIs slot_dict_getitem.lookup (wpAny_getItem_of (v:=v0) (strKind_is X.prog X.w k t) hm ?_ ⟨v1,H,I.tok _,r1,q v1 r2⟩) hs;unfold findBy;rw[<-wX];exact ev
 refine PE.wk (zhD hix (zg5 hg e1 (show RelV (.ref d) (.ref d) from rfl) hd) ha hs) λσ H Q ⟨μ,h,ρ,w,h',R,er,e,k⟩=>?_
 obtain⟨y,h1,f1,e⟩:=xP e;refine⟨μ,h,ρ,y,h1,R,er,f1,λμ1 H1 vx E1 R1 rx=>?_⟩;unfold zbj at e;split at e
 .split at e
  .rename_i k' w' el
   cases e;exact⟨_,_,rfl,rx.str_of,el,λv hv=>k μ1 H1 _ E1 R1 (hv μ1 H1)⟩
  .cases e
 .cases e
end
noncomputable def keyOf:W->Option Key
 | .int i=>some (.inl i)
 | .str x=>some (.inr x)
 | _=>none
noncomputable def valW(l:List (Key×W))(k:Key):Option W:=(l.find? λkv=>decide (kv.1=k)).map (·.2)
noncomputable def putW(l:List (Key×W))(k:Key)(v:W):List (Key×W):=
 if (l.any λkv=>decide (kv.1=k))=true then l.map (λkv=>if kv.1=k then (kv.1,v) else kv) else l++[(k,v)]
noncomputable def uA(l more:List (Key×W)):List (Key×W):=more.foldl (λacc kv=>putW acc kv.1 kv.2) l
noncomputable def zae(h:MH):W->Option (List (Key×W))
 | .fdc l=>some l
 | .ref n=>match h[n]? with
  | some (.dic l)=>some l
  | _=>none
 | _=>none
inductive PR(K:PySem.W.Frag)(μ:List Addr)(H:Hp):List (Key×W)->List (Key×V)->Prop
 | nil:PR K μ H [] []
 | cons {k:Key} {w:W} {v:V} {l:List (Key×W)} {l':List (Key×V)}:RW K μ H w v->PR K μ H l l'->PR K μ H ((k,w)::l) ((k,v)::l')
section
variable{K:PySem.W.Frag}{cl:Cl}{μ μ':List Addr}{H H':Hp}{h:MH}
theorem RKs.pr:∀{l:List (Key×W)} {l':List (Key×V)},RKs K μ H l l'->PR K μ H l l'
 | [],[],_=>.nil
 | [],_::_,⟨k,_⟩=>by simp at k
 | _::_,[],⟨k,_⟩=>by simp at k
 | (k1,w)::l,(k2,v)::l',⟨k,r⟩=>by
  simp only[zy,jO] at k;obtain⟨rfl,k⟩:=k;simp only[zy] at r;cases r with | cons r t=>exact .cons r (RKs.pr ⟨k,t⟩)
theorem PR.rk:∀{l:List (Key×W)} {l':List (Key×V)},PR K μ H l l'->RKs K μ H l l'
 | _,_,.nil=>⟨rfl,.nil⟩
 | _,_,.cons r t=>⟨by simp[t.rk.1],.cons r t.rk.2⟩
theorem PR.len:∀{l:List (Key×W)} {l':List (Key×V)},PR K μ H l l'->l.length=l'.length
 | _,_,.nil=>rfl
 | _,_,.cons _ t=>jW (· + 1) t.len
theorem PR.val:∀{l:List (Key×W)} {l':List (Key×V)},PR K μ H l l'->match valW l k with
  | some w=>∃v,valV l' k=some v/\RW K μ H w v
  | none=>valV l' k=none
 | _,_,.nil=>rfl
 | _,_,.cons (k:=k') (l:=l) (l':=l') (w:=w) (v:=v) r t=>by
  have ih:=PR.val (k:=k) t;by_cases q:k'=k
  .have e1:valW ((k',w)::l) k=some w:=by simp[valW,jC,q]
   rw[e1];exact⟨v,by simp[valV,jC,q],r⟩
  .have e1:valW ((k',w)::l) k=valW l k:=by simp[valW,jC,q]
   have e2:valV ((k',v)::l') k=valV l' k:=by simp[valV,jC,q]
   rw[e1,e2];exact ih
theorem PR.any:∀{l:List (Key×W)} {l':List (Key×V)},PR K μ H l l'->(l.any λkv=>decide (kv.1=k))=(l'.any λkv=>decide (kv.1=k))
 | _,_,.nil=>rfl
 | _,_,.cons _ t=>by simp only[v7]; rw[t.any]
theorem PR.map(r:RW K μ H w v):∀{l:List (Key×W)} {l':List (Key×V)},PR K μ H l l'->PR K μ H (l.map λkv=>if kv.1=k then (kv.1,w) else kv) (l'.map λkv=>if kv.1=k then (kv.1,v) else kv)
 | _,_,.nil=>.nil
 | _,_,.cons (k:=k') q t=>by
  simp only[zy];by_cases z:k'=k
  .simp only[z,kI]; exact .cons r (t.map r)
  .simp only[z,jm]; exact .cons q (t.map r)
theorem PR.app:∀{l m:List (Key×W)} {l' m':List (Key×V)},PR K μ H l l'->PR K μ H m m'->PR K μ H (l++m) (l'++m')
 | _,_,_,_,.nil,s=>s
 | _,_,_,_,.cons r t,s=>.cons r (t.app s)
def PR.put(p:PR K μ H l l')(r:RW K μ H w v):PR K μ H (putW l k w) (putK l' k v):=by
 unfold putW putK;rw[<-p.any (k:=k)];split
 .exact p.map r
 .exact p.app (.cons r .nil)
def PR.merge{more:List (Key×W)}(q:PR K μ H more more')(p:PR K μ H l l'):PR K μ H (uA l more) (zau l' more'):=by
 induction q generalizing l l' with
 | nil=>exact p
 | cons r t ih=>exact ih (p.put r)
theorem PR.ext(R:HR K cl μ H h)(E:Ext μ H μ' H'):∀{l:List (Key×W)} {l':List (Key×V)},PR K μ H l l'->PR K μ' H' l l'
 | _,_,.nil=>.nil
 | _,_,.cons r t=>.cons (r.ext R E) (t.ext R E)
def zbo(R:HR K cl μ H h)(r:RW K μ H w v)(e:zae h w=some l):∃a l',v=.ref a/\Rd H a (.dK l')/\PR K μ H l l':=by
 cases r with
 | @fdc a l0 l' ws vs s kk e1 e2 rs=>cases e; subst e1; subst e2; exact⟨a,l',rfl,s.1,RKs.pr ⟨kk,rs⟩⟩
 | @ref n a hn=>
  simp only[zae] at e;split at e
  .rename_i l' ho
   cases e;obtain⟨l2,hv,rs⟩:=R.ob n a _ hn ho;exact⟨a,l2,rfl,.inl hv,RKs.pr rs⟩
  .cases e
 | _=>cases e
theorem za8(r:RW K μ H w v)(e:keyOf w=some k):v=kV k:=by
 cases r<;>cases e<;>rfl
theorem KQ.fdc{l:List (Key×W)}{l':List (Key×V)}{Q:VK}{p:Addr}(k:KQ K cl μ H h (.fdc l) Q)(R:HR K cl μ H h)(pr:PR K μ H l l')(hp:H p=none):Q (.ref p) (upd H p (.dK l')):=
 k μ _ _ (.side hp) (R.side hp) (.fdc ⟨.inl uv,R.fresh hp⟩ (pr.rk.1) rfl rfl ((pr.ext R (.side hp)).rk.2))
end
noncomputable def zdq(md mk mv:ME):ME:=λρ=>bnd (md ρ) λx h=>if (zae h x).isSome=true then bnd (mk ρ) (λy=>bnd (mv ρ) λz h=>match zae h x,keyOf y with
  | some l,some k=>some ((valW l k).getD z,h)
  | _,_=>none) h else none
section
variable{X:Cx}{cl:Cl}{o a b:Expr}{mo ma mb:ME}{apos cpos pos:Pos}
def zkm(hu:X.A.units+64<cLine)(ho:SE X cl o mo)(ha:SE X cl a ma)(hb:SE X cl b mb)(m:M2 X o "get" apos a b cpos:=by exact⟨rfl,rfl,rfl,rfl⟩):SE X cl (.Call (.Attribute o "get" apos) [a,b] [] cpos) (zdq mo ma mb):=
 PE.wk (zj9 ∅ ho ha hb m) λσ H Q q0=>by
  obtain⟨μ,h,ρ,w,h',R,er,e,k⟩:=q0;obtain⟨x,h1,e1,e⟩:=xP e;split at e
  .rename_i hd
   obtain⟨y,h2,e2,e⟩:=xP e;obtain⟨z,h3,e3,e⟩:=xP e;refine⟨μ,h,ρ,x,h1,R,er,e1,λμ1 H1 vx E1 R1 rx=>?_⟩;obtain⟨l0,hd⟩:=qe.mp hd;obtain⟨d,l',rfl,rd,_⟩:=zbo R1 rx hd;refine⟨d,rfl,.inl ⟨l',rd⟩,μ1,h1,ρ,y,h2,R1,er.ext R E1,e2,λμ2 H2 vy E2 R2 ry=>⟨μ2,h2,ρ,z,h3,R2,(er.ext R E1).ext R1 E2,e3,λμ3 H3 vz E3 R3 rz=>?_⟩⟩;split at e
   .rename_i l k' el ek
    cases e;obtain⟨d2,l2,ed,rd2,pr⟩:=zbo R3 ((rx.ext R1 E2).ext R2 E3) el;cases ed;have hk:=za8 ry ek;subst hk;refine⟨valV l2 k',.inl ⟨l2,k',rd2,rfl,rfl⟩,?_⟩;have E:=E1.trans (E2.trans E3);have:=pr.val (k:=k');cases ev:valW l k' with
    | none=>rw[ev] at this k; rw[this]; exact k μ3 H3 _ E R3 rz
    | some w0=>rw[ev] at this k; obtain⟨v0,e0,r0⟩:=this; rw[e0]; exact k μ3 H3 _ E R3 r0
   .cases e
  .cases e
def zmu:SE X cl (.Dict [] [] pos) (eC (.fdc [])):=
 PE.wk zjL λσ H Q q0=>by
  obtain⟨μ,h,ρ,w,h',R,er,e,k⟩:=q0;cases e;exactλp hp=>k.fdc R .nil hp
end
end ML
section
namespace ML
open PySem PySem.Spec PyProof.Rows L2
end ML
namespace ML
open PySem PySem.Spec PyProof.Rows L2
end ML
end
section
namespace ML
open PySem PySem.Spec PyProof.Rows L2
noncomputable def keysOf:List (W×W)->Option (List (Key×W))
 | []=>some []
 | (x,y)::r=>match keyOf x,keysOf r with
  | some k,some l=>some ((k,y)::l)
  | _,_=>none
noncomputable def pairsOf:List W->Option (List (W×W))
 | []=>some []
 | .tup [x,y]::r=>match pairsOf r with
  | some l=>some ((x,y)::l)
  | none=>none
 | _=>none
noncomputable def zcU(ws:List W):M W:=λh=>match ws with
 | [w]=>match zae h w with
  | some l=>some (.fdc l,h)
  | none=>match getL h w with
   | some l=>match pairsOf l with
    | some ps=>match keysOf ps with
     | some ks=>if ks.length<=1000 then some (.fdc (uA [] ks),h) else none
     | none=>none
    | none=>none
   | none=>none
 | _=>none
end ML
end
namespace ML
open PySem PySem.Spec PyProof.Rows L2
def zgx{T:String}(h:T="list" \/ T="tuple" \/ T="zip"):typeLookup (.type T) "keys" = pure none:=by
 rcases h with rfl | rfl | rfl<;>(rw[qm,jM]; kernel_rfl)
def zgw{T:String}(h:T="list" \/ T="tuple" \/ T="zip"):typeLookup (.type T) "__getattr__" = pure none:=by
 rcases h with rfl | rfl | rfl<;>(rw[qm,jM]; kernel_rfl)
def zbm:isSubtype (.type "AttributeError") (.type "AttributeError")=pure true:=by rw[v9]; kernel_rfl
section
variable{prog:Program}{w:World}{A:Around}{E:Value->Shared->Prop}{s:Shared}
theorem zmQ{name:Value}(he:s.heap.get? e=some { cls:=.type "AttributeError",data:=.fields #[v0,v1,v2,v3,v4,v5,rawInt 0,rawInt 0] })
  (hq:∀h' ob,Heap.ExtBut e s.heap h'->h'.get? e=some ob->ob.cls=.type "AttributeError"->Q () { s with heap:=h' }):wpAny (model prog w) A (noteAttr (.ref e) o name) Q E s:=by
 have hT:s.TypeIs (.ref e) "AttributeError":=⟨_,he,rfl⟩;unfold noteAttr;refine za ?_;unfold lacksNameAndObj;refine za (jZ hT zbm ?_);simp only[Bool.not_true,jG,jm];refine za (wpAny_load he ?_);refine zr ?_;simp only[kI];refine za (qy (za (j7 hT ?_)));show wpAny _ _ (layMembers e 6 #[name,o]) _ _ s
 unfold layMembers;refine za (wpAny_load he ?_);refine wpAny_update he (hq _ _ (qx ..).extBut (jP _ he ?_) ?_)
 .rfl
 .rfl
def zdR{α:Type}{o:Value}{x msg:Str}{Q:α->Shared->Prop}(hh:A.handled=none)(hm:msg.length<=sizeLine)
  (hq:∀h' tk' e,(∀b ob,s.heap.get? b=some ob->h'.get? b=some ob)->(∃ob,h'.get? e=some ob/\ob.cls=.type "AttributeError")->E (.ref e) { s with heap:=h',toks:=tk' }):wpAny (model prog w) A (raiseAttrError o x msg:Sem α) Q E s:=by
 unfold raiseAttrError;refine za (wpAny_mkStr (za ?_) hm);unfold newExc newTuple;refine za (jn ?_);refine za (m:=firstArgMember _ _) (jV (a:=Value.none) (by first | rfl | kernel_rfl) ?_);refine jn ?_;refine za (wpAny_mkText (za ?_));refine zmQ (zT _ rfl) λh' ob hx ho hc=>?_
 unfold raiseNew;refine za (wpAny_handled ?_);rw[hh];first
  | refine wC ?_
  | refine za (zr (wC ?_))
 refine hq _ _ _ (λb ob' hb=>hx b ob' ?_ (zf _ (zf _ hb))) ⟨ob,ho,hc⟩;refine zW (zM (zB hb) ?_);simp
end
section
variable{prog:Program}{w:World}{A:Around}{E:Value->Shared->Prop}{h:Heap}{g:Array GenState}{d:Drawn}{t:Nat}{os:OsState}{a:Addr}{items:Array Value}{n:Nat}{sl:Array (Option Value)}{dd:Option Addr}
noncomputable def errK(h:Heap)(g:Array GenState)(d:Drawn)(os:OsState)(E:Value->Shared->Prop):Prop:=∀h' tk' e,(∀b ob,h.get? b=some ob->h'.get? b=some ob)->(∃ob,h'.get? e=some ob/\ob.cls=.type "AttributeError")->E (.ref e) ⟨h',g,d,tk',os⟩
set_option maxHeartbeats 1000000 in
def zjg(hh:A.handled=none)(hx:h.get? a=some { cls:=.type "list",dict:=none,data:=.seq items n,slots:=sl })(hq:errK h g d os E) :
  wpAny (model prog w) A (Builtin.«object.__getattribute__» ⟨[.ref a,.str "keys" tk],[]⟩) Q E ⟨h,g,d,t,os⟩:=by
 have hT:(⟨h,g,d,t,os⟩:Shared).TypeIs (.ref a) "list":=⟨_,hx,rfl⟩;have f4:=zgx (T:="list") (.inl rfl);repeat (any_goals (first | assumption | wp_step))
 refine zdR hh ⋯ λh' tk' e k1 k2=>hq h' tk' e k1 k2
def zfl(hh:A.handled=none)(hx:h.get? a=some { cls:=.type "list",dict:=none,data:=.seq items n,slots:=sl })(hq:errK h g d os E):wpAny (model prog w) A (getAttrBy (.ref a) (.str "keys" tk) false) Q E ⟨h,g,d,t,os⟩:=by
 have hT:(⟨h,g,d,t,os⟩:Shared).TypeIs (.ref a) "list":=⟨_,hx,rfl⟩;have f2:=wz.lookup;have f3:=wz.bind (.ref a);unfold getAttrBy;refine jc (za (j7 hT (za (jV f2 ?_))));show wpAny _ _ (getAttrByItsOwn (.ref a) (.str "keys" tk) (.type "list") (.builtin "list.__getattribute__") false false) _ _ _
 unfold getAttrByItsOwn;refine za (zr ?_);refine za (j6 ?_);refine jc ?_;show wpAny _ _ (boundAndCalled (.builtin "list.__getattribute__") (.ref a) (.str "keys" tk)) _ _ _
 unfold boundAndCalled;refine za (jV f3 ?_);refine jx wz hT F.entry_list_ga ?_ (F.args_list_getattribute_2 _ _);refine zjg hh hx λh' tk' e k1 k2=>?_
 obtain⟨ob,ho,hc⟩:=k2;have hTe:(⟨h',g,d,tk',os⟩:Shared).TypeIs (.ref e) "AttributeError":=⟨_,ho,hc⟩;show wpAny _ _ (getattributeRaised (.ref a) (.str "keys" tk) (.type "list") (.ref e) none false false) _ _ _
 unfold getattributeRaised;refine za (jZ hTe zbm ?_);simp only[kI];refine za (jV (show hookBehind (.type "list") none=pure none from zgw (.inl rfl)) ?_);show wpAny _ _ (attributeErrorLeaves (.ref a) (.str "keys" tk) (.ref e) false false) _ _ _
 unfold attributeErrorLeaves;simp only[Bool.not_false,kI];exact wC (hq h' tk' e k1 ⟨ob,ho,hc⟩)
def zfw(hh:A.handled=none)(hx:h.get? a=some { cls:=.type "list",dict:=none,data:=.seq items n,slots:=sl })(hq:∀h' tk',(∀b ob,h.get? b=some ob->h'.get? b=some ob)->Q none ⟨h',g,d,tk',os⟩):wpAny (model prog w) A (getAttr? (.ref a) "keys") Q E ⟨h,g,d,t,os⟩:=by
 unfold getAttr? getAttrBy?;refine za (wpAny_mkText ?_);refine za (j6 (zfl hh hx λh' tk' e k1 k2=>?_));obtain⟨ob,ho,hc⟩:=k2;refine za (jZ (T:="AttributeError") (b:=true) ⟨ob,ho,hc⟩ zbm ?_);exact zr (hq h' tk' k1)
end
def zbA:entryFor table "dict.update.loop" = some Builtin.«dict.update.loop»:=entryFor_of_tree (by kernel_rfl)
def zag:plainId "dict.update.loop" = true:=by decide +kernel
section
variable{prog:Program}{w:World}{A:Around}{R:Result->Shared->Prop}{I D:Addr}{fp wr:List Addr}{n:Nat}{P:Nat->Value->Prop}{St:Nat->Heap->Prop}{h0:Heap}{us:List Value}{kvs:List (Key×Value)}
noncomputable def zd8(knd:KeyKind prog w Key)(h:Heap)(us:List Value)(kvs:List (Key×Value)):Prop:=us.length=kvs.length/\∀(i:Nat) (u:Value) (kv:Key×Value),us[i]?=some u->kvs[i]?=some kv->∃T k,u=.ref T/\IsTup h T #[k,kv.2]/\knd.is kv.1 k=true
def zjy(knd:KeyKind prog w Key)(W:Walks prog w A.in1 I fp wr us.length (λi v=>us[i]?=some v) St)(hDf:D∉fp)(hD0:h0.get? D=none)(hw0:∀b∈wr,h0.get? b=none)(hp:zd8 knd h0 us kvs)(hz:kvs.length<=1000) :
  ∀(k i:Nat) (tk:Tok) (s:Shared),us.length-i=k->i<=us.length->St i s.heap->s.heap.DictOf knd D (merged [] (kvs.take i))->(∀b o,h0.get? b=some o->s.heap.get? b=some o)->
   (∀h' tk',h'.DictOf knd D (merged [] kvs)->(∀b o,h0.get? b=some o->h'.get? b=some o)->R (.ok (.ret .none)) { s with heap:=h',toks:=tk' })->
   codeAny (model prog w) A (.builtin "dict.update.loop" ⟨[.ref D,.ref I,.int i tk,.none],[]⟩) R s:=by
 have hDw:D∉wr:=λh=>hDf (W.sub _ h)
 intro k;induction k with
 | zero=>
  intro i tk s hk hi hst hd h0k hR;obtain rfl:i=us.length:=by omega
  refine vU zbA ?_;rw[qR zag _];show wpAny _ A.in1 (pyNext (.ref I) >>= _) _ _ s; refine za (W.done s _ _ hst λh' tk' kk=>?_)
  show wpAny _ A.in1 (Builtin.Dict.addKeywords D [] >>= _) _ _ _
  refine za (zr (zr (hR h' tk' ?_ λb o e=>kk b o (λz=>by rw[hw0 b z] at e; cases e) (h0k b o e))));rw[hp.1,yg] at hd;obtain⟨o,es,ep,ho,rest⟩:=hd;exact⟨o,es,ep,kk D o hDw ho,rest⟩
 | succ k ih=>
  intro i tk s hk hi hst hd h0k hR;have hlt:i<us.length:=by omega
  refine vU zbA ?_;rw[qR zag _];show wpAny _ A.in1 (pyNext (.ref I) >>= _) _ _ s; refine za (W.item i s _ _ hlt hst λv h' tk' hv hst' kk=>?_)
  have hkl:i<kvs.length:=by rw[<-hp.1]; exact hlt
  obtain⟨T,key,rfl,hT,hk1⟩:=hp.2 i v kvs[i] hv (zA hkl);have keep:∀b o,h0.get? b=some o->h'.get? b=some o:=λb o e=>kk b o (λz=>by rw[hw0 b z] at e; cases e) (h0k b o e)
  have hT':IsTup h' T #[key,kvs[i].2]:=by obtain⟨o,ho,r⟩:=hT; exact⟨o,keep T o ho,r⟩
  have hd':h'.DictOf knd D (merged [] (kvs.take i)):=by obtain⟨o,es,ep,ho,rest⟩:=hd; exact⟨o,es,ep,kk D o hDw ho,rest⟩
  show wpAny _ A.in1 (holding [Value.ref T] _ >>= _) _ _ _
  refine za (jc (za (wpAny_tryCatch ?_)));unfold Builtin.Dict.pairItems;refine za (j7 hT'.typeIs ?_);rw[zX (by decide)];obtain⟨oT,hoT,hcT,nT,hdT⟩:=hT';refine za (jJ hoT hdT (zr ?_));show wpAny _ _ (holding [key,kvs[i].2] (dictSet D key kvs[i].2)) _ _ _
  refine jc ?_;unfold dictSet;try with_reducible refine jc ?_
  refine za (knd.pyHash hk1 ?_);refine xf (s:={ s with heap:=h',toks:=tk'+1 }) hk1 hd' (λh2 hd2 sb=>?_) (by have:=merged_length_le ([]:List (Key×Value)) (kvs.take i); rw[qp] at this; simp at this; exact zQ (zQ this ∅) (show 1000<=sizeLine by decide));refine zr ⟨q8 zag _,ih (i+1) _ _ ∅ hlt (W.frame _ _ _ hst' λb hb o e=>?_) ?_ (λb o e=>?_) λh3 tk3 hd3 k3=>?_⟩
  .rw[sb.2 b (λz:b=D=>hDf (by rw[<-z]; exact hb))]; exact e
  .rw[merged_take_succ [] kvs i kvs[i] (zA hkl)]; exact hd2
  .rw[sb.2 b (λz:b=D=>by rw[z,hD0] at e; cases e)]; exact keep b o e
  .exact hR h3 tk3 hd3 k3
end
section
variable{prog:Program}{w:World}{A:Around}{E:Value->Shared->Prop}{s:Shared}{us:List Value}{kvs:List (Key×Value)}{l:Addr}{n:Nat}{sl:Array (Option Value)}
def zea(knd:KeyKind prog w Key)(hh:A.handled=none)(hl:s.heap.get? l=some { cls:=.type "list",dict:=none,data:=.seq us.toArray n,slots:=sl })(hp:zd8 knd s.heap us kvs)(hz:kvs.length<=1000)
  (h:∀h' tk',h'.DictOf knd s.heap.objs.size (merged [] kvs)->(∀b o,s.heap.get? b=some o->h'.get? b=some o)->Q (.ref s.heap.objs.size) { s with heap:=h',toks:=tk' }):wpAny (model prog w) A (call (.type "dict") [.ref l]) Q E s:=by
 refine yf (Q₁:=λobj s₁=>obj=.ref s.heap.objs.size/\s₁={ s with heap:=s.heap.push { cls:=.type "dict",data:=.dict #[] } }) F.kt_called_dict (F.kt_typeCall_dict_1 _) F.entry_dict_init (kt_code_dict_new _ ⟨rfl,rfl⟩) ?_;rintro obj s₁ ⟨rfl,rfl⟩;have hnew:(s.heap.push { cls:=.type "dict",data:=.dict #[] }).DictOf knd s.heap.objs.size []:=yV s.heap;refine⟨hnew.typeIs,F.args_dict_init_2 _ _,?_⟩;unfold Builtin.«dict.__init__»;refine za ?_;unfold Builtin.Dict.selfAndRest;refine za (wpAny_notOrdered_dict hnew.typeIs ?_);show wpAny _ _ (pure (s.heap.objs.size,[Value.ref l])) _ _ _
 refine zr ?_;show wpAny _ _ (Builtin.Dict.updateFrom "dict.__init__" s.heap.objs.size (.ref l) [] .none) _ _ _
 unfold Builtin.Dict.updateFrom;have hl1:(s.heap.push { cls:=.type "dict",data:=.dict #[] }).get? l=some _:=zf _ hl;refine za (j7 (T:="list") ⟨_,hl1,rfl⟩ ?_);rw[zX (by decide)];have hh2:A.in1.in1.handled=none:=by simpa using hh
 refine za (zfw hh2 hl1 λh1 tk1 k1=>?_);simp only[xx,kI];have hl2:=k1 _ _ hl1;have hL:h1.IsList l us.toArray:=⟨_,hl2,rfl,n,rfl⟩;refine za (qy ?_);refine za (vp hL ?_);have k0:∀b o,s.heap.get? b=some o->h1.get? b=some o:=λb o e=>k1 b o (zf _ e)
 have hDlt:s.heap.objs.size<h1.objs.size:=by obtain⟨o,es,ep,ho,_⟩:=hnew; exact zB (k1 _ _ ho)
 have hllt:l<s.heap.objs.size:=zB hl;have hd1:h1.DictOf knd s.heap.objs.size []:=by obtain⟨o,es,ep,ho,rest⟩:=hnew; exact⟨o,es,ep,k1 _ _ ho,rest⟩
 have hne:l≠h1.objs.size:=zW (Nat.lt_trans hllt hDlt);have W0:=xr (prog:=prog) (w:=w) (A:=A.in1.in1) (by simpa using hh) h1.objs.size l hne us.toArray;have W1:Walks prog w A.in1.in1 h1.objs.size [h1.objs.size,l] [h1.objs.size] us.length (λi v=>us[i]?=some v) (λi h=>h.IsListIter h1.objs.size l i/\h.IsList l us.toArray):=by simpa using W0
 refine zr ⟨q8 zag _,zjy (h0:=s.heap) knd W1 ?_ ?_ ?_ hp hz us.length 0 _ _ rfl (qO _) ⟨⟨_,zT _ rfl,rfl,rfl⟩,hL.at λo e=>zf _ e⟩ ?_ (λb o e=>zf _ (k0 b o e)) λh' tk' hd' k'=>?_⟩
 .simp only[zb,zc,zO,j8]
  exact⟨zW hDlt,qj hllt⟩
 .exact vM (zj _)
 .intro b hb
  simp only[zb,zc,zO] at hb;rw[hb];exact vM (wu hDlt)
 .obtain⟨o,es,ep,ho,rest⟩:=hd1
  exact⟨o,es,ep,zf _ ho,rest⟩
 .exact⟨rfl,h h' tk' hd' k'⟩
end
end ML
namespace ML
open PySem PySem.Spec PyProof.Rows L2
section
variable{X:Cx}{cl:Cl}
theorem zfC{K:PySem.W.Frag}{μ:List Addr}{H:Hp}:∀{l:List W} {vs:List V} {ps:List (W×W)} {ks:List (Key×W)},RWs K μ H l vs->pairsOf l=some ps->keysOf ps=some ks->
  ∃ks':List (Key×V),PR K μ H ks ks'/\vs.length=ks'.length/\∀(i:Nat) (v:V) (kv:Key×V),vs[i]?=some v->ks'[i]?=some kv->∃T,v=.ref T/\SqT K H T [kV kv.1,kv.2]
 | [],_,_,_,.nil,e1,e2=>by
  cases e1; cases e2;exact⟨[],.nil,rfl,λi v kv e=>by simp at e⟩
 | w::l,_,ps,ks,.cons (v:=v) r t,e1,e2=>by
  have hw:∃x y,w=.tup [x,y]:=by
   unfold pairsOf at e1;split at e1
   .rename_i hd; cases hd
   .rename_i x y r' hd; cases hd; exact⟨x,y,rfl⟩
   .cases e1
  obtain⟨x,y,rfl⟩:=hw;unfold pairsOf at e1;split at e1
  .rename_i l' e3
   cases e1;unfold keysOf at e2;split at e2
   .rename_i k lk e4 e5
    cases e2;obtain⟨ks',p,hl,hi⟩:=zfC t e3 e5;obtain⟨T,vs2,rfl,sq,rr⟩:=r.tup_of;cases rr with | cons r1 rr=>cases rr with | @cons _ v2 _ _ r2 rr=>cases rr with | nil=>
    have:=za8 r1 e4;subst this;refine⟨(k,v2)::ks',.cons r2 p,by simp[hl],λi v kv ev ek=>?_⟩;cases i with
    | zero=>simp at ev ek; subst ev; subst ek; exact⟨T,rfl,sq⟩
    | succ i=>exact hi i v kv (by simpa using ev) (by simpa using ek)
   .cases e2
  .cases e1
theorem pairs_at{s:Shared}{H:Hp}(I:Inv X pins σ H s):∀{vs:List V} {its:List Value} {ks':List (Key×V)},Vals vs its->vs.length=ks'.length->
  (∀(i:Nat) (v:V) (kv:Key×V),vs[i]?=some v->ks'[i]?=some kv->∃T,v=.ref T/\SqT X.K H T [kV kv.1,kv.2])->∃kvs,KV ks' kvs/\zd8 (uy X.prog X.w) s.heap its kvs
 | _,_,[],.nil,_,_=>⟨[],.nil,rfl,λi u kv e=>by simp at e⟩
 | _,_,_::_,.nil,hl,_=>by simp at hl
 | _,_,[],.cons _ _,hl,_=>by simp at hl
 | _,_,(k,v2)::ks',.cons (a:=v) (b:=u) r t,hl,hi=>by
  obtain⟨kvs,q1,q2,q3⟩:=pairs_at I t (by simpa using hl) λi v kv e1 e2=>hi (i+1) v kv (by simpa using e1) (by simpa using e2)
  obtain⟨T,rfl,sq⟩:=hi 0 v (k,v2) (by simp) (by simp);obtain⟨it2,rv,ht,_⟩:=I.tuple sq;obtain⟨u1,u2,rfl,ru1,ru2⟩:=vals2 rv;cases r;refine⟨(k,u2)::kvs,.cons ⟨rfl,ru2⟩ q1,by simp[q2],λi u kv e1 e2=>?_⟩;cases i with
  | zero=>simp at e1 e2; subst e1; subst e2; exact⟨T,u1,rfl,ht,zcJ ru1⟩
  | succ i=>exact q3 i u kv (by simpa using e1) (by simpa using e2)
def zhH(hc:X.calm=true):zad X (.type "dict") (rMs X.K cl zcU):=by
 rintro pins s σ H xs us Q I rs ⟨μ,h,ws,w,h',R,ax,e,k⟩;unfold zcU at e;split at e
 .cases ax with | cons r t=>cases t with | nil=>
  obtain⟨u,rfl,ru⟩:=rs.one;split at e
  .rename_i l el
   cases e;obtain⟨a,l',rfl,rd,pr⟩:=zbo R r el;cases ru;exact zf5 I rd λp s' hp I'=>⟨.ref p,_,I',rfl,k.fdc R pr hp⟩
  .split at e
   .rename_i l el
    split at e
    .rename_i ps ep
     split at e
     .rename_i ks ek
      split at e
      .rename_i hlen
       cases e;obtain⟨a,vs,rfl,sa,ra⟩:=u6 R r el;cases ru;obtain⟨ks',pr,hl,hi⟩:=zfC ra ep ek;obtain⟨its,rv,⟨⟨oc,od,odt,osl⟩,n,g1,g2,g3,g4⟩,_⟩:=I.list sa;simp only at g2 g3 g4;subst g2 g3 g4;obtain⟨kvs,q1,q2⟩:=pairs_at I rv hl hi;have hkl:ks'.length=kvs.length:=q1.length;refine zea (uy X.prog X.w) (I.ok.hd hc) g1 q2 (by rw[<-hkl,<-pr.len]; exact hlen) λh2 tk dd kp=>?_
       have rel:KV (zau [] ks') (merged [] kvs):=q1.merge .nil;have hz:(zau [] ks').length<=sizeLine:=by
        have h1:=za9 ks' [];rw[zP] at h1;rw[vq];have:=pr.len;omega
       exact⟨.ref _,_,I.laid (a:=s.heap.objs.size) (o:=.dK (zau [] ks')) (t':=tk) kp (zj _) (zdx hz (jt.mpr (kY (zW I.big))) rel dd),rfl,k.fdc R (pr.merge .nil) (I.hok.fresh (zj _))⟩
      .cases e
     .cases e
    .cases e
   .cases e
 .cases e
end
end ML
section
namespace ML
open PySem PySem.Spec PyProof.Rows L2
def zny{P:Program}{w:World}{K:PySem.W.Frag}{mg:Str->Option Value}{base:Heap}{cl:Cl}{x qual:Str}{st:Stmt}{f:Addr}{N ps:List Str}(F:Fun K x qual st f fd)(hsc:xV st=sc)(hbd:uh st=bd)(S:FnScope N ps sc)(hnp:ps.length=np)(hns:N.length-np=ns)
  (hb:∀(cdv:Value) (A:Around) (outer:List Env) (s:Shared) (H:Hp) (E:XK),Room k (A.deeper (envOfC qual sc s.heap.objs.size f cdv))->
   SB (cxOf CX0 P w K mg base N qual sc f cdv A outer s H E).nox cl bd b):FnOk P w K mg base CX0 (k+1) f fd ps (spM K cl (gc (fnM np ns b))):=by
 subst hsc hbd;exact zps F S hnp hns hb
noncomputable def visB(sc:Scope)(x:Str):Bool:=match sc.names.lookup x with
 | some .local=>true
 | some .cell=>true
 | some .free=>true
 | _=>false
noncomputable def locB(sc:Scope)(x:Str):Bool:=match sc.names.lookup x with
 | some .local=>true
 | some .cell=>true
 | _=>false
noncomputable def varB(sc:Scope)(N:List Str)(i:Nat)(x:Str):Bool:=N[i]?==some x&&visB sc x && !(x==("__debug__":Str)) && !(x==("__classdict__":Str))
noncomputable def setB(sc:Scope)(N:List Str)(i:Nat)(x:Str):Bool:=N[i]?==some x&&locB sc x
noncomputable def setC(sc:Scope)(N:List Str)(i:Nat)(x:Str):Bool:=N[i]?==some x&&sc.names.lookup x==some .local
noncomputable def glB(sc:Scope)(x:Str):Bool:=sc.names.lookup x==some .globalImplicit && !(x==("__debug__":Str)) && !(x==("__name__":Str))
section
variable{X:Cx}{cl:Cl}{x:Str}{pos pos' p:Pos}{sc:Scope}{N:List Str}{i:Nat}{e:Expr}{m:ME}
def zmd(h:visB sc x=true):Vis sc x:=by
 unfold visB at h;split at h
 .rename_i q; exact .inl q
 .rename_i q; exact .inr (.inl q)
 .rename_i q; exact .inr (.inr q)
 .cases h
def zd6(h:locB sc x=true):Loc sc x:=by
 unfold locB at h;split at h
 .rename_i q; exact .inl q
 .rename_i q; exact .inr q
 .cases h
def v_(h:varB sc N i x=true)(hs:X.env.scope=sc:=by rfl)(hN:X.N=N:=by rfl):SE X cl (.Name x pos) (eVar i):=by
 unfold varB at h;simp only[zx,qd,qZ] at h;exact znl i (by rw[hN]; exact h.1.1.1) (by rw[hs]; exact zmd h.1.1.2) h.1.2 h.2
def g_(h:setB sc N i x=true)(hNd:N.Nodup)(hs:X.env.scope=sc:=by rfl)(hN:X.N=N:=by rfl)(hf:X.fn x=true:=by rfl):SG X cl (.Name x pos) (gNm i):=by
 unfold setB at h;simp only[zx,qd] at h;exact zgL i (by rw[hN]; exact hNd) (by rw[hN]; exact h.1) (by rw[hs]; exact zd6 h.2) (.inl hf)
def gc_(h:setC sc N i x=true)(hNd:N.Nodup)(hs:X.env.scope=sc:=by rfl)(hN:X.N=N:=by rfl):SG X cl (.Name x pos) (gNm i):=by
 unfold setC at h;simp only[zx,qd] at h;exact zgL i (by rw[hN]; exact hNd) (by rw[hN]; exact h.1) (by rw[hs]; exact .inl h.2) (.inr (by rw[hs]; exact h.2))
def s_(h:setB sc N i x=true)(hNd:N.Nodup)(he:SE X cl e m)(hs:X.env.scope=sc:=by rfl)(hN:X.N=N:=by rfl)(hf:X.fn x=true:=by rfl)(hsw:swapsWith e (some (.Name x pos')) pos.line X.env=pure false:=by rfl):SS X cl (.Assign [.Name x pos'] e pos) (sAsg m (gNm i)):=by
 unfold setB at h;simp only[zx,qd] at h;exact zoT i (by rw[hN]; exact hNd) he (by rw[hN]; exact h.1) (by rw[hs]; exact zd6 h.2) hsw (.inl hf)
def uq(h:glB sc x=true)(hs:X.env.scope=sc):Gl X x/\(x==("__debug__":Str))=false/\x≠"__name__":=by
 unfold glB at h;simp only[zx,qd,qZ] at h;refine⟨?_,h.1.2,λz=>?_⟩
 .show X.env.scope.names.lookup x=_
  rw[hs]; exact h.1.1
 .have:=h.2; rw[z] at this; simp at this
variable{k:Nat}{f:Addr}{fd:FuncData}{ps:List Str}{es:List Expr}{g:List W->M W}{ms:List ME}{id:String}
def c_(h:glB sc x=true)(F:FnOk X.prog X.w X.K X.mg X.base CX0 k f fd ps (spM X.K cl g))(hr:Room k X.A)(hm:X.mg x=some (.ref f))(hk:PySem.W.keepIn X.K (.ref f)=true)(hb:Binds X.K fd ps [])
  (ha:SA X cl (e::es) ms) (hs:X.env.scope=sc:=by rfl) (hst:starEach (e::es) X.env=(false,eval e X.env)::starEach es X.env:=by rfl) (hpl:(backTo pos (starEach es X.env)).any (·.1)=false:=by rfl):SE X cl (.Call (.Name x p) (e::es) [] pos) (xK g ms):=
 zmM F hr hm hk hb ha (uq h hs).1 (uq h hs).2.1 hst hpl
def c0_(h:glB sc x=true)(F:FnOk X.prog X.w X.K X.mg X.base CX0 k f fd ps (spM X.K cl g))(hr:Room k X.A)(hm:X.mg x=some (.ref f))(hk:PySem.W.keepIn X.K (.ref f)=true)(hb:Binds X.K fd ps [])
 (hs:X.env.scope=sc:=by rfl):SE X cl (.Call (.Name x p) [] [] pos) (xK g []):=zjB F hr hm hk hb (uq h hs).1 (uq h hs).2.1
def cB_(h:glB sc x=true)(hc:zad X (.builtin id) (rMs X.K cl g))(hm:X.mg x=none)(hv:bootBuiltins x=some (.builtin id))(ha:SA X cl (e::es) ms)(hs:X.env.scope=sc:=by rfl)(hst:starEach (e::es) X.env=(false,eval e X.env)::starEach es X.env:=by rfl)(hpl:(backTo pos (starEach es X.env)).any (·.1)=false:=by rfl) :
 SE X cl (.Call (.Name x p) (e::es) [] pos) (xK g ms):=zjJ hc hm hv ha (uq h hs).1 (uq h hs).2.2 (uq h hs).2.1 hst hpl
def cT_(h:glB sc x=true)(hc:zad X (.type id) (rMs X.K cl g))(hm:X.mg x=none)(hv:bootBuiltins x=some (.type id))(ha:SA X cl (e::es) ms)(hs:X.env.scope=sc:=by rfl)(hst:starEach (e::es) X.env=(false,eval e X.env)::starEach es X.env:=by rfl)(hpl:(backTo pos (starEach es X.env)).any (·.1)=false:=by rfl) :
 SE X cl (.Call (.Name x p) (e::es) [] pos) (xK g ms):=zix hc hm hv ha (uq h hs).1 (uq h hs).2.2 (uq h hs).2.1 hst hpl
def gb_(h:glB sc x=true)(G:Glob X.K X.mg x w)(hs:X.env.scope=sc:=by rfl):SE X cl (.Name x pos) (eC w):=G.se (uq h hs).1 (uq h hs).2.1
def isi_(T:Ty)(h:glB sc "isinstance" = true)(h2:glB sc y=true)(ha:SE X cl a ma)(hi:X.mg "isinstance" = none)(ht:X.mg y=none)(hv:bootBuiltins y=some (.type T.name))(hs:X.env.scope=sc:=by rfl)
  (hs1:starEach [a,.Name y p2] X.env=(false,eval a X.env)::starEach [.Name y p2] X.env:=by rfl) (hs2:starEach [.Name y p2] X.env=(false,eval (.Name y p2) X.env)::starEach [] X.env:=by rfl)
  (hpl:(backTo pos (starEach [.Name y p2] X.env)).any (·.1)=false:=by rfl):SE X cl (.Call (.Name "isinstance" p) [a,.Name y p2] [] pos) (eUn (isW T) ma):=
 zoM T ha hi ht hv (uq h hs).1 (uq h2 hs).1 (uq h2 hs).2.2 (uq h2 hs).2.1 hs1 hs2 hpl
variable{a:Expr}{ma:ME}{l:List (Str×W)}
def tG_(h:glB sc x=true)(hu:X.A.units+64<cLine)(T:TabOk X.K X.w.params X.mg x l)(ha:SE X cl a ma)(hs:X.env.scope=sc:=by rfl)(hp:zaR a:=by exactλ_ _=>rfl):SE X cl (.Subscript (.Name x p) a pos) (eUn (zbj l) ma):=zes hu T ha hp (uq h hs).1 (uq h hs).2.1
def rng_(h:glB sc "range" = true)(hm:X.mg "range" = none)(ha:SA X cl [e] ms)(hs:X.env.scope=sc:=by rfl)(hst:starEach [e] X.env=[(false,eval e X.env)]:=by rfl):SI X cl tg (.Call (.Name "range" p) [e] [] pos) (iRng ms):=znX hm ha (uq h hs).1 hst
def zip_(h:glB sc "zip" = true)(hm:X.mg "zip" = none)(ha:SA X cl [e,e2] ms)(hs:X.env.scope=sc:=by rfl)(hst:starEach [e,e2] X.env=(false,eval e X.env)::starEach [e2] X.env:=by rfl)(hpl:(backTo pos (starEach [e2] X.env)).any (·.1)=false:=by rfl) :
 SI X cl (.Tuple elts n tpos) (.Call (.Name "zip" p) [e,e2] [] pos) (iZip ms):=znY hm ha (uq h hs).1 hst hpl
end
end ML
namespace ML
open PySem PySem.Spec PyProof.Rows L2
section
variable{X:Cx}{cl:Cl}{a:Expr}{ma:ME}{x:Str}{l:List (Str×W)}{p pos:Pos}{sc:Scope}
end
end ML
end
namespace ML
open PySem PySem.Spec PyProof.Rows L2
noncomputable def zf1(l:List Str):Bool:=decide l.Nodup
def zk9{l:List Str}(h:zf1 l=true:=by kernel_rfl):l.Nodup:=qz h
noncomputable def uR(x y:W):M W:=λh=>match zae h x,keyOf y with
 | some l,some k=>match valW l k with
  | some w=>some (w,h)
  | none=>none
 | _,_=>none
section
variable{X:Cx}{cl:Cl}{a b:Expr}{ma mb:ME}{pos:Pos}
def ix_D(hu:X.A.units+64<cLine):IxR X (rM X.K cl uR):=by
 rintro value slice pins s σ H x y v u Q I rx ry ⟨μ,h,wx,wy,w,h',R,ax,ay,e,k⟩ hs;unfold uR at e;split at e
 .rename_i l kk el ek
  split at e
  .rename_i w' ev
   cases e;obtain⟨d,l',rfl,rd,pr⟩:=zbo R ax el;have hk:=za8 ay ek;subst hk;have hv:=pr.val (k:=kk);rw[ev] at hv;obtain⟨v0,e0,r0⟩:=hv;have g:DGet H d (kV kk) (some v0):=.inl ⟨l',kk,rd,rfl,e0.symm⟩;cases rx;exact tail_any (zgm I g) PySem.F.slot_dict_getitem.lookup (zje ∅ I g ry λw' s3 I3 rw'=>⟨v0,H,I3,rw',k.pure R r0⟩) hs
  .cases e
 .cases e
def zof(hu:X.A.units+64<cLine)(ha:SE X cl a ma)(hb:SE X cl b mb)(hs:zaR b):SE X cl (.Subscript a b pos) (eOp uR ma mb):=
 PE.wk (zhD (ix_D hu) ha hb hs) λσ H Q q=>zbl q
end
noncomputable def putM(x y v:W):M W:=λh=>match x with
 | .ref n=>match h[n]? with
  | some (.dic l)=>match keyOf y with
   | some k=>if l.length<cap then some (.non,h.set n (.dic (putW l k v))) else none
   | none=>none
  | some (.lst l)=>match y with
   | .int i=>match ixN l.length i with
    | some j=>some (.non,h.set n (.lst (l.set j v)))
    | none=>none
   | _=>none
  | _=>none
 | _=>none
noncomputable def gPut(mo mi:ME):MG:=λv ρ=>bnd (mo ρ) λx=>bnd (mi ρ) λy=>bnd (putM x y v) λ_ h=>some (ρ,h)
section
variable{X:Cx}{cl:Cl}{o i:Expr}{mo mi:ME}{pos:Pos}
inductive rPut(K:PySem.W.Frag)(cl:Cl)(o:V)(i:V)(v:V)(H:Hp)(Q:Hp->Prop):Prop
 | mk (μ:List Addr) (h:MH) (wo:W) (wi:W) (wv:W) (w:W) (h':MH) (p0:HR K cl μ H h) (p1:RW K μ H wo o) (p2:RW K μ H wi i) (p3:RW K μ H wv v) (p4:putM wo wi wv h=some (w,h')) (p5:∀μ' H',Ext μ H μ' H'->HR K cl μ' H' h'->Q H'):rPut K cl o i v H Q
def zo4(hu:X.A.units+64<cLine):PSet X (rPut X.K cl):=by
 rintro pins s σ H o i v ov iv u Q I ro ri rv ⟨μ,h,wo,wi,wv,w,h',R,ao,ai,av,e,k⟩;unfold putM at e;split at e
 .rename_i n
  cases ao with | @ref _ p hn=>
  split at e
  .rename_i l ho
   split at e
   .rename_i kk ek
    split at e
    .rename_i hl
     cases e;obtain⟨l',hp,rk⟩:=R.ob n p _ hn ho;have pr:=RKs.pr rk;have hk:=za8 ai ek;subst hk;cases ro;have hl':l'.length<sizeLine:=by rw[<-pr.len]; exact zM hl zax
     refine qM (zjm ∅ I (.inl ⟨l',kk,hp,rfl,hl',rfl⟩) ri rv λs' I'=>?_) (λ_ _ z=>z) λ_ _ z=>z
     have E:Ext μ H μ (upd H p (.dK (putK l' kk v))):=Ext.put hn;exact⟨_,I',k μ _ E (R.put hn ⟨_,uv,((pr.put av).ext R E).rk⟩)⟩
    .cases e
   .cases e
  .rename_i l ho
   split at e
   .rename_i j
    split at e
    .rename_i j' ej
     cases e;obtain⟨vs,hp,rs⟩:=R.ob n p _ hn ho;have hi:=ai.int_of;subst hi;have E:Ext μ H μ (upd H p (.lst (vs.set j' v))):=Ext.put hn;refine set_list pins s σ H _ _ v ov iv u Q I ro ri rv ⟨p,vs,j,j',rfl,rfl,hp,by rw[<-rs.length]; exact ej,k μ _ E (R.put hn ⟨_,uv,(RWs.set av _ rs).ext R E⟩)⟩
    .cases e
   .cases e
  .cases e
 .cases e
def zn9(hu:X.A.units+64<cLine)(ho:SE X cl o mo)(hi:SE X cl i mi)
  (ha:∀v,assign (.Subscript o i pos) X.env v=(do
   let ov <-holding [v] (eval o X.env)
   let iv <-holding [v,ov] (eval i X.env)
   standAt pos
   holding [v,ov,iv] (setItem ov iv v)
   release [v,ov,iv] []):=by intro _; rfl):SG X cl (.Subscript o i pos) (gPut mo mi):=
 PG.wk (znC ho hi (zo4 hu) ha) λv σ H Q q0=>by
  obtain⟨μ,h,ρ,w,ρ',h',R,er,rv,e,k⟩:=q0;obtain⟨x,h1,e1,e⟩:=xP e;obtain⟨y,h2,e2,e⟩:=xP e;obtain⟨z,h3,e3,e⟩:=xP e;cases e;refine⟨μ,h,ρ,x,h1,R,er,e1,λμ1 H1 vx E1 R1 rx=>⟨μ1,h1,ρ,y,h2,R1,er.ext R E1,e2,λμ2 H2 vy E2 R2 ry=>?_⟩⟩;refine⟨μ2,h2,x,y,w,z,_,R2,rx.ext R1 E2,ry,(rv.ext R E1).ext R1 E2,e3,λμ3 H3 E3 R3=>?_⟩;exact k μ3 H3 σ (E1.trans (E2.trans E3)) R3 (((er.ext R E1).ext R1 E2).ext R2 E3)
end
noncomputable def uC(fl:List (Nat×List Str))(c:Nat)(f:Str):Bool:=fl.any λp=>p.1==c&&p.2.any (· == f)
noncomputable def zbx(K:PySem.W.Frag)(cl:Cl)(fl:List (Nat×List Str)):Prop:=∀c f,uC fl c f=true->Cls K (cl.c c)/\NoAttr K (cl.c c) f
noncomputable def zan(f:Str)(v:W):List (Str×W)->List (Str×W)
 | []=>[(f,v)]
 | (g,x)::r=>if g=f then (g,v)::r else (g,x)::zan f v r
noncomputable def fldW(fl:List (Nat×List Str))(f:Str)(x:W):M W:=λh=>match x with
 | .ref n=>match h[n]? with
  | some (.ins c fs)=>if uC fl c f=true then (match fs.lookup f with
   | some w=>some (w,h)
   | none=>none) else none
  | _=>none
 | _=>none
noncomputable def fldM(fl:List (Nat×List Str))(f:Str)(x v:W):M W:=λh=>match x with
 | .ref n=>match h[n]? with
  | some (.ins c fs)=>if uC fl c f=true then (if fs.length<1000 then some (.non,h.set n (.ins c (zan f v fs))) else none) else none
  | _=>none
 | _=>none
noncomputable def eFld(fl:List (Nat×List Str))(f:Str)(mo:ME):ME:=λρ=>bnd (mo ρ) (fldW fl f)
noncomputable def gFld(fl:List (Nat×List Str))(f:Str)(mo:ME):MG:=λv ρ=>bnd (mo ρ) λx=>bnd (fldM fl f x v) λ_ h=>some (ρ,h)
noncomputable def clsOf(x:W)(h:MH):Option Nat:=match x with
 | .ref n=>match h[n]? with
  | some (.ins c _)=>some c
  | _=>none
 | _=>none
noncomputable def zdu(fl:List (Nat×List Str))(f:Str)(g:W->W->M W)(mo m:ME):MS:=λρ=>bnd (mo ρ) λx h0=>bnd (fldW fl f x) (λv=>bnd (m ρ) λy=>bnd (g v y) λz h1=>if clsOf x h1=clsOf x h0 then bnd (fldM fl f x z) (λ_ h=>some (.nx ρ,h)) h1 else none) h0
section
variable{K:PySem.W.Frag}{cl:Cl}{μ μ':List Addr}{H H':Hp}{h:MH}{f:Str}
theorem RKs.look:∀{fs:List (Str×W)} {fs':List (Str×V)},RKs K μ H fs fs'->fs.lookup f=some w->∃v,fs'.lookup f=some v/\RW K μ H w v
 | [],_,_,e=>by cases e
 | (g,x)::fs,[],r,e=>by have:=r.1; simp at this
 | (g,x)::fs,(g',x')::fs',r,e=>by
  obtain⟨r1,r2⟩:=r;simp only[zy,jO] at r1;obtain⟨rfl,r1⟩:=r1;cases r2 with | cons q t=>
  rw[kJ] at e ⊢;cases z:f==g with
  | true=>rw[z] at e; cases e; exact⟨_,rfl,q⟩
  | false=>rw[z] at e; exact RKs.look ⟨r1,t⟩ e
theorem RKs.miss:∀{fs:List (Str×W)} {fs':List (Str×V)},RKs K μ H fs fs'->fs.lookup f=none->fs'.lookup f=none
 | [],[],_,_=>rfl
 | [],_::_,r,_=>by have:=r.1; simp at this
 | (g,x)::fs,[],r,e=>by have:=r.1; simp at this
 | (g,x)::fs,(g',x')::fs',r,e=>by
  obtain⟨r1,r2⟩:=r;simp only[zy,jO] at r1;obtain⟨rfl,r1⟩:=r1;cases r2 with | cons q t=>
  rw[kJ] at e ⊢;cases z:f==g with
  | true=>rw[z] at e; cases e
  | false=>rw[z] at e; exact RKs.miss ⟨r1,t⟩ e
def RKs.len{fs:List (Str×W)}{fs':List (Str×V)}(r:RKs K μ H fs fs'):fs.length=fs'.length:=by
 have:=jW List.length r.1;simpa using this
theorem RKs.putF(q:RW K μ H w v):∀{fs:List (Str×W)} {fs':List (Str×V)},RKs K μ H fs fs'->RKs K μ H (zan f w fs) (L2.putF f v fs')
 | [],[],_=>⟨rfl,.cons q .nil⟩
 | [],_::_,r=>by have:=r.1; simp at this
 | (g,x)::fs,[],r=>by have:=r.1; simp at this
 | (g,x)::fs,(g',x')::fs',r=>by
  obtain⟨r1,r2⟩:=r;simp only[zy,jO] at r1;obtain⟨rfl,r1⟩:=r1;cases r2 with | cons p t=>
  unfold zan L2.putF;by_cases z:g=f
  .rw[zX z,zX z]
   exact⟨by simp[r1],.cons q t⟩
  .rw[kO z,kO z]
   have ih:=RKs.putF q (fs:=fs) (fs':=fs') ⟨r1,t⟩;exact⟨by simp[ih.1],.cons p ih.2⟩
theorem RKs.ext{κ:Type}(R:HR K cl μ H h)(E:Ext μ H μ' H'){fs:List (κ×W)}{fs':List (κ×V)}(r:RKs K μ H fs fs'):RKs K μ' H' fs fs':=⟨r.1,r.2.ext R E⟩
def zgA(C:zbx K cl fl)(R:HR K cl μ H h)(r:RW K μ H x v)(e:fldW fl f x h=some (w,h')):h'=h/\∃a c dx fs y,clsOf x h=some c/\v=.ref a/\H a=some (.ins (cl.c c) dx fs)/\Cls K (cl.c c)/\NoAttr K (cl.c c) f/\fs.lookup f=some y/\RW K μ H w y:=by
 unfold fldW at e;split at e
 .rename_i n
  split at e
  .rename_i c fs ho
   split at e
   .rename_i hc
    split at e
    .rename_i w' ew
     cases e;cases r with | @ref _ a hn=>
     obtain⟨dx,fs',hH,rk⟩:=R.ob n a _ hn ho;obtain⟨y,ey,ry⟩:=rk.look ew;exact⟨rfl,a,c,dx,fs',y,by simp only[clsOf,ho],rfl,hH,(C c f hc).1,(C c f hc).2,ey,ry⟩
    .cases e
   .cases e
  .cases e
 .cases e
def zgB(C:zbx K cl fl)(R:HR K cl μ H h)(r:RW K μ H x v)(ry:RW K μ H u y)(e:fldM fl f x u h=some (w,h')):∃a c dx fs,clsOf x h=some c/\v=.ref a/\H a=some (.ins (cl.c c) dx fs)/\Cls K (cl.c c)/\NoAttr K (cl.c c) f/\fs.length<1000/\Ext μ H μ (upd H a (.ins (cl.c c) dx (L2.putF f y fs)))/\HR K cl μ (upd H a (.ins (cl.c c) dx (L2.putF f y fs))) h':=by
 unfold fldM at e;split at e
 .rename_i n
  split at e
  .rename_i c fs ho
   split at e
   .rename_i hc
    split at e
    .rename_i hl
     cases e;cases r with | @ref _ a hn=>
     obtain⟨dx,fs',hH,rk⟩:=R.ob n a _ hn ho;have E:Ext μ H μ (upd H a (.ins (cl.c c) dx (L2.putF f y fs'))):=Ext.put hn;exact⟨a,c,dx,fs',by simp only[clsOf,ho],rfl,hH,(C c f hc).1,(C c f hc).2,by rw[<-rk.len]; exact hl,E,R.put hn ⟨dx,_,uv,(RKs.putF ry rk).ext R E⟩⟩
    .cases e
   .cases e
  .cases e
 .cases e
end
section
variable{X:Cx}{cl:Cl}{o e:Expr}{mo m:ME}{pos pos':Pos}{f:Str}{fl:List (Nat×List Str)}
def znM(C:zbx X.K cl fl)(ho:SE X cl o mo)(hb:attributeBase o f X.env (eval o X.env)=eval o X.env):SE X cl (.Attribute o f pos) (eFld fl f mo):=
 PE.wk (znQ ho hb) λσ H Q q0=>by
  obtain⟨μ,h,ρ,w,h',R,er,e,k⟩:=q0;obtain⟨x,h1,e1,e⟩:=xP e;refine⟨μ,h,ρ,x,h1,R,er,e1,λμ1 H1 vx E1 R1 rx=>?_⟩;obtain⟨rfl,a,c,dx,fs,y,-,q1,q2,q3,q4,q5,q6⟩:=zgA C R1 rx e;exact⟨a,cl.c c,dx,fs,y,q1,q2,q3,q4,q5,k μ1 H1 _ E1 R1 q6⟩
def znA(C:zbx X.K cl fl)(he:SE X cl e m)(ho:SE X cl o mo)(hs:swapsWith e (some (.Attribute o f pos')) pos.line X.env=pure false):SS X cl (.Assign [.Attribute o f pos'] e pos) (sAsg m (gFld fl f mo)):=
 PS.wk (zne ho he hs) λD σ H q0=>by
  obtain⟨μ,h,ρ,fl',h',R,er,e,k⟩:=q0;unfold sAsg at e;split at e
  .rename_i w h1 e1
   split at e
   .rename_i ρ2 h2 e2
    cases e;obtain⟨x,h3,e3,e2⟩:=xP e2;obtain⟨z,h4,e4,e2⟩:=xP e2;cases e2;refine⟨μ,h,ρ,w,h1,R,er,e1,λμ1 H1 vy E1 R1 ry=>⟨μ1,h1,ρ,x,h3,R1,er.ext R E1,e3,λμ2 H2 vx E2 R2 rx=>?_⟩⟩;obtain⟨a,c,dx,fs,-,q1,q2,q3,q4,q5,E3,R3⟩:=zgB C R2 rx (ry.ext R1 E2) e4;exact⟨a,cl.c c,dx,fs,q1,q2,q3,q4,q5,(k.ext (E1.trans (E2.trans E3))).nx R3 (((er.ext R E1).ext R1 E2).ext R2 E3)⟩
   .cases e
  .cases e
def zie(C:zbx X.K cl fl)(he:SE X cl e m)(ho:SE X cl o mo):SS X cl (.AugAssign (.Attribute o f pos') .Add e pos) (zdu fl f augI mo m):=
 PS.wk (ziC ho he zns) λD σ H q0=>by
  obtain⟨μ,h,ρ,fl',h',R,er,e,k⟩:=q0;obtain⟨x,h1,e1,e⟩:=xP e;obtain⟨v,h2,e2,e⟩:=xP e;obtain⟨y,h3,e3,e⟩:=xP e;obtain⟨z,h4,e4,e⟩:=xP e;split at e
  .rename_i hcc
   obtain⟨u,h5,e5,e⟩:=xP e;cases e;refine⟨μ,h,ρ,x,h1,R,er,e1,λμ1 H1 vx E1 R1 rx=>?_⟩;obtain⟨rfl,a,c,dx,fs,v0,q0,q1,q2,q3,q4,q5,q6⟩:=zgA C R1 rx e2;refine⟨a,cl.c c,dx,fs,v0,q1,q2,q3,q4,q5,μ1,_,ρ,y,h3,R1,er.ext R E1,e3,λμ2 H2 vy E2 R2 ry=>?_⟩;unfold augI at e4;split at e4
   .rename_i i j _
    cases e4;obtain⟨a',c',dx',fs',p0,p1,p2,p3,p4,p5,E3,R3⟩:=zgB C R2 (rx.ext R1 E2) (RW.int (i+j)) e5;rw[p0,q0] at hcc;cases hcc;subst q1;cases p1;exact⟨i,j,q6.int_of,ry.int_of,dx',fs',p2,p5,(k.ext (E1.trans (E2.trans E3))).nx R3 (((er.ext R E1).ext R1 E2).ext R2 E3)⟩
   .cases e4
  .cases e
end
abbrev MTab:=List ((Nat×Str)×(List W->M W))
noncomputable def xQ(mt:MTab)(m:Str)(mo:ME)(ms:List ME):ME:=λρ=>bnd (mo ρ) λx h=>match x with
 | .ref n=>match h[n]? with
  | some (.ins c fs)=>match fs.lookup m,mt.lookup (c,m) with
   | none,some g=>bnd (xU ms ρ) (λws=>g (x::ws)) h
   | _,_=>none
  | _=>none
 | _=>none
noncomputable def MtAt(P:Program)(w:World)(K:PySem.W.Frag)(mg:Str->Option Value)(base:Heap)(cl:Cl)(k:Nat)(c:Nat)(m:Str)(g:List W->M W):Prop:=
 ∃f fd ps,Cls K (cl.c c)/\Meth K (cl.c c) m f/\FnOk P w K mg base CX0 k f fd ps (spM K cl g)/\Binds K fd ps []
section
variable{X:Cx}{cl:Cl}{k:Nat}{o e:Expr}{es:List Expr}{mo:ME}{ms:List ME}{pos apos:Pos}{m:Str}{mt:MTab}
theorem zeA{args:List Expr}(hb:attributeBase o m env (eval o env)=eval o env)(hfew:((backTo pos (starEach args env)).all (λx=>!x.1)&&(backToKw pos (keywordEach [] env)).all (λx=>x.1.isSome)
   && decide (args.length+([]:List Keyword).length+(if ([]:List Keyword).isEmpty then 0 else 1)<30))=true) (hline:(apos.endLine==pos.line)=true):eval (.Call (.Attribute o m apos) args [] pos) env=(do
   let ov <-eval o env
   standAt apos.atName
   let (f,first) <-holding [ov] (getMethod ov m (do return (<-importBound o env).getD true))
   callWith pos f first (backTo pos (starEach args env)) (backToKw pos (keywordEach [] env))):=by
 have e1:eval (.Call (.Attribute o m apos) args [] pos) env=(do
   let ov <-attributeBase o m env (eval o env)
   standAt apos.atName
   methodCall o m apos pos env ov (args.length+([]:List Keyword).length) (backTo pos (starEach args env)) (backToKw pos (keywordEach [] env))):=by kernel_rfl
 rw[e1,hb];congr 1
 funext ov
 congr 1
 funext _
 unfold methodCall;have hk:backToKw pos (keywordEach [] env)=[]:=by kernel_rfl
 have hf:methodCallForm (args.length+([]:List Keyword).length) (backTo pos (starEach args env)) (backToKw pos (keywordEach [] env))=true:=by
  rw[hk] at hfew ⊢;exact hfew
 have hp:methodCallPos true o env apos pos=pure pos:=by
  unfold methodCallPos;rw[hline];rfl
 rw[hf];congr 1
 funext x
 obtain⟨f,first⟩:=x;show(methodCallPos true o env apos pos >>= λcallPos=>callWith callPos f first (backTo pos (starEach args env)) (backToKw pos (keywordEach [] env)))=_
 rw[hp];rfl
def zfa{H:Hp}(MT:∀c g,mt.lookup (c,m)=some g->MtAt X.prog X.w X.K X.mg X.base cl k c m g)(q:tM X.K cl (xQ mt m mo ms) σ H Q) :
  ∃c f fd ps g,Cls X.K (cl.c c)/\Meth X.K (cl.c c) m f/\FnOk X.prog X.w X.K X.mg X.base CX0 k f fd ps (spM X.K cl g)/\Binds X.K fd ps []/\zhW (cl.c c) m (spM X.K cl g) [] E0 (tM X.K cl mo) (tMA X.K cl ms) σ H Q:=by
 obtain⟨μ,h,ρ,w,h',R,er,e,kq⟩:=q;obtain⟨x,h1,e1,e⟩:=xP e;split at e
 .rename_i n
  split at e
  .rename_i c fs ho
   split at e
   .rename_i g hmiss hg
    obtain⟨f,fd,ps,c1,c2,F,B⟩:=MT c g hg;refine⟨c,f,fd,ps,g,c1,c2,F,B,μ,h,ρ,_,h1,R,er,e1,λμ1 H1 vx E1 R1 rx=>?_⟩;cases rx with | @ref _ a hn=>
    obtain⟨dx,fs',hH,rk⟩:=R1.ob n a _ hn ho;obtain⟨ws,h2,e2,e⟩:=xP e;refine⟨a,dx,fs',rfl,hH,rk.miss hmiss,μ1,h1,ρ,ws,h2,R1,er.ext R E1,e2,λμ2 H2 vs E2 R2 rs=>?_⟩;show spM X.K cl g (V.ref a::(vs++[])) H2 Q E0
    rw[kh];exact⟨μ2,h2,.ref n::ws,w,h',R2,.cons (.ref (E2.get hn)) rs,e,λμ3 H3 v E3 R3 rv=>kq μ3 H3 v (E1.trans (E2.trans E3)) R3 rv⟩
   .cases e
  .cases e
 .cases e
def zln(MT:∀c g,mt.lookup (c,m)=some g->MtAt X.prog X.w X.K X.mg X.base cl k c m g)(hr:Room k X.A)(ho:SE X cl o mo)(ha:SA X cl (e::es) ms)(hb:attributeBase o m X.env (eval o X.env)=eval o X.env)
  (hfew:((backTo pos (starEach (e::es) X.env)).all (λx=>!x.1)&&(backToKw pos (keywordEach [] X.env)).all (λx=>x.1.isSome)&&decide ((e::es).length+([]:List Keyword).length+(if ([]:List Keyword).isEmpty then 0 else 1)<30))=true)
  (hline:(apos.endLine==pos.line)=true) (hst:starEach (e::es) X.env=(false,eval e X.env)::starEach es X.env) (hpl:(backTo pos (starEach es X.env)).any (·.1)=false):SE X cl (.Call (.Attribute o m apos) (e::es) [] pos) (xQ mt m mo ms):=by
 intro pins s σ H Q I q;obtain⟨c,f,fd,ps,g,c1,c2,F,B,q⟩:=zfa MT q;exact zmE ho c1 c2 F hr B .nil zcK ha hst hpl (zeA hb hfew hline) pins s σ H Q I q
def zjw(MT:∀c g,mt.lookup (c,m)=some g->MtAt X.prog X.w X.K X.mg X.base cl k c m g)(hr:Room k X.A)(ho:SE X cl o mo)(hb:attributeBase o m X.env (eval o X.env)=eval o X.env)
  (hline:(apos.endLine==pos.line)=true) (hfew:((backTo pos (starEach [] X.env)).all (λx=>!x.1)&&(backToKw pos (keywordEach [] X.env)).all (λx=>x.1.isSome)&&decide (([]:List Expr).length+([]:List Keyword).length+(if ([]:List Keyword).isEmpty then 0 else 1)<30))=true):SE X cl (.Call (.Attribute o m apos) [] [] pos) (xQ mt m mo []):=by
 intro pins s σ H Q I q;obtain⟨c,f,fd,ps,g,c1,c2,F,B,a,b,d,x,h1,R,er,e1,k1⟩:=zfa MT q;refine zjE ho c1 c2 F hr B .nil zcK (zeA hb hfew hline) pins s σ H Q I ⟨a,b,d,x,h1,R,er,e1,λμ1 H1 vx E1 R1 rx=>?_⟩;obtain⟨a',dx,fs,q1,q2,q3,μ2,h2,ρ2,ws,h3,R2,er2,e2,k2⟩:=k1 μ1 H1 vx E1 R1 rx;cases e2;exact⟨a',dx,fs,q1,q2,q3,k2 μ2 H1 [] .refl R2 .nil⟩
noncomputable def zam(c:Nat)(g:List W->M W)(ms:List ME):ME:=λρ=>bnd (xU ms ρ) λws h=>match g (.ref h.length::ws) (h++[.ins c []]) with
 | some (.non,h')=>if h.length<h'.length then some (.ref h.length,h') else none
 | _=>none
noncomputable def MkAt(P:Program)(w:World)(K:PySem.W.Frag)(mg:Str->Option Value)(base:Heap)(cl:Cl)(k:Nat)(x:Str)(c:Nat)(g:List W->M W):Prop:=
 ∃f fd ps,mg x=some (.ref (cl.c c))/\Mk K (cl.c c) f/\FnOk P w K mg base CX0 k f fd ps (spM K cl g)/\Binds K fd ps []
def zjx{c:Nat}{H:Hp}(q:tM X.K cl (zam c g ms) σ H Q):zlc (cl.c c) (spM X.K cl g) [] E0 (tMA X.K cl ms) σ H Q:=by
 obtain⟨μ,h,ρ,w,h',R,er,e,kq⟩:=q;obtain⟨ws,h1,e1,e⟩:=xP e;refine⟨μ,h,ρ,ws,h1,R,er,e1,λμ1 H1 vs E1 R1 rs x dx hx hd hne=>?_⟩;show spM X.K cl g (V.ref x::(vs++[])) _ _ E0
 rw[kh];split at e
 .rename_i h2 e2
  split at e
  .rename_i hlt
   cases e;have hx':upd H1 dx (.own x) x=none:=by rw[uc (kY hne)]; exact hx
   have Ea:Ext μ1 H1 μ1 (upd H1 dx (.own x)):=Ext.side hd;have Ra:=R1.side (u:=.own x) hd;have Eb:Ext μ1 (upd H1 dx (.own x)) (μ1++[x]) (upd (upd H1 dx (.own x)) x (.ins (cl.c c) dx [])):=Ext.new hx';have Rb:HR X.K cl (μ1++[x]) (upd (upd H1 dx (.own x)) x (.ins (cl.c c) dx [])) (h1++[.ins c []]):=Ra.new hx' ⟨dx,[],uv,rfl,.nil⟩;have hn:(μ1++[x])[h1.length]?=some x:=by rw[<-R1.len]; simp
   refine⟨μ1++[x],_,.ref h1.length::ws,.non,_,Rb,.cons (.ref hn) ((rs.ext R1 Ea).ext Ra Eb),e2,λμ3 H3 v E3 R3 rv=>?_⟩;cases rv;exact⟨rfl,kq μ3 H3 _ (E1.trans (Ea.trans (Eb.trans E3))) R3 (.ref (E3.get hn))⟩
  .cases e
 .cases e
noncomputable def MkOk(P:Program)(w:World)(K:PySem.W.Frag)(mg:Str->Option Value)(base:Heap)(cl:Cl)(k:Nat)(x:Str)(c:Nat)(g:List W->M W):Prop:=(∀ws h,g ws h=none)\/∃j,j+1<=k/\MkAt P w K mg base cl j x c g
def zlI{c:Nat}(M:MkOk X.prog X.w X.K X.mg X.base cl k x c g)(hr:Room k X.A)(ha:SA X cl (e::es) ms)(hg:Gl X x)(hdb:(x==("__debug__":Str))=false)(hst:starEach (e::es) X.env=(false,eval e X.env)::starEach es X.env)(hpl:(backTo pos (starEach es X.env)).any (·.1)=false) :
  SE X cl (.Call (.Name x p) (e::es) [] pos) (zam c g ms):=by
 intro pins s σ H Q I q;rcases M with no | ⟨j,hj,f,fd,ps,hm,mk,F,B⟩
 .obtain⟨μ,h,ρ,w,h',R,er,e,kq⟩:=q
  obtain⟨ws,h1,e1,e⟩:=xP e;simp only[no] at e;cases e
 .exact zlp mk F (hr.mono hj) hg hm B .nil zcK ha hdb hst hpl pins s σ H Q I (zjx q)
end
noncomputable def eWay(ws:List (Str×(List W->M W)))(ma:ME)(ms:List ME):ME:=λρ=>bnd (ma ρ) λx h=>match x with
 | .str k=>match ws.lookup k with
  | some g=>bnd (xU ms ρ) g h
  | none=>none
 | _=>none
noncomputable def zhq(P:Program)(w:World)(K:PySem.W.Frag)(mg:Str->Option Value)(base:Heap)(cl:Cl)(k:Nat)(x:Str)(ws:List (Str×(List W->M W))):Prop:=
 ∃l,TabOk K w.params mg x l/\∀y g,ws.lookup y=some g->∃f fd ps,l.lookup y=some (.fn f)/\FnOk P w K mg base CX0 k f fd ps (spM K cl g)/\PySem.W.keepIn K (.ref f)=true/\Binds K fd ps []
section
variable{X:Cx}{cl:Cl}{k:Nat}{x:Str}{p p2 pos:Pos}{a e:Expr}{es:List Expr}{ma:ME}{ms:List ME}{ws:List (Str×(List W->M W))}
theorem zkQ:eval (.Call (.Subscript (.Name x p) a p2) args [] pos) env=(do callWith pos (<-eval (.Subscript (.Name x p) a p2) env) [] (backTo pos (starEach args env)) (backToKw pos (keywordEach [] env))):=by kernel_rfl
def zor(hu:X.A.units+64<cLine)(T:zhq X.prog X.w X.K X.mg X.base cl k x ws)(hr:Room k X.A)(ha:SE X cl a ma)(hs:SA X cl (e::es) ms)(hp:zaR a)(hg:Gl X x)(hd:(x==("__debug__":Str))=false)(hst:starEach (e::es) X.env=(false,eval e X.env)::starEach es X.env)(hpl:(backTo pos (starEach es X.env)).any (·.1)=false) :
  SE X cl (.Call (.Subscript (.Name x p) a p2) (e::es) [] pos) (eWay ws ma ms):=by
 obtain⟨l,T,TW⟩:=T;intro pins s σ H Q I q;obtain⟨μ,h,ρ,w,h',R,er,e0,kq⟩:=q;obtain⟨y,h1,e1,e0⟩:=xP e0;split at e0
 .rename_i key
  split at e0
  .rename_i g eg
   obtain⟨f,fd,ps,el,F,hk,hb⟩:=TW key g eg;obtain⟨vs,h2,e2,e0⟩:=xP e0;rw[zkQ];refine za (thn (zes hu T ha hp hg hd pins s σ H (λv H1=>v=.ref f/\∃μ1,Ext μ H μ1 H1/\HR X.K cl μ1 H1 h1) I ⟨μ,h,ρ,.fn f,h1,R,er,?_,λμ1 H1 v E1 R1 rv=>?_⟩) λu s1 ⟨v,H1,I1,r1,z,μ1,E1,R1⟩=>?_)
   .unfold eUn
    rw[zjC e1];simp only[zbj,el]
   .cases rv
    exact⟨rfl,μ1,E1,R1⟩
   .subst z
    cases r1;show wpAny _ _ (callWith pos (.ref f) [] _ []) _ _ _
    refine vK (h₀:=X.base) I1.ok.mod.kin hk (thn (hs pos pins s1 σ H1 (λvs H2=>spM X.K cl g (vs++[]) H2 Q E0) I1 ⟨μ1,h1,ρ,vs,h2,R1,er.ext R E1,e2,λμ2 H2 us E2 R2 rs=>?_⟩) λus s2 ⟨vs,H2,I2,r,q⟩=>⟨I2.kIn,?_⟩) hst hpl
    .rw[kh]
     exact⟨μ2,h2,vs,w,h',R2,rs,e0,λμ3 H3 v E3 R3 rv=>kq μ3 H3 v (E1.trans (E2.trans E3)) R3 rv⟩
    .exact zcu F hr hb .nil zcK I2 r q
  .cases e0
 .cases e0
end
end ML
namespace ML
open PySem PySem.W PySem.Spec PyProof.Rows
theorem zeB:Manifest.owners.lookup (String.ofList ['d','e','s','r','e','v','e','r'].reverse)=some Manifest.sig_reversed:=by kernel_rfl
def slot_rev_next:Slot "reversed" "__next__" "reversed.__next__":=
 .of (owner:="reversed") (n:="__next__") (by rw[qm,jM]; kernel_rfl) ⋯ ⋯ ⋯
  (by first | exact .inl ⋯ | exact .inr ⋯) (by rw[v9]; kernel_rfl)
def zbO:entryFor table "reversed.__next__" = some Builtin.«reversed.__next__»:=entryFor_of_tree (by kernel_rfl)
def zcg(a:Value):argsOk "reversed.__next__" ⟨[a],[]⟩:=by
 unfold argsOk; rw[signature?_of (id:="reversed.__next__") (n:=['_','_','t','x','e','n','_','_']) (o:=['d','e','s','r','e','v','e','r']) (by kernel_rfl) zeB]; kernel_rfl
def zch:Slot "reversed" "__iter__" "reversed.__iter__":=
 .of (owner:="reversed") (n:="__iter__") (by rw[qm,jM]; kernel_rfl) ⋯ ⋯ ⋯
  (by first | exact .inl ⋯ | exact .inr ⋯) (by rw[v9]; kernel_rfl)
def zeO(a:Value):argsOk "reversed.__iter__" ⟨[a],[]⟩:=by
 unfold argsOk; rw[signature?_of (id:="reversed.__iter__") (n:=['_','_','r','e','t','i','_','_']) (o:=['d','e','s','r','e','v','e','r']) (by kernel_rfl) zeB]; kernel_rfl
def zd4:entryFor table "reversed.__iter__" = some Builtin.«dict_keyiterator.__iter__»:=
 entryFor_alias (id':="dict_keyiterator.__iter__") (by kernel_rfl) (by first | rfl | decide +kernel | (unfold String.splitOn; simp +decide [String.splitOnAux])) ⋯ (by kernel_rfl)
def slot_rev_init:Slot "reversed" "__init__" "object.__init__":=
 .of (owner:="object") (n:="__init__") (by rw[qm,jM]; kernel_rfl) ⋯ ⋯ ⋯
  (by first | exact .inl ⋯ | exact .inr ⋯) (by rw[v9]; kernel_rfl)
def zhd:TypeCalled "reversed" "reversed.__new__" "object.__init__":=
 ⟨by decide +kernel,F.create_reversed,⟨_,_,F.mro_reversed⟩,F.made_reversed,yd,F.sub_reversed_self,slot_rev_init⟩
def zjc:typeLookup (.type "tuple") "__reversed__" = pure none:=by rw[qm,jM]; kernel_rfl
def zhV:isSubtype (.type "tuple") (.type "dict")=pure false:=by rw[v9]; kernel_rfl
section
variable{prog:Program}{w:World}{A:Around}{E:Value->Shared->Prop}{s:Shared}
def revT(t:Addr)(i:Int):Obj:={ cls:=.type "reversed",data:=.fields #[.ref t,rawInt i] }
def zkK{items:Array Value}(ht:s.heap.IsTuple t items)(hn:items.size<=sizeLine)
  (h:∀tk,Q₁ (.ref s.heap.objs.size) { s with heap:=s.heap.push (revT t ((items.size:Int)-1)),toks:=tk }) :
  codeAny (model prog w) A (.call (.builtin "reversed.__new__") ⟨[.type "reversed",.ref t],[]⟩) (wants Q₁ E) s:=by
 refine codeAny_of_tree ?_;show wpAny _ A.in1 (do checkBuiltinCall "reversed.__new__" ⟨[.type "reversed",.ref t],[]⟩; again (.builtin "reversed.__new__" ⟨[.type "reversed",.ref t],[]⟩)) _ _ s
 refine za (jV (F.newCall_reversed_1 _) (zr ⟨q8 yd _,vU F.entry_reversed_new ?_⟩));rw[qR yd _];unfold Builtin.«reversed.__new__»;refine za (jV (newClass_reversed _) ?_);try dsimp only
 refine za (jV (a:=()) (by first | rfl | kernel_rfl) ?_);refine za (jV (a:=()) (by first | rfl | kernel_rfl) ?_);try dsimp only
 refine za (vQ ht.typeIs zjc ?_);try dsimp only
 refine za ?_;show wpAny _ _ (isInstance (.ref t) (.type "dict") >>= _) _ _ _
 refine za (jZ ht.typeIs zhV ?_);try dsimp only
 first | rw[kO (by decide)] | skip
 refine za (vQ ht.typeIs jD.lookup ?_);try dsimp only
 rw[zX (by decide)];refine zr ?_;show wpAny _ _ (call (.builtin "len") [.ref t] >>= _) _ _ _
 have hfit:(items.size:Int)<2 ^ 63:=by
  have:sizeLine<2 ^ 62:=by decide +kernel
  omega
 refine za (len_tuple ht hfit ?_);show wpAny _ _ (Builtin.SmallTypes.newRecord (.type "reversed") [.ref t,rawInt ((items.size:Int)-1)] >>= _) _ _ _
 unfold Builtin.SmallTypes.newRecord;refine za (jn ?_ (by size_fits));exact zr (h _)
def zku{items:Array Value}(ht:s.heap.IsTuple t items)(hn:items.size<=sizeLine)
  (h:∀tk,Q (.ref s.heap.objs.size) { s with heap:=s.heap.push (revT t ((items.size:Int)-1)),toks:=tk }):wpAny (model prog w) A (call (.type "reversed") [.ref t]) Q E s:=by
 refine yf zhd (F.typeCall_reversed_1 _) F.entry_object_init (Q₁:=λobj s₁=>obj=.ref s.heap.objs.size/\∃tk,s₁={ s with heap:=s.heap.push (revT t ((items.size:Int)-1)),toks:=tk }) (zkK ht hn λtk=>⟨rfl,tk,rfl⟩) ?_;rintro obj s₁ ⟨rfl,tk,rfl⟩;have hT:Shared.TypeIs { s with heap:=s.heap.push (revT t ((items.size:Int)-1)),toks:=tk } (.ref s.heap.objs.size) "reversed":=⟨_,zT _ rfl,rfl⟩;refine⟨hT,F.args_object_init_2 _ _,?_⟩;exact(object_init_meets (self:=.ref s.heap.objs.size) (rest:=[.ref t]) slot_rev_init.lookup F.made_reversed (by decide)) prog w A.in1 _ _ ⟨hT,rfl,h tk⟩
def IsRevT(h:Heap)(a t:Addr)(i:Int):Prop:=∃o,h.get? a=some o/\o.cls=.type "reversed" /\ o.data=.fields #[.ref t,rawInt i]
def IsRevT.typeIs{i:Int}(x:IsRevT s.heap a l i):s.TypeIs (.ref a) "reversed":=let ⟨o,ho,hc,_⟩:=x; ⟨o,ho,hc⟩
def IsRevT.at{h h':Heap}{i:Int}(x:IsRevT h a l i)(e:∀o,h.get? a=some o->h'.get? a=some o):IsRevT h' a l i:=let ⟨o,ho,r⟩:=x; ⟨o,e _ ho,r⟩
def zkD{i:Nat}{items:Array Value}(hit:IsRevT s.heap it l (i:Int))(hl:s.heap.IsTuple l items)(hn:items.size<=sizeLine)(hx:items[i]?=some x)
  (hQ:∀h' tk,IsRevT h' it l ((i:Int)-1)->Heap.SameBut it s.heap h'->Q (some x) { s with heap:=h',toks:=tk }):wpAny (model prog w) A (pyNext (.ref it)) Q E s:=by
 obtain⟨o,ho,hc,hd⟩:=id hit;have hb:sizeLine<2 ^ 62:=by decide +kernel
 have hi:i<items.size:=(Array.getElem?_eq_some_iff.mp hx).1;unfold pyNext
 refine za (j6 (jo (name:=Str.ofString "__next__") hit.typeIs slot_rev_next
  (jx slot_rev_next hit.typeIs zbO ?_ (zcg _))))
 unfold Builtin.«reversed.__next__»;refine za (jV (a:=(Value.ref it,[])) rfl ?_);try dsimp only
 refine za (jl ho hd (x:=.ref l) rfl ?_);refine za (jl ho hd (x:=rawInt (i:Int)) rfl ?_);show wpAny _ _ (if (i:Int)<0 then _ else _) _ _ s
 rw[kO ∅];show wpAny _ _ (specialOf (.ref l) "__getitem__" >>= _) _ _ s
 refine za (vQ hl.typeIs jD.lookup ?_);try dsimp only
 rw[kO (by simp)];refine za (wpAny_mkInt ?_);refine za (j6 (getItem_tuple (j:=i) hl ∅ ∅ (by simp[seqIndex?]; omega) hx ?_));try dsimp only
 refine za (jl (s:={ s with toks:=s.toks+1 }) ho hd (x:=rawInt (i:Int)) rfl ?_);show wpAny _ _ (setField (.ref it) 1 (rawInt ((i:Int)-1)) >>= _) _ _ _
 refine za (v8 (s:={ s with toks:=s.toks+1 }) ho hd (by simp) ?_);refine zr ⟨x,rfl,zr (hQ _ _ ?_ (qx ..))⟩
 exact⟨_,jP _ ho (wV (qD hd _)),(Obj.cls_mapFields ..).trans hc,by
  rw[qD hd]; simp⟩
def zmv(hh:A.handled=none)(hit:IsRevT s.heap it l (-1))
  (hQ:∀h',Heap.ExtBut it s.heap h'->Q none { s with heap:=h' }):wpAny (model prog w) A (pyNext (.ref it)) Q E s:=by
 obtain⟨o,ho,hc,hd⟩:=id hit;unfold pyNext
 refine za (j6 (jo (name:=Str.ofString "__next__") hit.typeIs slot_rev_next
  (jx slot_rev_next hit.typeIs zbO ?_ (zcg _))))
 unfold Builtin.«reversed.__next__»;refine za (jV (a:=(Value.ref it,[])) rfl ?_);try dsimp only
 refine za (jl ho hd (x:=.ref l) rfl ?_);refine za (jl ho hd (x:=rawInt (-1)) rfl ?_);show wpAny _ _ (if (-1:Int)<0 then _ else _) _ _ s
 rw[zX (by decide)];refine za (qy ?_);show wpAny _ _ ((setField (.ref it) 1 (rawInt (-1)) >>= λ_=>setField (.ref it) 0 .none) >>= _) _ _ _
 refine za (za (v8 ho hd (by simp) ?_));have ho2:=jP (Obj.mapFields λx=>x.setIfInBounds 1 (rawInt (-1))) ho (wV (qD hd _));have hd2:=qD hd (λx=>x.setIfInBounds 1 (rawInt (-1)));refine v8 ho2 hd2 (by simp) ?_;try dsimp only
 refine za ?_;show wpAny _ _ (newExc (.type "StopIteration") [] >>= _) _ _ _
 refine za ?_;simp only[newExc,newTuple];refine za (jn ?_ (by size_fits));refine za (m:=firstArgMember _ _) (jV (a:=Value.none) (by first | rfl | (simp only[firstArgMember]; rfl)) ?_);refine jn ?_ (by size_fits);simp only[raiseNew];refine za (wpAny_handled ?_);first | rw[show A.in1.handled=none from hh] | rw[hh]
 refine za (zr (wC ?_));refine za (jZ (T:="StopIteration") (b:=true) ⟨_,zT _ rfl,rfl⟩ xj ?_);have x1:Heap.ExtBut it s.heap (s.heap.update it (Obj.mapFields λx=>x.setIfInBounds 1 (rawInt (-1)))):=(qx ..).extBut;have x2:Heap.ExtBut it s.heap ((s.heap.update it (Obj.mapFields λx=>x.setIfInBounds 1 (rawInt (-1)))).update it (Obj.mapFields λx=>x.setIfInBounds 0 .none)):=λb o hb e=>(qx ..).extBut b o hb (x1 b o hb e)
 exact zr (hQ _ ((x2.push _).push _))
def zge{i:Int}(hit:IsRevT s.heap it l i)(h:Q (.ref it) s):wpAny (model prog w) A (pyIter (.ref it)) Q E s:=by
 refine wpAny_pyIter_slot hit.typeIs zch (jx zch hit.typeIs zd4 ?_ (zeO _));show wpAny _ _ (ret (.ref it)) _ _ s
 exact zr ⟨_,rfl,"reversed",_,hit.typeIs,slot_rev_next.lookup,h⟩
end
end ML
namespace ML
open PySem PySem.Spec PyProof.Rows L2
noncomputable def Itv(K:PySem.W.Frag)(a:Addr)(n:Nat):It:=
 ⟨λi H=>∃xs x,SqT K H a xs/\xs.length=n/\i<n/\xs[n-1-i]?=some x,λi H x H'=>H'=H/\∀xs,SqT K H a xs->xs[n-1-i]?=some x,λi H=>∃xs,SqT K H a xs/\xs.length=n/\n<=i⟩
def zkn{P:Program}{w:World}{K:PySem.W.Frag}{tg:Expr}(a it:Addr)(n:Nat):Turn P w K tg (Itv K a n) [it] it (λi h=>i<=n/\IsRevT h it a ((n:Int)-1-(i:Int))) where
 mem:=by simp
 obj:=λi h st b hb=>by
  have e:b=it:=by simpa using hb
  subst e;obtain⟨_,o,e,c,d⟩:=st;exact⟨o,e,λv z=>by rw[d] at z; cases z⟩
 keep:=λi h h' st k=>⟨st.1,st.2.at λo e=>k it (by simp) o e⟩
 item:=by
  intro X hP hw hK hc i pins s σ H E I hf st hg;subst hP hw hK;obtain⟨xs,x,hq,hn,hi,hx⟩:=hg;obtain⟨its,rv,p,hz⟩:=I.tuple hq;obtain⟨u,hu,ru⟩:=rv.get hx;obtain⟨f0,f1,f2,f3,f4,f5⟩:=hf it (by simp);have e0:(n:Int)-1-(i:Int)=((n-1-i:Nat):Int):=by omega
  have st2:=st.2;rw[e0] at st2;refine zkD st2 (show s.heap.IsTuple a its.toArray from p) (by rw[zL,<-rv.length]; exact hz) (x:=u) (by simpa using hu) λh' tk st' sb=>?_
  have I1:Inv X pins σ H { s with heap:=h',toks:=tk }:=I.turned (t':=tk) (λb o hb e=>(sb.2 b hb).trans e) f0 f1 f3 f4 f5;have e1:((n-1-i:Nat):Int)-1=(n:Int)-1-((i+1:Nat):Int):=by omega
  rw[e1] at st';obtain⟨o,e,c,d⟩:=id st';exact⟨u,rfl,zeX (s:={ s with heap:=h',toks:=tk }) e c d (by decide) ⟨x,H,I1,ru,⟨rfl,λys hy=>by rw[I.tuple_inj hy hq]; exact hx⟩,⟨by omega,st'⟩,λb hb=>(hf b hb).1⟩⟩
 done:=by
  intro X hP hw hK hc i pins s σ H E I hf st hg;subst hP hw hK;obtain⟨xs,hq,hn,hi⟩:=hg;obtain⟨f0,f1,f2,f3,f4,f5⟩:=hf it (by simp);have e0:(n:Int)-1-(i:Int) = -1:=by have:=st.1; omega
  have st2:=st.2;rw[e0] at st2;exact zmv (I.ok.hd hc) st2 λh' eb=>⟨rfl,I.turned (t':=s.toks) (λb o hb e=>eb b o hb e) f0 f1 f3 f4 f5⟩
 self:=λ_ _ _ _ _ st h=>zge st.2 h
noncomputable def revS(ws:List W):M Src:=λh=>match ws with
 | [.tup l]=>some (.items l.reverse,h)
 | _=>none
noncomputable def iRev(ms:List ME):MI:=λρ=>bnd (xU ms ρ) revS
section
variable{X:Cx}{cl:Cl}{tg e:Expr}{p pos:Pos}{ms:List ME}
def zoR{K:PySem.W.Frag}{μ:List Addr}{H:Hp}{h:MH}{vs:List V}{l:List W}(R:HR K cl μ H h)(sa:SqT K H a vs)(ra:RWs K μ H l vs):JR K cl (Itv K a vs.length) (.items l.reverse) μ H:=by
 intro μ2 H2 h2 E2 R2 i;have sa2:=SqT.ext R E2 sa;have ra2:=ra.ext R E2;have ll:=ra.length;refine⟨λw ew=>?_,λes=>?_⟩
 .have ew':l.reverse[i]?=some w:=kj ew
  have hi:i<l.length:=by
   have:=(zU.mp ew').1;rwa [j4] at this
  rw[List.getElem?_reverse hi] at ew';obtain⟨v,ev,rv⟩:=ra2.get ew';rw[ll] at ev;refine⟨⟨vs,v,sa2,rfl,by omega,ev⟩,λx H3 y=>?_⟩;obtain⟨rfl,y⟩:=y;have:=y vs sa2;rw[ev] at this;cases this;exact⟨.refl,R2,rv⟩
 .have es':l.reverse[i]?=none:=kj es
  have:=jR.mp es';rw[j4] at this;exact⟨vs,sa2,rfl,by omega⟩
def znn(hm:X.mg "reversed" = none)(ha:SA X cl [e] ms)(hg:Gl X "reversed")(hst:starEach [e] X.env=(false,eval e X.env)::starEach [] X.env):SI X cl tg (.Call (.Name "reversed" p) [e] [] pos) (iRev ms):=by
 rintro pins s σ H R I ⟨μ,h,ρ,src,h',R0,er,e,k⟩;obtain⟨ws,h1,e1',e⟩:=xP e;have hv:bootBuiltins "reversed" = some (.type "reversed"):=by decide +kernel
 refine jy (zaB I hg hm hv ?_ (by decide) (by decide));refine jq (thn (ha pos pins s σ H (λvs H1=>∃μ1,Ext μ H μ1 H1/\HR X.K cl μ1 H1 h1/\RWs X.K μ1 H1 ws vs) I ⟨μ,h,ρ,ws,h1,R0,er,e1',λμ1 H1 vs E1 R1 rs=>⟨μ1,E1,R1,rs⟩⟩) λus s1 ⟨vs,H1,I1,r1,μ1,E1,R1,rs⟩=>?_) hst (by kernel_rfl);unfold revS at e;split at e
 .cases e
  cases rs with | cons rx t=>cases t with | nil=>
  obtain⟨a,xs,rfl,sa,ra⟩:=rx.tup_of;cases r1 with | cons r1 r2=>
  cases r2;cases r1;obtain⟨its,rv,pt,hz⟩:=I1.tuple sa;have hl:its.length=xs.length:=rv.length.symm;refine zku (show s1.heap.IsTuple a its.toArray from pt) (by rw[zL,<-rv.length]; exact hz) λtk=>?_
  have e0:((its.toArray.size:Nat):Int)-1=(xs.length:Int)-1-((0:Nat):Int):=by simp[hl]
  rw[e0];have st:IsRevT (s1.heap.push (revT a ((xs.length:Int)-1-((0:Nat):Int)))) s1.heap.objs.size a ((xs.length:Int)-1-((0:Nat):Int)):=⟨_,zT _ rfl,rfl,rfl⟩;refine zge st ?_;refine⟨s1.heap.objs.size,[s1.heap.objs.size],_,_,H1,rfl,I1.kept (t':=tk) λb o e=>zf _ e,zkn a _ xs.length,⟨qO _,st⟩,λb hb=>?_,k μ1 H1 _ E1 R1 (zoR R1 sa ra)⟩;have e:b=s1.heap.objs.size:=by simpa using hb
  subst e;exact I1.fpOk (zj _) (I1.hok.fresh (zj _))
 .cases e
end
noncomputable def zdT(ws:List W):M W:=λh=>match ws with
 | [w]=>match zae h w with
  | some l=>some (.ref h.length,h++[.dic l])
  | none=>none
 | _=>none
section
variable{X:Cx}{cl:Cl}
theorem KQ.dic{K:PySem.W.Frag}{μ:List Addr}{H:Hp}{h:MH}(k:KQ K cl μ H (h++[.dic l]) (.ref h.length) Q)(R:HR K cl μ H h)(pr:PR K μ H l l')(hp:H p=none):Q (.ref p) (upd H p (.dK l')):=
 k (μ++[p]) _ _ (.new hp) (R.new hp ⟨l',uv,(pr.ext R (.new hp)).rk⟩) (.ref (by rw[<-R.len]; simp))
def zhg:zad X (.type "dict") (rMs X.K cl zdT):=by
 rintro pins s σ H xs us Q I rs ⟨μ,h,ws,w,h',R,ax,e,k⟩;unfold zdT at e;split at e
 .cases ax with | cons r t=>cases t with | nil=>
  obtain⟨u,rfl,ru⟩:=rs.one;split at e
  .rename_i l el
   cases e;obtain⟨a,l',rfl,rd,pr⟩:=zbo R r el;cases ru;exact zf5 I rd λp s' hp I'=>⟨.ref p,_,I',rfl,k.dic R pr hp⟩
  .cases e
 .cases e
end
def zkF{M:Model}{s:Shared}(h:Q (s.heap.get? a) s):wpAny M A (loadIfAlive a) Q E s:=λΓ p _=>by
 show Sem.wp M Γ (.loadIfAlive a _) _ _ _ _
 rw[Sem.wp_loadIfAlive];exact(Sem.wp_pure ..).mpr h
noncomputable def ZB(h:Heap)(z TI TO T:Addr)(b:Bool):Prop:=h.get? z=some { cls:=.type "zip",dict:=none,data:=.fields #[rawInt T,.bool b,.bool false,.ref TI,.ref TO],slots:=#[] }
noncomputable def ZSt2(z TI TO T i1 i2:Addr)(P1 P2:Nat->Heap->Prop)(k:Nat)(h:Heap):Prop:=(∃b,ZB h z TI TO T b)/\(∃o,h.get? T=some o)/\IsPair h TI (.ref i1) (.ref i2)/\P1 k h/\P2 k h
structure ZApart2(z TI T i1 i2 a1 a2:Addr):Prop where
 nd:[z,TI,T,i1,i2].Nodup
 f1:a1∉[z,TI,i1,i2]
 f2:a2∉[z,TI,i1,i2]
section
variable{prog:Program}{w:World}{A:Around}{E:Value->Shared->Prop}{s:Shared}{z TI TO T i1 i2 a1 a2:Addr}{P1 P2:Nat->Heap->Prop}{C1 C2:Heap->List Value->Prop}
def zgZ(hz:ZB s.heap z TI TO T b)(ho:s.heap.get? T=some o)(hQ:∀h',ZB h' z TI TO T true->Heap.SameBut z s.heap h'->Q false { s with heap:=h' }):wpAny (model prog w) A (Builtin.SmallTypes.ownedTupleIsFree (.ref z)) Q E s:=by
 unfold ZB at hz;unfold Builtin.SmallTypes.ownedTupleIsFree;refine za (jl hz rfl (x:=rawInt T) rfl ?_);show wpAny _ _ (loadIfAlive (T:Int).toNat >>= _) _ _ _
 rw[j0];refine za (zkF ?_);rw[ho];simp only[Option.isNone_some,jG,jm];refine za (jl hz rfl (x:=.bool b) rfl ?_);cases b with
 | true=>
  rw[kO (by decide)];exact zr (hQ _ hz (Heap.SameBut.refl _ _))
 | false=>
  rw[zX (by decide)];refine za (qb hz (by simp) λh' q e=>?_);exact zr (hQ h' q e)
def zh3(S1:Stp i1 a1 P1 C1)(S2:Stp i2 a2 P2 C2)(D:ZApart2 z TI T i1 i2 a1 a2){l1 l2:List Value}(st:ZSt2 z TI TO T i1 i2 P1 P2 k s.heap)(c1:C1 s.heap l1)(c2:C2 s.heap l2)(hx:l1[k]?=some x)(hy:l2[k]?=some y)
  (hQ:∀h',ZSt2 z TI TO T i1 i2 P1 P2 (k+1) h'->h'.get? s.heap.objs.size=some { cls:=.type "tuple",data:=.seq #[x,y] }->(∀c o,c∉[z,i1,i2]->s.heap.get? c=some o->h'.get? c=some o)->Q (some (.ref s.heap.objs.size)) { s with heap:=h' }) :
  wpAny (model prog w) A (pyNext (.ref z)) Q E s:=by
 obtain⟨⟨b,hz⟩,⟨o,ho⟩,hTI,p1,p2⟩:=st;have n:=D.nd;simp only[jz,zb,zc,zO,j8] at n;obtain⟨⟨n1,n2,n3,n4⟩,⟨n5,n6,n7⟩,⟨n8,n9⟩,n10,_⟩:=n;have g1:=D.f1; have g2:=D.f2;simp only[zb,zc,zO,j8] at g1 g2;have hz':=hz;unfold ZB at hz';have hT:s.TypeIs (.ref z) "zip":=⟨_,hz',rfl⟩;unfold pyNext;refine za (j6 (jo (name:=Str.ofString "__next__") hT qu (jx qu hT wJ ?_ (wB _))));show wpAny _ _ (field (.ref z) 2 >>= _) _ _ _; refine za (jl hz' rfl (x:=.bool false) rfl ?_)
 show wpAny _ _ (field (.ref z) 3 >>= _) _ _ _; refine za (jl hz' rfl (x:=.ref TI) rfl ?_)
 refine za (jJ hTI rfl ?_); show wpAny _ _ (Builtin.SmallTypes.ownedTupleIsFree (.ref z) >>= _) _ _ _
 refine za (zgZ hz ho λh1 q1 e1=>?_);simp only[jG,jm];have fa:∀{β:Type} (b0:β) (f:Value->β->Sem (ForInStep β)),forIn #[Value.ref i1,Value.ref i2] b0 f=forIn [Value.ref i1,Value.ref i2] b0 f:=λb0 f=>by rw[<-xJ]
 rw[fa];simp only[qU,wG];refine za (za (za (jc ?_)));show wpAny _ _ (Builtin.SmallTypes.nextOf (.ref i1) >>= _) _ _ _
 refine za (S1.item (S1.keep p1 λo e=>e1.extBut _ _ (kY n3) e) (S1.keepC c1 λo e=>e1.extBut _ _ g1.1 e) hx λh2 r1 e2=>zr (zr ?_));refine za (za (jc ?_));show wpAny _ _ (Builtin.SmallTypes.nextOf (.ref i2) >>= _) _ _ _
 refine za (S2.item (S2.keep p2 λo e=>e2.extBut _ _ (kY n10) (e1.extBut _ _ (kY n4) e)) (S2.keepC c2 λo e=>e2.extBut _ _ g2.2.2.1 (e1.extBut _ _ g2.1 e)) hy λh3 r2 e3=>zr (zr (zr ?_)));show wpAny _ _ (newTuple [x,y] >>= _) _ _ _
 refine za (wpAny_newTuple ?_);have sz:h3.objs.size=s.heap.objs.size:=by rw[e3.1,e2.1,e1.1]
 have all:∀c o,c∉[z,i1,i2]->s.heap.get? c=some o->h3.get? c=some o:=λc o hc e=>by
  simp only[zb,zc,zO,j8] at hc;exact e3.extBut _ _ hc.2.2 (e2.extBut _ _ hc.2.1 (e1.extBut _ _ hc.1 e))
 refine zr ⟨_,rfl,zr ?_⟩;show Q (some (.ref h3.objs.size)) _
 rw[sz];have up:∀c o,h3.get? c=some o->(h3.push { cls:=.type "tuple",data:=.seq #[x,y] }).get? c=some o:=λc o e=>zf _ e
 have tn:(h3.push { cls:=.type "tuple",data:=.seq #[x,y] }).get? h3.objs.size=some _:=zT _ rfl;rw[sz] at tn;refine hQ _ ⟨⟨true,?_⟩,⟨o,up _ _ (all _ _ (by simp only[zb,zc,zO,j8]; exact⟨kY n2,n8,n9⟩) ho)⟩,up _ _ (all _ _ (by simp only[zb,zc,zO,j8]; exact⟨kY n1,n6,n7⟩) hTI),S1.keep r1 λo e=>up _ _ (e3.extBut _ _ n10 e),S2.keep r2 λo e=>up _ _ e⟩ tn λc o hc e=>up _ _ (all c o hc e)
 exact up _ _ (e3.extBut _ _ n4 (e2.extBut _ _ n3 q1))
def zia(S1:Stp i1 a1 P1 C1)(S2:Stp i2 a2 P2 C2)(D:ZApart2 z TI T i1 i2 a1 a2){l1 l2:List Value}(hh:A.handled=none)(st:ZSt2 z TI TO T i1 i2 P1 P2 k s.heap)(c1:C1 s.heap l1)(c2:C2 s.heap l2)(he:l1[k]?=none\/l2[k]?=none)
  (hQ:∀h',(∀c o,c∉[z,i1,i2]->s.heap.get? c=some o->h'.get? c=some o)->Q none { s with heap:=h' }):wpAny (model prog w) A (pyNext (.ref z)) Q E s:=by
 obtain⟨⟨b,hz⟩,⟨o,ho⟩,hTI,p1,p2⟩:=st;have n:=D.nd;simp only[jz,zb,zc,zO,j8] at n;obtain⟨⟨n1,n2,n3,n4⟩,⟨n5,n6,n7⟩,⟨n8,n9⟩,n10,_⟩:=n;have g1:=D.f1; have g2:=D.f2;simp only[zb,zc,zO,j8] at g1 g2;have hz':=hz;unfold ZB at hz';have hT:s.TypeIs (.ref z) "zip":=⟨_,hz',rfl⟩;have stop:∀{h':Heap} {e:Addr},(∃o,h'.get? e=some o/\o.cls=.type "StopIteration")->(∀c o,c∉[z,i1,i2]->s.heap.get? c=some o->h'.get? c=some o)->
   wpAny (model prog w) A (isInstance (.ref e) (.type "StopIteration") >>= λx=>if x=true then pure none else throw (.ref e)) Q E { s with heap:=h' }:=λ{h' e} ⟨o,ho,hc⟩ kk=>
  za (jZ (T:="StopIteration") (b:=true) ⟨o,ho,hc⟩ xj (zr (hQ _ kk)))
 unfold pyNext;refine za (j6 (jo (name:=Str.ofString "__next__") hT qu (jx qu hT wJ ?_ (wB _))));show wpAny _ _ (field (.ref z) 2 >>= _) _ _ _; refine za (jl hz' rfl (x:=.bool false) rfl ?_)
 show wpAny _ _ (field (.ref z) 3 >>= _) _ _ _; refine za (jl hz' rfl (x:=.ref TI) rfl ?_)
 refine za (jJ hTI rfl ?_); show wpAny _ _ (Builtin.SmallTypes.ownedTupleIsFree (.ref z) >>= _) _ _ _
 refine za (zgZ hz ho λh1 q1 e1=>?_);simp only[jG,jm];have fa:∀{β:Type} (b0:β) (f:Value->β->Sem (ForInStep β)),forIn #[Value.ref i1,Value.ref i2] b0 f=forIn [Value.ref i1,Value.ref i2] b0 f:=λb0 f=>by rw[<-xJ]
 rw[fa];simp only[qU,wG];refine za (za (za (jc ?_)));show wpAny _ _ (Builtin.SmallTypes.nextOf (.ref i1) >>= _) _ _ _
 have p1':=S1.keep (h':=h1) p1 λo e=>e1.extBut _ _ (kY n3) e
 have c1':=S1.keepC (h':=h1) c1 λo e=>e1.extBut _ _ g1.1 e
 cases hx:l1[k]? with
 | none=>
  refine za (S1.last hh p1' c1' hx λh2 e e2 ⟨oe,ge,ce⟩=>?_);refine stop ⟨oe,ge,ce⟩ λc o hc g=>?_
  simp only[zb,zc,zO,j8] at hc;exact e2 _ _ hc.2.1 (e1.extBut _ _ hc.1 g)
 | some x=>
  have hy:l2[k]?=none:=by rcases he with h | h; rw[hx] at h; cases h; exact h
  refine za (S1.item p1' c1' hx λh2 r1 e2=>zr (zr ?_));refine za (za (jc ?_));show wpAny _ _ (Builtin.SmallTypes.nextOf (.ref i2) >>= _) _ _ _
  refine za (S2.last hh (S2.keep p2 λo e=>e2.extBut _ _ (kY n10) (e1.extBut _ _ (kY n4) e)) (S2.keepC c2 λo e=>e2.extBut _ _ g2.2.2.1 (e1.extBut _ _ g2.1 e)) hy λh3 e e3 ⟨oe,ge,ce⟩=>?_);refine stop ⟨oe,ge,ce⟩ λc o hc g=>?_
  simp only[zb,zc,zO,j8] at hc;exact e3 _ _ hc.2.2 (e2.extBut _ _ hc.2.1 (e1.extBut _ _ hc.1 g))
end
def zfU:entryFor table "zip.__getattribute__" = some Builtin.«object.__getattribute__»:=
 entryFor_alias (id':="object.__getattribute__") (by kernel_rfl) (by first | rfl | decide +kernel) ⋯ (by kernel_rfl)
section
variable{prog:Program}{w:World}{A:Around}{E:Value->Shared->Prop}{h:Heap}{g:Array GenState}{d:Drawn}{t:Nat}{os:OsState}{a:Addr}{vs:Array Value}
set_option maxHeartbeats 1000000 in
def zb7(hh:A.handled=none)(hx:h.get? a=some { cls:=.type "zip",dict:=none,data:=.fields vs,slots:=#[] })(hq:errK h g d os E) :
  wpAny (model prog w) A (Builtin.«object.__getattribute__» ⟨[.ref a,.str "keys" tk],[]⟩) Q E ⟨h,g,d,t,os⟩:=by
 have hT:(⟨h,g,d,t,os⟩:Shared).TypeIs (.ref a) "zip":=⟨_,hx,rfl⟩;have f4:=zgx (T:="zip") (.inr (.inr rfl));repeat (any_goals (first | assumption | wp_step))
 refine zdR hh ⋯ λh' tk' e k1 k2=>hq h' tk' e k1 k2
def zgp(hh:A.handled=none)(hx:h.get? a=some { cls:=.type "zip",dict:=none,data:=.fields vs,slots:=#[] })(hq:errK h g d os E):wpAny (model prog w) A (getAttrBy (.ref a) (.str "keys" tk) false) Q E ⟨h,g,d,t,os⟩:=by
 have hT:(⟨h,g,d,t,os⟩:Shared).TypeIs (.ref a) "zip":=⟨_,hx,rfl⟩;have f2:=wF.lookup;have f3:=wF.bind (.ref a);unfold getAttrBy;refine jc (za (j7 hT (za (jV f2 ?_))));show wpAny _ _ (getAttrByItsOwn (.ref a) (.str "keys" tk) (.type "zip") (.builtin "zip.__getattribute__") false false) _ _ _
 unfold getAttrByItsOwn;refine za (zr ?_);refine za (j6 ?_);refine jc ?_;show wpAny _ _ (boundAndCalled (.builtin "zip.__getattribute__") (.ref a) (.str "keys" tk)) _ _ _
 unfold boundAndCalled;refine za (jV f3 ?_);refine jx wF hT zfU ?_ (F.args_zip_getattribute_2 _ _);refine zb7 hh hx λh' tk' e k1 k2=>?_
 obtain⟨ob,ho,hc⟩:=k2;have hTe:(⟨h',g,d,tk',os⟩:Shared).TypeIs (.ref e) "AttributeError":=⟨_,ho,hc⟩;show wpAny _ _ (getattributeRaised (.ref a) (.str "keys" tk) (.type "zip") (.ref e) none false false) _ _ _
 unfold getattributeRaised;refine za (jZ hTe zbm ?_);simp only[kI];refine za (jV (show hookBehind (.type "zip") none=pure none from zgw (.inr (.inr rfl))) ?_);show wpAny _ _ (attributeErrorLeaves (.ref a) (.str "keys" tk) (.ref e) false false) _ _ _
 unfold attributeErrorLeaves;simp only[Bool.not_false,kI];exact wC (hq h' tk' e k1 ⟨ob,ho,hc⟩)
def zgi(hh:A.handled=none)(hx:h.get? a=some { cls:=.type "zip",dict:=none,data:=.fields vs,slots:=#[] })(hq:∀h' tk',(∀b ob,h.get? b=some ob->h'.get? b=some ob)->Q none ⟨h',g,d,tk',os⟩):wpAny (model prog w) A (getAttr? (.ref a) "keys") Q E ⟨h,g,d,t,os⟩:=by
 unfold getAttr? getAttrBy?;refine za (wpAny_mkText ?_);refine za (j6 (zgp hh hx λh' tk' e k1 k2=>?_));obtain⟨ob,ho,hc⟩:=k2;refine za (jZ (T:="AttributeError") (b:=true) ⟨ob,ho,hc⟩ zbm ?_);exact zr (hq h' tk' k1)
end
section
variable{prog:Program}{w:World}{A:Around}{E:Value->Shared->Prop}{s:Shared}{z TI TO i1 i2 a1 a2 D:Addr}{P1 P2:Nat->Heap->Prop}{C1 C2:Heap->List Value->Prop}
noncomputable def Zan(D z TI TO i1 i2 a1 a2:Addr)(P1 P2:Nat->Heap->Prop)(i:Nat)(h:Heap):Prop:=(i=0/\ZSt z TI TO i1 i2 P1 P2 .none 0 0 h)\/∃T,ZApart2 z TI T i1 i2 a1 a2/\T≠D/\ZSt2 z TI TO T i1 i2 P1 P2 i h
def Zan.frame(S1:Stp i1 a1 P1 C1)(S2:Stp i2 a2 P2 C2){i:Nat}{h h':Heap}(hD:D∉[z,TI,TO,i1,i2])(q:Zan D z TI TO i1 i2 a1 a2 P1 P2 i h)(k:∀b o,b≠D->h.get? b=some o->h'.get? b=some o):Zan D z TI TO i1 i2 a1 a2 P1 P2 i h':=by
 simp only[zb,zc,zO,j8] at hD;obtain⟨d1,d2,d3,d4,d5⟩:=hD;rcases q with ⟨rfl,r1,r2,⟨a,b,r3⟩,r4,r5⟩ | ⟨T,ap,nT,⟨b,r1⟩,⟨o,r2⟩,r3,r4,r5⟩
 .exact .inl ⟨rfl,k _ _ (kY d1) r1,k _ _ (kY d2) r2,⟨a,b,k _ _ (kY d3) r3⟩,S1.keep r4 λo e=>k _ _ (kY d4) e,S2.keep r5 λo e=>k _ _ (kY d5) e⟩
 .exact .inr ⟨T,ap,nT,⟨b,k _ _ (kY d1) r1⟩,⟨o,k _ _ nT r2⟩,k _ _ (kY d2) r3,S1.keep r4 λo e=>k _ _ (kY d4) e,S2.keep r5 λo e=>k _ _ (kY d5) e⟩
def zjP(S1:Stp i1 a1 P1 C1)(S2:Stp i2 a2 P2 C2)(ap:ZApart z TI TO i1 i2 a1 a2){i:Nat}{l1 l2:List Value}(hD:D<s.heap.objs.size)(st:Zan D z TI TO i1 i2 a1 a2 P1 P2 i s.heap)(c1:C1 s.heap l1)(c2:C2 s.heap l2)(hx:l1[i]?=some x)(hy:l2[i]?=some y)
  (hQ:∀h',Zan D z TI TO i1 i2 a1 a2 P1 P2 (i+1) h'->h'.get? s.heap.objs.size=some { cls:=.type "tuple",data:=.seq #[x,y] }->(∀c o,c∉[z,TI,TO,i1,i2]->s.heap.get? c=some o->h'.get? c=some o)->Q (some (.ref s.heap.objs.size)) { s with heap:=h' }) :
  wpAny (model prog w) A (pyNext (.ref z)) Q E s:=by
 rcases st with ⟨rfl,st⟩ | ⟨T,ap2,nT,st⟩
 .have lz:=zB st.1
  have lTI:=zB st.2.1;have l1':i1<s.heap.objs.size:=by obtain⟨o,e,_⟩:=S1.obj st.2.2.2.1; exact zB e
  have l2':i2<s.heap.objs.size:=by obtain⟨o,e,_⟩:=S2.obj st.2.2.2.2; exact zB e
  have nd:=ap.nd;simp only[jz,zb,zc,zO,j8] at nd;have f1:=ap.f1; have f2:=ap.f2;simp only[zb,zc,zO,j8] at f1 f2;refine zfA S1 S2 ap st c1 c2 hx hy λh' q1 q2 q3=>hQ h' (.inr ⟨s.heap.objs.size,⟨?_,?_,?_⟩,qj hD,⟨false,q1.1⟩,⟨_,q2⟩,q1.2.1,q1.2.2.2.1,q1.2.2.2.2⟩) q2 q3
  .simp only[jz,zb,zc,zO,j8]
   exact⟨⟨nd.1.1,zW lz,nd.1.2.2.1,nd.1.2.2.2⟩,⟨zW lTI,nd.2.1.2.1,nd.2.1.2.2⟩,⟨qj l1',qj l2'⟩,nd.2.2.2.1,not_false,vN⟩
  .simp only[zb,zc,zO,j8]
   exact⟨f1.1,f1.2.1,f1.2.2.2.1,f1.2.2.2.2⟩
  .simp only[zb,zc,zO,j8]
   exact⟨f2.1,f2.2.1,f2.2.2.2.1,f2.2.2.2.2⟩
 .refine zh3 S1 S2 ap2 st c1 c2 hx hy λh' q1 q2 q3=>hQ h' (.inr ⟨T,ap2,nT,q1⟩) q2 λc o hc e=>q3 c o (λm=>hc ?_) e
  simp only[zb,zc,zO] at m ⊢;rcases m with m | m | m
  .exact .inl m
  .exact .inr (.inr (.inr (.inl m)))
  .exact .inr (.inr (.inr (.inr m)))
def zkC(S1:Stp i1 a1 P1 C1)(S2:Stp i2 a2 P2 C2)(ap:ZApart z TI TO i1 i2 a1 a2){i:Nat}{l1 l2:List Value}(hh:A.handled=none)(st:Zan D z TI TO i1 i2 a1 a2 P1 P2 i s.heap)(c1:C1 s.heap l1)(c2:C2 s.heap l2)(he:l1[i]?=none\/l2[i]?=none)
  (hQ:∀h',(∀c o,c∉[z,TI,TO,i1,i2]->s.heap.get? c=some o->h'.get? c=some o)->Q none { s with heap:=h' }):wpAny (model prog w) A (pyNext (.ref z)) Q E s:=by
 rcases st with ⟨rfl,st⟩ | ⟨T,ap2,nT,st⟩
 .exact zfT S1 S2 ap hh st c1 c2 he hQ
 .refine zia S1 S2 ap2 hh st c1 c2 he λh' q=>hQ h' λc o hc e=>q c o (λm=>hc ?_) e
  simp only[zb,zc,zO] at m ⊢;rcases m with m | m | m
  .exact .inl m
  .exact .inr (.inr (.inr (.inl m)))
  .exact .inr (.inr (.inr (.inr m)))
end
section
variable{prog:Program}{w:World}{A:Around}{R:Result->Shared->Prop}{z TI TO i1 i2 a1 a2 D:Addr}{P1 P2:Nat->Heap->Prop}{C1 C2:Heap->List Value->Prop}{h0:Heap}{l1 l2:List Value}{kvs:List (Key×Value)}
def zki(knd:KeyKind prog w Key)(hh:A.in1.handled=none)(S1:Stp i1 a1 P1 C1)(S2:Stp i2 a2 P2 C2)(ap:ZApart z TI TO i1 i2 a1 a2)(hDf:D∉[z,TI,TO,i1,i2])(hD0:h0.get? D=none)(hw0:∀b∈[z,TI,TO,i1,i2],h0.get? b=none)(c1:C1 h0 l1)(c2:C2 h0 l2)
  (hp:∀i,(hi:i<kvs.length)->∃x,l1[i]?=some x/\knd.is kvs[i].1 x=true/\l2[i]?=some kvs[i].2) (he:l1[kvs.length]?=none\/l2[kvs.length]?=none) (hz:kvs.length<=1000) :
  ∀(k i:Nat) (tk:Tok) (s:Shared),kvs.length-i=k->i<=kvs.length->Zan D z TI TO i1 i2 a1 a2 P1 P2 i s.heap->s.heap.DictOf knd D (merged [] (kvs.take i))->(∀b o,h0.get? b=some o->s.heap.get? b=some o)->
   (∀h' tk',h'.DictOf knd D (merged [] kvs)->(∀b o,h0.get? b=some o->h'.get? b=some o)->R (.ok (.ret .none)) { s with heap:=h',toks:=tk' })->
   codeAny (model prog w) A (.builtin "dict.update.loop" ⟨[.ref D,.ref z,.int i tk,.none],[]⟩) R s:=by
 intro k;induction k with
 | zero=>
  intro i tk s hk hi hst hd h0k hR;obtain rfl:i=kvs.length:=by omega
  refine vU zbA ?_;rw[qR zag _];show wpAny _ A.in1 (pyNext (.ref z) >>= _) _ _ s
  refine za (zkC S1 S2 ap hh hst (S1.keepC c1 λo e=>h0k _ _ e) (S2.keepC c2 λo e=>h0k _ _ e) he λh' kk=>?_);show wpAny _ A.in1 (Builtin.Dict.addKeywords D [] >>= _) _ _ _
  refine za (zr (zr (hR h' s.toks ?_ λb o e=>kk b o (λz=>by rw[hw0 b z] at e; cases e) (h0k b o e))));rw[yg] at hd;obtain⟨o,es,ep,ho,rest⟩:=hd;exact⟨o,es,ep,kk D o hDf ho,rest⟩
 | succ k ih=>
  intro i tk s hk hi hst hd h0k hR;have hlt:i<kvs.length:=by omega
  obtain⟨key,hx,hk1,hy⟩:=hp i hlt;have hDs:D<s.heap.objs.size:=by obtain⟨o,es,ep,ho,rest⟩:=hd; exact zB ho
  refine vU zbA ?_;rw[qR zag _];show wpAny _ A.in1 (pyNext (.ref z) >>= _) _ _ s
  refine za (zjP S1 S2 ap hDs hst (S1.keepC c1 λo e=>h0k _ _ e) (S2.keepC c2 λo e=>h0k _ _ e) hx hy λh' hst' hT kk=>?_);have keep:∀b o,h0.get? b=some o->h'.get? b=some o:=λb o e=>kk b o (λz=>by rw[hw0 b z] at e; cases e) (h0k b o e)
  have hT':IsTup h' s.heap.objs.size #[key,kvs[i].2]:=⟨_,hT,rfl,_,rfl⟩;have hd':h'.DictOf knd D (merged [] (kvs.take i)):=by obtain⟨o,es,ep,ho,rest⟩:=hd; exact⟨o,es,ep,kk D o hDf ho,rest⟩
  show wpAny _ A.in1 (holding [Value.ref s.heap.objs.size] _ >>= _) _ _ _
  refine za (jc (za (wpAny_tryCatch ?_)));unfold Builtin.Dict.pairItems;refine za (j7 hT'.typeIs ?_);rw[zX (by decide)];refine za (jJ hT rfl (zr ?_));show wpAny _ _ (holding [key,kvs[i].2] (dictSet D key kvs[i].2)) _ _ _
  refine jc ?_;unfold dictSet;try with_reducible refine jc ?_
  refine za (knd.pyHash hk1 ?_);refine xf (s:={ s with heap:=h',toks:=s.toks+1 }) hk1 hd' (λh2 hd2 sb=>?_) (by have:=merged_length_le ([]:List (Key×Value)) (kvs.take i); rw[qp] at this; simp at this; exact zQ (zQ this ∅) (show 1000<=sizeLine by decide));refine zr ⟨q8 zag _,ih (i+1) _ _ ∅ hlt (hst'.frame S1 S2 hDf λb o hb e=>?_) ?_ (λb o e=>?_) λh3 tk3 hd3 k3=>?_⟩
  .rw[sb.2 b hb]; exact e
  .rw[merged_take_succ [] kvs i kvs[i] (zA hlt)]; exact hd2
  .rw[sb.2 b (λz:b=D=>by rw[z,hD0] at e; cases e)]; exact keep b o e
  .exact hR h3 tk3 hd3 k3
end
section
variable{prog:Program}{w:World}{A:Around}{E:Value->Shared->Prop}{s:Shared}{z TI TO i1 i2 a1 a2:Addr}{P1 P2:Nat->Heap->Prop}{C1 C2:Heap->List Value->Prop}{h0:Heap}{l1 l2:List Value}{kvs:List (Key×Value)}
def zeP(knd:KeyKind prog w Key)(hh:A.handled=none)(S1:Stp i1 a1 P1 C1)(S2:Stp i2 a2 P2 C2)(ap:ZApart z TI TO i1 i2 a1 a2)(st:ZSt z TI TO i1 i2 P1 P2 .none 0 0 s.heap)(k0:∀b o,h0.get? b=some o->s.heap.get? b=some o)(hw0:∀b∈[z,TI,TO,i1,i2],h0.get? b=none)(c1:C1 h0 l1)(c2:C2 h0 l2)
  (hp:∀i,(hi:i<kvs.length)->∃x,l1[i]?=some x/\knd.is kvs[i].1 x=true/\l2[i]?=some kvs[i].2) (he:l1[kvs.length]?=none\/l2[kvs.length]?=none) (hz:kvs.length<=1000) 
  (h:∀h' tk',h'.DictOf knd s.heap.objs.size (merged [] kvs)->(∀b o,h0.get? b=some o->h'.get? b=some o)->Q (.ref s.heap.objs.size) { s with heap:=h',toks:=tk' }):wpAny (model prog w) A (call (.type "dict") [.ref z]) Q E s:=by
 refine yf (Q₁:=λobj s₁=>obj=.ref s.heap.objs.size/\s₁={ s with heap:=s.heap.push { cls:=.type "dict",data:=.dict #[] } }) F.kt_called_dict (F.kt_typeCall_dict_1 _) F.entry_dict_init (kt_code_dict_new _ ⟨rfl,rfl⟩) ?_;rintro obj s₁ ⟨rfl,rfl⟩;have hnew:(s.heap.push { cls:=.type "dict",data:=.dict #[] }).DictOf knd s.heap.objs.size []:=yV s.heap;refine⟨hnew.typeIs,F.args_dict_init_2 _ _,?_⟩;unfold Builtin.«dict.__init__»;refine za ?_;unfold Builtin.Dict.selfAndRest;refine za (wpAny_notOrdered_dict hnew.typeIs ?_);show wpAny _ _ (pure (s.heap.objs.size,[Value.ref z])) _ _ _
 refine zr ?_;show wpAny _ _ (Builtin.Dict.updateFrom "dict.__init__" s.heap.objs.size (.ref z) [] .none) _ _ _
 unfold Builtin.Dict.updateFrom;have hl1:(s.heap.push { cls:=.type "dict",data:=.dict #[] }).get? z=some _:=zf _ st.1;refine za (j7 (T:="zip") ⟨_,hl1,rfl⟩ ?_);rw[zX (by decide)];have hh2:A.in1.in1.handled=none:=by simpa using hh
 refine za (zgi hh2 hl1 λh1 tk1 k1=>?_);simp only[xx,kI];have kk:∀b o,s.heap.get? b=some o->h1.get? b=some o:=λb o e=>k1 b o (zf _ e)
 have st1:ZSt z TI TO i1 i2 P1 P2 .none 0 0 h1:=by
  obtain⟨r1,r2,⟨a,b,r3⟩,r4,r5⟩:=st;exact⟨kk _ _ r1,kk _ _ r2,⟨a,b,kk _ _ r3⟩,S1.keep r4 λo e=>kk _ _ e,S2.keep r5 λo e=>kk _ _ e⟩
 refine za (qy ?_);refine za (yG st1.1 ?_);have hd1:h1.DictOf knd s.heap.objs.size []:=by obtain⟨o,es,ep,ho,rest⟩:=hnew; exact⟨o,es,ep,k1 _ _ ho,rest⟩
 have lt:∀b∈[z,TI,TO,i1,i2],b<s.heap.objs.size:=λb hb=>by
  simp only[zb,zc,zO] at hb;obtain⟨r1,r2,⟨a,c,r3⟩,r4,r5⟩:=st;rcases hb with rfl | rfl | rfl | rfl | rfl
  .exact zB r1
  .exact zB r2
  .exact zB r3
  .obtain⟨o,e,_⟩:=S1.obj r4; exact zB e
  .obtain⟨o,e,_⟩:=S2.obj r5; exact zB e
 have hD0:h0.get? s.heap.objs.size=none:=by
  cases q:h0.get? s.heap.objs.size with
  | none=>rfl
  | some o=>exact absurd (zB (k0 _ _ q)) (jE _)
 refine zr ⟨q8 zag _,zki (h0:=h0) knd (by simpa using hh) S1 S2 ap (λm=>jE _ (lt _ m)) hD0 hw0 c1 c2 hp he hz kvs.length 0 _ _ rfl (qO _) (.inl ⟨rfl,st1⟩) hd1 (λb o e=>kk b o (k0 b o e)) λh' tk' hd' k'=>?_⟩;exact⟨rfl,h h' tk' hd' k'⟩
end
noncomputable def zipD(ws:List W):M W:=λh=>match ws with
 | [x,y]=>match zaX h x,zaX h y with
  | some l,some l'=>match keysOf (l.zip l') with
   | some ks=>if ks.length<=1000 then some (.ref h.length,h++[.dic (uA [] ks)]) else none
   | none=>none
  | _,_=>none
 | _=>none
noncomputable def zcB(ms:List ME):ME:=xK zipD ms
section
variable{X:Cx}{cl:Cl}{e1 e2:Expr}{ms:List ME}{p p2 p3 pos:Pos}
theorem zjr{K:PySem.W.Frag}{μ:List Addr}{H:Hp}:∀{l l':List W} {vs vs':List V} {ks:List (Key×W)},RWs K μ H l vs->RWs K μ H l' vs'->keysOf (l.zip l')=some ks->
  ∃ks':List (Key×V),PR K μ H ks ks'/\vs.zip vs'=ks'.map λkv=>(kV kv.1,kv.2)
 | [],_,_,_,_,.nil,_,e=>by cases e; exact⟨[],.nil,rfl⟩
 | _::_,[],_,_,_,.cons _ _,.nil,e=>by cases e; exact⟨[],.nil,rfl⟩
 | x::l,y::l',_,_,ks,.cons r t,.cons r' t',e=>by
  rw[jr] at e;unfold keysOf at e;split at e
  .rename_i k lk e4 e5
   cases e;obtain⟨ks',pr,ez⟩:=zjr t t' e5;have:=za8 r e4;subst this;exact⟨(k,_)::ks',.cons r' pr,by rw[jr,ez]; rfl⟩
  .cases e
end
def ziU{h:Heap}(c:Ctn tp a h l):a<h.objs.size:=by
 unfold Ctn at c;split at c
 .obtain⟨o,e,_⟩:=c; exact zB e
 .obtain⟨o,e,_⟩:=c; exact zB e
theorem zid:∀{xs ys:List V} {l1 l2:List Value} {ks':List (Key×V)},Vals xs l1->Vals ys l2->xs.zip ys=ks'.map (λkv=>(kV kv.1,kv.2))->
  ∃kvs:List (Key×Value),KV ks' kvs/\(∀i,(hi:i<kvs.length)->∃x,l1[i]?=some x/\(uy P w).is kvs[i].1 x=true/\l2[i]?=some kvs[i].2)/\(l1[kvs.length]?=none\/l2[kvs.length]?=none)
 | _,_,_,_,[],.nil,_,_=>⟨[],.nil,λi hi=>by simp at hi,.inl rfl⟩
 | _,_,_,_,[],.cons _ _,.nil,_=>⟨[],.nil,λi hi=>by simp at hi,.inr rfl⟩
 | _,_,_,_,[],.cons _ _,.cons _ _,e=>by simp at e
 | _,_,_,_,_::_,.nil,_,e=>by simp at e
 | _,_,_,_,_::_,.cons _ _,.nil,e=>by simp at e
 | _,_,_,_,(k,v)::ks',.cons (b:=u1) r t,.cons (b:=u2) r' t',e=>by
  rw[jr,zy] at e;injection e with e0 e1;injection e0 with e2 e3;subst e2 e3;obtain⟨kvs,q1,q2,q3⟩:=zid (P:=P) (w:=w) t t' e1;refine⟨(k,u2)::kvs,.cons ⟨rfl,r'⟩ q1,λi hi=>?_,by simpa using q3⟩;cases i with
  | zero=>exact⟨u1,rfl,zcJ r,rfl⟩
  | succ i=>
   obtain⟨x,a,b,c⟩:=q2 i (by simpa using hi);exact⟨x,by simpa using a,b,by simpa using c⟩
section
variable{X:Cx}{cl:Cl}{e1 e2:Expr}{ms:List ME}{p p2 p3 pos:Pos}
def zl3(hc:X.calm=true)(hm:X.mg "dict" = none)(hs:X.mg "zip" = none)(ha:SA X cl [e1,e2] ms)(hg:Gl X "dict")(hg2:Gl X "zip")
  (hst:starEach [e1,e2] X.env=(false,eval e1 X.env)::starEach [e2] X.env) (hpl:(backTo p3 (starEach [e2] X.env)).any (·.1)=false)
  (he2:starEach [.Call (.Name "zip" p2) [e1,e2] [] p3] X.env=(false,eval (.Call (.Name "zip" p2) [e1,e2] [] p3) X.env)::starEach [] X.env) (hpl2:(backTo pos (starEach [] X.env)).any (·.1)=false) :
  SE X cl (.Call (.Name "dict" p) [.Call (.Name "zip" p2) [e1,e2] [] p3] [] pos) (zcB ms):=by
 rintro pins s σ H Q I ⟨μ,h,ρ,w,h',R,er,e,k⟩;obtain⟨ws,h1,e1',e⟩:=xP e;have hv:bootBuiltins "zip" = some (.type "zip"):=by decide +kernel
 have hv2:bootBuiltins "dict" = some (.type "dict"):=by decide +kernel
 refine jy (zaB I hg hm hv2 ?_ (by decide) (by decide));refine jq ?_ he2 hpl2;rw[he2];show wpAny _ _ (spliced ((false,eval (.Call (.Name "zip" p2) [e1,e2] [] p3) X.env)::backTo pos (starEach [] X.env))) _ _ s
 have h0:∀{q:Pos},backTo q (starEach [] X.env)=[]:=λ{q}=>rfl
 rw[h0];refine qF ?_;refine jy (zaB I hg2 hs hv ?_ (by decide) (by decide));refine jq (thn (ha p3 pins s σ H (λvs H1=>∃μ1,Ext μ H μ1 H1/\HR X.K cl μ1 H1 h1/\RWs X.K μ1 H1 ws vs) I ⟨μ,h,ρ,ws,h1,R,er,e1',λμ1 H1 vs E1 R1 rs=>⟨μ1,E1,R1,rs⟩⟩) λus s1 ⟨vs,H1,I1,r1,μ1,E1,R1,rs⟩=>?_) hst hpl;unfold zipD at e;split at e
 .rename_i x y
  split at e
  .rename_i l l' q1 q2
   split at e
   .rename_i ks ek
    split at e
    .rename_i hlen
     cases e;cases rs with | cons rx t=>cases t with | cons ry t=>cases t with | nil=>
     obtain⟨t1,a1,xs,rfl,ra1,d1,f1⟩:=zbX (cl:=cl) rx q1;obtain⟨t2,a2,ys,rfl,ra2,d2,f2⟩:=zbX (cl:=cl) ry q2;obtain⟨u1,u2,rfl,ru1,ru2⟩:=vals2 r1;cases ru1;cases ru2;obtain⟨l1,v1,c1⟩:=zaL I1 d1;obtain⟨l2,v2,c2⟩:=zaL I1 d2;obtain⟨ks',pr,ez⟩:=zjr ra1 ra2 ek;obtain⟨kvs,kv,hp,he⟩:=zid (P:=X.prog) (w:=X.w) v1 v2 ez;have n1:=ziU c1;have n2:=ziU c2;refine zfM (zeT t1 a1 l1) (zeT t2 a2 l2) c1 ((zac t2 0 a2).keepC c2 λo e=>zf _ e) (zca t1 a1) (zca t2 a2) λh2 b5 b3 b4 b1 b2 kp=>?_
     have nd:[s1.heap.objs.size+4,s1.heap.objs.size+2,s1.heap.objs.size+3,s1.heap.objs.size,s1.heap.objs.size+1].Nodup:=by
      simp only[jz,zb,zc,zO,j8,vN,and_true,not_false_eq_true];omega
     have ge:∀b∈[s1.heap.objs.size+4,s1.heap.objs.size+2,s1.heap.objs.size+3,s1.heap.objs.size,s1.heap.objs.size+1],s1.heap.objs.size<=b:=λb hb=>by
      simp only[zb,zc,zO] at hb;rcases hb with rfl | rfl | rfl | rfl | rfl<;>omega
     have hkl:ks'.length=kvs.length:=kv.length;refine vB (zeP (s:={ s1 with heap:=h2 }) (h0:=s1.heap) (uy X.prog X.w) (I1.ok.hd hc) (zac t1 _ a1) (zac t2 _ a2) ⟨nd,λm=>jE _ (zM n1 (ge _ m)),λm=>jE _ (zM n2 (ge _ m))⟩ ⟨b5,b3,⟨_,_,b4⟩,zcT b1,zcT b2⟩ kp (λb hb=>vM (ge b hb)) c1 c2 hp he (by rw[<-hkl,<-pr.len]; exact hlen) λh3 tk dd kp3=>?_);have rel:KV (zau [] ks') (merged [] kvs):=kv.merge .nil;have hz:(zau [] ks').length<=sizeLine:=by
      have h1:=za9 ks' [];rw[zP] at h1;rw[vq];have:=pr.len;omega
     have le:s1.heap.objs.size<=h2.objs.size:=zQ (Nat.le_add_right _ 4) (wu (zB b5));have big:h2.objs.size≠sysModules:=kY (zW (zM I1.big le));exact⟨.ref _,_,I1.laid (a:=h2.objs.size) (o:=.dK (zau [] ks')) (t':=tk) kp3 le (zdx hz (jt.mpr big) rel dd),rfl,KQ.dic (k.ext E1) R1 (pr.merge .nil) (I1.hok.fresh le)⟩
    .cases e
   .cases e
  .cases e
 .cases e
end
noncomputable def noStar:Expr->Bool
 | .Starred ..=>false
 | _=>true
noncomputable def zcq:Expr->Bool
 | .ListComp ..=>false
 | .SetComp ..=>false
 | .DictComp ..=>false
 | _=>true
noncomputable def zeY:Expr->Bool
 | .Set ..=>false
 | _=>true
noncomputable def zkU:Expr->Bool
 | .Tuple ..=>false
 | _=>true
noncomputable def zbi:Expr->Bool
 | .Slice ..=>false
 | _=>true
noncomputable def plainT:Expr->Bool
 | .UnaryOp ..=>false
 | .BoolOp ..=>false
 | .IfExp ..=>false
 | .Compare ..=>false
 | _=>true
noncomputable def zfs:Expr->Bool
 | .Call ..=>false
 | _=>true
section
variable{e tg o:Expr}{es:List Expr}{env:Env}{pos:Pos}
def xY(h:noStar e=true):starEach (e::es) env=(false,eval e env)::starEach es env:=by
 cases e<;>first | (cases h; done) | kernel_rfl
theorem zb1:starEach [] env=[]:=by kernel_rfl
theorem zby(h:noStar e=true):backTo pos (starEach (e::es) env)=(false,eval e env)::backTo pos (starEach es env):=by
 rw[xY h]; rfl
theorem ur:∀{es:List Expr},es.all noStar=true->(backTo pos (starEach es env)).any (·.1)=false
 | [],_=>by rw[zb1]; rfl
 | e::es,h=>by
  rw[ju,zx] at h;rw[zby h.1,v7,ur h.2];rfl
theorem ze5:∀{es:List Expr},es.all noStar=true->(backTo pos (starEach es env)).all (λx=>!x.1)=true
 | [],_=>by rw[zb1]; rfl
 | e::es,h=>by
  rw[ju,zx] at h;rw[zby h.1,ju,ze5 h.2];rfl
def zcy(h:es.all noStar=true)(hl:decide (es.length<30)=true):((backTo pos (starEach es env)).all (λx=>!x.1)&&(backToKw pos (keywordEach [] env)).all (λx=>x.1.isSome)
   && decide (es.length+([]:List Keyword).length+(if ([]:List Keyword).isEmpty then 0 else 1)<30))=true:=by
 rw[ze5 h];have:(keywordEach [] env)=[]:=by kernel_rfl
 rw[this];simpa[backToKw] using hl
theorem zb9(h:zcq e=true):swapsWith e t l env=pure false:=by
 cases e<;>first | (cases h; done) | rfl
theorem zhx(h:zkU e=true):swappedStores [.Tuple ts n p] e env=pure none:=by
 cases e<;>first | (cases h; done) | rfl
def zaz(h:noStar e=true):assignEach (e::es) env=(false,assign e env)::assignEach es env:=by
 cases e<;>first | (cases h; done) | kernel_rfl
theorem zba:assignEach [] env=[]:=by kernel_rfl
theorem zdB:∀{es:List Expr},es.all noStar=true->(assignEach es env).length=es.length
 | [],_=>by rw[zba]; rfl
 | e::es,h=>by
  rw[ju,zx] at h;rw[zaz h.1,zm,zdB h.2];rfl
theorem zc2:∀{es:List Expr},es.all noStar=true->(assignEach es env).findIdx? (·.1)=none
 | [],_=>by rw[zba]; rfl
 | e::es,h=>by
  rw[ju,zx] at h;rw[zaz h.1,List.findIdx?_cons,zc2 h.2];rfl
theorem za6(h:zeY e=true):∀x,foldedSetIterable e env x=pure x:=by
 intro x;cases e<;>first | (cases h; done) | rfl
theorem zaS(h:zfs o=true):attributeBase o a env whole=whole:=by
 cases o<;>first | (cases h; done) | rfl
def zkl(h:plainT e=true):∀whole,isTrue e env whole=(do let v <-whole; standAt e.pos; holding [v] (truthy v)):=by
 intro whole;cases e<;>first | (cases h; done) | kernel_rfl
theorem zeZ(h:zbi e=true):zaR e:=by
 intro o i;cases e<;>first | (cases h; done) | rfl
end
structure RC where
 sc:Scope
 N:List Str
 inC:Bool
 fns:List (Str×(List W->M W))
 con:List (Str×W)
 tab:List (Str×List (Str×W))
 bin:List Str
 own:List Str
 txt:List Str
 cmp:List ((Nat×Nat)×List Str)
 dic:List Str
 fld:List (Nat×List Str)
 mt:MTab
 mks:List (Str×(Nat×(List W->M W)))
 mka:List (Nat×Nat)
 way:List (Str×List (Str×(List W->M W)))
noncomputable def FnAt(P:Program)(w:World)(K:PySem.W.Frag)(mg:Str->Option Value)(base:Heap)(cl:Cl)(k:Nat)(x:Str)(g:List W->M W):Prop:=
 ∃f fd ps,FnOk P w K mg base CX0 k f fd ps (spM K cl g)/\mg x=some (.ref f)/\PySem.W.keepIn K (.ref f)=true/\Binds K fd ps []
noncomputable def AllOf{α:Type}(P:Str->α->Prop):List (Str×α)->Prop
 | []=>True
 | (x,g)::r=>P x g/\AllOf P r
theorem AllOf.at{α:Type}{P:Str->α->Prop}{x:Str}{g:α}:∀{l:List (Str×α)},AllOf P l->l.lookup x=some g->P x g
 | [],_,e=>by cases e
 | (y,g')::r,h,e=>by
  rw[kJ] at e;cases q:x==y with
  | true=>rw[q] at e; cases e; rw[eq_of_beq q]; exact h.1
  | false=>rw[q] at e; exact AllOf.at h.2 e
noncomputable def AllNone(mg:Str->Option Value):List Str->Prop
 | []=>True
 | x::r=>mg x=none/\AllNone mg r
theorem AllNone.at:∀{l:List Str},AllNone mg l->x∈l->mg x=none
 | y::r,h,e=>by
  rcases zb.mp e with rfl | e
  .exact h.1
  .exact AllNone.at h.2 e
structure BaseOk(P:Program)(w:World)(K:PySem.W.Frag)(mg:Str->Option Value)(base:Heap)(cl:Cl)(k:Nat)(Γ:RC):Prop where
 fns:AllOf (FnAt P w K mg base cl k) Γ.fns
 con:AllOf (Glob K mg) Γ.con
 tab:AllOf (TabOk K w.params mg) Γ.tab
 bin:AllNone mg Γ.bin
 pw:cl.P=P/\cl.w=w
 cls:zbx K cl Γ.fld
 mts:∀c m g,Γ.mt.lookup (c,m)=some g->MtAt P w K mg base cl k c m g
 mks:AllOf (λx p=>MkOk P w K mg base cl k x p.1 p.2) Γ.mks
 way:AllOf (zhq P w K mg base cl k) Γ.way
structure Fits(Γ:RC)(cl:Cl)(k:Nat)(X:Cx):Prop where
 sc:X.env.scope=Γ.sc
 N:X.N=Γ.N
 nd:X.N.Nodup
 fn:Γ.inC=false->∀x,X.fn x=true
 kind:Γ.sc.kind=.function
 calm:X.calm=true
 pass:PassesOwn (model X.prog X.w) X.A X.env X.xe
 room:Room k X.A
 base:BaseOk X.prog X.w X.K X.mg X.base cl k Γ
noncomputable def ixOf(x:Str):List Str->Option Nat
 | []=>none
 | y::r=>if y==x then some 0 else (ixOf x r).map (· + 1)
noncomputable def zhU(Γ:RC)(x:Str):Option ME:=match ixOf x Γ.N with
 | some i=>if varB Γ.sc Γ.N i x=true then some (eVar i) else none
 | none=>match Γ.con.lookup x with
  | some w=>if glB Γ.sc x=true then some (eC w) else none
  | none=>none
noncomputable def zfI:Const->Option ME
 | .none=>some (eC .non)
 | .bool b=>some (eC (.bl b))
 | .int i=>some (eC (.int i))
 | .str x=>some (eC (.str x))
 | _=>none
noncomputable def opB(mu:Bool):Operator->Option (W->W->M W)
 | .Add=>some addW
 | .Sub=>some subW
 | .Mult=>some mulW
 | .Mod=>some modW
 | .FloorDiv=>some divW
 | _=>none
noncomputable def opC:CmpOp->Option (W->W->M W)
 | .Eq=>some (eqW false)
 | .NotEq=>some (eqW true)
 | .In=>some (inW false)
 | .NotIn=>none
 | .Lt=>some ltW
 | .LtE=>some leW
 | .Gt=>some gtW
 | .GtE=>none
 | .Is=>some (uY true)
 | .IsNot=>some (uY false)
noncomputable def xTg1(Γ:RC):Expr->Option MG
 | .Name x _=>match ixOf x Γ.N with
  | some i=>match Γ.inC with
   | true=>if setC Γ.sc Γ.N i x=true then some (gNm i) else none
   | false=>if setB Γ.sc Γ.N i x=true then some (gNm i) else none
  | none=>none
 | _=>none
noncomputable def xTg(Γ:RC):Expr->Option MG
 | .Tuple es _ _=>if es.all noStar=true then (mapO (xTg1 Γ) es).map gTp else none
 | e=>xTg1 Γ e
noncomputable def tgN:Expr->Nat
 | .Tuple es _ _=>es.length
 | _=>1
section
variable{Γ:RC}{cl:Cl}{k:Nat}{X:Cx}{x:Str}{m:ME}{pos:Pos}
def zjU(F:Fits Γ cl k X)(h:zhU Γ x=some m):SE X cl (.Name x pos) m:=by
 unfold zhU at h;split at h
 .split at h
  .rename_i i _ q
   cases h;exact v_ q F.sc F.N
  .cases h
 .split at h
  .rename_i w e
   split at h
   .rename_i q
    cases h;exact gb_ q (F.base.con.at e) F.sc
   .cases h
  .cases h
def zif{c:Const}(h:zfI c=some m):SE X cl (.Constant c j pos) m:=by
 unfold zfI at h;split at h
 .cases h; exact zot
 .cases h; exact zpC
 .cases h; exact zno
 .cases h; exact zoA
 .cases h
def zom{f:W->W->M W}(h:opB mu op=some f):OpR X (binaryOp op) (rM X.K cl f):=by
 unfold opB at h;split at h
 .cases h; exact zmD
 .cases h; exact zmK
 .cases h; exact zl1
 .cases h; exact zmm
 .cases h; exact zlB
 .cases h
def zbJ{f:W->W->M W}(hu:X.A.units+64<cLine)(h:opC op=some f):OpR X (compareOp op) (rM X.K cl f):=by
 cases op<;>cases h
 .exact zod hu
 .exact zoh hu
 .exact zoL
 .exact zm7
 .exact znJ
 .exact znV
 .exact zh7
 .exact znz hu
def zgy(F:Fits Γ cl k X)(h:xTg1 Γ e=some g):SG X cl e g:=by
 unfold xTg1 at h;split at h
 .rename_i x p
  split at h
  .rename_i i _
   split at h
   .split at h
    .rename_i q
     cases h;exact gc_ q (F.N▸F.nd) F.sc F.N
    .cases h
   .rename_i c
    split at h
    .rename_i q
     cases h;exact g_ q (F.N▸F.nd) F.sc F.N (F.fn c _)
    .cases h
  .cases h
 .cases h
def zcx{α β:Type}{f:α->Option β}{x:α}{r:List α}{ys:List β}(h:mapO f (x::r)=some ys):∃y zs,f x=some y/\mapO f r=some zs/\ys=y::zs:=by
 unfold mapO at h;split at h
 .rename_i y zs e1 e2
  cases h;exact⟨y,zs,e1,e2,rfl⟩
 .cases h
theorem zgU(F:Fits Γ cl k X):∀{es:List Expr} {gs:List MG},es.all noStar=true->mapO (xTg1 Γ) es=some gs->SGs X cl es gs
 | [],gs,_,h=>by cases h; exact zmk
 | e::es,gs,hn,h=>by
  obtain⟨g,gs',h1,h2,rfl⟩:=zcx h;rw[ju,zx] at hn;exact zjR (zgy F h1) (zgU F hn.2 h2) (by rw[zaz hn.1]; rfl)
theorem zf2{α β:Type}{f:α->Option β}:∀{l:List α} {ys:List β},mapO f l=some ys->ys.length=l.length
 | [],ys,h=>by cases h; rfl
 | x::r,ys,h=>by
  obtain⟨y,zs,_,h2,rfl⟩:=zcx h;rw[zm,zm,zf2 h2]
def zfF(F:Fits Γ cl k X)(h:xTg Γ e=some g):SG X cl e g:=by
 unfold xTg at h;split at h
 .rename_i es n p
  split at h
  .rename_i hn
   rw[zg] at h;obtain⟨gs,h1,rfl⟩:=h;exact znW F.calm (zgU F hn h1) (by rw[zdB hn,zf2 h1]) (zc2 hn)
  .cases h
 .exact zgy F h
end
end ML
namespace ML
open PySem PySem.W PySem.Spec PyProof.Rows L2
section
variable{prog:Program}{w:World}{A:Around}{E:Value->Shared->Prop}{s:Shared}{r l:Addr}{items:Array Value}
def zdt{α:Type}{c:Bool}{X Y:Sem α}{Q:α->Shared->Prop}(hc:c=false)(h:wpAny (model prog w) A Y Q E s):wpAny (model prog w) A (if c=true then X else Y) Q E s:=by
 rw[hc,kO (by simp)]; exact h
def zou{α:Type}{c:Bool}{X Y:Sem α}{Q:α->Shared->Prop}(hc:c=true)(h:wpAny (model prog w) A X Q E s):wpAny (model prog w) A (if c=true then X else Y) Q E s:=by
 rw[hc,zX rfl]; exact h
def zlw:typeLookup (.type "list_reverseiterator") "__len__" = pure none:=by rw[qm,jM]; kernel_rfl
def zjW:typeLookup (.type "list_reverseiterator") "__length_hint__" = pure (some (.builtin "list_reverseiterator.__length_hint__")):=by rw[qm,jM]; kernel_rfl
def zkk(hT:s.TypeIs (.ref r) "list_reverseiterator")(h:Q false s):wpAny (model prog w) A (Builtin.List.listLengthHint (.ref r)) Q E s:=by
 unfold Builtin.List.listLengthHint;refine za (vQ hT zlw ?_);dsimp only;refine zdt ⋯ ?_;refine zdt ⋯ ?_;refine wpAny_bind (wpAny_specialOf hT zjW ?_);dsimp only;generalize hid:("list_reverseiterator.__length_hint__":String)=idl;rw[show splitId idl=some ("list_reverseiterator","__length_hint__") from by subst hid; decide +kernel];subst hid;dsimp only;refine wpAny_bind (wpAny_isInstance (b:=true) hT (by rw[isSubtype_type]; kernel_rfl) ?_);rw[kO (by decide)];refine zou ⋯ ?_;refine zdt ⋯ ?_;exact zr h
def zhM(hh:A.handled=none)(hit:s.heap.IsRevIter r l ((items.size:Int)-1))(hl:s.heap.IsList l items)(hne:l≠r)(S:Addr)(hSr:S≠r)(hSl:S≠l)(c0:Nat)(hS:s.heap.get? S=some { cls:=.type "list",data:=.seq #[] c0 })(hn:items.size<=sizeLine)
  (hR:∀h' tk c',(∀b o,b≠S->b≠r->s.heap.get? b=some o->h'.get? b=some o)->h'.get? S=some { cls:=.type "list",dict:=none,data:=.seq items.reverse c',slots:=#[] }->R (.ok (.ret .none)) { s with heap:=h',toks:=tk }) :
  wpAny (model prog w) A.in1 (Builtin.List.listExtendWith (.ref S) (.ref r) .none)
   (λfin s'=>match fin with | .done f=>R (.ok f) s' | .again c'=>c'.quiet=true/\codeAny (model prog w) A c' R s') (λe s'=>R (.error e) s') s:=by
 have hSf:S∉[r,l]:=by simp only[zb,zc,zO,j8]; exact⟨hSr,hSl⟩
 have W:=Walks.listRev (prog:=prog) (w:=w) (A:=A.in1) hh r l hne items;have e0:(items.size:Int)-1-((0:Nat):Int)=(items.size:Int)-1:=by omega
 have key:∀(h:Heap) (c1:Nat),h.IsRevIter r l ((items.size:Int)-1)->h.IsList l items->(∀b o,b≠S->b≠r->s.heap.get? b=some o->h.get? b=some o)->
   h.get? S=some { cls:=.type "list",data:=.seq #[] c1 }->codeAny (model prog w) A (.builtin "list.extend.loop" ⟨[.ref S,.ref r,.none],[]⟩) R { s with heap:=h }:=by
  intro h c1 q1 q2 hk hS1;refine codeAny_extend_loopS W.toS hn S hSf .none items.size 0 _ #[] c1 rfl (qO _) ⟨qO _,by rw[e0]; exact q1,q2⟩ hS1 (ItemsOf.nil _) λs' acc' c' hm hS' hacc=>?_
  rw[Moved.eq_with hm];have er:acc'=items.reverse:=by
   apply Array.ext
   .rw[hacc.1,Array.size_reverse]
   .intro j a1 a2
    have:items[items.size-1-j]?=some acc'[j]:=hacc.2 j acc'[j] (by simp[a1]);rw[Array.getElem_reverse];rw[Array.getElem?_eq_getElem (by rw[hacc.1] at a1; omega)] at this;exact(kj this).symm
  subst er;refine hR s'.heap s'.toks c' (λb o hb hb2 e=>hm.heap b o (λhmem=>?_) (hk b o hb hb2 e)) hS';rcases zb.mp hmem with e' | hmem
  .exact hb e'
  .exact hb2 (List.mem_singleton.mp hmem)
 unfold Builtin.List.listExtendWith;refine za (j7 hit.typeIs ?_);have h1:Builtin.List.listSameRef (.ref S) (.ref r)=false:=by simp[Builtin.List.listSameRef,hSr]
 refine zdt (by rw[h1]; rfl) ?_;refine za (wpAny_pyIter_revIter hit ?_);refine za (jc (zkk hit.typeIs ?_));refine wpAny_ite_split (λ_=>?_) (λ_=>zr ⟨q8 yz _,key s.heap c0 hit hl (λb o _ _ e=>e) hS⟩);refine za (qy ?_);refine za ?_;show wpAny _ _ (updateSeq S (·.push .none) >>= λ_=>updateSeq S (·.pop)) _ _ _
 refine za (vP hS rfl ?_);have hS2:=jP (Obj.mapSeq (·.push Value.none)) hS rfl;refine vP hS2 rfl ?_;have hS3:=jP (Obj.mapSeq (·.pop)) hS2 rfl;have oth:∀b o,b≠S->s.heap.get? b=some o->((s.heap.update S (Obj.mapSeq (·.push Value.none))).update S (Obj.mapSeq (·.pop))).get? b=some o:=λb o hb e=>(qC _ _ (kY hb)).trans ((qC _ _ (kY hb)).trans e)
 exact zr ⟨q8 yz _,key _ _ (hit.at λo e=>oth _ _ (kY hSr) e) (hl.at λo e=>oth _ _ (kY hSl) e) (λb o hb _ e=>oth b o hb e) hS3⟩
def zjI(hh:A.handled=none)(hit:s.heap.IsRevIter r l ((items.size:Int)-1))(hl:s.heap.IsList l items)(hne:l≠r)(hn:items.size<=sizeLine)
  (hQ:∀h' tk c',(∀b o,b≠r->s.heap.get? b=some o->h'.get? b=some o)->h'.get? s.heap.objs.size=some { cls:=.type "list",dict:=none,data:=.seq items.reverse c',slots:=#[] }->Q (.ref s.heap.objs.size) { s with heap:=h',toks:=tk }) :
  wpAny (model prog w) A (call (.type "list") [.ref r]) Q E s:=by
 have ltr:r<s.heap.objs.size:=by obtain⟨o,e,_⟩:=hit; exact zB e
 have ltl:l<s.heap.objs.size:=by obtain⟨o,e,_⟩:=hl; exact zB e
 refine yf (Q₁:=λobj s1=>obj=.ref s.heap.objs.size/\s1={ s with heap:=s.heap.push { cls:=.type "list",data:=.seq #[] } }) PySem.F.called_list (PySem.F.typeCall_list_1 _) PySem.F.entry_list_init (code_list_new _ ⟨rfl,rfl⟩) λobj s1 h1=>?_
 obtain⟨rfl,rfl⟩:=h1;have hS:(s.heap.push { cls:=.type "list",data:=.seq #[] }).get? s.heap.objs.size=some { cls:=.type "list",data:=.seq #[] }:=zT _ rfl;refine⟨⟨_,hS,rfl⟩,PySem.F.args_list_init_2 _ _,?_⟩;show wpAny _ _ (do let old <-Builtin.List.listItems (.ref s.heap.objs.size); Builtin.List.listUpdate (.ref s.heap.objs.size) (λ_=>#[]); letGo old.toList.reverse; Builtin.List.listExtendWith (.ref s.heap.objs.size) (.ref r) .none) _ _ _
 refine za ?_;unfold Builtin.List.listItems;refine za (jJ hS rfl (zr ?_));show wpAny _ _ (updateSeq s.heap.objs.size (λ_=>#[]) >>= λ_=>letGo (#[]:Array Value).toList.reverse >>= λ_=>Builtin.List.listExtendWith (.ref s.heap.objs.size) (.ref r) .none) _ _ _
 refine za (vP hS rfl ?_);have hS2:=jP (Obj.mapSeq (λ_=>(#[]:Array Value))) hS rfl;have oth:∀b o,b≠s.heap.objs.size->s.heap.get? b=some o->((s.heap.push { cls:=.type "list",data:=.seq #[] }).update s.heap.objs.size (Obj.mapSeq (λ_=>(#[]:Array Value)))).get? b=some o:=
  λb o hb e=>(qC _ _ (kY hb)).trans (zf _ e)
 refine za (yQ ?_);refine zhM (A:=A.in1) hh (hit.at λo e=>oth _ _ (zW ltr) e) (hl.at λo e=>oth _ _ (zW ltl) e) hne _ (qj ltr) (qj ltl) _ hS2 hn λh' tk c' hk hS'=>?_
 exact⟨rfl,hQ h' tk c' (λb o hb e=>hk b o (zW (zB e)) hb (oth b o (zW (zB e)) e)) hS'⟩
end
noncomputable def revL(w:W):M W:=λh=>(getL h w).bind λl=>if l.length<=1000 then some (.fls l.reverse,h) else none
theorem RWs.rev{K:PySem.W.Frag}{μ:List Addr}{H:Hp}:∀{l:List W} {vs:List V},RWs K μ H l vs->RWs K μ H l.reverse vs.reverse
 | _,_,.nil=>.nil
 | _,_,.cons r rs=>by
  rw[qX,qX];exact(RWs.rev rs).append (.cons r .nil)
theorem zf4:∀{vs:List V} {us:List Value},Vals vs us->Vals vs.reverse us.reverse
 | _,_,.nil=>.nil
 | _,_,.cons r rs=>by
  rw[qX,qX];exact(zf4 rs).append (.cons r .nil)
section
variable{X:Cx}{cl:Cl}{a:Expr}{ma:ME}{p p2 p3 pos:Pos}
def zmz(hc:X.calm=true)(hl:X.mg "list" = none)(hs:X.mg "reversed" = none)(ha:SE X cl a ma)(hg:Gl X "list")(hg2:Gl X "reversed")
  (he1:starEach [a] X.env=(false,eval a X.env)::starEach [] X.env) (hpl1:(backTo p3 (starEach [] X.env)).any (·.1)=false)
  (he2:starEach [.Call (.Name "reversed" p2) [a] [] p3] X.env=(false,eval (.Call (.Name "reversed" p2) [a] [] p3) X.env)::starEach [] X.env) (hpl2:(backTo pos (starEach [] X.env)).any (·.1)=false) :
  SE X cl (.Call (.Name "list" p) [.Call (.Name "reversed" p2) [a] [] p3] [] pos) (eUn revL ma):=by
 rintro pins s σ H Q I ⟨μ,h,ρ,w,h',R,er,e,k⟩;obtain⟨x,h1,e1,e⟩:=xP e;have hv:bootBuiltins "reversed" = some (.type "reversed"):=by decide +kernel
 have hv2:bootBuiltins "list" = some (.type "list"):=by decide +kernel
 refine jy (zaB I hg hl hv2 ?_ (by decide) (by decide));refine jq ?_ he2 hpl2;rw[he2];show wpAny _ _ (spliced ((false,eval (.Call (.Name "reversed" p2) [a] [] p3) X.env)::backTo pos (starEach [] X.env))) _ _ s
 have h0:∀{q:Pos},backTo q (starEach [] X.env)=[]:=λ{q}=>rfl
 rw[h0];refine qF ?_;refine jy (zaB I hg2 hs hv ?_ (by decide) (by decide));refine jq ?_ he1 hpl1;rw[he1];show wpAny _ _ (spliced ((false,eval a X.env)::backTo p3 (starEach [] X.env))) _ _ s
 rw[h0];refine qF (thn (ha pins s σ H (λv H1=>∃μ1,Ext μ H μ1 H1/\HR X.K cl μ1 H1 h1/\RW X.K μ1 H1 x v) I ⟨μ,h,ρ,x,h1,R,er,e1,λμ1 H1 v E1 R1 r=>⟨μ1,E1,R1,r⟩⟩) λu s1 ⟨v,H1,I1,r1,μ1,E1,R1,rv⟩=>vB ?_);obtain⟨l,el,e⟩:=zp.mp (show(getL h1 x).bind _=some (w,h') from e);by_cases ok:l.length<=1000
 .rw[zX ok] at e
  cases e;obtain⟨d,vs,rfl,sq,ra⟩:=u6 R1 rv el;cases r1;obtain⟨its,rvs,⟨o,n,g1,g2,g3,g4⟩,_⟩:=I1.list sq;have hl1:s1.heap.IsList d its.toArray:=⟨o,g1,g2,n,g4⟩;have lt:d<s1.heap.objs.size:=zB g1;have lenI:its.length=l.length:=by rw[<-rvs.length,ra.length]
  refine call_reversed_list hl1 ?_;have keep1:∀b ob,s1.heap.get? b=some ob->(s1.heap.push (revObj d ((its.toArray.size:Int)-1))).get? b=some ob:=λb ob q=>zf _ q
  refine vB (zjI (s:={ s1 with heap:=s1.heap.push (revObj d ((its.toArray.size:Int)-1)) }) (items:=its.toArray) (I1.ok.hd hc) ⟨_,zT _ rfl,rfl,rfl⟩ (hl1.push _) (zW lt) (by simp[vq]; omega) λh2 tk c' kp ob=>?_);have sz:(s1.heap.push (revObj d ((its.toArray.size:Int)-1))).objs.size=s1.heap.objs.size+1:=j9 ..;have keep2:∀b ob,s1.heap.get? b=some ob->h2.get? b=some ob:=λb ob q=>kp b ob (zW (zB q)) (keep1 b ob q)
  have le1:s1.heap.objs.size<=(s1.heap.push (revObj d ((its.toArray.size:Int)-1))).objs.size:=by rw[sz]; exact vC _
  have q2:=zf4 rvs;refine⟨.ref _,_,I1.laid (o:=.lst vs.reverse) (t':=tk) keep2 le1 ⟨by rw[j4,rvs.length,lenI,vq]; omega,_,c',q2,by simpa using ob⟩,rfl,?_⟩;exact KQ.fls (k.ext E1) R1 ra.rev (I1.hok.fresh le1)
 .rw[kO ok] at e; cases e
end
end ML
namespace ML
open PySem PySem.Spec PyProof.Rows L2
noncomputable def zbg(E:Expr->Option ME)(es:List Expr):Option (List ME):=if es.all noStar=true then mapO E es else none
noncomputable def zaV(Γ:RC)(x:Str):Bool:=Γ.bin.any (· == x)
noncomputable def tyOf(x:Str):Option Ty:=if x=="tuple" then some .tuple else none
noncomputable def zde(mu:Bool)(x:Str):Option (List W->M W):=
 if x=="len" then some lenW else if x=="sum" then some sumW
 else if x=="tuple" then some zay else if x=="dict" then (match mu with
  | true=>some zdT
  | false=>some zcU)
 else if x=="list" then some zce
 else none
noncomputable def zf8:List Expr->Option Expr
 | [.Call (.Name y _) [a] [] _]=>if y=="reversed" then some a else none
 | _=>none
noncomputable def zfG:List Expr->Option (Expr×Expr)
 | [.Call (.Name y _) [a,b] [] _]=>if y=="zip" then some (a,b) else none
 | _=>none
noncomputable def zfX(Γ:RC):List Expr->Option (Expr×Ty)
 | [a,.Name y _]=>if (glB Γ.sc y&&zaV Γ y&&noStar a)=true then (tyOf y).map λT=>(a,T) else none
 | _=>none
noncomputable def zfd(Γ:RC)(E:Expr->Option ME)(mu:Bool)(x:Str)(as:List Expr):Option ME:=
 if x=="isinstance" then (zfX Γ as).bind λp=>(E p.1).map (eUn (isW p.2))
 else match as with
  | []=>none
  | _::_=>(zde mu x).bind λg=>(zbg E as).map (xK g)
noncomputable def zfm(Γ:RC)(E:Expr->Option ME)(mu:Bool)(x:Str)(as:List Expr):Option ME:=
 if glB Γ.sc x=true then (match Γ.fns.lookup x with
  | some g=>(zbg E as).map (xK g)
  | none=>if zaV Γ x=true then (match zf8 as with
    | some a=>if (x=="list" && glB Γ.sc "reversed" && zaV Γ "reversed" && noStar a)=true then (E a).map (eUn revL) else none
    | none=>(match zfG as with
     | some p=>if (x=="dict" && glB Γ.sc "zip" && zaV Γ "zip" && noStar p.1&&noStar p.2)=true then (E p.1).bind λm=>(E p.2).map λm2=>zcB [m,m2] else none
     | none=>zfd Γ E mu x as)) else (match Γ.mks.lookup x,as with
    | some p,_::_=>(zbg E as).map (zam p.1 p.2)
    | _,_=>none)) else none
noncomputable def isOwn(Γ:RC)(m:Str):Bool:=Γ.mt.any λp=>p.1.2==m
noncomputable def zhi(Γ:RC)(E EM:Expr->Option ME)(o:Expr)(m:Str)(apos:Pos)(as:List Expr)(pos:Pos):Option ME:=
 if (zfs o&&(apos.endLine==pos.line)&&as.all noStar&&decide (as.length<30))=true then (E o).bind λmo=>if isOwn Γ m=true then (mapO E as).map (xQ Γ.mt m mo) else match as with
  | []=>if m=="pop" then some (xX popM mo []) else none
  | a::r=>if m=="append" then (mapO EM (a::r)).map (xX ut mo)
   else if m=="extend" then (mapO E (a::r)).map (xX zaT mo)
   else if m=="get" then (match r with
    | [b]=>(E a).bind λma=>(E b).map (zdq mo ma)
    | _=>none)
   else none
 else none
section
variable{Γ:RC}{cl:Cl}{k:Nat}{X:Cx}{x:Str}{m:ME}{pos p:Pos}{E:Expr->Option ME}{as:List Expr}{mu:Bool}
theorem za3:∀{es:List Expr} {ms:List ME},(∀e m,E e=some m->SE X cl e m)->es.all noStar=true->mapO E es=some ms->SA X cl es ms
 | [],ms,_,_,h=>by cases h; exact zcr
 | e::es,ms,hE,hn,h=>by
  obtain⟨m,ms',h1,h2,rfl⟩:=zcx h;rw[ju,zx] at hn;exact zaU (hE _ _ h1) (za3 hE hn.2 h2) (xY hn.1)
def zaG{es:List Expr}(hE:∀e m,E e=some m->SE X cl e m)(h:zbg E es=some ms):es.all noStar=true/\SA X cl es ms:=by
 unfold zbg at h;split at h
 .rename_i hn
  exact⟨hn,za3 hE hn h⟩
 .cases h
def zaA(F:Fits Γ cl k X)(h:zaV Γ x=true):X.mg x=none:=by
 unfold zaV at h;obtain⟨y,hy,e⟩:=qt.mp h;rw[<-eq_of_beq e];exact F.base.bin.at hy
def zlu{T:Ty}(h:tyOf x=some T):bootBuiltins x=some (.type T.name):=by
 unfold tyOf at h;split at h
 .rename_i q; rw[eq_of_beq q]; cases h; exact zeI
 .cases h
def zgk(F:Fits Γ cl k X)(hg:glB Γ.sc x=true)(hb:zaV Γ x=true)(h:zde mu x=some g)(hn:(e::es).all noStar=true)(ha:SA X cl (e::es) ms):SE X cl (.Call (.Name x p) (e::es) [] pos) (xK g ms):=by
 have hm:=zaA F hb;rw[ju,zx] at hn;have h1:=xY (es:=es) (env:=X.env) hn.1;have h2:=ur (pos:=pos) (env:=X.env) hn.2;unfold zde at h;split at h
 .rename_i q; have q:=eq_of_beq q; subst q; cases h; exact cB_ hg ziA hm PySem.boot_len ha F.sc h1 h2
 split at h
 .rename_i q; have q:=eq_of_beq q; subst q; cases h; exact cB_ hg (ziH F.calm) hm ML.boot_sum ha F.sc h1 h2
 split at h
 .rename_i q; have q:=eq_of_beq q; subst q; cases h; exact cT_ hg zgq hm zeI ha F.sc h1 h2
 split at h
 .rename_i q; have q:=eq_of_beq q; subst q
  split at h
  .cases h; exact cT_ hg zhg hm zfP ha F.sc h1 h2
  .cases h; exact cT_ hg (zhH F.calm) hm zfP ha F.sc h1 h2
 split at h
 .rename_i q; have q:=eq_of_beq q; subst q; cases h; exact cT_ hg zhy hm zkr ha F.sc h1 h2
 .cases h
def zjd{T:Ty}(h:zfX Γ as=some (a,T)):∃y p2,as=[a,.Name y p2]/\glB Γ.sc y=true/\zaV Γ y=true/\noStar a=true/\tyOf y=some T:=by
 unfold zfX at h;split at h
 .rename_i a' y p2
  split at h
  .rename_i q
   rw[zg] at h;obtain⟨T',e,z⟩:=h;cases z;simp only[zx] at q;exact⟨y,p2,rfl,q.1.1,q.1.2,q.2,e⟩
  .cases h
 .cases h
def ziE(F:Fits Γ cl k X)(hE:∀e m,E e=some m->SE X cl e m)(hg:glB Γ.sc x=true)(hb:zaV Γ x=true)(h:zfd Γ E mu x as=some m):SE X cl (.Call (.Name x p) as [] pos) m:=by
 unfold zfd at h;split at h
 .rename_i q
  have q:=eq_of_beq q; subst q;rw[zp] at h;obtain⟨⟨a,T⟩,e,h⟩:=h;rw[zg] at h;obtain⟨ma,e2,rfl⟩:=h;obtain⟨y,p2,rfl,g2,b2,ns,ty⟩:=zjd e;exact isi_ T hg g2 (hE _ _ e2) (zaA F hb) (zaA F b2) (zlu ty) F.sc (xY ns) (xY rfl) (ur rfl)
 .split at h
  .cases h
  .rw[zp] at h
   obtain⟨g,e,h⟩:=h;rw[zg] at h;obtain⟨ms,e2,rfl⟩:=h;obtain⟨hn,ha⟩:=zaG hE e2;exact zgk F hg hb e hn ha
def zjn(h:zf8 as=some a):∃p2 p3,as=[.Call (.Name "reversed" p2) [a] [] p3]:=by
 unfold zf8 at h;split at h
 .rename_i y p2 a' p3
  split at h
  .rename_i q
   cases h;rw[eq_of_beq q];exact⟨p2,p3,rfl⟩
  .cases h
 .cases h
def zi5{q:Expr×Expr}(h:zfG as=some q):∃p2 p3,as=[.Call (.Name "zip" p2) [q.1,q.2] [] p3]:=by
 unfold zfG at h;split at h
 .rename_i y p2 a b p3
  split at h
  .rename_i z
   cases h;rw[eq_of_beq z];exact⟨p2,p3,rfl⟩
  .cases h
 .cases h
def ziB(F:Fits Γ cl k X)(hE:∀e m,E e=some m->SE X cl e m)(h:zfm Γ E mu x as=some m):SE X cl (.Call (.Name x p) as [] pos) m:=by
 unfold zfm at h;split at h
 .rename_i hg
  split at h
  .rename_i g e
   rw[zg] at h;obtain⟨ms,e2,rfl⟩:=h;obtain⟨hn,ha⟩:=zaG hE e2;obtain⟨f,fd,ps,fo,hm,hk,hb⟩:=F.base.fns.at e;cases as with
   | nil=>
    have:ms=[]:=by
     cases e2; rfl
    subst this;exact c0_ hg fo F.room hm hk hb F.sc
   | cons a r=>
    rw[ju,zx] at hn;exact c_ hg fo F.room hm hk hb ha F.sc (xY hn.1) (ur hn.2)
  .split at h
   .rename_i hb
    split at h
    .rename_i a e
     split at h
     .rename_i q
      simp only[zx] at q;rw[zg] at h;obtain⟨ma,e2,rfl⟩:=h;obtain⟨p2,p3,rfl⟩:=zjn e;have hx:=eq_of_beq q.1.1.1;subst hx;exact zmz F.calm (zaA F hb) (zaA F q.1.2) (hE _ _ e2) (uq hg F.sc).1 (uq q.1.1.2 F.sc).1 (xY q.2) (ur rfl) (xY rfl) (ur rfl)
     .cases h
    .split at h
     .rename_i pr e
      split at h
      .rename_i q
       simp only[zx] at q;rw[zp] at h;obtain⟨m1,e1,h⟩:=h;rw[zg] at h;obtain⟨m2,e2,rfl⟩:=h;obtain⟨p2,p3,rfl⟩:=zi5 e;have hx:=eq_of_beq q.1.1.1.1;subst hx;exact zl3 F.calm (zaA F hb) (zaA F q.1.1.2) (zaU (hE _ _ e1) (zaU (hE _ _ e2) zcr (xY q.2)) (xY q.1.2)) (uq hg F.sc).1 (uq q.1.1.1.2 F.sc).1 (xY q.1.2) (ur (by simp[q.2])) (xY rfl) (ur rfl)
      .cases h
     .exact ziE F hE hg hb h
   .split at h
    .rename_i p' a r e
     rw[zg] at h;obtain⟨ms,e2,rfl⟩:=h;obtain⟨hn,ha⟩:=zaG hE e2;rw[ju,zx] at hn;exact zlI (F.base.mks.at e) F.room ha (uq hg F.sc).1 (uq hg F.sc).2.1 (xY hn.1) (ur hn.2)
    .cases h
 .cases h
def zj3(F:Fits Γ cl k X)(hE:∀e m,E e=some m->SE X cl e m)(hM:∀e m,EM e=some m->SE X cl e m)(h:zhi Γ E EM o nm apos as pos=some m):SE X cl (.Call (.Attribute o nm apos) as [] pos) m:=by
 unfold zhi at h;split at h
 .rename_i q
  simp only[zx] at q;obtain⟨⟨⟨q1,q2⟩,q3⟩,q4⟩:=q;rw[zp] at h;obtain⟨mo,eo,h⟩:=h;split at h
  .rw[zg] at h
   obtain⟨ms,e2,rfl⟩:=h;have MT:=λc g=>F.base.mts c nm g
   have hr:=F.room;cases as with
   | nil=>cases e2; exact zjw MT hr (hE _ _ eo) (zaS q1) q2 (zcy q3 q4)
   | cons a r=>
    have hn:=q3;rw[ju,zx] at hn;exact zln MT hr (hE _ _ eo) (za3 hE q3 e2) (zaS q1) (zcy q3 q4) q2 (xY hn.1) (ur hn.2)
  split at h
  .split at h
   .rename_i z
    rw[eq_of_beq z];cases h;exact znu (hE _ _ eo) (zaS q1) q2
   .cases h
  .rename_i a r
   have hn:=q3;rw[ju,zx] at hn;split at h
   .rename_i z
    rw[eq_of_beq z];rw[zg] at h;obtain⟨ms,e2,rfl⟩:=h;exact ziO (hE _ _ eo) (za3 hM q3 e2) (zaS q1) (zcy q3 q4) q2 (xY hn.1) (ur hn.2)
   split at h
   .rename_i z
    rw[eq_of_beq z];rw[zg] at h;obtain⟨ms,e2,rfl⟩:=h;exact zjf (hE _ _ eo) (za3 hE q3 e2) (zaS q1) (zcy q3 q4) q2 (xY hn.1) (ur hn.2)
   split at h
   .rename_i z
    rw[eq_of_beq z];split at h
    .rename_i b
     rw[zp] at h;obtain⟨ma,e1,h⟩:=h;rw[zg] at h;obtain⟨mb,e2,rfl⟩:=h;have hb:noStar b=true:=by simpa using hn.2
     exact zkm F.room.units (hE _ _ eo) (hE _ _ e1) (hE _ _ e2) ⟨zaS q1,zcy q3 q4,q2,by rw[zby hn.1,zby hb,zb1]; rfl⟩
    .cases h
   .cases h
 .cases h
end
noncomputable def isTup:Expr->Bool
 | .Tuple ..=>true
 | _=>false
noncomputable def zfn(Γ:RC)(E:Expr->Option ME)(tg:Expr)(x:Str)(as:List Expr):Option MI:=
 if (glB Γ.sc x&&zaV Γ x&&as.all noStar)=true then (match as with
  | [e]=>if x=="range" then (E e).map λm=>iRng [m]
   else if x=="reversed" then (E e).map λm=>iRev [m]
   else none
  | [e,e2]=>if (x=="zip" && isTup tg)=true then (E e).bind λm=>(E e2).map λm2=>iZip [m,m2] else none
  | _=>none) else none
noncomputable def zjl(Γ:RC)(E:Expr->Option ME)(tg:Expr):Expr->Option MI
 | .Call (.Name x _) as [] _=>zfn Γ E tg x as
 | _=>none
noncomputable def zeU(Γ:RC)(E:Expr->Option ME)(tg it:Expr):Option MI:=match zjl Γ E tg it with
 | some m=>some m
 | none=>(E it).map iSeq
section
variable{Γ:RC}{cl:Cl}{k:Nat}{X:Cx}{x:Str}{pos p:Pos}{E:Expr->Option ME}{as:List Expr}{tg it:Expr}{mi:MI}
def zkh(h:isTup tg=true):∃es n tp,tg=.Tuple es n tp:=by
 unfold isTup at h;split at h
 .exact⟨_,_,_,rfl⟩
 .cases h
def ziF(F:Fits Γ cl k X)(hE:∀e m,E e=some m->SE X cl e m)(h:zfn Γ E tg x as=some mi):SI X cl tg (.Call (.Name x p) as [] pos) mi:=by
 unfold zfn at h;split at h
 .rename_i q
  simp only[zx] at q;obtain⟨⟨q1,q2⟩,q3⟩:=q;split at h
  .rename_i e
   have hn:noStar e=true:=by simpa using q3
   split at h
   .rename_i z
    have z:=eq_of_beq z; subst z;rw[zg] at h;obtain⟨m,e1,rfl⟩:=h;exact rng_ q1 (zaA F q2) (zaU (hE _ _ e1) zcr (xY hn)) F.sc (by rw[xY hn,zb1])
   split at h
   .rename_i z
    have z:=eq_of_beq z; subst z;rw[zg] at h;obtain⟨m,e1,rfl⟩:=h;exact znn (zaA F q2) (zaU (hE _ _ e1) zcr (xY hn)) (uq q1 F.sc).1 (xY hn)
   .cases h
  .rename_i e e2
   rw[ju,zx] at q3;have hn2:noStar e2=true:=by simpa using q3.2
   split at h
   .rename_i z
    rw[zx] at z;obtain⟨es,n,tp,rfl⟩:=zkh z.2;have z:=eq_of_beq z.1; subst z;rw[zp] at h;obtain⟨m,e1,h⟩:=h;rw[zg] at h;obtain⟨m2,e3,rfl⟩:=h;exact zip_ q1 (zaA F q2) (zaU (hE _ _ e1) (zaU (hE _ _ e3) zcr (xY hn2)) (xY q3.1)) F.sc (xY q3.1) (ur q3.2)
   .cases h
  .cases h
 .cases h
def zfy(F:Fits Γ cl k X)(hE:∀e m,E e=some m->SE X cl e m)(h:zeU Γ E tg it=some mi):SI X cl tg it mi:=by
 unfold zeU at h;split at h
 .rename_i m e
  cases h;unfold zjl at e;split at e
  .exact ziF F hE e
  .cases e
 .rw[zg] at h
  obtain⟨m,e1,rfl⟩:=h;exact znN (hE _ _ e1)
end
noncomputable def ze8(T:Expr->Option MT):List Expr->Option MT
 | []=>some ud
 | [c]=>T c
 | _=>none
structure CompR where
 mi:MI
 nl:Nat
 ks:List Nat
 g:MG
 t:MT
 m:ME
noncomputable def RC.inner(Γ:RC)(scope:Scope)(N':List Str):RC:={ Γ with sc:=relS Γ.sc scope,N:=N',inC:=true }
noncomputable def zjj(Γ:RC)(E:RC->Bool->Expr->Option ME)(T:RC->Expr->Option MT)(elt tg it:Expr)(ifs:List Expr)(scope:Scope)(N':List Str):Option CompR:=
 if (zeY it&&zf1 N')=true then (mapO (λx=>ixOf x Γ.N) (N'.drop (tgN tg))).bind λks=>
  if zaI Γ.sc Γ.N scope N' (tgN tg) ks=true then (zeU Γ (E Γ false) tg it).bind λmi=>(xTg (Γ.inner scope N') tg).bind λg=>(ze8 (T (Γ.inner scope N')) ifs).bind λt=>(E (Γ.inner scope N') false elt).map λm=>⟨mi,tgN tg,ks,g,t,m⟩
  else none
 else none
noncomputable def zeR(Γ:RC)(E:RC->Bool->Expr->Option ME)(T:RC->Expr->Option MT)(elt:Expr)(gens:List Comprehension)(scope:Scope)(pos:Pos):Option CompR:=match gens with
 | [⟨tg,it,ifs,ia⟩]=>match Γ.cmp.lookup (pos.line,pos.col) with
  | some N'=>if ia=0 then zjj Γ E T elt tg it ifs scope N' else none
  | none=>none
 | _=>none
section
variable{Γ:RC}{cl:Cl}{k:Nat}{X:Cx}{E:RC->Bool->Expr->Option ME}{T:RC->Expr->Option MT}{elt:Expr}{gens:List Comprehension}{scope:Scope}{pos:Pos}{r:CompR}
theorem Fits.inner(F:Fits Γ cl k X){N':List Str}(hN:N'.Nodup)(hk:scope.kind=.function)(cs:List (Str×Addr))(C:Addr)(s₀:Shared)(H₀:Hp)(ex:List Addr):Fits (Γ.inner scope N') cl k (cxC X scope cs C N' s₀ H₀ ex) where
 sc:=by
  show relabel scope X.env=relS Γ.sc scope
  rw[<-F.sc];rfl
 N:=rfl
 nd:=hN
 fn:=λh=>by cases h
 kind:=hk
 calm:=F.calm
 pass:=wU
 room:=F.room
 base:=⟨F.base.fns,F.base.con,F.base.tab,F.base.bin,F.base.pw,F.base.cls,F.base.mts,F.base.mks,F.base.way⟩
def zir(hT:∀e m,t e=some m->ST X cl e m)(h:ze8 t ifs=some m):STs X cl ifs m:=by
 unfold ze8 at h;split at h
 .cases h; exact zlm
 .exact zl7 (hT _ _ h)
 .cases h
structure CompG(X:Cx)(cl:Cl)(elt:Expr)(gens:List Comprehension)(scope:Scope)(r:CompR):Prop where
 ex:∃tg it ifs N',gens=[⟨tg,it,ifs,0⟩]/\zaI X.env.scope X.N scope N' r.nl r.ks=true/\zeY it=true/\SI X cl tg it r.mi/\(∀cs C s₀ H₀ ex,SG (cxC X scope cs C N' s₀ H₀ ex) cl tg r.g)/\(∀cs C s₀ H₀ ex,STs (cxC X scope cs C N' s₀ H₀ ex) cl ifs r.t)/\∀cs C s₀ H₀ ex,SE (cxC X scope cs C N' s₀ H₀ ex) cl elt r.m
def zf9(F:Fits Γ cl k X)(hE:∀Γ X,Fits Γ cl k X->∀mu e m,E Γ mu e=some m->SE X cl e m)(hT:∀Γ X,Fits Γ cl k X->∀e m,T Γ e=some m->ST X cl e m)(h:zeR Γ E T elt gens scope pos=some r):CompG X cl elt gens scope r:=by
 unfold zeR at h;split at h
 .rename_i tg it ifs ia
  split at h
  .rename_i N' _
   split at h
   .rename_i z
    subst z;unfold zjj at h;split at h
    .rename_i q
     rw[zx] at q;rw[zp] at h;obtain⟨ks,e1,h⟩:=h;split at h
     .rename_i ok
      rw[zp] at h;obtain⟨mi,e2,h⟩:=h;rw[zp] at h;obtain⟨g,e3,h⟩:=h;rw[zp] at h;obtain⟨t,e4,h⟩:=h;rw[zg] at h;obtain⟨m,e5,rfl⟩:=h;have Fi:=λcs C s₀ H₀ ex=>F.inner (scope:=scope) (zk9 q.2) (za2 ok).kind cs C s₀ H₀ ex
      exact⟨tg,it,ifs,N',rfl,by rw[F.sc,F.N]; exact ok,q.1,zfy F (hE _ _ F false) e2,λcs C s₀ H₀ ex=>zfF (Fi cs C s₀ H₀ ex) e3,λcs C s₀ H₀ ex=>zir (hT _ _ (Fi cs C s₀ H₀ ex)) e4,λcs C s₀ H₀ ex=>hE _ _ (Fi cs C s₀ H₀ ex) _ _ _ e5⟩
     .cases h
    .cases h
   .cases h
  .cases h
 .cases h
end
noncomputable def zh1(Γ:RC)(E:Expr->Option ME)(a:Expr)(op:CmpOp)(b:Expr):Option ME:=if behindInMarks op b=true then none else (opC op).bind λf=>(E a).bind λma=>(E b).map λmb=>eOp f ma mb
noncomputable def zhv(E:Expr->Option ME)(a:Expr)(op op':CmpOp)(b c:Expr):Option ME:=
 if lastMarks [op,op'] [b,c]=true then none else (opC op).bind λf=>(opC op').bind λg=>(E a).bind λma=>(E b).bind λmb=>(E c).map λmc=>za1 f g ma mb mc
noncomputable def xCmp(Γ:RC)(E:Expr->Option ME)(a:Expr)(ops:List CmpOp)(bs:List Expr):Option ME:=match ops,bs with
 | [op],[b]=>zh1 Γ E a op b
 | [op,op'],[b,c]=>zhv E a op op' b c
 | _,_=>none
noncomputable def xOpt(E:Expr->Option ME):Option Expr->Option (Option ME)
 | none=>some none
 | some e=>(E e).map some
noncomputable def zfz(E:Expr->Option ME)(ma:ME)(lo hi st:Option Expr):Option ME:=match st with
 | none=>(xOpt E lo).bind λml=>(xOpt E hi).map λmh=>eSl ma ml mh
 | _=>none
noncomputable def zed(Γ:RC)(E:Expr->Option ME)(a b:Expr):Option ME:=match a with
 | .Name x _=>if (glB Γ.sc x&&zbi b)=true then (match Γ.tab.lookup x with
  | some l=>(E b).map (eUn (zbj l))
  | none=>none) else none
 | _=>none
noncomputable def zla(Γ:RC):Expr->Bool
 | .Name x _=>Γ.dic.any (· == x)
 | .Attribute _ f _=>Γ.dic.any (· == f)
 | _=>false
noncomputable def muAt(Γ:RC)(mu:Bool)(p:Pos):Bool:=mu||Γ.mka.any (· == (p.line,p.col))
noncomputable def xSub(Γ:RC)(E:Expr->Option ME)(a b:Expr):Option ME:=match zed Γ E a b with
 | some m=>some m
 | none=>(E a).bind λma=>match b with
  | .Slice lo hi st _=>zfz E ma lo hi st
  | b=>(E b).map (eOp (match zla Γ a with
   | true=>uR
   | false=>ixW) ma)
noncomputable def zdV(op:BoolOp)(T:Expr->Option MT):List Expr->Option MT
 | []=>none
 | [a]=>T a
 | a::r=>(T a).bind λma=>(zdV op T r).map λmb=>match op with
  | .And=>zbC ma mb
  | .Or=>tOrM ma mb
noncomputable def zhl(E:Expr->Option ME)(mu:Bool)(ks:List (Option Expr))(vs:List Expr):Option ME:=match ks,vs with
 | [],[]=>some (eC (.fdc []))
 | _,_=>none
noncomputable def xWay(Γ:RC)(E:Expr->Option ME)(x:Str)(a:Expr)(as:List Expr):Option ME:=
 if (glB Γ.sc x&&zbi a)=true then (match Γ.way.lookup x,as with
  | some ws,_::_=>(E a).bind λma=>(zbg E as).map (eWay ws ma)
  | _,_=>none) else none
noncomputable def zdp(mu:Bool)(r:CompR):ME:=match mu with
 | true=>zak r.mi r.nl r.ks r.g r.t r.m
 | false=>uo r.mi r.nl r.ks r.g r.t r.m
noncomputable def zhQ(E:RC->Bool->Expr->Option ME)(T:RC->Expr->Option MT)(Γ:RC)(mu:Bool):Expr->Option ME
 | .Name x _=>zhU Γ x
 | .Constant c _ _=>zfI c
 | .UnaryOp .USub a _=>(E Γ false a).map (eUn negW)
 | .BinOp a op b _=>(opB mu op).bind λf=>(E Γ false a).bind λma=>(E Γ false b).map (eOp f ma)
 | .Compare a ops bs _=>xCmp Γ (E Γ false) a ops bs
 | .IfExp t a b _=>(T Γ t).bind λmt=>(E Γ false a).bind λma=>(E Γ false b).map (eIf mt ma)
 | .Tuple es _ _=>(zbg (E Γ false) es).map (xK tupW)
 | .List es p=>match muAt Γ mu p with
  | true=>(zbg (E Γ true) es).map (xK lstW)
  | false=>(zbg (E Γ false) es).map (xK flsW)
 | .Dict ks vs p=>zhl (E Γ false) (muAt Γ mu p) ks vs
 | .Subscript a b _=>xSub Γ (E Γ false) a b
 | .Attribute o f _=>if zfs o=true then (E Γ false o).map (eFld Γ.fld f) else none
 | .Call (.Subscript (.Name x _) a _) as [] _=>xWay Γ (E Γ false) x a as
 | .Call (.Name x _) as [] p=>zfm Γ (E Γ false) (muAt Γ mu p) x as
 | .Call (.Attribute o nm apos) as [] pos=>zhi Γ (E Γ false) (E Γ true) o nm apos as pos
 | .ListComp elt gens scope pos=>(zeR Γ E T elt gens scope pos).map (zdp (muAt Γ mu pos))
 | _=>none
noncomputable def stepT(E:RC->Bool->Expr->Option ME)(T:RC->Expr->Option MT)(Γ:RC):Expr->Option MT
 | .BoolOp op vs _=>zdV op (T Γ) vs
 | .Compare a ops bs _=>(xCmp Γ (E Γ false) a ops bs).map tVal
 | e=>if plainT e=true then (E Γ false e).map tVal else none
noncomputable def cET:Nat->(RC->Bool->Expr->Option ME)×(RC->Expr->Option MT)
 | 0=>(λ_ _ _=>none,λ_ _=>none)
 | n+1=>(zhQ (cET n).1 (cET n).2,stepT (cET n).1 (cET n).2)
section
variable{Γ:RC}{cl:Cl}{k:Nat}{X:Cx}{m:ME}{pos p:Pos}{E:Expr->Option ME}{T:Expr->Option MT}{a b:Expr}{mu:Bool}
def zkG(F:Fits Γ cl k X)(hE:∀e m,E e=some m->SE X cl e m)(h:zh1 Γ E a op b=some m):SE X cl (.Compare a [op] [b] pos) m/\ST X cl (.Compare a [op] [b] pos) (tVal m):=by
 unfold zh1 at h;split at h
 .cases h
 .rename_i hm
  rw[Bool.not_eq_true] at hm;rw[zp] at h;obtain⟨f,e0,h⟩:=h;rw[zp] at h;obtain⟨ma,e1,h⟩:=h;rw[zg] at h;obtain⟨mb,e2,rfl⟩:=h;exact⟨znw (zbJ F.room.units e0) (hE _ _ e1) (hE _ _ e2) hm,zol (zbJ F.room.units e0) (hE _ _ e1) (hE _ _ e2) hm⟩
def zjz{c:Expr}(F:Fits Γ cl k X)(hE:∀e m,E e=some m->SE X cl e m)(h:zhv E a op op' b c=some m):SE X cl (.Compare a [op,op'] [b,c] pos) m/\ST X cl (.Compare a [op,op'] [b,c] pos) (tVal m):=by
 unfold zhv at h;split at h
 .cases h
 .rename_i hm
  rw[Bool.not_eq_true] at hm;rw[zp] at h;obtain⟨f,e0,h⟩:=h;rw[zp] at h;obtain⟨g,e01,h⟩:=h;rw[zp] at h;obtain⟨ma,e1,h⟩:=h;rw[zp] at h;obtain⟨mb,e2,h⟩:=h;rw[zg] at h;obtain⟨mc,e3,rfl⟩:=h;exact⟨zky (zbJ F.room.units e0) (zbJ F.room.units e01) (hE _ _ e1) (hE _ _ e2) (hE _ _ e3) hm,zkO (zbJ F.room.units e0) (zbJ F.room.units e01) (hE _ _ e1) (hE _ _ e2) (hE _ _ e3) hm⟩
def zgY{bs:List Expr}(F:Fits Γ cl k X)(hE:∀e m,E e=some m->SE X cl e m)(h:xCmp Γ E a ops bs=some m):SE X cl (.Compare a ops bs pos) m/\ST X cl (.Compare a ops bs pos) (tVal m):=by
 unfold xCmp at h;split at h
 .exact zkG F hE h
 .exact zjz F hE h
 .cases h
def zgT(hE:∀e m,E e=some m->SE X cl e m)(h:xOpt E o=some mo):SO X cl o mo:=by
 unfold xOpt at h;split at h
 .cases h; exact zlz
 .rw[zg] at h
  obtain⟨m,e1,rfl⟩:=h;exact zlF (hE _ _ e1)
def zil{ma:ME}{lo hi st:Option Expr}(hE:∀e m,E e=some m->SE X cl e m)(ha:SE X cl a ma)(h:zfz E ma lo hi st=some m):SE X cl (.Subscript a (.Slice lo hi st p) pos) m:=by
 unfold zfz at h;split at h
 .rw[zp] at h
  obtain⟨ml,e1,h⟩:=h;rw[zg] at h;obtain⟨mh,e2,rfl⟩:=h;exact zpk ha (zgT hE e1) (zgT hE e2)
 .cases h
def zhK(F:Fits Γ cl k X)(hE:∀e m,E e=some m->SE X cl e m)(h:zed Γ E a b=some m):SE X cl (.Subscript a b pos) m:=by
 unfold zed at h;split at h
 .split at h
  .rename_i q
   rw[zx] at q;split at h
   .rename_i l e
    rw[zg] at h;obtain⟨mb,e1,rfl⟩:=h;exact tG_ q.1 F.room.units (F.base.tab.at e) (hE _ _ e1) F.sc (zeZ q.2)
   .cases h
  .cases h
 .cases h
def zlW(F:Fits Γ cl k X)(hE:∀e m,E e=some m->SE X cl e m)(h:xSub Γ E a b=some m):SE X cl (.Subscript a b pos) m:=by
 unfold xSub at h;split at h
 .rename_i m' e
  cases h;exact zhK F hE e
 .rw[zp] at h
  obtain⟨ma,e1,h⟩:=h;split at h
  .exact zil hE (hE _ _ e1) h
  .rename_i hb
   rw[zg] at h;obtain⟨mb,e2,h⟩:=h;have hn:zbi b=true:=by cases b<;>first | rfl | exact absurd rfl (hb _ _ _ _)
   cases q:zla Γ a with
   | true=>rw[q] at h; subst h; exact zof F.room.units (hE _ _ e1) (hE _ _ e2) (zeZ hn)
   | false=>rw[q] at h; subst h; exact zpq (hE _ _ e1) (hE _ _ e2) (zeZ hn)
theorem zeK(hT:∀e m,T e=some m->ST X cl e m):∀{vs:List Expr} {m:MT},zdV op T vs=some m->SW X cl (.BoolOp op vs pos) m
 | [],m,h=>by cases h
 | [a],m,h=>by
  cases op with
  | And=>exact zlL (hT _ _ h)
  | Or=>exact zm2 (hT _ _ h)
 | a::b::r,m,h=>by
  unfold zdV at h;rw[zp] at h;obtain⟨ma,e1,h⟩:=h;rw[zg] at h;obtain⟨mb,e2,h⟩:=h;have ih:=zeK hT e2;cases op with
  | And=>subst h; exact znR (hT _ _ e1) ih
  | Or=>subst h; exact zpp (hT _ _ e1) ih
def zj0(hE:∀e m,E e=some m->SE X cl e m)(h:zhl E mu ks vs=some m):SE X cl (.Dict ks vs pos) m:=by
 unfold zhl at h;split at h
 .cases h; exact zmu
 .cases h
def zlK(F:Fits Γ cl k X)(hE:∀e m,E e=some m->SE X cl e m)(h:xWay Γ E x a as=some m):SE X cl (.Call (.Subscript (.Name x p) a p2) as [] pos) m:=by
 unfold xWay at h;split at h
 .rename_i q
  rw[zx] at q;split at h
  .rename_i ws a1 r e0
   rw[zp] at h;obtain⟨ma,e1,h⟩:=h;rw[zg] at h;obtain⟨ms,e2,rfl⟩:=h;obtain⟨hn,ha⟩:=zaG hE e2;rw[ju,zx] at hn;exact zor F.room.units (F.base.way.at e0) F.room (hE _ _ e1) ha (zeZ q.2) (uq q.1 F.sc).1 (uq q.1 F.sc).2.1 (xY hn.1) (ur hn.2)
  .cases h
 .cases h
end
section
variable{Γ:RC}{cl:Cl}{k:Nat}{X:Cx}{m:ME}{pos p:Pos}{E:RC->Bool->Expr->Option ME}{T:RC->Expr->Option MT}{mu:Bool}
def zeD(F:Fits Γ cl k X)(g:CompG X cl elt gens scope r):SE X cl (.ListComp elt gens scope pos) (zdp mu r):=by
 obtain⟨tg,it,ifs,N',rfl,ok,hs,hi,hg,ht,he⟩:=g.ex;cases mu with
 | true=>exact zjs _ _ N' r.nl r.ks F.calm ok hi hg ht he rfl rfl (za6 hs)
 | false=>exact zlN _ _ N' r.nl r.ks F.calm ok hi hg ht he rfl rfl (za6 hs)
def zkH(hE:∀Γ X,Fits Γ cl k X->∀mu e m,E Γ mu e=some m->SE X cl e m)(hT:∀Γ X,Fits Γ cl k X->∀e m,T Γ e=some m->ST X cl e m)(F:Fits Γ cl k X)(h:zhQ E T Γ mu e=some m):SE X cl e m:=by
 have hE':=hE _ _ F;have hF:=hE' false;have hT':=hT _ _ F;unfold zhQ at h;split at h
 .exact zjU F h
 .exact zif h
 .rw[zg] at h
  obtain⟨ma,e1,rfl⟩:=h;exact zo5 zmS (hF _ _ e1)
 .rw[zp] at h
  obtain⟨f,e0,h⟩:=h;rw[zp] at h;obtain⟨ma,e1,h⟩:=h;rw[zg] at h;obtain⟨mb,e2,rfl⟩:=h;exact zo2 (zom e0) (hF _ _ e1) (hF _ _ e2)
 .exact(zgY F hF h).1
 .rw[zp] at h
  obtain⟨mt,e0,h⟩:=h;rw[zp] at h;obtain⟨ma,e1,h⟩:=h;rw[zg] at h;obtain⟨mb,e2,rfl⟩:=h;exact zo8 (hT' _ _ e0) (hF _ _ e1) (hF _ _ e2)
 .rw[zg] at h
  obtain⟨ms,e1,rfl⟩:=h;exact znj (zaG hF e1).2
 .split at h
  .obtain⟨ms,e1,rfl⟩:=zg.mp h
   exact zon (zaG (hE' true) e1).2
  .obtain⟨ms,e1,rfl⟩:=zg.mp h
   exact znL (zaG hF e1).2
 .exact zj0 hF h
 .exact zlW F hF h
 .split at h
  .rename_i q
   rw[zg] at h;obtain⟨mo,e1,rfl⟩:=h;exact znM F.base.cls (hF _ _ e1) (zaS q)
  .cases h
 .exact zlK F hF h
 .exact ziB F hF h
 .exact zj3 F hF (hE' true) h
 .rw[zg] at h
  obtain⟨r,e1,rfl⟩:=h;exact zeD F (zf9 F hE hT e1)
 .cases h
def zjQ(hE:∀Γ X,Fits Γ cl k X->∀mu e m,E Γ mu e=some m->SE X cl e m)(hT:∀Γ X,Fits Γ cl k X->∀e m,T Γ e=some m->ST X cl e m)(F:Fits Γ cl k X)(h:stepT E T Γ e=some t):ST X cl e t:=by
 have hF:=hE _ _ F false;have hT':=hT _ _ F;unfold stepT at h;split at h
 .exact zmG (zeK hT' h)
 .rw[zg] at h
  obtain⟨ma,e1,rfl⟩:=h;exact(zgY F hF e1).2
 .split at h
  .rename_i q
   rw[zg] at h;obtain⟨ma,e1,rfl⟩:=h;exact zm3 (hF _ _ e1) (zkl q)
  .cases h
theorem zbK:∀n,(∀Γ X,Fits Γ cl k X->∀mu e m,(cET n).1 Γ mu e=some m->SE X cl e m)/\(∀Γ X,Fits Γ cl k X->∀e m,(cET n).2 Γ e=some m->ST X cl e m)
 | 0=>⟨λ_ _ _ _ _ _ h=>(by cases h),λ_ _ _ _ _ h=>(by cases h)⟩
 | n+1=>⟨λΓ X F mu e m h=>zkH (zbK n).1 (zbK n).2 F h,λΓ X F e m h=>zjQ (zbK n).1 (zbK n).2 F h⟩
end
def znS{i:Expr}(h:zbi i=true):∀v,assign (.Subscript o i pos) env v=(do
   let ov <-holding [v] (eval o env)
   let iv <-holding [v,ov] (eval i env)
   standAt pos
   holding [v,ov,iv] (setItem ov iv v)
   release [v,ov,iv] []):=by
 intro v;cases i<;>first | (cases h; done) | kernel_rfl
theorem zgg{i:Expr}:swappedStores [.Subscript o i p] e env=pure none:=rfl
noncomputable def ze1(Γ:RC)(x:Str):Bool:=Γ.own.any (· == x)
noncomputable def zeV(Γ:RC)(x:Str)(px:Pos)(scope:Scope)(cpos:Pos):Bool:=Γ.sc.names.lookup x==some .local&&px.line==cpos.line && !(scope.names.any λ(n,k)=>n==x&&(k==.local||k==.cell))
noncomputable def zhN(Γ:RC)(E:RC->Bool->Expr->Option ME)(T:RC->Expr->Option MT)(x:Str):Expr->Option ME
 | .ListComp elt gens scope cpos=>(zeR Γ E T elt gens scope cpos).map (zdp (ze1 Γ x))
 | v=>if zcq v=true then E Γ (ze1 Γ x) v else none
noncomputable def xAsg(Γ:RC)(E:RC->Bool->Expr->Option ME)(T:RC->Expr->Option MT)(tg v:Expr):Option MS:=match tg with
 | .Name x _=>match ixOf x Γ.N with
  | some i=>if (setB Γ.sc Γ.N i x && !Γ.inC)=true then (zhN Γ E T x v).map λm=>sAsg m (gNm i) else none
  | none=>none
 | .Subscript o i p=>if (zcq v&&zbi i)=true then (E Γ false v).bind λm=>(E Γ false o).bind λmo=>(E Γ false i).map λmi=>sAsg m (gPut mo mi) else none
 | .Attribute o f _=>if zcq v=true then (E Γ (ze1 Γ f) v).bind λm=>(E Γ false o).map λmo=>sAsg m (gFld Γ.fld f mo) else none
 | .Tuple es n p=>if zkU v=true then (E Γ false v).bind λm=>(xTg Γ (.Tuple es n p)).map λg=>sAsg m g else none
 | _=>none
noncomputable def xAug(Γ:RC)(E:RC->Bool->Expr->Option ME)(tg:Expr)(op:Operator)(v:Expr):Option MS:=match tg,op with
 | .Attribute o f _,.Add=>(E Γ false o).bind λmo=>(E Γ false v).map (zdu Γ.fld f augI mo)
 | _,_=>none
noncomputable def zk3:MS:=λ_ _=>none
def zlj{X:Cx}{cl:Cl}{st:Stmt}:SS X cl st zk3:=by
 rintro pins s σ H D I ⟨μ,h,ρ,fl,h',R,er,e,k⟩;cases e
noncomputable def zhz(E:RC->Bool->Expr->Option ME)(T:RC->Expr->Option MT)(B:RC->List Stmt->Option MS)(Γ:RC):Stmt->Option MS
 | .Return (some e) _=>(E Γ false e).map sRet
 | .Pass _=>some ue
 | .Raise ..=>some zk3
 | .Expr e _=>if zcq e=true then (E Γ false e).map xT else none
 | .If c a b _=>(T Γ c).bind λt=>(B Γ a).bind λma=>(B Γ b).map (sIf t ma)
 | .While c body [] _=>(T Γ c).bind λt=>(B Γ body).map (zav t)
 | .For tg it body [] _=>if zeY it=true then (zeU Γ (E Γ false) tg it).bind λmi=>(xTg Γ tg).bind λg=>(B Γ body).map (sFor mi g) else none
 | .Assign [tg] v _=>xAsg Γ E T tg v
 | .AugAssign tg op v _=>xAug Γ E tg op v
 | _=>none
noncomputable def blk(S:Stmt->Option MS):List Stmt->Option MS
 | []=>some ue
 | [s]=>S s
 | s::r=>(S s).bind λa=>(blk S r).map (sSeq a)
noncomputable def cS:Nat->RC->Stmt->Option MS
 | 0=>λ_ _=>none
 | n+1=>zhz (cET 40).1 (cET 40).2 (λΓ=>blk (cS n Γ))
noncomputable def cB(Γ:RC)(bd:List Stmt):Option MS:=blk (cS 12 Γ) bd
section
variable{Γ:RC}{cl:Cl}{k:Nat}{X:Cx}{pos p:Pos}{E:RC->Bool->Expr->Option ME}{T:RC->Expr->Option MT}{B:RC->List Stmt->Option MS}{ms:MS}
theorem zhA{scope:Scope}{cpos px:Pos}{env:Env}:swapsWith (.ListComp elt gens scope cpos) (some (.Name x px)) l env=pure (env.blockKind==.function&&env.kindOf x==some .local&&px.line==cpos.line && !(scope.names.any λ(n,k)=>n==x&&(k==.local||k==.cell))):=rfl
def zkP(hE:∀Γ X,Fits Γ cl k X->∀mu e m,E Γ mu e=some m->SE X cl e m)(hT:∀Γ X,Fits Γ cl k X->∀e m,T Γ e=some m->ST X cl e m)(F:Fits Γ cl k X)(hc:Γ.inC=false){i:Nat}(hb:setB Γ.sc Γ.N i x=true)(h:zhN Γ E T x v=some m):SS X cl (.Assign [.Name x px] v pos) (sAsg m (gNm i)):=by
 have hNd:=F.N▸F.nd;unfold zhN at h;split at h
 .rename_i elt gens scope cpos
  rw[zg] at h;obtain⟨r,e1,rfl⟩:=h;have g:=zf9 F hE hT e1;have hk:X.env.blockKind=.function:=by
   unfold Env.blockKind;rw[F.sc,F.kind];rfl
  have hsw:=zhA (elt:=elt) (gens:=gens) (scope:=scope) (cpos:=cpos) (px:=px) (x:=x) (l:=pos.line) (env:=X.env);have he:(X.env.blockKind==.function&&X.env.kindOf x==some .local&&px.line==cpos.line && !(scope.names.any λ(n,k)=>n==x&&(k==.local||k==.cell)))=zeV Γ x px scope cpos:=by
   rw[hk];unfold zeV;rw[<-F.sc];rfl
  rw[he] at hsw;cases q:zeV Γ x px scope cpos with
  | false=>
   rw[q] at hsw;exact s_ hb hNd (zeD F g) F.sc F.N (F.fn hc _) hsw
  | true=>
   rw[q] at hsw;obtain⟨tg,it,ifs,N',rfl,ok,hs,hi,hg,ht,hee⟩:=g.ex;have hx:X.env.kindOf x=some .local:=by
    unfold zeV at q;simp only[zx,qd] at q;have:=q.1.1;rw[<-F.sc] at this;exact this
   have hix:X.N[i]?=some x:=by
    unfold setB at hb;simp only[zx,qd] at hb;rw[F.N];exact hb.1
   unfold zdp;cases ze1 Γ x with
   | true=>exact zj5 i _ _ N' r.nl r.ks F.nd F.calm ok hi hg ht hee rfl rfl (za6 hs) hix hx hsw
   | false=>exact zlR i _ _ N' r.nl r.ks F.nd F.calm ok hi hg ht hee rfl rfl (za6 hs) hix hx hsw
 .split at h
  .rename_i q
   exact s_ hb hNd (hE _ _ F _ _ _ h) F.sc F.N (F.fn hc _) (zb9 q)
  .cases h
theorem zit:swapsWith v (some (.Tuple es n p)) l env=pure false:=by
 unfold swapsWith;cases v<;>rfl
def zl8(hE:∀Γ X,Fits Γ cl k X->∀mu e m,E Γ mu e=some m->SE X cl e m)(hT:∀Γ X,Fits Γ cl k X->∀e m,T Γ e=some m->ST X cl e m)(F:Fits Γ cl k X)(h:xAsg Γ E T tg v=some ms):SS X cl (.Assign [tg] v pos) ms:=by
 unfold xAsg at h;split at h
 .split at h
  .split at h
   .rename_i q
    rw[zx,qZ] at q;rw[zg] at h;obtain⟨m,e1,rfl⟩:=h;exact zkP hE hT F q.2 q.1 e1
   .cases h
  .cases h
 .split at h
  .rename_i q
   rw[zx] at q;rw[zp] at h;obtain⟨m,e1,h⟩:=h;rw[zp] at h;obtain⟨mo,e2,h⟩:=h;rw[zg] at h;obtain⟨mi,e3,rfl⟩:=h;exact zjb (hE _ _ F _ _ _ e1) (zn9 F.room.units (hE _ _ F _ _ _ e2) (hE _ _ F _ _ _ e3) (znS q.2)) ((show swapsWithSole [_] v pos.line X.env=swapsWith v (some _) pos.line X.env from rfl).trans (zb9 q.1)) zgg (by rw[zaz rfl,zba]; rfl)
  .cases h
 .split at h
  .rename_i q
   rw[zp] at h;obtain⟨m,e1,h⟩:=h;rw[zg] at h;obtain⟨mo,e2,rfl⟩:=h;exact znA F.base.cls (hE _ _ F _ _ _ e1) (hE _ _ F _ _ _ e2) (zb9 q)
  .cases h
 .split at h
  .rename_i q
   rw[zp] at h;obtain⟨m,e1,h⟩:=h;rw[zg] at h;obtain⟨g,e2,rfl⟩:=h;exact zjb (hE _ _ F _ _ _ e1) (zfF F e2) ((show swapsWithSole [_] v pos.line X.env=swapsWith v (some _) pos.line X.env from rfl).trans zit) (zhx q) (by rw[zaz rfl,zba]; rfl)
  .cases h
 .cases h
def zmr(hE:∀Γ X,Fits Γ cl k X->∀mu e m,E Γ mu e=some m->SE X cl e m)(F:Fits Γ cl k X)(h:xAug Γ E tg op v=some ms):SS X cl (.AugAssign tg op v pos) ms:=by
 unfold xAug at h;split at h
 .rw[zp] at h
  obtain⟨mo,e1,h⟩:=h;rw[zg] at h;obtain⟨m,e2,rfl⟩:=h;exact zie F.base.cls (hE _ _ F _ _ _ e2) (hE _ _ F _ _ _ e1)
 .cases h
def zj4(hE:∀Γ X,Fits Γ cl k X->∀mu e m,E Γ mu e=some m->SE X cl e m)(hT:∀Γ X,Fits Γ cl k X->∀e m,T Γ e=some m->ST X cl e m)(hB:∀Γ X,Fits Γ cl k X->∀b m,B Γ b=some m->SB X cl b m)(F:Fits Γ cl k X){st:Stmt}(h:zhz E T B Γ st=some ms):SS X cl st ms:=by
 have hF:=hE _ _ F false;have hT':=hT _ _ F;have hB':=hB _ _ F;unfold zhz at h;split at h
 .rw[zg] at h
  obtain⟨m,e1,rfl⟩:=h;exact znZ (hF _ _ e1)
 .cases h; exact zmU
 .cases h; exact zlj
 .split at h
  .rename_i q
   rw[zg] at h;obtain⟨m,e1,rfl⟩:=h;exact zlV (hF _ _ e1) (zb9 q)
  .cases h
 .rw[zp] at h
  obtain⟨t,e0,h⟩:=h;rw[zp] at h;obtain⟨ma,e1,h⟩:=h;rw[zg] at h;obtain⟨mb,e2,rfl⟩:=h;exact zo6 (hT' _ _ e0) (hB' _ _ e1) (hB' _ _ e2)
 .rw[zp] at h
  obtain⟨t,e0,h⟩:=h;rw[zg] at h;obtain⟨mb,e2,rfl⟩:=h;exact zjK (hT' _ _ e0) (hB' _ _ e2) F.pass
 .split at h
  .rename_i q
   rw[zp] at h;obtain⟨mi,e0,h⟩:=h;rw[zp] at h;obtain⟨g,e1,h⟩:=h;rw[zg] at h;obtain⟨mb,e2,rfl⟩:=h;exact zov F.calm (zfy F hF e0) (zfF F e1) (hB' _ _ e2) (za6 q) F.pass
  .cases h
 .exact zl8 hE hT F h
 .exact zmr hE F h
 .cases h
theorem zfB(hS:∀s m,S s=some m->SS X cl s m):∀{b:List Stmt} {m:MS},blk S b=some m->SB X cl b m
 | [],m,h=>by cases h; exact zoK
 | [s],m,h=>zn3 (hS _ _ h)
 | s::s'::r,m,h=>by
  unfold blk at h;rw[zp] at h;obtain⟨ma,e1,h⟩:=h;rw[zg] at h;obtain⟨mb,e2,rfl⟩:=h;exact zmt (hS _ _ e1) (zfB hS e2)
theorem zkX:∀(n:Nat) (Γ:RC) (X:Cx),Fits Γ cl k X->∀s m,cS n Γ s=some m->SS X cl s m
 | 0,_,_,_,_,_,h=>by cases h
 | n+1,Γ,X,F,s,m,h=>zj4 (zbK 40).1 (zbK 40).2 (λΓ X F b m h=>zfB (zkX n Γ X F) h) F h
def zpw(F:Fits Γ cl k X)(h:cB Γ bd=some ms):SB X cl bd ms:=zfB (zkX 12 Γ X F) h
end
def zog{P:Program}{w:World}{K:PySem.W.Frag}{mg:Str->Option Value}{base:Heap}{cl:Cl}{x qual:Str}{st:Stmt}{f:Addr}{fd:FuncData}{ps:List Str}{k np ns:Nat}{b:MS}(Γ:RC){bd:List Stmt}(F:Fun K x qual st f fd)(hsc:xV st=Γ.sc)(hbd:uh st=bd)(S:FnScope Γ.N ps Γ.sc)(hnp:ps.length=np)(hns:Γ.N.length-np=ns)
  (hc:Γ.inC=false) (B:BaseOk P w K mg base cl k Γ) (hb:cB Γ bd=some b):FnOk P w K mg base CX0 (k+1) f fd ps (spM K cl (gc (fnM np ns b))):=
 zny F hsc hbd S hnp hns λcdv A outer s H E hr=>zpw (k:=k) ⟨rfl,rfl,S.nd,λ_ _=>rfl,S.kind,rfl,wU,hr,B⟩ hb
structure Def where
 x:Str
 qual:Str
 st:Stmt
 ps:List Str
 N:List Str
 own:List Str
 txt:List Str
 cmp:List ((Nat×Nat)×List Str)
 dic:List Str
 mka:List (Nat×Nat)
noncomputable def zaD(N ps:List Str)(sc:Scope):Bool:=sc.kind==.function && !sc.isCoroutine && !sc.isGenerator&&zf1 N&&N.take ps.length==ps&&ps.all (locB sc)&&sc.names.all λy=>y.2 != .free
def zhC(h:zaD N ps sc=true):FnScope N ps sc:=by
 unfold zaD at h;simp only[zx,qZ,qd] at h;obtain⟨⟨⟨⟨⟨⟨h1,h2⟩,h3⟩,h4⟩,h5⟩,h6⟩,h7⟩:=h;exact⟨h1,h2,h3,zk9 h4,h5,λx hx=>zd6 (kW.mp h6 x hx),λy hy=>by simpa using kW.mp h7 y hy⟩
noncomputable def HB(x qual:Str)(st:Stmt)(ps:List Str)(us:List Value):Prop:=∀(kV doc pm:Value) (an:Option Addr) (cdv ct:Value),bindArgs (PySem.W.fnOf x qual (uD st) (uh st) (xV st) .none kV doc pm an cdv ct) ⟨us,[]⟩=pure (ps.zip us)
noncomputable def HBs(x qual:Str)(st:Stmt)(ps:List Str):Prop:=∀us:List Value,us.length=ps.length->HB x qual st ps us
section
variable{x qual:Str}{st:Stmt}{ps:List Str}
def hb1(h:∀a,HB x qual st ps [a])(hl:ps.length=1:=by rfl):HBs x qual st ps:=λus e=>match us,e.trans hl with
 | [_],_=>h _
def hb2(h:∀a b,HB x qual st ps [a,b])(hl:ps.length=2:=by rfl):HBs x qual st ps:=λus e=>match us,e.trans hl with
 | [_,_],_=>h _ _
def hb3(h:∀a b c,HB x qual st ps [a,b,c])(hl:ps.length=3:=by rfl):HBs x qual st ps:=λus e=>match us,e.trans hl with
 | [_,_,_],_=>h _ _ _
def hb4(h:∀a b c d,HB x qual st ps [a,b,c,d])(hl:ps.length=4:=by rfl):HBs x qual st ps:=λus e=>match us,e.trans hl with
 | [_,_,_,_],_=>h _ _ _ _
def hb5(h:∀a b c d e,HB x qual st ps [a,b,c,d,e])(hl:ps.length=5:=by rfl):HBs x qual st ps:=λus e=>match us,e.trans hl with
 | [_,_,_,_,_],_=>h _ _ _ _ _
end
structure DTxt(K:PySem.W.Frag)(d:Def)(a:Addr)(fd:FuncData):Prop where
 F:Fun K d.x d.qual d.st a fd
 B:Binds K fd d.ps []
noncomputable def zcD(K:PySem.W.Frag)(mg:Str->Option Value)(d:Def):Prop:=∃a fd,DTxt K d a fd/\mg d.x=some (.ref a)
noncomputable def MTxt(K:PySem.W.Frag)(cl:Cl)(c:Nat)(d:Def):Prop:=∃a fd,DTxt K d a fd/\Meth K (cl.c c) d.x a/\Cls K (cl.c c)
noncomputable def ITxt(K:PySem.W.Frag)(mg:Str->Option Value)(cl:Cl)(x:Str)(c:Nat)(d:Def):Prop:=∃a fd,DTxt K d a fd/\mg x=some (.ref (cl.c c))/\Mk K (cl.c c) a
def zgR{K:PySem.W.Frag}{d:Def}(hb:HBs d.x d.qual d.st d.ps){f:Addr}{kV:Value}
  (l:K.lookup f=some ⟨oc,od,.func (PySem.W.fnOf d.x d.qual (uD d.st) (uh d.st) (xV d.st) .none kV doc pm an cdv ct),osl⟩) (c:PySem.W.codeIn K cdv d.qual=true) (k:PySem.W.keepIn K (.ref f)=true):∃fd,DTxt K d f fd:=by
 have F:=znD (st:=d.st) l c k;exact⟨_,F,F.binds λkV doc pm an cdv ct us hl=>hb us hl kV doc pm an cdv ct⟩
noncomputable def AllD(P:Def->Prop):List Def->Prop
 | []=>True
 | d::r=>P d/\AllD P r
noncomputable def RC.at(Γ:RC)(d:Def):RC:=⟨xV d.st,d.N,false,Γ.fns,Γ.con,Γ.tab,Γ.bin,d.own,d.txt,d.cmp,d.dic,Γ.fld,Γ.mt,Γ.mks,d.mka,Γ.way⟩
section
variable{P:Program}{w:World}{K:PySem.W.Frag}{mg:Str->Option Value}{base:Heap}{cl:Cl}{n np ns:Nat}{Γ:RC}{d:Def}{b:MS}
def zcF(T:DTxt K d a fd)(B:BaseOk P w K mg base cl n Γ)(hsc:zaD d.N d.ps (xV d.st)=true)(hnp:d.ps.length=np)(hns:d.N.length-np=ns)(hb:cB (Γ.at d) (uh d.st)=some b):FnOk P w K mg base CX0 (n+1) a fd d.ps (spM K cl (gc (fnM np ns b))):=
 zog (Γ.at d) T.F rfl rfl (zhC hsc) hnp hns rfl ⟨B.fns,B.con,B.tab,B.bin,B.pw,B.cls,B.mts,B.mks,B.way⟩ hb
def xZ(T:zcD K mg d)(B:BaseOk P w K mg base cl n Γ)(hsc:zaD d.N d.ps (xV d.st)=true:=by kernel_rfl)(hnp:d.ps.length=np:=by rfl)(hns:d.N.length-np=ns:=by rfl)(hb:cB (Γ.at d) (uh d.st)=some b:=by kernel_rfl):FnAt P w K mg base cl (n+1) d.x (gc (fnM np ns b)):=by
 obtain⟨a,fd,T,m⟩:=T;exact⟨a,fd,d.ps,zcF T B hsc hnp hns hb,m,T.F.kp,T.B⟩
def zee:FnOk P w K mg base CX0 0 a fd ps (spM K cl λ_ _=>none):=by
 have no:∀vs H Q E,¬spM K cl (λ_ _=>none) vs H Q E:=λvs H Q E ⟨μ,h,ws,w,h2,R,rs,e,k⟩=>by cases e
 exact⟨λvs H Q E h=>absurd h (no vs H Q E),λA outer s H args us vs Q E _ _ _ _ h=>absurd h (no vs H Q E)⟩
def xR(T:zcD K mg d):FnAt P w K mg base cl 0 d.x λ_ _=>none:=by
 obtain⟨a,fd,T,m⟩:=T;exact⟨a,fd,d.ps,zee,m,T.F.kp,T.B⟩
def zaO{c:Nat}(T:MTxt K cl c d)(B:BaseOk P w K mg base cl n Γ)(hsc:zaD d.N d.ps (xV d.st)=true:=by kernel_rfl)(hnp:d.ps.length=np:=by rfl)(hns:d.N.length-np=ns:=by rfl)(hb:cB (Γ.at d) (uh d.st)=some b:=by kernel_rfl):MtAt P w K mg base cl (n+1) c d.x (gc (fnM np ns b)):=by
 obtain⟨a,fd,T,m,kc⟩:=T;exact⟨a,fd,d.ps,kc,m,zcF T B hsc hnp hns hb,T.B⟩
def uO{c:Nat}(T:MTxt K cl c d):MtAt P w K mg base cl 0 c d.x λ_ _=>none:=by
 obtain⟨a,fd,T,m,kc⟩:=T;exact⟨a,fd,d.ps,kc,m,zee,T.B⟩
def zkW{c:Nat}(T:ITxt K mg cl x c d)(B:BaseOk P w K mg base cl n Γ)(hsc:zaD d.N d.ps (xV d.st)=true:=by kernel_rfl)(hnp:d.ps.length=np:=by rfl)(hns:d.N.length-np=ns:=by rfl)(hb:cB (Γ.at d) (uh d.st)=some b:=by kernel_rfl):MkAt P w K mg base cl (n+1) x c (gc (fnM np ns b)):=by
 obtain⟨a,fd,T,m,mk⟩:=T;exact⟨a,fd,d.ps,m,mk,zcF T B hsc hnp hns hb,T.B⟩
end
section
variable{P:Program}{w:World}{K:PySem.W.Frag}{mg:Str->Option Value}{base:Heap}{cl:Cl}{d:Def}
def zek{c:Nat}(T:ITxt K mg cl x c d):MkAt P w K mg base cl 0 x c λ_ _=>none:=by
 obtain⟨a,fd,T,m,mk⟩:=T;exact⟨a,fd,d.ps,m,mk,zee,T.B⟩
end
noncomputable def AllM(P:Nat->Str->(List W->M W)->Prop):MTab->Prop
 | []=>True
 | ((c,m),g)::r=>P c m g/\AllM P r
theorem AllM.at{c:Nat}:∀{l:MTab},AllM P l->l.lookup (c,m)=some g->P c m g
 | [],_,e=>by cases e
 | ((c',m'),g')::r,h,e=>by
  rw[kJ] at e;cases q:((c,m)==(c',m')) with
  | true=>rw[q] at e; cases e; have:=eq_of_beq q; cases this; exact h.1
  | false=>rw[q] at e; exact AllM.at h.2 e
noncomputable def spA(g:List W->M W)(K:PySem.W.Frag):Sp:=λvs H Q E=>∀cl,spM K cl g vs H Q E
def zoE{f:List W->M W}(hf:∀ns:List Int,ns.length<=63->∃h',f [.fls (ns.map W.int)] []=some (.bl true,h'))(K:PySem.W.Frag)(H:Hp)(a:Addr)(ns:List Int)(hl:ns.length<=63)(hS:SqL K H a (ns.map V.int)):spA f K [.ref a] H (λv _=>v=.bl true) λ_ _ _=>False:=by
 intro cl;obtain⟨h',e⟩:=hf ns hl;refine⟨[],[],[.fls (ns.map W.int)],.bl true,h',⟨rfl,vN,λn a o e=>by simp at e⟩,.cons (.fls ?_ (RWs.ints ns)) .nil,e,λμ' H' v E R r=>r.bl_of⟩;rcases hS with hS | hS
 .exact .inl ⟨hS,by simp⟩
 .exact .inr hS
end ML
namespace ML
open PySem PySem.Spec PyProof.Rows PySem.W L2
noncomputable def Kw(h:Heap):PySem.W.Frag:=(List.range h.objs.size).filterMap λa=>(h.get? a).map λo=>(a,o)
theorem Kw.lookupAux(h:Heap)(a:Addr):∀l:List Nat,(l.filterMap λa=>(h.get? a).map λo=>(a,o)).lookup a=if a∈l then h.get? a else none
 | []=>by simp
 | b::l=>by
  cases q:h.get? b with
  | none=>
   rw[List.filterMap_cons_none (by rw[q]; rfl),Kw.lookupAux h a l];by_cases e:a=b
   .subst e; simp[q]
   .simp[e]
  | some o=>
   rw[List.filterMap_cons_some (b:=(b,o)) (by rw[q]; rfl),kJ];by_cases e:a=b
   .subst e; simp[q]
   .have:(a==b)=false:=by simp[e]
    rw[this]; simp only[]; rw[Kw.lookupAux h a l]; simp[e]
theorem Kw.lookup{h:Heap}:(Kw h).lookup a=h.get? a:=by
 unfold Kw;rw[Kw.lookupAux];split
 .rfl
 .rename_i n
  cases q:h.get? a with
  | none=>rfl
  | some o=>exact absurd (yC.mpr (zB q)) n
def Kw.in(h:Heap):(Kw h).In h:=λa o e=>Kw.lookup▸e
def zke{l:PySem.W.OpenLaw}{q:Program}{d:DefRec}{sp:World->PySem.W.Frag->Sp}
  (hn:l.most=some n) (hn2:n<=sizeLine) (hdf:d.params.defaults=[]) (hr:Room k callerA)
  (F:∀(w:World) (s₀:Shared) (mg mb:Str->Option Value) (fa:Addr) (h:Heap),Ground q loose [] XP w s₀ mg mb h->YP w h->mg d.name=some (.ref fa)->
   ∃fd:FuncData,(∀(s:Shared) (u:Value),BindsTo s fd ⟨[u],[]⟩ [(x,u)]) /\
    ∀base:Heap,(Kw h).In base->base.Ns mainGlobals mg->FnOk l.prog w (Kw h) mg base CX k fa fd [x] (sp w (Kw h)))
  (hsp:∀(w:World) (K:PySem.W.Frag) (H:Hp) (a:Addr) (ns:List Int),ns.length<=n->Only H->SqL K H a (ns.map V.int)->sp w K [.ref a] H (λv _=>v=.bl true) λ_ _ _=>False)
  (hCX:∀(H:Hp) (s:Shared) (e:Value) (s':Shared),CX [] H s (λ_ _ _=>False) e s'->False) :
  PySem.W.WalkO q loose XP YP l.row.toRowW d [] (λf vs=>PySem.call f vs):=by
 refine Att.attach_call hn hdf λw s₀ s₁ mg mb fa o pm cd doc a vs ns G Y ho hd hcd hmg hobj hints hlen hg=>?_
 obtain⟨fd,hb,hF⟩:=F w s₀ mg mb fa _ G Y hmg;exact zjN (Kw.in _) G.T.g G.T.b G.T.builtins G.T.nolimit hg hobj hints (zQ hlen hn2) hr hF hb (λH hO hS=>hsp w _ H a ns hlen hO hS) λH e s'=>hCX H s₁ e s'
def txtG{q:Program}(G:Ground q loose R XP w s₀ mg mb h){d:Def}
  (hd:(defOf q d.x).map (λp=>(p.1.name,p.1.params,p.1.body,p.1.scope,p.2))=some (d.x,uD d.st,uh d.st,xV d.st,[])) (hq0:d.qual=d.x) (hb:HBs d.x d.qual d.st d.ps) (hf:(uD d.st).defaults=[]):zcD (Kw h) mg d:=by
 obtain⟨⟨⟨n,p,b,sc,ps⟩,kw⟩,hq,e⟩:=zg.mp hd;cases e;obtain⟨a,o,pm,cd,doc,dV,kV,m,ho,hdt,hc,D⟩:=G.fn hq;obtain rfl:dV=.none:=Dflts.none D hf;obtain rfl:kV=.none:=Dflts.noKw D;have lk:(Kw h).lookup a=some ⟨o.cls,o.dict,.func (PySem.W.fnOf d.x d.x (uD d.st) (uh d.st) (xV d.st) .none .none doc pm none cd .none),o.slots⟩:=by
  rw[Kw.lookup,ho];cases o;cases hdt;rfl
 have c:PySem.W.codeIn (Kw h) cd d.x=true:=by
  obtain⟨c,o',vs,t,rfl,e1,e2,e3⟩:=hc;unfold PySem.W.codeIn;simp only[Kw.lookup,e1];cases o';cases e2;simp only[];obtain⟨vs⟩:=vs;match vs,e3 with
  | [],e3=>cases e3
  | [_],e3=>cases e3
  | _::v::r,e3=>
   have e4:some v=some (Value.str d.x t):=by simpa using e3
   cases e4;simp
 have k:PySem.W.keepIn (Kw h) (.ref a)=true:=by
  unfold PySem.W.keepIn;simp only[lk]
 rw[<-hq0] at c;have lk2:(Kw h).lookup a=some ⟨o.cls,o.dict,.func (PySem.W.fnOf d.x d.qual (uD d.st) (uh d.st) (xV d.st) .none .none doc pm none cd .none),o.slots⟩:=by rw[lk,hq0]
 obtain⟨fd,D⟩:=zgR hb lk2 c k;exact⟨a,fd,D,m⟩
noncomputable def toW:Nat->Cn->W
 | 0,_=>.non
 | n+1,c=>match c with
  | .int i=>.int i
  | .str x=>.str x
  | .tup l=>.tup (l.map (toW n))
noncomputable def toT(l:List (Str×Cn)):List (Str×W):=l.map λp=>(p.1,toW 9 p.2)
def zkd{h:Heap}(e:ze3 h v=some its):∃a o n,v=.ref a/\h.get? a=some o/\(o.cls=.type "tuple" /\ o.dict=none)/\o.data=.seq its n:=by
 cases v with
 | ref a=>
  obtain⟨⟨c,di,d,sl⟩,e1,e2⟩:=zp.mp e;cases c with
  | type t=>
   have e3:(if t="tuple" then (match d with | .seq its _=>if di.isNone then some its else none | _=>none) else none)=some its:=e2;by_cases q:t="tuple"
   .rw[zX q] at e3
    cases d with
    | seq its' n=>
     have e4:(if di.isNone then some its' else none)=some its:=e3;by_cases q2:di.isNone=true
     .rw[zX q2] at e4
      cases e4;exact⟨a,_,n,rfl,e1,⟨by rw[q],qI.mp q2⟩,rfl⟩
     .rw[kO q2] at e4; cases e4
    | _=>cases e3
   .rw[kO q] at e3; cases e3
  | _=>cases e2
 | _=>cases e
def znh{K:PySem.W.Frag}{p:Cn->Value->Bool}{f:Cn->W}(hp:∀w v,p w v=true->KW K (f w) v)(l:List Cn):∀vs:List Value,za4 p l vs=true->KWs K (l.map f) vs:=by
 induction l with
 | nil=>intro vs h; cases vs with | nil=>exact .nil | cons _ _=>cases h
 | cons w l ih=>
  intro vs h;cases vs with
  | nil=>cases h
  | cons v vs=>have h2:=jw.mp h; exact .cons (hp _ _ h2.1) (ih vs h2.2)
def zep{h:Heap}{K:PySem.W.Frag}(hK:∀b o,h.get? b=some o->K.lookup b=some o)(n:Nat):∀w v,zbT h n w v=true->KW K (toW n w) v:=by
 induction n with
 | zero=>intro w v e; cases e
 | succ n ih=>
  intro w v e;cases w with
  | int i=>cases v with
   | int j t=>cases eq_of_beq (show(i==j)=true from e); exact .int
   | _=>cases e
  | str x=>cases v with
   | str j t=>cases eq_of_beq (show(x==j)=true from e); exact .str
   | _=>cases e
  | tup l=>
   have e1:((ze3 h v).any λits=>decide (its.size<=sizeLine)&&za4 (zbT h n) l its.toList)=true:=e;cases z:ze3 h v with
   | none=>rw[z] at e1; cases e1
   | some its=>
    rw[z] at e1;obtain⟨a,o,m,rfl,e4,e5,e6⟩:=zkd z;have e7:=jw.mp e1;exact .tup (hK _ _ e4) e5 e6 (qz e7.1) (znh ih _ _ e7.2)
def zeE{h:Heap}(e:dictAt h v=some es):∃a n,v=.ref a/\h.get? a=some ⟨.type "dict",none,.dict es n,#[]⟩/\(a==sysModules)=false:=by
 cases v with
 | ref a=>
  obtain⟨⟨c,di,d,sl⟩,e1,e2⟩:=zp.mp e;cases c with
  | type t=>
   have e3:(if t="dict" then (match d with | .dict es _=>if di.isNone&&sl.isEmpty&&a != sysModules then some es else none | _=>none) else none)=some es:=e2;by_cases q:t="dict"
   .rw[zX q] at e3
    cases d with
    | dict es' n=>
     have e4:(if di.isNone&&sl.isEmpty&&a != sysModules then some es' else none)=some es:=e3;by_cases z:(di.isNone&&sl.isEmpty&&a != sysModules)=true
     .rw[zX z] at e4
      cases e4;have z1:=jw.mp z;have z2:=jw.mp z1.1;refine⟨a,n,rfl,?_,?_⟩
      .rw[e1,q,qI.mp z2.1,Array.isEmpty_iff.mp z2.2]
      .have:=z1.2; rw[bne,qZ] at this; exact this
     .rw[kO z] at e4; cases e4
    | _=>cases e3
   .rw[kO q] at e3; cases e3
  | _=>cases e2
 | _=>cases e
def tab_of{h:Heap}{K:PySem.W.Frag}(hK:∀b o,h.get? b=some o->K.lookup b=some o)(l:List (Str×Cn)):∀es:List DictEntry,za4 (λp (e:DictEntry)=>isS p.1 e.key&&zbT h 9 p.2 e.val) l es=true->es.map (·.hash)=l.map (λp=>PyData.keyHash P p.1)->TabRel K (toT l) es/\PySem.W.KeysLit P es:=by
 induction l with
 | nil=>intro es a b; cases es with | nil=>exact⟨.nil,trivial⟩ | cons _ _=>cases a
 | cons p l ih=>
  intro es a b;cases es with
  | nil=>cases a
  | cons e es=>
   have a1:=jw.mp a;have a2:=jw.mp a1.1;have b1:=List.cons.inj b;obtain⟨r,t⟩:=ih es a1.2 b1.2;obtain⟨eh,ek,ev⟩:=e;cases ek with
   | str y t'=>
    have q:=eq_of_beq (show(p.1==y)=true from a2.1);subst q;exact⟨.cons (hs:=0) (v:=.none) rfl (zep hK _ _ _ a2.2) r,⟨_,_,rfl,b1.1⟩,t⟩
   | _=>cases a2.1
def zgQ{h h₀:Heap}(G:h.Ns mainGlobals mg)(k:∀b o,h₀.get? b=some o->h.get? b=some o)(hn:h₀.isNs mainGlobals=true)(x:Str):mg x=h₀.nsMap mainGlobals x:=by
 obtain⟨o,es,ep,e1,e2,e3,e4⟩:=Heap.Ns.of_isNs hn;obtain⟨o',es',ep',f1,f2,f3,f4⟩:=G;have:=k _ _ e1;rw[f1] at this;cases this;rw[e2] at f2;cases f2;rw[<-f4 x,<-e4 x]
theorem zdO{α β:Type}{P:Str->α->Prop}(f:β->α):∀{l:List (Str×β)},(∀p∈l,P p.1 (f p.2))->AllOf P (l.map λp=>(p.1,f p.2))
 | [],_=>trivial
 | (x,g)::r,h=>⟨h (x,g) (zZ ..),zdO f λp m=>h p (zN _ m)⟩
theorem none_of:∀{l:List Str},(∀x∈l,mg x=none)->AllNone mg l
 | [],_=>trivial
 | x::r,h=>⟨h x (zZ ..),none_of λp m=>h p (zN _ m)⟩
def zoO{cons:List (Str×Cn)}{tabs:List (Str×List (Str×Cn))}{bins:List Str}{w:World}{h:Heap}(Y:(zo1 cons tabs bins).says w h)(G:h.Ns mainGlobals mg) :
  AllOf (Glob (Kw h) mg) (toT cons)/\AllOf (TabOk (Kw h) w.params mg) (tabs.map λp=>(p.1,toT p.2))/\AllNone mg bins:=by
 obtain⟨h₀,k,b,t⟩:=Y;have hK:∀b o,h₀.get? b=some o->(Kw h).lookup b=some o:=λb o e=>by rw[Kw.lookup]; exact k _ _ e
 unfold seeB at b;simp only[zx,kW] at b;obtain⟨⟨b1,b2⟩,b3⟩:=b;have M:=zgQ G k b1;refine⟨zdO (toW 9) λp m=>?_,zdO toT λp m=>?_,none_of λx m=>?_⟩
 .have e:=b2 p m
  cases q:h₀.nsMap mainGlobals p.1 with
  | none=>rw[q] at e; cases e
  | some v=>rw[q] at e; exact(zep hK _ _ _ e).glob ((M _).trans q)
 .have e:tabB h₀ p.2 (h₀.nsMap mainGlobals p.1)=(true,p.2.map λk=>PyData.keyHash w.params k.1):=by
   unfold seeT zdo at t;exact(List.map_inj_left.mp t) p m
  unfold tabB at e;cases q:h₀.nsMap mainGlobals p.1 with
  | none=>rw[q] at e; cases e
  | some v=>
   rw[q] at e;cases z:dictAt h₀ v with
   | none=>rw[qK,z] at e; cases e
   | some es=>
    rw[qK,z] at e;have e2:=yr e;obtain⟨a,n,rfl,g,f⟩:=zeE z;obtain⟨r,kl⟩:=tab_of hK (P:=w.params) p.2 es.toList e2.1 e2.2;exact⟨a,es,n,(M _).trans q,hK _ _ g,kl,f,r⟩
 .have:=b3 x m
  rw[M];exact qI.mp this
def zo3{h:Heap}(n:h.Ns N mN)(x:Str):nsIn (Kw h) N x=some (mN x):=by
 obtain⟨⟨oc,od,odt,osl⟩,es,ep,ho,hd,hk,hf⟩:=n;cases hd;unfold nsIn;rw[Kw.lookup,ho];simp only[];rw[<-hf x];unfold nsFind findBy;rw[<-wX];cases q:es.toList.find? (λe=>e.key.isStr x) with
 | some e=>rfl
 | none=>
  simp only[Option.map_none];rw[kO];intro z;obtain⟨e,m,r⟩:=qt.mp z;obtain⟨y,t,ek⟩:=hk e (yZ.mp m);unfold DictEntry.refKey at r;rw[ek] at r;cases r
section
variable{h:Heap}{C N:Addr}{mN:Str->Option Value}
def zdd(c:ClsAt h C N mN):∃nm q bs sn sub col dd k0 k1 k2 k3 k5,(Kw h).lookup C=some (excClassObj nm q C N bs [.type "object"] true sn sub false col dd k0 k1 k2 k3 k5 "object.__new__"):=by
 obtain⟨nm,q,bs,sn,sub,col,dd,k0,k1,k2,k3,k5,e⟩:=c.obj;exact⟨nm,q,bs,sn,sub,col,dd,k0,k1,k2,k3,k5,by rw[Kw.lookup,e]⟩
theorem zbR(c:ClsAt h C N mN)(x:Str):findIn (Kw h) (.ref C) x=match mN x with
  | some v=>some (some v)
  | none=>some (fastBuiltinOwn "object" x):=by
 obtain⟨nm,q,bs,sn,sub,col,dd,k0,k1,k2,k3,k5,e⟩:=zdd c;unfold findIn;dsimp only;rw[e];simp only[alongIn,ownIn,e,zo3 c.ns x];cases mN x with
 | some v=>rfl
 | none=>
  simp only[];cases fastBuiltinOwn "object" x<;>rfl
def znP(c:ClsAt h C N mN)(q1:mN "__setattr__" = none)(q2:mN "__getattribute__" = none)(q3:mN "__getattr__" = none):Cls (Kw h) C:=by
 obtain⟨nm,q,bs,sn,sub,col,dd,k0,k1,k2,k3,k5,e⟩:=zdd c;refine⟨?_,?_,?_,?_⟩
 .unfold plainGet
  rw[zbR c,zbR c,q2,q3];decide +kernel
 .unfold hasDictIn clsIn
  rw[e];rfl
 .unfold plainOver clsIn
  rw[e];rfl
 .rw[zbR c,q1]
  decide +kernel
def ziS(c:ClsAt h C N mN){f:Str}(q:mN f=none)(hf:fastBuiltinOwn "object" f=none):NoAttr (Kw h) C f:=by
 unfold NoAttr;rw[zbR c,q,hf]
def zgI{f:Addr}{o:Obj}(ho:h.get? f=some o)(hd:o.data=.func fd):keepIn (Kw h) (.ref f)=true:=by
 unfold keepIn;obtain⟨oc,od,odt,osl⟩:=o;cases hd;simp only[Kw.lookup,ho]
def zpl{f:Addr}{o:Obj}(ho:h.get? f=some o)(hc:o.cls=.type "function"):isFn (Kw h) (.ref f)=true:=by
 unfold isFn typeIn;dsimp only;rw[Kw.lookup,ho];simp only[yt,hc];decide +kernel
def zkS(c:ClsAt h C N mN):makesIn (Kw h) C=true/\keepIn (Kw h) (.ref C)=true:=by
 obtain⟨nm,q,bs,sn,sub,col,dd,k0,k1,k2,k3,k5,e⟩:=zdd c;have t:specialIn (Kw h) (.ref C) "__call__" = some (some (.builtin "type.__call__")):=by
  unfold specialIn typeIn;dsimp only;rw[e];show findIn (Kw h) (.type "type") "__call__" = _
  show fastLookup "type" "__call__" = _
  decide +kernel
 have i:instIn (Kw h) (.ref C) (.type "type")=some true:=by
  unfold instIn typeIn;dsimp only;rw[e];show subIn (Kw h) (.type "type") (.type "type")=_
  show(fastBuiltinMro "type").map (·.contains (.type "type"))=_
  decide +kernel
 refine⟨?_,?_⟩
 .unfold makesIn
  rw[e];simp only[t,i];simp
 .unfold keepIn
  dsimp only;rw[e];simp only[t];decide +kernel
end
def zl2{h:Heap}(hc:h.CodeRec cd x):codeIn (Kw h) cd x=true:=by
 obtain⟨c,o',vs,t,rfl,e1,e2,e3⟩:=hc;unfold codeIn;simp only[Kw.lookup,e1];cases o';cases e2;simp only[];obtain⟨vs⟩:=vs;match vs,e3 with
 | [],e3=>cases e3
 | [_],e3=>cases e3
 | _::v::r,e3=>
  have e4:some v=some (Value.str x t):=by simpa using e3
  cases e4;simp
structure ClsG(h:Heap)(mg:Str->Option Value)(c:ClsRec)(C:Addr):Prop where
 m:mg c.name=some (.ref C)
 ex:∃N mN,PlainAt h c.withCmp C N mN
def clsG{q:Program}(G:Ground q loose R XP w s₀ mg mb h){c:ClsRec}(hc:c∈plainsOf q (looseW q loose)):∃C,ClsG h mg c C:=by
 obtain⟨C,N,mN,a,b⟩:=G.TE c hc;exact⟨C,a,N,mN,b⟩
theorem ClsG.cls{c:ClsRec}(g:ClsG h mg c C):Cls (Kw h) C/\∀f∈c.statics,fastBuiltinOwn "object" f=none->NoAttr (Kw h) C f:=by
 obtain⟨N,mN,P⟩:=g.ex;have q:∀n∈c.withCmp.quiet,mN n=none:=P.quiet;exact⟨znP P.cls (q _ (by simp[ClsRec.quiet])) (q _ (by simp[ClsRec.quiet])) (q _ (by simp[ClsRec.quiet])),λf hf=>ziS P.cls (q f (by simp only[ClsRec.quiet,ClsRec.withCmp,zV]; exact .inr (.inl hf)))⟩
def ClsG.meth{c:ClsRec}(g:ClsG h mg c C){d:Def}{m:MethRec}(hm:m∈c.meths)(hd:(m.name,m.params,m.body,m.scope)=(d.x,uD d.st,uh d.st,xV d.st))(hq:c.name++"." ++ m.name=d.qual)(hb:HBs d.x d.qual d.st d.ps):∃a fd,DTxt (Kw h) d a fd/\Meth (Kw h) C d.x a:=by
 obtain⟨N,mN,P⟩:=g.ex;obtain⟨f,o,pm,cd,doc,q1,q2,q3,q4,q5⟩:=P.meths m hm;have hq':c.withCmp.name++"." ++ m.name=d.qual:=hq;rw[hq'] at q4 q5;obtain⟨nm,pr,bd,sc⟩:=m;cases hd;have lk:(Kw h).lookup f=some ⟨o.cls,o.dict,.func (PySem.W.fnOf d.x d.qual (uD d.st) (uh d.st) (xV d.st) .none .none doc pm none cd .none),o.slots⟩:=by
  rw[Kw.lookup,q2];cases o;cases q4;rfl
 obtain⟨fd,D⟩:=zgR hb lk (zl2 q5) (zgI q2 q4);exact⟨f,fd,D,by rw[zbR P.cls,q1],zpl q2 q3,zgI q2 q4⟩
def ClsG.mtxt{c:ClsRec}{cl:Cl}(g:ClsG h mg c (cl.c n)){d:Def}{m:MethRec}(hm:m∈c.meths)(hd:(m.name,m.params,m.body,m.scope)=(d.x,uD d.st,uh d.st,xV d.st))(hq:c.name++"." ++ m.name=d.qual)(hb:HBs d.x d.qual d.st d.ps):MTxt (Kw h) cl n d:=by
 obtain⟨a,fd,D,M⟩:=g.meth hm hd hq hb;exact⟨a,fd,D,M,g.cls.1⟩
def ClsG.itxt{c:ClsRec}{cl:Cl}(g:ClsG h mg c (cl.c n)){d:Def}{m:MethRec}(hm:m∈c.meths)(hd:(m.name,m.params,m.body,m.scope)=(d.x,uD d.st,uh d.st,xV d.st))(hq:c.name++"." ++ m.name=d.qual)(hb:HBs d.x d.qual d.st d.ps)(hi:d.x="__init__"):ITxt (Kw h) mg cl c.name n d:=by
 obtain⟨a,fd,D,M⟩:=g.meth hm hd hq hb;obtain⟨N,mN,P⟩:=g.ex;obtain⟨m1,m2⟩:=zkS P.cls;exact⟨a,fd,D,g.m,m1,hi▸M.at_,M.fn,m2⟩
noncomputable def adr(mg:Str->Option Value)(x:Str):Addr:=match mg x with
 | some (.ref a)=>a
 | _=>0
noncomputable def wayT(mg:Str->Option Value)(l:List (Str×Str)):List (Str×W):=l.map λp=>(p.1,.fn (adr mg p.2))
def znv{h₀:Heap}{mg:Str->Option Value}{K:PySem.W.Frag}(M:∀x,mg x=h₀.nsMap mainGlobals x){P:Params}:∀(l:List (Str×Str)) (es:List DictEntry),za4 (λp (e:DictEntry)=>isS p.1 e.key&&refB h₀ p.2 e.val) l es=true->es.map (·.hash)=l.map (λp=>PyData.keyHash P p.1)->TabRel K (wayT mg l) es/\PySem.W.KeysLit P es:=by
 intro l;induction l with
 | nil=>intro es a b; cases es with | nil=>exact⟨.nil,trivial⟩ | cons _ _=>cases a
 | cons p l ih=>
  intro es a b;cases es with
  | nil=>cases a
  | cons e es=>
   have a1:=jw.mp a;have a2:=jw.mp a1.1;have b1:=List.cons.inj b;obtain⟨r,t⟩:=ih es a1.2 b1.2;obtain⟨eh,ek,ev⟩:=e;cases ek with
   | str y t'=>
    have q:=eq_of_beq (show(p.1==y)=true from a2.1);subst q;have kw:KW K (.fn (adr mg p.2)) ev:=by
     have z:=a2.2;unfold refB at z;unfold adr;rw[M];split at z
     .rename_i a0 b0 e0 e1
      simp only at e0;rw[e1];have:=eq_of_beq z;subst this;rw[show ev=.ref a0 from e0];exact .fn
     .cases z
    exact⟨.cons (hs:=0) (v:=.none) rfl kw r,⟨_,_,rfl,b1.1⟩,t⟩
   | _=>cases a2.1
def zlx{cons:List (Str×Cn)}{tabs:List (Str×List (Str×Cn))}{bins:List Str}{ways:List (Str×List (Str×Str))}{w:World}{h:Heap}{mg:Str->Option Value}(Y:(zk0 cons tabs bins ways).says w h)(G:h.Ns mainGlobals mg) :
  AllOf (Glob (Kw h) mg) (toT cons)/\AllOf (TabOk (Kw h) w.params mg) (tabs.map λp=>(p.1,toT p.2))/\AllNone mg bins/\AllOf (λx l=>TabOk (Kw h) w.params mg x (wayT mg l)) ways:=by
 obtain⟨h₀,k,b,t,u⟩:=Y;obtain⟨h1,h2,h3⟩:=zoO (cons:=cons) (tabs:=tabs) (bins:=bins) (w:=w) (h:=h) ⟨h₀,k,b,t⟩ G;refine⟨h1,h2,h3,?_⟩;unfold seeB at b;simp only[zx,kW] at b;have M:=zgQ G k b.1.1;have hK:∀b o,h₀.get? b=some o->(Kw h).lookup b=some o:=λb o e=>by rw[Kw.lookup]; exact k _ _ e
 have key:∀p∈ways,TabOk (Kw h) w.params mg p.1 (wayT mg p.2):=λp m=>by
  have e:wayB h₀ p.2 (h₀.nsMap mainGlobals p.1)=(true,p.2.map λk=>PyData.keyHash w.params k.1):=by
   unfold seeW goodW at u;exact(List.map_inj_left.mp u) p m
  unfold wayB at e;cases q:h₀.nsMap mainGlobals p.1 with
  | none=>rw[q] at e; cases e
  | some v=>
   rw[q] at e;cases z:dictAt h₀ v with
   | none=>rw[qK,z] at e; cases e
   | some es=>
    rw[qK,z] at e;have e2:=yr e;obtain⟨a,n,rfl,g,f⟩:=zeE z;obtain⟨r,kl⟩:=znv (K:=Kw h) M (P:=w.params) p.2 es.toList e2.1 e2.2;exact⟨a,es,n,(M _).trans q,hK _ _ g,kl,f,r⟩
 have:=zdO (P:=λx l=>TabOk (Kw h) w.params mg x (wayT mg l)) (id:List (Str×Str)->List (Str×Str)) (l:=ways) key;simpa using this
noncomputable def zff(fns:List (Str×(List W->M W))):List (Str×Str)->List (Str×(List W->M W))->Prop
 | [],[]=>True
 | (k,x)::l,(k',g)::ws=>k=k'/\fns.lookup x=some g/\zff fns l ws
 | _,_=>False
theorem zfS{P:Program}{w:World}{K:PySem.W.Frag}{mg:Str->Option Value}{fns:List (Str×(List W->M W))}(A:AllOf (FnAt P w K mg base cl k) fns):∀{l:List (Str×Str)} {ws:List (Str×(List W->M W))},zff fns l ws->∀y g,ws.lookup y=some g->
  ∃f fd ps,(wayT mg l).lookup y=some (.fn f)/\FnOk P w K mg base CX0 k f fd ps (spM K cl g)/\PySem.W.keepIn K (.ref f)=true/\Binds K fd ps []
 | [],[],_,y,g,e=>by cases e
 | [],_::_,r,_,_,_=>by cases r
 | _::_,[],r,_,_,_=>by cases r
 | (k0,x)::l,(k1,g1)::ws,r,y,g,e=>by
  obtain⟨rfl,r2,r3⟩:=r;rw[kJ] at e;show ∃f fd ps,((k0,W.fn (adr mg x))::wayT mg l).lookup y=some (.fn f)/\_
  rw[kJ];cases q:y==k0 with
  | true=>
   rw[q] at e;cases e;obtain⟨f,fd,ps,a,b,c,d⟩:=A.at r2;exact⟨f,fd,ps,by simp only[adr,b],a,c,d⟩
  | false=>
   rw[q] at e;exact zfS A r3 y g e
def ziK{P:Program}{w:World}{K:PySem.W.Frag}{mg:Str->Option Value}{base:Heap}{cl:Cl}{fns:List (Str×(List W->M W))}(A:AllOf (FnAt P w K mg base cl k) fns)(T:TabOk K w.params mg x (wayT mg l))(r:zff fns l ws):zhq P w K mg base cl k x ws:=⟨_,T,zfS A r⟩
noncomputable def zaQ(q:Program)(loose:List Str)(x:Str):Option ClsRec:=(plainsOf q (looseW q loose)).find? (·.name==x)
def ziD{q:Program}(G:Ground q loose R XP w s₀ mg mb h)(hx:(zaQ q loose x).isSome=true):∃c C,zaQ q loose x=some c/\ClsG h mg c C:=by
 obtain⟨c,hc⟩:=qe.mp hx;obtain⟨C,g⟩:=clsG G (vO hc);exact⟨c,C,hc,g⟩
def zdl{q:Program}{c:ClsRec}(hc:zaQ q loose x=some c):c.name=x:=by
 have:=List.find?_some (show(plainsOf q (looseW q loose)).find? (λc=>c.name==x)=some c from hc);exact eq_of_beq this
noncomputable def ze2(q:Program)(loose:List Str)(x m:Str):Option MethRec:=(zaQ q loose x).bind λc=>c.meths.find? (·.name==m)
def uQ{q:Program}{c:ClsRec}{d:Def}(hc:zaQ q loose x=some c)(hm:(ze2 q loose x d.x).map (λm=>(m.name,m.params,m.body,m.scope))=some (d.x,uD d.st,uh d.st,xV d.st)):∃m∈c.meths,(m.name,m.params,m.body,m.scope)=(d.x,uD d.st,uh d.st,xV d.st):=by
 obtain⟨m,e1,e2⟩:=zg.mp hm;unfold ze2 at e1;rw[hc,qK] at e1;exact⟨m,vO e1,e2⟩
section
variable{q:Program}{loose:List Str}{x:Str}{c:ClsRec}{d:Def}{h:Heap}{mg:Str->Option Value}{cl:Cl}{n:Nat}
def zaN(g:ClsG h mg c (cl.c n))(hc:zaQ q loose x=some c)(hm:(ze2 q loose x d.x).map (λm=>(m.name,m.params,m.body,m.scope))=some (d.x,uD d.st,uh d.st,xV d.st))(hq:x++"." ++ d.x=d.qual)(hb:HBs d.x d.qual d.st d.ps):MTxt (Kw h) cl n d:=by
 obtain⟨m,m1,m2⟩:=uQ hc hm;refine g.mtxt m1 m2 ?_ hb;rw[zdl hc,(yr m2).1];exact hq
def zkV(g:ClsG h mg c (cl.c n))(hc:zaQ q loose x=some c)(hm:(ze2 q loose x d.x).map (λm=>(m.name,m.params,m.body,m.scope))=some (d.x,uD d.st,uh d.st,xV d.st))(hq:x++"." ++ d.x=d.qual)(hb:HBs d.x d.qual d.st d.ps)(hi:d.x="__init__"):ITxt (Kw h) mg cl x n d:=by
 obtain⟨m,m1,m2⟩:=uQ hc hm;have:=g.itxt m1 m2 (by rw[zdl hc,(yr m2).1]; exact hq) hb hi;rwa [zdl hc] at this
def zg9{fs:List Str}(g:ClsG h mg c (cl.c n))(hc:zaQ q loose x=some c)(hf:(zaQ q loose x).map (λc=>fs.all λf=>c.statics.contains f&&(fastBuiltinOwn "object" f).isNone)=some true):∀f∈fs,Cls (Kw h) (cl.c n)/\NoAttr (Kw h) (cl.c n) f:=by
 rw[hc,yt] at hf;intro f m;have:=kW.mp (kj hf) f m;rw[zx] at this;exact⟨g.cls.1,g.cls.2 f (by simpa using this.1) (qI.mp this.2)⟩
def zkv{K:PySem.W.Frag}(H:∀p∈fl,∀f∈p.2,Cls K (cl.c p.1)/\NoAttr K (cl.c p.1) f):zbx K cl fl:=by
 intro c f e;unfold uC at e;obtain⟨p,m,r⟩:=qt.mp e;rw[zx] at r;obtain⟨y,my,ry⟩:=qt.mp r.2;have e1:=eq_of_beq r.1;have e2:=eq_of_beq ry;subst e1 e2;exact H p m y my
end
def walk_lawD{l:PySem.W.OpenLaw}{q:Program}{d:DefRec}{D:Def}{Γ:RC}{ns:Nat}(T:PySem.W.Frag->World->(Str->Option Value)->Cl->Prop)(hn:l.most=some 63)(hdf:d.params.defaults=[])
  (hr:Room (room+1) callerA) (hx:D.x=d.name) (hps:D.ps=[y]) (hb:HBs D.x D.qual D.st D.ps) (hsc:zaD D.N D.ps (xV D.st)=true) (hns:D.N.length-1=ns) (hB:cB (Γ.at D) (uh D.st)=some b) (hg:g=gc (fnM 1 ns b))
  (main:∀ns:List Int,ns.length<=63->∃h',g [.fls (ns.map W.int)] []=some (.bl true,h'))
  (lvl:∀(w:World) (K:PySem.W.Frag) (mg:Str->Option Value) (base:Heap) (cl:Cl),T K w mg cl->BaseOk l.prog w K mg base cl room Γ)
  (F:∀(w:World) (s₀:Shared) (mg mb:Str->Option Value) (h:Heap),Ground q loose [] XP w s₀ mg mb h->YP w h->∃cl,zcD (Kw h) mg D/\T (Kw h) w mg cl):PySem.W.WalkO q loose XP YP l.row.toRowW d [] (λf vs=>PySem.call f vs):=by
 refine zke (n:=63) (k:=room+1) (x:=y) (CX:=CX0) (sp:=λ_=>spA g) hn (by decide) hdf hr (λw s₀ mg mb fa h G Y hmg=>?_) (λw K H a ns hl _ hS=>zoE main K H a ns hl hS) λ_ _ _ _ z=>z
 obtain⟨cl,⟨a,fd,D1,m⟩,t⟩:=F w s₀ mg mb h G Y;have e:=m.symm.trans (hx▸hmg);cases e;refine⟨fd,?_,λbase _ _=>?_⟩
 .intro s v
  obtain⟨oc,od,kV,doc,pm,an,cdv,ct,osl,rfl,lk,hcd⟩:=D1.F.ex;have hb2:=hb [v] (by rw[hps]; rfl) kV doc pm an cdv ct;rw[hps] at hb2;exact .of_eq hb2
 .have:=zcF D1 (lvl w _ mg base cl t) hsc (np:=1) (by rw[hps]; rfl) hns hB
  rw[hps] at this;subst hg;exact this.imp λvs H Q E z=>z cl
end ML
namespace ML
open PySem L2
noncomputable def dt:Nat->W->Bool
 | 0,_=>false
 | _+1,.non=>true
 | _+1,.bl _=>true
 | _+1,.int _=>true
 | _+1,.str x=>PyData.strOk x&&decide (x.length<=1000)
 | n+1,.tup l=>decide (l.length<=1000)&&l.all (dt n)
 | n+1,.fls l=>decide (l.length<=1000)&&l.all (dt n)
 | _+1,.ref _=>false
 | _+1,.fdc _=>false
 | _+1,.fn _=>false
noncomputable def toD:Nat->W->PyData
 | 0,_=>.none
 | _+1,.non=>.none
 | _+1,.bl b=>.bool b
 | _+1,.int i=>.int i
 | _+1,.str x=>.str x
 | n+1,.tup l=>.tuple (l.map (toD n))
 | n+1,.fls l=>.list (l.map (toD n))
 | _+1,_=>.none
theorem uW:∀{l:List W},(∀w∈l,low m w=true)->lows m l=true
 | [],_=>by unfold lows; rfl
 | w::r,h=>by
  unfold lows;rw[h w zZ,uW λw hw=>h w (zN _ hw)];rfl
theorem zdD:∀{n:Nat} {w:W},dt n w=true->low m w=true
 | 0,_,h=>by cases h
 | n+1,.non,_=>by unfold low; rfl
 | n+1,.bl _,_=>by unfold low; rfl
 | n+1,.int _,_=>by unfold low; rfl
 | n+1,.str _,_=>by unfold low; rfl
 | n+1,.tup l,h=>by
  unfold dt at h;rw[zx] at h;unfold low;exact uW λw hw=>zdD (kW.mp h.2 w hw)
 | n+1,.fls l,h=>by
  unfold dt at h;rw[zx] at h;unfold low;exact uW λw hw=>zdD (kW.mp h.2 w hw)
 | n+1,.ref _,h=>by cases h
 | n+1,.fdc _,h=>by cases h
 | n+1,.fn _,h=>by cases h
theorem um:∀{n m:Nat} {w:W},dt n w=true->n<=m->dt m w=true
 | 0,_,_,h,_=>by cases h
 | n+1,0,_,_,h=>by omega
 | n+1,m+1,.non,_,_=>rfl
 | n+1,m+1,.bl _,_,_=>rfl
 | n+1,m+1,.int _,_,_=>rfl
 | n+1,m+1,.str _,h,_=>h
 | n+1,m+1,.tup l,h,hn=>by
  unfold dt at h ⊢;rw[zx] at h ⊢;exact⟨h.1,kW.mpr λw hw=>um (kW.mp h.2 w hw) ∅⟩
 | n+1,m+1,.fls l,h,hn=>by
  unfold dt at h ⊢;rw[zx] at h ⊢;exact⟨h.1,kW.mpr λw hw=>um (kW.mp h.2 w hw) ∅⟩
 | n+1,m+1,.ref _,h,_=>by cases h
 | n+1,m+1,.fdc _,h,_=>by cases h
 | n+1,m+1,.fn _,h,_=>by cases h
theorem zef{α β:Type}{f:α->Option β}{g:α->β}:∀{l:List α},(∀x∈l,f x=some (g x))->mapO f l=some (l.map g)
 | [],_=>rfl
 | x::r,h=>by
  unfold mapO;rw[h x zZ,zef λy hy=>h y (zN _ hy)];rfl
theorem zaF:∀{n m:Nat} {w:W},dt n w=true->n<=m->ug m h w=some (toD n w)
 | 0,_,_,e,_=>by cases e
 | n+1,0,_,_,hn=>by omega
 | n+1,m+1,.non,_,_=>rfl
 | n+1,m+1,.bl _,_,_=>rfl
 | n+1,m+1,.int _,_,_=>rfl
 | n+1,m+1,.str x,e,_=>by
  unfold dt at e;rw[zx] at e;unfold ug;rw[zX e.1];rfl
 | n+1,m+1,.tup l,e,hn=>by
  unfold dt at e;rw[zx] at e;unfold ug;rw[zef λw hw=>zaF (kW.mp e.2 w hw) ∅];rfl
 | n+1,m+1,.fls l,e,hn=>by
  unfold dt at e;rw[zx] at e;unfold ug;rw[zef λw hw=>zaF (kW.mp e.2 w hw) ∅];rfl
 | n+1,m+1,.ref _,e,_=>by cases e
 | n+1,m+1,.fdc _,e,_=>by cases e
 | n+1,m+1,.fn _,e,_=>by cases e
def zbh{f:List W->M W}(e:f ws h=some (w,h))(d:dt n w=true):gc f ws h=some (w,h):=u5 e (zdD d) (zR _)
def zoc{f:List W->M W}(e:f ws h=some (w,h++t))(d:dt n w=true)(nw:w≠.non:=by nofun):gc f ws h=some (w,h):=u5 e (zdD d) (jh _ _) (.inl nw)
noncomputable def tyB(T:Ty):W->Bool
 | .bl _=>decide (T=.bool)||decide (T=.int)
 | .int _=>decide (T=.int)
 | .str _=>decide (T=.str)
 | .tup _=>decide (T=.tuple)
 | .fls _=>decide (T=.list)
 | _=>false
theorem znk{T:Ty}(d:dt n w=true):isW T w h=some (.bl (tyB T w),h):=by
 cases n with
 | zero=>cases d
 | succ n=>
  unfold isW isTy tyB;cases w with
  | ref _=>cases d
  | fdc _=>cases d
  | fn _=>cases d
  | non=>rfl
  | bl b=>simp only[tyW]; cases T<;>rfl
  | int b=>simp only[tyW]; cases T<;>rfl
  | str b=>simp only[tyW]; cases T<;>rfl
  | tup b=>simp only[tyW]; cases T<;>rfl
  | fls b=>simp only[tyW]; cases T<;>rfl
theorem uM(h:MH)(x y:Str):eqB h (.str x) (.str y)=some (x==y):=rfl
theorem uE(h:MH)(x y:Int):eqB h (.int x) (.int y)=some (x==y):=rfl
noncomputable def zdM:W->Bool
 | .tup []=>true
 | _=>false
def zmw(d:dt n w=true)(hn:n<=60)(dl:dt m (.tup l)=true)(hm:m<=60):eqB h w (.tup l)=some (PyData.eqv (toD n w) (toD m (.tup l))):=by
 have e1:=zaF (h:=h) d (show n<=deep from hn);have e2:=zaF (h:=h) dl (show m<=deep from hm);unfold eqB;have:eqF w (.tup l)=none:=by unfold eqF; cases w<;>rfl
 rw[this,e1,e2]
def zgu(d:dt n w=true)(hn:n<=60):eqB h w (.tup [])=some (zdM w):=by
 rw[zmw d hn (m:=1) (by rfl) ∅];cases n with
 | zero=>cases d
 | succ n=>
  cases w with
  | ref _=>cases d
  | fdc _=>cases d
  | fn _=>cases d
  | tup l=>cases l<;>simp[toD,PyData.eqv,PyData.eqvAll,zdM]
  | _=>simp[toD,PyData.eqv,zdM]
noncomputable def zap(l:List Str):W->Bool
 | .str x=>l.any (· == x)
 | _=>false
noncomputable def xN(l:List Str):List W:=l.map .str
def zjX{l:List Str}(d:dt n w=true)(hn:n<=60)(hl:l.all PyData.strOk=true)(hy:zao h y=some (xN l))(hns:∀z,y≠.str z):inB h w y=some (zap l w):=by
 have e1:=zaF (h:=h) d (show n<=deep from hn);have e2:mapO (ug deep h) (xN l)=some (l.map .str):=by
  unfold xN;have:∀l:List Str,l.all PyData.strOk=true->mapO (ug deep h) (l.map .str)=some (l.map PyData.str):=by
   intro l;induction l with
   | nil=>intro _; rfl
   | cons x r ih=>
    intro hl;rw[ju,zx] at hl;simp only[zy];unfold mapO;have:ug deep h (.str x)=some (.str x):=by
     show ug (59+1) h (.str x)=_
     unfold ug;rw[zX hl.1]
    rw[this,ih hl.2]
  exact this l hl
 have e3:inB h w y=match zao h y with
  | some l=>match ug deep h w,mapO (ug deep h) l with
   | some d,some ds=>some (ds.any λe=>PyData.eqv e d)
   | _,_=>none
  | none=>none:=by
  rfl
 rw[e3,hy];simp only[e1,e2];congr 1
 cases n with
 | zero=>cases d
 | succ n=>
  rw[List.any_map];cases w with
  | ref _=>cases d
  | fdc _=>cases d
  | fn _=>cases d
  | str x=>
   unfold zap;congr 1
  | _=>simp[toD,PyData.eqv,zap]
def zdg{l:List Str}(d:dt n w=true)(hn:n<=60)(hl:l.all PyData.strOk=true):inB h w (.tup (xN l))=some (zap l w):=zjX d hn hl rfl (λz=>nofun)
theorem zdw{h:MH}(hn:h.length=n0)(p:W->Bool)(f:W->W):∀(l:List W) (acc:List W) (o:Option W),
  (∀w∈l,∀H',t (some w::caps) H'=some (p w,H'))->(∀w∈l,p w=true->∀H',m (some w::caps) H'=some (f w,H'))->acc.length+l.length<=cap->
  uH 1 (gNm 0) t m n0 l (o::caps) (h++[.lst acc])=some (h++[.lst (acc++(l.filter p).map f)])
 | [],acc,o,_,_,_=>by simp[uH]
 | w::l,acc,o,ht,hf,hl=>by
  have ih:=λacc'=>zdw (caps:=caps) (t:=t) (m:=m) hn p f l acc' none (λw hw=>ht w (zN _ hw)) (λw hw=>hf w (zN _ hw))
  have hb:blank 1 (some w::caps)=none::caps:=by simp[blank]
  unfold uH;have hg:gNm 0 w (o::caps) (h++[.lst acc])=some (some w::caps,h++[.lst acc]):=by simp[gNm]
  rw[hg];simp only;rw[ht w zZ];simp only[zm] at hl;cases hp:p w with
  | false=>
   simp only;rw[hb,ih acc ∅];simp[vm,hp]
  | true=>
   simp only;rw[hf w zZ hp];have e1:(h++[MO.lst acc])[n0]?=some (.lst acc):=by rw[<-hn]; simp
   have e2:(h++[MO.lst acc]).set n0 (.lst (acc++[f w]))=h++[.lst (acc++[f w])]:=by rw[<-hn,jT _ _ (zj _)]; simp
   simp only[e1];rw[zX ∅,hb,e2,ih (acc++[f w]) (by rw[zF]; simp; omega)];simp[vm,hp]
def zb5{ks:List Nat}{ρ:En}{h:MH}{l:List W}(p:W->Bool)(f:W->W)(hm:mi ρ h=some (.items l,h))(ht:∀w∈l,∀H',t (some w::ks.map λk=>(ρ[k]?).join) H'=some (p w,H'))
  (hf:∀w∈l,p w=true->∀H',m (some w::ks.map λk=>(ρ[k]?).join) H'=some (f w,H')) (hlow:∀w∈l,p w=true->low h.length (f w)=true) (hl:l.length<=cap):uo mi 1 ks (gNm 0) t m ρ h=some (.fls ((l.filter p).map f),h):=by
 have e:=zdw (caps:=ks.map λk=>(ρ[k]?).join) (t:=t) (m:=m) (h:=h) rfl p f l [] none ht hf (by simpa using hl);unfold uo zaW;rw[hm];have er:(List.replicate 1 (none:Option W)++ks.map λk=>(ρ[k]?).join)=none::ks.map λk=>(ρ[k]?).join:=rfl
 simp only;rw[er,e];simp only[zY,zE (zj _),qP,zq];rw[zX];refine⟨jh _ _,uW λw hw=>?_⟩;obtain⟨w',h1,rfl⟩:=kZ.mp hw;obtain⟨h2,h3⟩:=vD.mp h1;exact hlow w' h2 h3
theorem zc3{h:MH}(hn:h.length=n0)(p:W->W->Bool)(f:W->W->W):∀(l:List (W×W)) (acc:List W) (o1 o2:Option W),
  (∀w∈l,∀H',t (some w.1::some w.2::caps) H'=some (p w.1 w.2,H'))->(∀w∈l,p w.1 w.2=true->∀H',m (some w.1::some w.2::caps) H'=some (f w.1 w.2,H'))->acc.length+l.length<=cap->
  uH 2 (gTp [gNm 0,gNm 1]) t m n0 (l.map λw=>.tup [w.1,w.2]) (o1::o2::caps) (h++[.lst acc])=some (h++[.lst (acc++(l.filter λw=>p w.1 w.2).map λw=>f w.1 w.2)])
 | [],acc,_,_,_,_,_=>by simp[uH]
 | (a,b)::l,acc,o1,o2,ht,hf,hl=>by
  have ih:=λacc'=>zc3 (caps:=caps) (t:=t) (m:=m) hn p f l acc' none none (λw hw=>ht w (zN _ hw)) (λw hw=>hf w (zN _ hw))
  have hb:blank 2 (some a::some b::caps)=none::none::caps:=by simp[blank,List.replicate]
  simp only[zy];unfold uH;have hg:gTp [gNm 0,gNm 1] (.tup [a,b]) (o1::o2::caps) (h++[.lst acc])=some (some a::some b::caps,h++[.lst acc]):=by simp[gTp,gTps,bnd,gNm]
  rw[hg];simp only;rw[ht (a,b) zZ];simp only[zm] at hl;cases hp:p a b with
  | false=>
   simp only;rw[hb,ih acc ∅];simp[vm,hp]
  | true=>
   simp only;rw[hf (a,b) zZ hp];have e1:(h++[MO.lst acc])[n0]?=some (.lst acc):=by rw[<-hn]; simp
   have e2:(h++[MO.lst acc]).set n0 (.lst (acc++[f a b]))=h++[.lst (acc++[f a b])]:=by rw[<-hn,jT _ _ (zj _)]; simp
   simp only[e1];rw[zX ∅,hb,e2,ih (acc++[f a b]) (by rw[zF]; simp; omega)];simp[vm,hp]
def zpg{ks:List Nat}{ρ:En}{h:MH}{l:List (W×W)}(p:W->W->Bool)(f:W->W->W)(hm:mi ρ h=some (.items (l.map λw=>.tup [w.1,w.2]),h))(ht:∀w∈l,∀H',t (some w.1::some w.2::ks.map λk=>(ρ[k]?).join) H'=some (p w.1 w.2,H'))
  (hf:∀w∈l,p w.1 w.2=true->∀H',m (some w.1::some w.2::ks.map λk=>(ρ[k]?).join) H'=some (f w.1 w.2,H')) (hlow:∀w∈l,p w.1 w.2=true->low h.length (f w.1 w.2)=true) (hl:l.length<=cap):uo mi 2 ks (gTp [gNm 0,gNm 1]) t m ρ h=some (.fls ((l.filter λw=>p w.1 w.2).map λw=>f w.1 w.2),h):=by
 have e:=zc3 (caps:=ks.map λk=>(ρ[k]?).join) (t:=t) (m:=m) (h:=h) rfl p f l [] none none ht hf (by simpa using hl);unfold uo zaW;rw[hm];have er:(List.replicate 2 (none:Option W)++ks.map λk=>(ρ[k]?).join)=none::none::ks.map λk=>(ρ[k]?).join:=rfl
 simp only;rw[er,e];simp only[zY,zE (zj _),qP,zq];rw[zX];refine⟨jh _ _,uW λw hw=>?_⟩;obtain⟨w',h1,rfl⟩:=kZ.mp hw;obtain⟨h2,h3⟩:=vD.mp h1;exact hlow w' h2 h3
end ML
namespace K16
open PySem PySem.Spec PyProof.Rows L2 ML
def top(i:Nat):Stmt:=PySem.Challenge.pw_shelfwork_k16_whole_asked.main.body.getD i (.Pass ⟨0,0,0,0⟩)
def inClass:Stmt->Nat->Stmt
 | .ClassDef _ _ _ b ..,k=>b.getD k (.Pass ⟨0,0,0,0⟩)
 | s,_=>s
def uB:W:=(.tup [.str "a",.str "b",.str "c",.str "d"])
def zcj:W:=(.int 1009)
def zaq:W:=(.int 4)
def t_FORMS:List (Str×W):=[("number",(.tup [.int 2,.int 2])),("name",(.tup [.int 2,.int 2])),("read",(.tup [.int 2,.int 2])),("write",(.tup [.int 3,.int 2])),("add",(.tup [.int 3,.int 1])),("less",(.tup [.int 3,.int 1])),("then",(.tup [.int 3,.int 1])),("if",(.tup [.int 4,.int 1])),("loop",(.tup [.int 3,.int 1])),("let",(.tup [.int 4,.int 2])),("own",(.tup [.int 4,.int 2])),("say",(.tup [.int 2,.int 1])),("ask",(.tup [.int 1,.int 1])),("do",(.tup [.int 2,.int 2])),("call",(.tup [.int 4,.int 2]))]
structure Fs where
 (cD aO au aX bH cR bY bz dC cT cV dO cU dH dG dw dD bG bZ bw aC aM bC aZ cM cC aa dm az dq bI bK bJ aj aN fY bj bV bN aG aH aJ aQ bf bL aY aU cH cP b7 dB:List W->M W)
def flds:List (Nat×List Str):=[(0,["rules","steps","worths","touch_ahead"]),(1,["shelves","answers","spoken","asks"])]
def mt(F:Fs):MTab:=[((0,("begin":Str)),F.bV),((0,("bring":Str)),F.bN),((0,("rest_ahead_of":Str)),F.aG),((0,("go_on":Str)),F.aH),((0,("take_step":Str)),F.aJ),((0,("do_touch":Str)),F.aQ),((0,("came_to":Str)),F.bf),((1,("do":Str)),F.aY),((1,("next_answer":Str)),F.aU),((1,("store":Str)),F.cH),((1,("said":Str)),F.cP)]
def uz(F:Fs):List (Str×(List W->M W)):=[("number",F.bH),("name",F.cR),("read",F.bY),("write",F.bz),("add",F.dC),("less",F.cT),("then",F.cV),("if",F.dO),("loop",F.cU),("let",F.dH),("own",F.dG),("say",F.dw),("ask",F.dD),("do",F.bG),("call",F.bZ)]
noncomputable def dF(F:Fs):MS:=(sSeq (sIf (tVal (eOp (eqW false) (eOp ixW (eVar 0) (eC (.int 0))) (eC (.str "call"))))
 (sRet (eOp addW (eOp ixW (eVar 0) (eC (.int 2))) (eOp ixW (eVar 0) (eC (.int 3)))))
 ue)
 (sRet (eSl (eVar 0) (some (eOp ixW (eUn (zbj t_FORMS) (eOp ixW (eVar 0) (eC (.int 0)))) (eC (.int 1)))) none)))
noncomputable def aB(F:Fs):MS:=(sSeq (sAsg (zak (iRng [eVar 1]) 1 [0] (gNm 0) ud (xX popM (eVar 1) [])) (gNm 2))
 (sRet (eUn revL (eVar 2))))
noncomputable def aA(F:Fs):MS:=(sSeq (sIf (tVal (eOp (eqW false) (eOp ixW (eVar 0) (eC (.int 0))) (eC (.str "call"))))
 (sRet (eOp ixW (eVar 0) (eC (.int 2))))
 ue)
 (sSeq (sIf (tVal (eOp (inW false) (eOp ixW (eVar 0) (eC (.int 0))) (xK tupW [eC (.str "if"),eC (.str "loop"),eC (.str "let"),eC (.str "own")])))
 (sRet (eSl (xK F.cD [eVar 0]) none (some (eC (.int 1)))))
 ue)
 (sRet (xK F.cD [eVar 0]))))
noncomputable def bA(F:Fs):MS:=(sSeq (sAsg (xK zdT [eVar 0]) (gNm 3))
 (sSeq (sAsg (eVar 2) (gPut (eVar 3) (eVar 1)))
 (sRet (eVar 3))))
noncomputable def eG(F:Fs):MS:=(xT (xQ (mt F) "bring" (eVar 0) [eOp ixW (eVar 1) (eC (.int 1))]))
noncomputable def fO(F:Fs):MS:=(xT (xQ (mt F) "bring" (eVar 0) [eOp uR (eVar 2) (eOp ixW (eVar 1) (eC (.int 1)))]))
noncomputable def cN(F:Fs):MS:=(sIf (tVal (eOp (inW false) (eOp ixW (eVar 1) (eC (.int 1))) (eC uB)))
 (xT (xQ (mt F) "rest_ahead_of" (eVar 0) [xK tupW [eC (.str "read"),eOp ixW (eVar 1) (eC (.int 1))]]))
 (xT (xQ (mt F) "bring" (eVar 0) [eOp ixW (eOp uR (eVar 2) (eOp ixW (eVar 1) (eC (.int 1)))) (eC (.int 0))])))
noncomputable def b8(F:Fs):MS:=(sIf (tVal (eOp (inW false) (eOp ixW (eVar 1) (eC (.int 1))) (eC uB)))
 (xT (xQ (mt F) "rest_ahead_of" (eVar 0) [xK tupW [eC (.str "write"),eOp ixW (eVar 1) (eC (.int 1)),eOp ixW (eVar 3) (eC (.int 0))]]))
 (sSeq (sAsg (eOp ixW (eVar 3) (eC (.int 0))) (gPut (eOp uR (eVar 2) (eOp ixW (eVar 1) (eC (.int 1)))) (eC (.int 0))))
 (xT (xQ (mt F) "bring" (eVar 0) [eOp ixW (eVar 3) (eC (.int 0))]))))
noncomputable def gk(F:Fs):MS:=(xT (xQ (mt F) "bring" (eVar 0) [eOp modW (eOp addW (eOp ixW (eVar 3) (eC (.int 0))) (eOp ixW (eVar 3) (eC (.int 1)))) (eC zcj)]))
noncomputable def fV(F:Fs):MS:=(xT (xQ (mt F) "bring" (eVar 0) [eIf (tVal (eOp ltW (eOp ixW (eVar 3) (eC (.int 0))) (eOp ixW (eVar 3) (eC (.int 1))))) (eC (.int 1)) (eC (.int 0))]))
noncomputable def fU(F:Fs):MS:=(xT (xQ (mt F) "bring" (eVar 0) [eOp ixW (eVar 3) (eC (.int 1))]))
noncomputable def gC(F:Fs):MS:=(xT (xQ (mt F) "begin" (eVar 0) [eIf (tVal (eOp (eqW true) (eOp ixW (eVar 3) (eC (.int 0))) (eC (.int 0)))) (eOp ixW (eVar 1) (eC (.int 2))) (eOp ixW (eVar 1) (eC (.int 3))),eVar 2]))
noncomputable def dN(F:Fs):MS:=(sSeq (sAsg (xK tupW [eC (.str "number"),eC (.int 0)]) (gNm 4))
 (sSeq (sFor (iRng [eOp modW (eOp ixW (eVar 3) (eC (.int 0))) (eC zaq)]) (gNm 5)
 (sAsg (xK tupW [eC (.str "then"),eOp ixW (eVar 1) (eC (.int 2)),eVar 4]) (gNm 4)))
 (xT (xQ (mt F) "begin" (eVar 0) [eVar 4,eVar 2]))))
noncomputable def gq(F:Fs):MS:=(xT (xQ (mt F) "begin" (eVar 0) [eOp ixW (eVar 1) (eC (.int 3)),xK F.aX [eVar 2,eOp ixW (eVar 1) (eC (.int 1)),eOp ixW (eVar 3) (eC (.int 0))]]))
noncomputable def f9(F:Fs):MS:=(xT (xQ (mt F) "begin" (eVar 0) [eOp ixW (eVar 1) (eC (.int 3)),xK F.aX [eVar 2,eOp ixW (eVar 1) (eC (.int 1)),xK lstW [eOp ixW (eVar 3) (eC (.int 0))]]]))
noncomputable def gb(F:Fs):MS:=(xT (xQ (mt F) "rest_ahead_of" (eVar 0) [xK tupW [eC (.str "say"),eOp ixW (eVar 3) (eC (.int 0))]]))
noncomputable def gf(F:Fs):MS:=(xT (xQ (mt F) "rest_ahead_of" (eVar 0) [xK tupW [eC (.str "ask")]]))
noncomputable def cZ(F:Fs):MS:=(sSeq (sAsg (eOp uR (eVar 2) (eOp ixW (eVar 1) (eC (.int 1)))) (gNm 4))
 (xT (xQ (mt F) "begin" (eVar 0) [eOp ixW (eVar 4) (eC (.int 0)),eOp ixW (eVar 4) (eC (.int 1))])))
noncomputable def cO(F:Fs):MS:=(sSeq (sAsg (eOp ixW (eFld flds "rules" (eVar 0)) (eOp ixW (eVar 1) (eC (.int 1)))) (gNm 4))
 (sSeq (sAsg (zcB [eOp ixW (eVar 4) (eC (.int 0)),eVar 3]) (gNm 5))
 (sSeq (sFor (iZip [eOp ixW (eVar 4) (eC (.int 1)),eOp ixW (eVar 1) (eC (.int 3))]) (gTp [gNm 6,gNm 7])
 (sAsg (xK tupW [eVar 7,eVar 2]) (gPut (eVar 5) (eVar 6))))
 (xT (xQ (mt F) "begin" (eVar 0) [eOp ixW (eVar 4) (eC (.int 2)),eVar 5])))))
noncomputable def bh(F:Fs):MS:=(sSeq (xT (xQ (mt F) "go_on" (eVar 0) []))
 (sIf (tVal (eOp (uY false) (eFld flds "touch_ahead" (eVar 0)) (eC .non)))
 (xT (xQ (mt F) "do_touch" (eVar 0) [eVar 1]))
 ue))
noncomputable def aD(F:Fs):MS:=(sSeq (sAsg (xK lstW []) (gNm 2))
 (sSeq (xT (xQ (mt F) "go_on" (eVar 0) []))
 (sSeq (zav (tVal (eOp (uY false) (eFld flds "touch_ahead" (eVar 0)) (eC .non)))
 (sSeq (xT (xX ut (eVar 2) [xQ (mt F) "do_touch" (eVar 0) [eVar 1]]))
 (xT (xQ (mt F) "go_on" (eVar 0) []))))
 (sRet (eVar 2)))))
noncomputable def fC(F:Fs):MS:=(sSeq (sAsg (xK F.aZ [eVar 0,xK flsW [eVar 1],eVar 2,eVar 3]) (gNm 4))
 (sRet (xK tupW [eOp ixW (eOp ixW (eVar 4) (eC (.int 0))) (eC (.int 0)),eOp ixW (eVar 4) (eC (.int 1)),eOp ixW (eVar 4) (eC (.int 2)),eOp ixW (eVar 4) (eC (.int 3))])))
noncomputable def cX(F:Fs):MS:=(sRet (xK F.aC [zam 0 F.b7 [eVar 0,eVar 1],zam 1 F.dB [eVar 2,eVar 3]]))
noncomputable def cQ(F:Fs):MS:=(sRet (xK F.cM [eVar 0,eVar 1,eVar 2,eVar 3,xK flsW []]))
noncomputable def tuB(F:Fs):MS:=(sIf (tVal (za1 leW ltW (eC (.int 0)) (eVar 7) (xK lenW [eVar 6])))
 (xT (xK F.bw [eOp ixW (eVar 6) (eVar 7),eVar 5]))
 ue)
noncomputable def enB(F:Fs):MS:=(xT (xK F.aC [eVar 8,eVar 5]))
noncomputable def dh(F:Fs):MS:=sSeq (sAsg (zam 1 F.dB [eVar 2,eVar 3]) (gNm 5)) (sSeq (sAsg (zak (iSeq (eVar 1)) 1 [0] (gNm 0) ud (zam 0 F.b7 [eVar 1,eVar 0])) (gNm 6)) (sSeq (sFor (iSeq (eVar 4)) (gNm 7) (tuB F)) (sSeq (sFor (iSeq (eVar 6)) (gNm 8) (enB F)) (sSeq (sAsg (uo (iSeq (eVar 6)) 1 [] (gNm 0) ud (xQ (mt F) "came_to" (eVar 0) [])) (gNm 9)) (sRet (xK tupW [eVar 9,xQ (mt F) "store" (eVar 5) [],xQ (mt F) "said" (eVar 5) [],eFld flds "asks" (eVar 5)]))))))
noncomputable def cG(F:Fs):MS:=(sSeq (sIf (tVal (eOp (eqW false) (eVar 0) (xK flsW [])))
 (sRet (eOp mulW (eC (.int 7)) (eVar 1)))
 ue)
 (sRet (eOp addW (eOp ixW (eVar 0) (eOp modW (eVar 1) (xK lenW [eVar 0]))) (eOp mulW (eC (.int 6553)) (eOp divW (eVar 1) (xK lenW [eVar 0]))))))
noncomputable def bO(F:Fs):MS:=(sSeq (sAsg (eOp modW (eOp addW (eOp mulW (eOp modW (xK F.cC [eVar 0,eVar 1]) (eC (.int 2147483563))) (eC (.int 69069))) (eOp mulW (eC (.int 104723)) (eOp addW (eVar 1) (eC (.int 1))))) (eC (.int 2147483563))) (gNm 3))
 (sSeq (sAsg (eOp modW (eOp addW (eOp mulW (eVar 3) (eVar 3)) (eOp divW (eVar 3) (eC (.int 3)))) (eC (.int 2147483399))) (gNm 3))
 (sRet (eOp modW (eOp divW (eOp modW (eOp addW (eOp mulW (eVar 3) (eVar 3)) (eOp divW (eVar 3) (eC (.int 7)))) (eC (.int 2147483647))) (eC (.int 11))) (eVar 2)))))
noncomputable def LF0(F:Fs):MS:=(sAsg (eVar 2) (gTp [gNm 3,gNm 4,gNm 5]))
noncomputable def LF1(F:Fs):MS:=(sAsg (xK F.aa [eVar 0,eVar 1,eC (.int 8)]) (gNm 6))
noncomputable def LF2(F:Fs):MS:=(sIf (tVal (eOp ltW (eVar 6) (eC (.int 2))))
 (sRet (xK tupW [eC (.str "number"),eOp ixW (xK flsW [eC (.int 0),eC (.int 1),eC (.int 2),eC (.int 3),eC (.int 7),eC (.int 1008)]) (xK F.aa [eVar 0,eOp addW (eVar 1) (eC (.int 1)),eC (.int 6)])]))
 ue)
noncomputable def LF3(F:Fs):MS:=(sIf (zbC (tVal (eOp (eqW false) (eVar 6) (eC (.int 2)))) (tVal (eOp (eqW true) (eVar 3) (xK tupW []))))
 (sRet (xK tupW [eC (.str "name"),eOp ixW (eVar 3) (xK F.aa [eVar 0,eOp addW (eVar 1) (eC (.int 1)),xK lenW [eVar 3]])]))
 ue)
noncomputable def LF4(F:Fs):MS:=(sIf (zbC (tVal (eOp (eqW false) (eVar 6) (eC (.int 3)))) (tVal (eOp (eqW true) (eVar 5) (xK tupW []))))
 (sRet (xK tupW [eC (.str "do"),eOp ixW (eVar 5) (xK F.aa [eVar 0,eOp addW (eVar 1) (eC (.int 1)),xK lenW [eVar 5]])]))
 ue)
noncomputable def LF5(F:Fs):MS:=(sIf (tVal (eOp (eqW false) (eVar 6) (eC (.int 4))))
 (sRet (xK tupW [eC (.str "ask")]))
 ue)
noncomputable def LF6(F:Fs):MS:=(sAsg (eOp addW (xK tupW [eC (.str "a"),eC (.str "b"),eC (.str "c"),eC (.str "d")]) (eOp mulW (eVar 4) (eC (.int 3)))) (gNm 7))
noncomputable def LF7(F:Fs):MS:=(sRet (xK tupW [eC (.str "read"),eOp ixW (eVar 7) (xK F.aa [eVar 0,eOp addW (eVar 1) (eC (.int 1)),xK lenW [eVar 7]])]))
noncomputable def bu(F:Fs):MS:=sSeq (LF0 F) (sSeq (LF1 F) (sSeq (LF2 F) (sSeq (LF3 F) (sSeq (LF4 F) (sSeq (LF5 F) (sSeq (LF6 F) (LF7 F)))))))
noncomputable def DS0(F:Fs):MS:=(sAsg (xK F.aa [eVar 0,eVar 1,eC (.int 15)]) (gNm 5))
noncomputable def DS1(F:Fs):MS:=(sIf (tOrM (tVal (eOp (eqW false) (eVar 2) (eC (.int 0)))) (tVal (eOp ltW (eVar 5) (eC (.int 2)))))
 (sRet (xK F.dm [eVar 0,eOp addW (eVar 1) (eC (.int 1)),eVar 3]))
 ue)
noncomputable def DS2(F:Fs):MS:=(sIf (zbC (tVal (eOp ltW (eVar 5) (eC (.int 4)))) (tVal (eOp (eqW true) (eVar 4) (xK tupW []))))
 (sRet (xK F.dq [eVar 0,eVar 1,eVar 2,eVar 3,eVar 4]))
 ue)
noncomputable def DS3(F:Fs):MS:=(sAsg (xK F.az [eVar 0,eOp addW (eOp mulW (eVar 1) (eC (.int 3))) (eC (.int 7)),eOp subW (eVar 2) (eC (.int 1)),eVar 3,eVar 4]) (gNm 6))
noncomputable def DS4(F:Fs):MS:=(sIf (tVal (eOp ltW (eVar 5) (eC (.int 6))))
 (sSeq (sAsg (eOp addW (xK tupW [eC (.str "a"),eC (.str "b"),eC (.str "c"),eC (.str "d")]) (eOp mulW (eOp ixW (eVar 3) (eC (.int 1))) (eC (.int 3)))) (gNm 7))
 (sRet (xK tupW [eC (.str "write"),eOp ixW (eVar 7) (xK F.aa [eVar 0,eOp addW (eVar 1) (eC (.int 3)),xK lenW [eVar 7]]),eVar 6])))
 ue)
noncomputable def DS5(F:Fs):MS:=(sIf (tVal (eOp (eqW false) (eVar 5) (eC (.int 6))))
 (sRet (xK tupW [eC (.str "say"),eVar 6]))
 ue)
noncomputable def DS6(F:Fs):MS:=(sIf (tVal (eOp (eqW false) (eVar 5) (eC (.int 7))))
 (sSeq (sAsg (eOp ixW (xK flsW [eC (.str "x"),eC (.str "y"),eC (.str "x1")]) (xK F.aa [eVar 0,eOp addW (eVar 1) (eC (.int 3)),eC (.int 3)])) (gNm 8))
 (sRet (xK tupW [eC (.str "let"),eVar 8,eVar 6,xK F.az [eVar 0,eOp addW (eOp mulW (eVar 1) (eC (.int 3))) (eC (.int 23)),eOp subW (eVar 2) (eC (.int 1)),eOp addW (xK tupW [eOp addW (eOp ixW (eVar 3) (eC (.int 0))) (xK tupW [eVar 8])]) (eSl (eVar 3) (some (eC (.int 1))) none),eVar 4]])))
 ue)
noncomputable def DS7(F:Fs):MS:=(sIf (tVal (eOp (eqW false) (eVar 5) (eC (.int 8))))
 (sSeq (sAsg (eOp ixW (xK flsW [eC (.str "p"),eC (.str "q")]) (xK F.aa [eVar 0,eOp addW (eVar 1) (eC (.int 3)),eC (.int 2)])) (gNm 8))
 (sSeq (sAsg (xK tupW [eOp ixW (eVar 3) (eC (.int 0)),eOp addW (eOp ixW (eVar 3) (eC (.int 1))) (xK tupW [eVar 8]),eOp ixW (eVar 3) (eC (.int 2))]) (gNm 9))
 (sRet (xK tupW [eC (.str "own"),eVar 8,eVar 6,xK F.az [eVar 0,eOp addW (eOp mulW (eVar 1) (eC (.int 3))) (eC (.int 23)),eOp subW (eVar 2) (eC (.int 1)),eVar 9,eVar 4]]))))
 ue)
noncomputable def DS8(F:Fs):MS:=(sAsg (xK F.az [eVar 0,eOp addW (eOp mulW (eVar 1) (eC (.int 3))) (eC (.int 41)),eOp subW (eVar 2) (eC (.int 1)),eVar 3,eVar 4]) (gNm 10))
noncomputable def DS9(F:Fs):MS:=(sIf (tVal (eOp (eqW false) (eVar 5) (eC (.int 9))))
 (sRet (xK tupW [eC (.str "if"),eVar 6,eVar 10,xK F.az [eVar 0,eOp addW (eOp mulW (eVar 1) (eC (.int 3))) (eC (.int 61)),eOp subW (eVar 2) (eC (.int 1)),eVar 3,eVar 4]]))
 ue)
noncomputable def DS10(F:Fs):MS:=(sRet (eOp addW (eOp ixW (xK flsW [xK tupW [eC (.str "then")],xK tupW [eC (.str "add")],xK tupW [eC (.str "less")],xK tupW [eC (.str "loop")],xK tupW [eC (.str "then")]]) (eOp subW (eVar 5) (eC (.int 10)))) (xK tupW [eVar 6,eVar 10])))
noncomputable def aF(F:Fs):MS:=sSeq (DS0 F) (sSeq (DS1 F) (sSeq (DS2 F) (sSeq (DS3 F) (sSeq (DS4 F) (sSeq (DS5 F) (sSeq (DS6 F) (sSeq (DS7 F) (sSeq (DS8 F) (sSeq (DS9 F) (DS10 F))))))))))
noncomputable def CL0(F:Fs):MS:=(sAsg (xK F.aa [eVar 0,eOp addW (eVar 1) (eC (.int 3)),xK lenW [eVar 4]]) (gNm 5))
noncomputable def CL1(F:Fs):MS:=(sAsg (xK lenW [eOp ixW (eOp ixW (eVar 4) (eVar 5)) (eC (.int 0))]) (gNm 6))
noncomputable def CL2(F:Fs):MS:=(sAsg (xK lstW []) (gNm 7))
noncomputable def CL3(F:Fs):MS:=(sFor (iRng [eOp addW (eVar 6) (xK lenW [eOp ixW (eOp ixW (eVar 4) (eVar 5)) (eC (.int 1))])]) (gNm 8)
 (xT (xX ut (eVar 7) [xK F.az [eVar 0,eOp addW (eOp addW (eOp mulW (eVar 1) (eC (.int 3))) (eC (.int 7))) (eOp mulW (eC (.int 5)) (eVar 8)),eOp subW (eVar 2) (eC (.int 1)),eVar 3,eVar 4]])))
noncomputable def CL4(F:Fs):MS:=(sRet (xK tupW [eC (.str "call"),eVar 5,xK zay [eSl (eVar 7) none (some (eVar 6))],xK zay [eSl (eVar 7) (some (eVar 6)) none]]))
noncomputable def cF(F:Fs):MS:=sSeq (CL0 F) (sSeq (CL1 F) (sSeq (CL2 F) (sSeq (CL3 F) (CL4 F))))
noncomputable def RU0(F:Fs):MS:=(sAsg (xK tupW []) (gNm 2))
noncomputable def RU1(F:Fs):MS:=(sFor (iRng [xK F.aa [eVar 0,eVar 1,eC (.int 3)]]) (gNm 3)
 (sSeq (sAsg (eOp ixW (xK flsW [xK tupW [],xK tupW [eC (.str "x")],xK tupW [eC (.str "y"),eC (.str "x")]]) (xK F.aa [eVar 0,eOp addW (eOp addW (eVar 1) (eC (.int 1))) (eOp mulW (eC (.int 5)) (eVar 3)),eC (.int 3)])) (gNm 4))
 (sSeq (sAsg (eOp ixW (xK flsW [xK tupW [],xK tupW [eC (.str "f")],xK tupW [eC (.str "f"),eC (.str "g1")]]) (xK F.aa [eVar 0,eOp addW (eOp addW (eVar 1) (eC (.int 2))) (eOp mulW (eC (.int 5)) (eVar 3)),eC (.int 3)])) (gNm 5))
 (sSeq (sAsg (xK F.az [eVar 0,eOp addW (eOp addW (eVar 1) (eC (.int 20))) (eOp mulW (eC (.int 7)) (eVar 3)),eC (.int 2),xK tupW [eVar 4,xK tupW [],eVar 5],eVar 2]) (gNm 6))
 (sAsg (eOp addW (eVar 2) (xK tupW [xK tupW [eVar 4,eVar 5,eVar 6]])) (gNm 2))))))
noncomputable def RU2(F:Fs):MS:=(sRet (eVar 2))
noncomputable def bQ(F:Fs):MS:=sSeq (RU0 F) (sSeq (RU1 F) (RU2 F))
noncomputable def bW(F:Fs):MS:=(sRet (xK zay [uo (iRng [eC (.int 4)]) 1 [0,1] (gNm 0) ud (xK F.aa [eVar 1,eOp addW (eVar 2) (eVar 0),eC (.int 6)])]))
noncomputable def bM(F:Fs):MS:=(sRet (uo (iRng [xK F.aa [eVar 0,eVar 1,eC (.int 4)]]) 1 [0,1] (gNm 0) ud (xK F.aa [eVar 1,eOp addW (eOp addW (eVar 2) (eC (.int 1))) (eVar 0),eC (.int 9)])))
noncomputable def w1(F:Fs):MS:=(sIf (tVal (eOp (inW false) (eVar 3) (xK tupW [eC (.str "number"),eC (.str "name"),eC (.str "ask"),eC (.str "read")])))
 (sRet (eC (.int 1)))
 ue)
noncomputable def w2(F:Fs):MS:=(sIf (tVal (eOp (eqW false) (eVar 3) (eC (.str "do"))))
 (sRet (zdq (eVar 2) (eOp ixW (eVar 1) (eC (.int 1))) (eC (.int 1))))
 ue)
noncomputable def w3(F:Fs):MS:=(sIf (tVal (eOp (eqW false) (eVar 3) (eC (.str "call"))))
 (sSeq (sAsg (xK zcU [uo (iZip [eOp ixW (eOp ixW (eVar 0) (eOp ixW (eVar 1) (eC (.int 1)))) (eC (.int 1)),eOp ixW (eVar 1) (eC (.int 3))]) 2 [0,2] (gTp [gNm 0,gNm 1]) ud (xK tupW [eVar 0,xK F.aj [eVar 2,eVar 1,eVar 3]])]) (gNm 4))
 (sSeq (sAsg (xK sumW [uo (iSeq (eOp ixW (eVar 1) (eC (.int 2)))) 1 [0,2] (gNm 0) ud (xK F.aj [eVar 1,eVar 0,eVar 2])]) (gNm 5))
 (sRet (eOp addW (eOp addW (eC (.int 1)) (eVar 5)) (xK F.aj [eVar 0,eOp ixW (eOp ixW (eVar 0) (eOp ixW (eVar 1) (eC (.int 1)))) (eC (.int 2)),eVar 4])))))
 ue)
noncomputable def w4(F:Fs):MS:=(sAsg (uo (iSeq (eSl (eVar 1) (some (eC (.int 1))) none)) 1 [0,2] (gNm 0) (tVal (eUn (isW .tuple) (eVar 0))) (xK F.aj [eVar 1,eVar 0,eVar 2])) (gNm 6))
noncomputable def w5(F:Fs):MS:=(sIf (tVal (eOp (eqW false) (eVar 3) (eC (.str "loop"))))
 (sRet (eOp addW (eOp addW (eC (.int 1)) (eOp ixW (eVar 6) (eC (.int 0)))) (eOp mulW (eC (.int 3)) (eOp ixW (eVar 6) (eC (.int 1))))))
 ue)
noncomputable def w6(F:Fs):MS:=(sRet (eOp addW (eC (.int 1)) (xK sumW [eVar 6])))
noncomputable def aP(F:Fs):MS:=sSeq (sAsg (eOp ixW (eVar 1) (eC (.int 0))) (gNm 3)) (sSeq (w1 F) (sSeq (w2 F) (sSeq (w3 F) (sSeq (w4 F) (sSeq (w5 F) (w6 F))))))
noncomputable def bU(F:Fs):MS:=(sSeq (sAsg (xK F.az [eVar 0,eVar 1,eVar 2,xK tupW [xK tupW [],xK tupW [],xK tupW []],eVar 3]) (gNm 4))
 (sSeq (sIf (tVal (eOp gtW (xK F.aj [eVar 3,eVar 4,eC (.fdc [])]) (eC (.int 80))))
 (sRet (xK tupW [eC (.str "read"),eOp ixW (eC (.str "abcd")) (xK F.aa [eVar 0,eVar 1,eC (.int 4)])]))
 ue)
 (sRet (eVar 4))))
noncomputable def Q0(F:Fs):MS:=(sAsg (xK F.bI [eVar 0,eC (.int 1)]) (gNm 1))
noncomputable def Q1(F:Fs):MS:=(sAsg (uo (iRng [eC (.int 2)]) 1 [0,1] (gNm 0) ud (xK F.aN [eVar 1,eOp addW (eC (.int 90)) (eOp mulW (eC (.int 31)) (eVar 0)),eC (.int 2),eVar 2])) (gTp [gNm 2,gNm 3]))
noncomputable def Q2(F:Fs):MS:=(sAsg (xK tupW [eC (.str "add"),eVar 2,xK tupW [eC (.str "ask")]]) (gNm 2))
noncomputable def Q3(F:Fs):MS:=(sAsg (xK F.bK [eVar 0,eC (.int 70)]) (gNm 4))
noncomputable def Q4(F:Fs):MS:=(sAsg (xK F.bJ [eVar 0,eC (.int 75)]) (gNm 5))
noncomputable def Q5(F:Fs):MS:=(sAsg (xK F.aM [eVar 1,eVar 2,eVar 4,eVar 5]) (gNm 6))
noncomputable def Q6(F:Fs):MS:=(sAsg (uo (iSeq (xK F.bC [eVar 1,eVar 2,eVar 4,eVar 5])) 1 [] (gNm 0) (tVal (eOp (eqW false) (eOp ixW (eVar 0) (eC (.int 0))) (eC (.str "ask")))) (eOp ixW (eVar 0) (eC (.int 1)))) (gNm 7))
noncomputable def Q7(F:Fs):MS:=(sIf (tOrM (tVal (eOp (eqW true) (eVar 7) (eSl (eOp addW (eVar 5) (eOp mulW (xK flsW [eC (.int 0)]) (eOp ixW (eVar 6) (eC (.int 3))))) none (some (eOp ixW (eVar 6) (eC (.int 3))))))) (tOrM (tVal (eOp (eqW true) (xK lenW [eVar 7]) (eOp ixW (eVar 6) (eC (.int 3))))) (tVal (eOp ltW (eOp ixW (eVar 6) (eC (.int 3))) (eC (.int 1))))))
 (sRet (eC (.bl false)))
 ue)
noncomputable def Q8(F:Fs):MS:=(sIf (tOrM (tVal (eOp (eqW true) (xK F.aM [eVar 1,eVar 2,eVar 4,eOp addW (eVar 7) (xK flsW [eC (.int 9),eC (.int 8),eC (.int 7)])]) (eVar 6))) (tVal (eOp (eqW true) (xK F.aM [eVar 1,eVar 2,eVar 4,eOp addW (eVar 5) (xK flsW [eC (.int 0),eC (.int 0)])]) (eVar 6))))
 (sRet (eC (.bl false)))
 ue)
noncomputable def Q9(F:Fs):MS:=(sAsg (xK F.aZ [eVar 1,xK flsW [eVar 2,eVar 3],eVar 4,eVar 5]) (gTp [gNm 8,gNm 9,gNm 10,gNm 11]))
noncomputable def Q10(F:Fs):MS:=(sAsg (xK F.aM [eVar 1,eVar 3,eOp ixW (eVar 6) (eC (.int 1)),eSl (eVar 5) (some (eOp ixW (eVar 6) (eC (.int 3)))) none]) (gNm 12))
noncomputable def Q11(F:Fs):MS:=(sIf (tOrM (tVal (eOp (eqW true) (eVar 8) (xK flsW [eOp ixW (eVar 6) (eC (.int 0)),eOp ixW (eVar 12) (eC (.int 0))]))) (tOrM (tVal (eOp (eqW true) (eVar 9) (eOp ixW (eVar 12) (eC (.int 1))))) (tVal (eOp (eqW true) (eVar 10) (eOp addW (eOp ixW (eVar 6) (eC (.int 2))) (eOp ixW (eVar 12) (eC (.int 2))))))))
 (sRet (eC (.bl false)))
 ue)
noncomputable def Q12(F:Fs):MS:=(sIf (tVal (eOp (eqW true) (eVar 11) (eOp addW (eOp ixW (eVar 6) (eC (.int 3))) (eOp ixW (eVar 12) (eC (.int 3))))))
 (sRet (eC (.bl false)))
 ue)
noncomputable def Q13(F:Fs):MS:=(sAsg (xK F.aM [eVar 1,xK tupW [eC (.str "then"),xK tupW [eC (.str "say"),xK tupW [eC (.str "number"),eC (.int 4)]],eVar 3],eVar 4,eVar 5]) (gNm 13))
noncomputable def Q14(F:Fs):MS:=(sAsg (xK F.aM [eVar 1,eVar 3,eVar 4,eVar 5]) (gNm 14))
noncomputable def Q15(F:Fs):MS:=(sRet (eOp (eqW false) (eVar 13) (xK tupW [eOp ixW (eVar 14) (eC (.int 0)),eOp ixW (eVar 14) (eC (.int 1)),eOp addW (xK flsW [eC (.int 4)]) (eOp ixW (eVar 14) (eC (.int 2))),eOp ixW (eVar 14) (eC (.int 3))])))
noncomputable def du(F:Fs):MS:=sSeq (Q0 F) (sSeq (Q1 F) (sSeq (Q2 F) (sSeq (Q3 F) (sSeq (Q4 F) (sSeq (Q5 F) (sSeq (Q6 F) (sSeq (Q7 F) (sSeq (Q8 F) (sSeq (Q9 F) (sSeq (Q10 F) (sSeq (Q11 F) (sSeq (Q12 F) (sSeq (Q13 F) (sSeq (Q14 F) (Q15 F)))))))))))))))
noncomputable def bx(F:Fs):MS:=(sSeq (sAsg (eVar 1) (gFld flds "rules" (eVar 0)))
 (sSeq (sAsg (xK lstW [xK tupW [eC (.bl false),eVar 2,eC (.fdc [])]]) (gFld flds "steps" (eVar 0)))
 (sSeq (sAsg (xK lstW []) (gFld flds "worths" (eVar 0)))
 (sAsg (eC .non) (gFld flds "touch_ahead" (eVar 0))))))
noncomputable def cI(F:Fs):MS:=(xT (xX ut (eFld flds "steps" (eVar 0)) [xK tupW [eC (.bl false),eVar 1,eVar 2]]))
noncomputable def cg(F:Fs):MS:=(xT (xX ut (eFld flds "worths" (eVar 0)) [eVar 1]))
noncomputable def aR(F:Fs):MS:=(sAsg (eVar 1) (gFld flds "touch_ahead" (eVar 0)))
noncomputable def aW(F:Fs):MS:=(zav (zbC (tVal (eOp gtW (xK lenW [eFld flds "steps" (eVar 0)]) (eC (.int 0)))) (tVal (eOp (uY true) (eFld flds "touch_ahead" (eVar 0)) (eC .non))))
 (sSeq (sAsg (xX popM (eFld flds "steps" (eVar 0)) []) (gNm 1))
 (xT (xQ (mt F) "take_step" (eVar 0) [eOp ixW (eVar 1) (eC (.int 0)),eOp ixW (eVar 1) (eC (.int 1)),eOp ixW (eVar 1) (eC (.int 2))]))))
noncomputable def aq(F:Fs):MS:=(sSeq (sAsg (xK F.au [eVar 2]) (gNm 4))
 (sIf (tOrM (tVal (eVar 1)) (tVal (eOp (eqW false) (xK lenW [eVar 4]) (eC (.int 0)))))
 (xT (eWay (uz F) (eOp ixW (eVar 2) (eC (.int 0))) [eVar 0,eVar 2,eVar 3,xK F.aO [eFld flds "worths" (eVar 0),xK lenW [eVar 4]]]))
 (sSeq (xT (xX ut (eFld flds "steps" (eVar 0)) [xK tupW [eC (.bl true),eVar 2,eVar 3]]))
 (xT (xX zaT (eFld flds "steps" (eVar 0)) [uo (iRev [eVar 4]) 1 [3] (gNm 0) ud (xK tupW [eC (.bl false),eVar 0,eVar 1])])))))
noncomputable def aV(F:Fs):MS:=(sSeq (sAsg (xQ (mt F) "do" (eVar 1) [eFld flds "touch_ahead" (eVar 0)]) (gNm 2))
 (sSeq (sAsg (eC .non) (gFld flds "touch_ahead" (eVar 0)))
 (sSeq (xT (xQ (mt F) "bring" (eVar 0) [eOp ixW (eVar 2) (eUn negW (eC (.int 1)))]))
 (sRet (eVar 2)))))
noncomputable def bF(F:Fs):MS:=(sRet (eOp ixW (eFld flds "worths" (eVar 0)) (eUn negW (eC (.int 1)))))
noncomputable def bT(F:Fs):MS:=(sSeq (sAsg (zcB [eC uB,eVar 1]) (gFld flds "shelves" (eVar 0)))
 (sSeq (sAsg (xK zce [eVar 2]) (gFld flds "answers" (eVar 0)))
 (sSeq (sAsg (xK lstW []) (gFld flds "spoken" (eVar 0)))
 (sAsg (eC (.int 0)) (gFld flds "asks" (eVar 0))))))
noncomputable def bc(F:Fs):MS:=(sSeq (sIf (tVal (eOp (eqW false) (eOp ixW (eVar 1) (eC (.int 0))) (eC (.str "read"))))
 (sRet (xK tupW [eC (.str "read"),eOp ixW (eVar 1) (eC (.int 1)),eOp uR (eFld flds "shelves" (eVar 0)) (eOp ixW (eVar 1) (eC (.int 1)))]))
 ue)
 (sSeq (sIf (tVal (eOp (eqW false) (eOp ixW (eVar 1) (eC (.int 0))) (eC (.str "write"))))
 (sSeq (sAsg (eOp ixW (eVar 1) (eC (.int 2))) (gPut (eFld flds "shelves" (eVar 0)) (eOp ixW (eVar 1) (eC (.int 1)))))
 (sRet (eVar 1)))
 ue)
 (sSeq (sIf (tVal (eOp (eqW false) (eOp ixW (eVar 1) (eC (.int 0))) (eC (.str "say"))))
 (sSeq (xT (xX ut (eFld flds "spoken" (eVar 0)) [eOp ixW (eVar 1) (eC (.int 1))]))
 (sRet (eVar 1)))
 ue)
 (sRet (xK tupW [eC (.str "ask"),xQ (mt F) "next_answer" (eVar 0) []])))))
noncomputable def aK(F:Fs):MS:=(sSeq (sAsg (eFld flds "asks" (eVar 0)) (gNm 1))
 (sSeq (zdu flds "asks" augI (eVar 0) (eC (.int 1)))
 (sSeq (sIf (tVal (eOp ltW (eVar 1) (xK lenW [eFld flds "answers" (eVar 0)])))
 (sRet (eOp ixW (eFld flds "answers" (eVar 0)) (eVar 1)))
 ue)
 (sRet (eC (.int 0))))))
noncomputable def bB(F:Fs):MS:=(sRet (xK zay [uo (iSeq (eC uB)) 1 [0] (gNm 0) ud (eOp uR (eFld flds "shelves" (eVar 1)) (eVar 0))]))
noncomputable def bR(F:Fs):MS:=(sRet (xK zce [eFld flds "spoken" (eVar 0)]))
noncomputable def step(F:Fs):Fs where
 cD:=gc (fnM 1 0 (dF F))
 aO:=gc (fnM 2 1 (aB F))
 au:=gc (fnM 1 0 (aA F))
 aX:=gc (fnM 3 1 (bA F))
 bH:=gc (fnM 4 0 (eG F))
 cR:=gc (fnM 4 0 (fO F))
 bY:=gc (fnM 4 0 (cN F))
 bz:=gc (fnM 4 0 (b8 F))
 dC:=gc (fnM 4 0 (gk F))
 cT:=gc (fnM 4 0 (fV F))
 cV:=gc (fnM 4 0 (fU F))
 dO:=gc (fnM 4 0 (gC F))
 cU:=gc (fnM 4 2 (dN F))
 dH:=gc (fnM 4 0 (gq F))
 dG:=gc (fnM 4 0 (f9 F))
 dw:=gc (fnM 4 0 (gb F))
 dD:=gc (fnM 4 0 (gf F))
 bG:=gc (fnM 4 1 (cZ F))
 bZ:=gc (fnM 4 4 (cO F))
 bw:=gc (fnM 2 0 (bh F))
 aC:=gc (fnM 2 1 (aD F))
 aM:=gc (fnM 4 1 (fC F))
 bC:=gc (fnM 4 0 (cX F))
 aZ:=gc (fnM 4 0 (cQ F))
 cM:=gc (fnM 5 5 (dh F))
 cC:=gc (fnM 2 0 (cG F))
 aa:=gc (fnM 3 1 (bO F))
 dm:=gc (fnM 3 5 (bu F))
 az:=gc (fnM 5 6 (aF F))
 dq:=gc (fnM 5 4 (cF F))
 bI:=gc (fnM 2 5 (bQ F))
 bK:=gc (fnM 2 0 (bW F))
 bJ:=gc (fnM 2 0 (bM F))
 aj:=gc (fnM 3 4 (aP F))
 aN:=gc (fnM 4 1 (bU F))
 fY:=gc (fnM 1 14 (du F))
 bj:=gc (fnM 3 0 (bx F))
 bV:=gc (fnM 3 0 (cI F))
 bN:=gc (fnM 2 0 (cg F))
 aG:=gc (fnM 2 0 (aR F))
 aH:=gc (fnM 1 1 (aW F))
 aJ:=gc (fnM 4 1 (aq F))
 aQ:=gc (fnM 2 1 (aV F))
 bf:=gc (fnM 1 0 (bF F))
 bL:=gc (fnM 3 0 (bT F))
 aY:=gc (fnM 2 0 (bc F))
 aU:=gc (fnM 1 1 (aK F))
 cH:=gc (fnM 1 0 (bB F))
 cP:=gc (fnM 1 0 (bR F))
 b7:=F.bj
 dB:=F.bL
noncomputable def Fs.bot:Fs:=let z:List W->M W:=λ_ _=>none; ⟨z,z,z,z,z,z,z,z,z,z,z,z,z,z,z,z,z,z,z,z,z,z,z,z,z,z,z,z,z,z,z,z,z,z,z,z,z,z,z,z,z,z,z,z,z,z,z,z,z,z,z⟩
noncomputable def lv:Nat->Fs
 | 0=>.bot
 | n+1=>step (lv n)
def fns(F:Fs):List (Str×(List W->M W)):=[(("parts_of":Str),F.cD),(("taken_off":Str),F.aO),(("parts_run_first":Str),F.au),(("with_known":Str),F.aX),(("do_number":Str),F.bH),(("do_name":Str),F.cR),(("do_read":Str),F.bY),(("do_write":Str),F.bz),(("do_add":Str),F.dC),(("do_less":Str),F.cT),(("do_then":Str),F.cV),(("do_if":Str),F.dO),(("do_loop":Str),F.cU),(("do_let":Str),F.dH),(("do_own":Str),F.dG),(("do_say":Str),F.dw),(("do_ask":Str),F.dD),(("do_handed":Str),F.bG),(("do_call":Str),F.bZ),(("one_turn":Str),F.bw),(("touches_to_end":Str),F.aC),(("run":Str),F.aM),(("trace":Str),F.bC),(("run_all":Str),F.aZ),(("run_by":Str),F.cM),(("_law_cell":Str),F.cC),(("_law_drawn":Str),F.aa),(("_law_leaf":Str),F.dm),(("_law_deed":Str),F.az),(("_law_call":Str),F.dq),(("_law_rules":Str),F.bI),(("_law_store":Str),F.bK),(("_law_asked":Str),F.bJ),(("_law_weight":Str),F.aj),(("_law_light":Str),F.aN),(("law":Str),F.fY)]
def cons:List (Str×W):=[("SHELVES",uB),("MODULUS",zcj),("LOOP_MODULUS",zaq)]
def tabs:List (Str×List (Str×W)):=[("FORMS",t_FORMS)]
def bins:List Str:=["dict","isinstance","len","list","range","reversed","sum","tuple","zip"]
def mks(F:Fs):List (Str×(Nat×(List W->M W))):=[("Doing",(0,F.b7)),("Room",(1,F.dB))]
def ways(F:Fs):List (Str×List (Str×(List W->M W))):=[("WAYS",uz F)]
def rc(F:Fs):RC:=⟨⟨.function,[],false,false,[]⟩,[],false,fns F,cons,tabs,bins,[],[],[],[],flds,mt F,mks F,[],ways F⟩
def df(x:Str)(k:Nat)(ps n:List Str)(o:List Str:=[])(t:List Str:=[])(c:List ((Nat×Nat)×List Str):=[])(d:List Str:=[])(m:List (Nat×Nat):=[]):Def:=⟨x,x,top k,ps,ps++n,o,t,c,d,m⟩
def eZ:Def:=df "parts_of" 3 ["deed"] []
def eO:Def:=df "taken_off" 5 ["heap","count"] ["backward"] (o:=["backward","heap"]) (c:=[((12,15),["turn","heap"])])
def cJ:Def:=df "parts_run_first" 10 ["deed"] []
def dU:Def:=df "with_known" 11 ["known","name","thing"] ["inner"] (o:=["inner"]) (d:=["known"])
def d9:Def:=df "do_number" 12 ["doing","deed","known","worths"] []
def fQ:Def:=df "do_name" 13 ["doing","deed","known","worths"] [] (d:=["known"])
def fJ:Def:=df "do_read" 14 ["doing","deed","known","worths"] [] (d:=["known"])
def fB:Def:=df "do_write" 15 ["doing","deed","known","worths"] [] (d:=["known"])
def gr:Def:=df "do_add" 16 ["doing","deed","known","worths"] []
def fG:Def:=df "do_less" 17 ["doing","deed","known","worths"] []
def fD:Def:=df "do_then" 18 ["doing","deed","known","worths"] []
def gB:Def:=df "do_if" 19 ["doing","deed","known","worths"] [] (d:=["known"])
def fM:Def:=df "do_loop" 20 ["doing","deed","known","worths"] ["unrolled","turn"] (d:=["known"])
def gj:Def:=df "do_let" 21 ["doing","deed","known","worths"] [] (d:=["known"])
def fZ:Def:=df "do_own" 22 ["doing","deed","known","worths"] [] (d:=["known"]) (m:=[(59,52)])
def gh:Def:=df "do_say" 23 ["doing","deed","known","worths"] []
def gn:Def:=df "do_ask" 24 ["doing","deed","known","worths"] []
def d7:Def:=df "do_handed" 25 ["doing","deed","known","worths"] ["handed"] (d:=["known"])
def fH:Def:=df "do_call" 26 ["doing","deed","known","worths"] ["rule","inner","name","part"] (o:=["inner"]) (d:=["known"])
def fu:Def:=df "one_turn" 29 ["doing","room"] []
def cW:Def:=df "touches_to_end" 30 ["doing","room"] ["touches"] (o:=["touches"])
def gD:Def:=df "run" 34 ["rules","deed","store","asked"] ["told"]
def gA:Def:=df "trace" 35 ["rules","deed","store","asked"] []
def fL:Def:=df "run_all" 36 ["rules","deeds","store","asked"] []
def gm:Def:=df "run_by" 37 ["rules","deeds","store","asked","turns"] ["room","doings","number","doing","worths"] (o:=["doings"]) (c:=[((168,13),["deed","rules"]),((174,13),["doing"])])
def fj:Def:=df "_law_cell" 39 ["_law_script","_law_k"] []
def d8:Def:=df "_law_drawn" 40 ["_law_script","_law_k","_law_many"] ["_law_cell_here"]
def eY:Def:=df "_law_leaf" 41 ["_law_script","_law_at","_law_known"] ["_law_names","_law_owns","_law_handed","_law_way","_law_shelves"]
def eX:Def:=df "_law_deed" 42 ["_law_script","_law_at","_law_deep","_law_known","_law_rules_here"] ["_law_way","_law_one","_law_shelves","_law_word","_law_inner","_law_other"]
def fc:Def:=df "_law_call" 43 ["_law_script","_law_at","_law_deep","_law_known","_law_rules_here"] ["_law_number","_law_size","_law_parts","_law_k"] (o:=["_law_parts"])
def eF:Def:=df "_law_rules" 44 ["_law_script","_law_at"] ["_law_rules_here","_law_k","_law_names","_law_handed","_law_body"]
def eU:Def:=df "_law_store" 45 ["_law_script","_law_at"] [] (c:=[((237,17),["_law_k","_law_script","_law_at"])])
def eV:Def:=df "_law_asked" 46 ["_law_script","_law_at"] [] (c:=[((239,11),["_law_k","_law_script","_law_at"])])
def dY:Def:=df "_law_weight" 47 ["_law_rules_here","_law_deed_here","_law_handed"] ["_law_word","_law_there","_law_parts","_law_inner"] (c:=[((247,26),["_law_one","_law_part","_law_rules_here","_law_handed"]),((248,25),["_law_part","_law_rules_here","_law_handed"]),((250,17),["_law_part","_law_rules_here","_law_handed"])])
def dZ:Def:=df "_law_light" 48 ["_law_script","_law_at","_law_deep","_law_rules_here"] ["_law_deed_here"]
def gw:Def:=df "law" 49 ["_law_script"] ["_law_rules_here","_law_one","_law_two","_law_store_here","_law_asked_here","_law_mine","_law_brought","_law_worths","_law_shelves","_law_said","_law_many","_law_behind","_law_bare","_law_other"] (c:=[((261,25),["_law_k","_law_script","_law_rules_here"]),((266,19),["_law_touch"])])
def dX:Def:=⟨"__init__","Doing.__init__",inClass (top 28) 0,["self","rules","deed"],["self","rules","deed"],["steps","worths"],[],[],[],[]⟩
def dJ:Def:=⟨"begin","Doing.begin",inClass (top 28) 1,["self","deed","known"],["self","deed","known"],[],[],[],["known"],[]⟩
def dI:Def:=⟨"bring","Doing.bring",inClass (top 28) 2,["self","brought"],["self","brought"],[],[],[],[],[]⟩
def bD:Def:=⟨"rest_ahead_of","Doing.rest_ahead_of",inClass (top 28) 3,["self","touch"],["self","touch"],[],[],[],[],[]⟩
def dM:Def:=⟨"go_on","Doing.go_on",inClass (top 28) 4,["self"],["self","step"],[],[],[],[],[]⟩
def cL:Def:=⟨"take_step","Doing.take_step",inClass (top 28) 5,["self","parts_done","deed","known"],["self","parts_done","deed","known","parts"],[],[],[((102,30),["part","known"])],["known"],[]⟩
def cY:Def:=⟨"do_touch","Doing.do_touch",inClass (top 28) 6,["self","room"],["self","room","touch"],[],[],[],[],[]⟩
def dg:Def:=⟨"came_to","Doing.came_to",inClass (top 28) 8,["self"],["self"],[],[],[],[],[]⟩
def eE:Def:=⟨"__init__","Room.__init__",inClass (top 32) 0,["self","store","asked"],["self","store","asked"],["shelves","spoken"],[],[],["shelves"],[]⟩
def fX:Def:=⟨"do","Room.do",inClass (top 32) 1,["self","touch"],["self","touch"],[],[],[],["shelves"],[]⟩
def cj:Def:=⟨"next_answer","Room.next_answer",inClass (top 32) 2,["self"],["self","place"],[],[],[],[],[]⟩
def dR:Def:=⟨"store","Room.store",inClass (top 32) 3,["self"],["self"],[],[],[((154,21),["shelf","self"])],["shelves"],[]⟩
def eQ:Def:=⟨"said","Room.said",inClass (top 32) 4,["self"],["self"],[],[],[],[],[]⟩
def defs:List Def:=[eZ,eO,cJ,dU,d9,fQ,fJ,fB,gr,fG,fD,gB,fM,gj,fZ,gh,gn,d7,fH,fu,cW,gD,gA,fL,gm,fj,d8,eY,eX,fc,eF,eU,eV,dY,dZ,gw]
def zpA:List (Str×List (Str×Str)):=[("WAYS",[("number","do_number"),("name","do_name"),("read","do_read"),("write","do_write"),("add","do_add"),("less","do_less"),("then","do_then"),("if","do_if"),("loop","do_loop"),("let","do_let"),("own","do_own"),("say","do_say"),("ask","do_ask"),("do","do_handed"),("call","do_call")])]
def T(P:Program)(K:PySem.W.Frag)(w:World)(mg:Str->Option Value)(cl:Cl):Prop:=AllD (zcD K mg) defs/\AllOf (Glob K mg) cons/\AllOf (TabOk K w.params mg) tabs/\AllNone mg bins/\(cl.P=P/\cl.w=w)/\zbx K cl flds/\(MTxt K cl 0 dJ/\MTxt K cl 0 dI/\MTxt K cl 0 bD/\MTxt K cl 0 dM/\MTxt K cl 0 cL/\MTxt K cl 0 cY/\MTxt K cl 0 dg/\MTxt K cl 1 fX/\MTxt K cl 1 cj/\MTxt K cl 1 dR/\MTxt K cl 1 eQ/\True)/\(ITxt K mg cl "Doing" 0 dX/\ITxt K mg cl "Room" 1 eE/\True)/\AllOf (λx l=>TabOk K w.params mg x (wayT mg l)) zpA
def lvl{P:Program}{w:World}{K:PySem.W.Frag}{mg:Str->Option Value}{base:Heap}{cl:Cl}(t:T P K w mg cl):∀n,BaseOk P w K mg base cl n (rc (lv n))/\MkAt P w K mg base cl n "Doing" 0 (lv n).bj/\MkAt P w K mg base cl n "Room" 1 (lv n).bL:=by
 obtain⟨⟨T0,T1,T2,T3,T4,T5,T6,T7,T8,T9,T10,T11,T12,T13,T14,T15,T16,T17,T18,T19,T20,T21,T22,T23,T24,T25,T26,T27,T28,T29,T30,T31,T32,T33,T34,T35,-⟩,c,t,z,pw,k,⟨M0,M1,M2,M3,M4,M5,M6,M7,M8,M9,M10,-⟩,⟨I0,I1,-⟩,⟨W0,-⟩⟩:=t;intro n;induction n with
 | zero=>
  have A:AllOf (FnAt P w K mg base cl 0) (fns (lv 0)):=⟨xR T0,xR T1,xR T2,xR T3,xR T4,xR T5,xR T6,xR T7,xR T8,xR T9,xR T10,xR T11,xR T12,xR T13,xR T14,xR T15,xR T16,xR T17,xR T18,xR T19,xR T20,xR T21,xR T22,xR T23,xR T24,xR T25,xR T26,xR T27,xR T28,xR T29,xR T30,xR T31,xR T32,xR T33,xR T34,xR T35,trivial⟩;exact⟨⟨A,c,t,z,pw,k,λ_ _ _=>AllM.at (l:=mt (lv 0)) ⟨uO M0,uO M1,uO M2,uO M3,uO M4,uO M5,uO M6,uO M7,uO M8,uO M9,uO M10,trivial⟩,⟨.inl λ_ _=>rfl,.inl λ_ _=>rfl,trivial⟩,⟨ziK (fns:=fns (lv 0)) A W0 ⟨rfl,by kernel_rfl,rfl,by kernel_rfl,rfl,by kernel_rfl,rfl,by kernel_rfl,rfl,by kernel_rfl,rfl,by kernel_rfl,rfl,by kernel_rfl,rfl,by kernel_rfl,rfl,by kernel_rfl,rfl,by kernel_rfl,rfl,by kernel_rfl,rfl,by kernel_rfl,rfl,by kernel_rfl,rfl,by kernel_rfl,rfl,by kernel_rfl,trivial⟩,trivial⟩⟩,zek I0,zek I1⟩
 | succ n ih=>
  have A:AllOf (FnAt P w K mg base cl (n+1)) (fns (lv (n+1))):=⟨xZ (b:=dF _) T0 ih.1,xZ (b:=aB _) T1 ih.1,xZ (b:=aA _) T2 ih.1,xZ (b:=bA _) T3 ih.1,xZ (b:=eG _) T4 ih.1,xZ (b:=fO _) T5 ih.1,xZ (b:=cN _) T6 ih.1,xZ (b:=b8 _) T7 ih.1,xZ (b:=gk _) T8 ih.1,xZ (b:=fV _) T9 ih.1,xZ (b:=fU _) T10 ih.1,xZ (b:=gC _) T11 ih.1,xZ (b:=dN _) T12 ih.1,xZ (b:=gq _) T13 ih.1,xZ (b:=f9 _) T14 ih.1,xZ (b:=gb _) T15 ih.1,xZ (b:=gf _) T16 ih.1,xZ (b:=cZ _) T17 ih.1,xZ (b:=cO _) T18 ih.1,xZ (b:=bh _) T19 ih.1,xZ (b:=aD _) T20 ih.1,xZ (b:=fC _) T21 ih.1,xZ (b:=cX _) T22 ih.1,xZ (b:=cQ _) T23 ih.1,xZ (b:=dh _) T24 ih.1,xZ (b:=cG _) T25 ih.1,xZ (b:=bO _) T26 ih.1,xZ (b:=bu _) T27 ih.1,xZ (b:=aF _) T28 ih.1,xZ (b:=cF _) T29 ih.1,xZ (b:=bQ _) T30 ih.1,xZ (b:=bW _) T31 ih.1,xZ (b:=bM _) T32 ih.1,xZ (b:=aP _) T33 ih.1,xZ (b:=bU _) T34 ih.1,xZ (b:=du _) T35 ih.1,trivial⟩;exact⟨⟨A,c,t,z,pw,k,λ_ _ _=>AllM.at (l:=mt (lv (n+1))) ⟨zaO (b:=cI _) M0 ih.1,zaO (b:=cg _) M1 ih.1,zaO (b:=aR _) M2 ih.1,zaO (b:=aW _) M3 ih.1,zaO (b:=aq _) M4 ih.1,zaO (b:=aV _) M5 ih.1,zaO (b:=bF _) M6 ih.1,zaO (b:=bc _) M7 ih.1,zaO (b:=aK _) M8 ih.1,zaO (b:=bB _) M9 ih.1,zaO (b:=bR _) M10 ih.1,trivial⟩,⟨.inr ⟨n,zj _,ih.2.1⟩,.inr ⟨n,zj _,ih.2.2⟩,trivial⟩,⟨ziK (fns:=fns (lv (n+1))) A W0 ⟨rfl,by kernel_rfl,rfl,by kernel_rfl,rfl,by kernel_rfl,rfl,by kernel_rfl,rfl,by kernel_rfl,rfl,by kernel_rfl,rfl,by kernel_rfl,rfl,by kernel_rfl,rfl,by kernel_rfl,rfl,by kernel_rfl,rfl,by kernel_rfl,rfl,by kernel_rfl,rfl,by kernel_rfl,rfl,by kernel_rfl,rfl,by kernel_rfl,trivial⟩,trivial⟩⟩,zkW (b:=bx _) I0 ih.1,zkW (b:=bT _) I1 ih.1⟩
end K16
namespace K16
open PySem L2 ML
theorem zop{α:Type}{β:Type}{c:Prop}[Decidable c]{f g:α->β}{x:α}:(if c then f else g) x=if c then f x else g x:=by split<;>rfl
local macro_rules
 |`(tactic|simp![$l,*])=>`(tactic|simp[step,fnM,sSeq,sIf,sRet,xT,ue,sAsg,gNm,gTp,gTps,eVar,eC,eOp,eUn,xK,xU,eIf,za1,tVal,zbC,tOrM,asB,bnd,eqW,inW,zop,$l,*])
noncomputable def forms:List (Str×(Int×Int)):=[("number",(2,2)),("name",(2,2)),("read",(2,2)),("write",(3,2)),("add",(3,1)),("less",(3,1)),("then",(3,1)),("if",(4,1)),("loop",(3,1)),("let",(4,2)),("own",(4,2)),("say",(2,1)),("ask",(1,1)),("do",(2,2)),("call",(4,2))]
noncomputable def fm(x:Str):Option (Int×Int):=forms.lookup x
theorem zlA:t_FORMS=forms.map λp=>(p.1,.tup [.int p.2.1,.int p.2.2]):=rfl
theorem ziG{α β:Type}(f:α->β)(x:Str):∀l:List (Str×α),(l.map λp=>(p.1,f p.2)).lookup x=(l.lookup x).map f
 | []=>rfl
 | (k,v)::r=>by
  simp only[zy,kJ];cases x==k with
  | true=>rfl
  | false=>exact ziG f x r
def t_fm(x:Str):t_FORMS.lookup x=(fm x).map λp=>W.tup [.int p.1,.int p.2]:=by
 rw[zlA];exact ziG (λp:Int×Int=>W.tup [.int p.1,.int p.2]) x forms
def zal{l:List W}(d:dt n (.tup l)=true):∃m,n=m+1/\l.length<=1000/\∀w∈l,dt m w=true:=by
 cases n with
 | zero=>cases d
 | succ m=>
  unfold dt at d;rw[zx] at d;exact⟨m,rfl,qz d.1,λw hw=>kW.mp d.2 w hw⟩
def ix0:ixW (.tup (x::r)) (.int 0) h=some (x,h):=by simp[ixW,atI,ixN]
def ix1:ixW (.tup (x::y::r)) (.int 1) h=some (y,h):=by
 have:(1:Int)<(r.length:Int)+1+1:=by omega
 simp[ixW,atI,ixN,this]
def ix2:ixW (.tup (x::y::z::r)) (.int 2) h=some (z,h):=by
 have:(2:Int)<(r.length:Int)+1+1+1:=by omega
 simp[ixW,atI,ixN,this]
def ix3:ixW (.tup (x::y::z::u::r)) (.int 3) h=some (u,h):=by
 have:(3:Int)<(r.length:Int)+1+1+1+1:=by omega
 simp[ixW,atI,ixN,this]
def ixn{l:List W}{i:Int}(h0:0<=i)(h1:i<l.length)(e:l[i.toNat]?=some w):ixW (.tup l) (.int i) h=some (w,h):=by
 have hj:i.toNat<l.length:=by omega
 have:l[i.toNat]=w:=by rw[zA hj] at e; exact kj e
 simp[ixW,atI,ixN,h0,h1,this]
noncomputable def uG:W->List W
 | .tup (.str x::r)=>if x=="call" then (match r with
   | [_,.tup a,.tup b]=>a++b
   | _=>[]) else (match fm x with
   | some p=>r.drop (p.2.toNat-1)
   | none=>[])
 | _=>[]
def zcb{l:List W}{k:Nat}:cutW l (some (k:Int)) none=l.drop k:=by
 unfold cutW;have e1:HT.sIx l.length 0 (some (k:Int))=min k l.length:=by
  have:¬((k:Int)<0):=by omega
  simp[HT.sIx,this]
 have e2:HT.sIx l.length l.length none=l.length:=rfl;rw[e1,e2];have:l.drop (min k l.length)=l.drop k:=by
  by_cases h:k<=l.length
  .rw[Nat.min_eq_left h]
  .rw[Nat.min_eq_right ∅,yh,yO ∅]
 rw[this];apply yN
 rw[qL];omega
def zn8{p:Int×Int}(e:fm x=some p):1<=p.2/\p.2<=4:=by
 have:∀(l:List (Str×(Int×Int))),(l.all λq=>decide (1<=q.2.2/\q.2.2<=4))=true->l.lookup x=some p->1<=p.2/\p.2<=4:=by
  intro l;induction l with
  | nil=>intro _ e; cases e
  | cons q r ih=>
   obtain⟨k,v⟩:=q;intro h e;rw[ju,zx] at h;rw[kJ] at e;split at e
   .cases e; exact qz h.1
   .exact ih h.2 e
 exact this forms (by decide) e
def uK(ks:List Str):(xN ks).length=ks.length:=by simp[xN]
def ziT(d:dt (n+1) w=true):∀v∈uG w,dt n v=true:=by
 intro v hv;unfold uG at hv;split at hv
 .rename_i x r
  obtain⟨m,e,hl,hd⟩:=zal d;cases e;split at hv
  .split at hv
   .rename_i a b
    rename_i z0;cases n with
    | zero=>have:=hd (.tup a) (by simp); cases this
    | succ n=>
    obtain⟨m1,e1,la,da⟩:=zal (hd (.tup a) (by simp));obtain⟨m2,e2,lb,db⟩:=zal (hd (.tup b) (by simp));cases e1; cases e2;rcases zV.mp hv with h | h
    .exact um (da v h) (vC _)
    .exact um (db v h) (vC _)
   .simp at hv
  .split at hv
   .exact hd v (zN _ (qG hv))
   .simp at hv
 .simp at hv
def zhm(d:dt n w=true):(uG w).length<=2000:=by
 unfold uG;split
 .rename_i x r
  obtain⟨m,rfl,hl,hd⟩:=zal d;split
  .split
   .rename_i a b
    obtain⟨m1,e1,la,da⟩:=zal (hd (.tup a) (by simp));obtain⟨m2,e2,lb,db⟩:=zal (hd (.tup b) (by simp));rw[zF];omega
   .simp
  .split
   .rw[qL]
    simp at hl;omega
   .simp
 .simp
def at0{α:Type}(h:List α)(o:α):(h++[o])[h.length]?=some o:=by simp
def set0{α:Type}(h:List α)(o o':α):(h++[o]).set h.length o'=h++[o']:=by rw[jT _ _ (zj _)]; simp
noncomputable def up:Nat->Fs->Fs
 | 0,F=>F
 | n+1,F=>step (up n F)
def xM(e:a ρ h=some (.nx ρ',h')):sSeq a b ρ h=b ρ' h':=by unfold sSeq; rw[e]
def zaa(e:a ρ h=some (.ret w,h')):sSeq a b ρ h=some (.ret w,h'):=by unfold sSeq; rw[e]
def ixf0:ixW (.fls (a::r)) (.int 0) h=some (a,h):=by simp[ixW,getL,atI,ixN]
def ixf1:ixW (.fls (a::b::r)) (.int 1) h=some (b,h):=by
 have:(1:Int)<(r.length:Int)+1+1:=by omega
 simp[ixW,getL,atI,ixN,this]
noncomputable abbrev th(x:Str)(r:List W):W:=.tup (.str x::r)
def zfo{l:List W}(hk:k<=l.length):cutW l none (some (k:Int))=l.take k:=by
 unfold cutW;have e1:HT.sIx l.length l.length (some (k:Int))=k:=by
  have:¬((k:Int)<0):=by omega
  simp[HT.sIx,this]; omega
 have e2:HT.sIx l.length 0 none=0:=rfl;rw[e1,e2]; simp
def zk2:cutW (x::r) (some 1) none=r:=by
 have:=zcb (l:=x::r) (k:=1);simpa using this
def ints_map(l:List W)(f:W->Int):intsOf (l.map λw=>.int (f w))=some (l.map f):=by
 induction l with
 | nil=>rfl
 | cons x r ih=>simp only[zy]; unfold intsOf; rw[ih]
def filter_true{α:Type}(l:List α):(l.filter λ_=>true)=l:=List.filter_eq_self.mpr (by simp)
def zjt{l:List W}(d:dt n (.fls l)=true)(hn:n<=60):eqB h (.fls l) (.fls [])=some l.isEmpty:=by
 have e1:=zaF (h:=h) d (show n<=deep from hn);have e2:=zaF (h:=h) (show dt 1 (.fls [])=true from rfl) (show 1<=deep by decide);unfold eqB;simp only[eqF,e1,e2];congr 1
 cases n with
 | zero=>cases d
 | succ n=>
  cases l<;>simp[toD,PyData.eqv,PyData.eqvAll]
noncomputable def scr(ns:List Int):W:=.fls (ns.map W.int)
theorem zn6{ns:List Int}(h:ns.length<=63):dt 2 (scr ns)=true:=by
 unfold scr dt;rw[zx];refine⟨qw (by simp; omega),kW.mpr λw hw=>?_⟩;obtain⟨i,_,rfl⟩:=kZ.mp hw;rfl
noncomputable def zaZ(ns:List Int)(k:Int):Int:=if ns=[] then 7*k else ns.getD (k%ns.length).toNat 0+6553*(k/ns.length)
def zoi{ns:List Int}(hl:ns.length<=63):(step F).cC [scr ns,.int k] h=some (.int (zaZ ns k),h):=by
 refine zbh (n:=1) ?_ rfl;have eq:=zjt (h:=h) (zn6 hl) ∅;have sm:(small 7||small k)=true:=by rw[show small 7=true by decide]; rfl
 cases ns with
 | nil=>
  have eq':eqB h (scr []) (.fls [])=some true:=eq;simp![cG,flsW,cap,eq',mulW,sm,zaZ]
 | cons n r=>
  have eq':eqB h (scr (n::r)) (.fls [])=some false:=eq;have hp:(0:Int)<(r.length:Int)+1:=by omega
  have hb:(r.length:Int)+1<1073741824:=by simp at hl; omega
  have hm0:=vG k (show((r.length:Int)+1)≠0 by omega);have hm1:=qW k hp;have hlen:lenW [scr (n::r)] h=some (.int ((r.length:Int)+1),h):=by simp[lenW,scr,getL]
  have hix:ixW (scr (n::r)) (.int (k%((r.length:Int)+1))) h=some (.int ((n::r).getD (k%((r.length:Int)+1)).toNat 0),h):=by
   have hj:(k%((r.length:Int)+1)).toNat<(n::r).length:=by simp; omega
   have e1:((n::r).map W.int)[(k%((r.length:Int)+1)).toNat]?=some (.int ((n::r).getD (k%((r.length:Int)+1)).toNat 0)):=by
    rw[je,zA hj];simp only[yt,List.getD,zA hj,Option.getD_some]
   have e2:atI ((n::r).map W.int) (k%((r.length:Int)+1))=some (.int ((n::r).getD (k%((r.length:Int)+1)).toNat 0)):=by
    unfold atI ixN;rw[zX hm0,zX (by simp; omega)];exact e1
   simp only[ixW,scr,getL,e2]
  have sm2:(small 6553||small (k/((r.length:Int)+1)))=true:=by rw[show small 6553=true by decide]; rfl
  simp![cG,flsW,cap,eq',hlen,modW,hp,hix,divW,hb,mulW,sm2,addW,addI,zaZ]
noncomputable def h1V(ns:List Int)(k:Int):Int:=(zaZ ns k%2147483563*69069+104723*(k+1))%2147483563
noncomputable def h2V(ns:List Int)(k:Int):Int:=(h1V ns k*h1V ns k+h1V ns k/3)%2147483399
noncomputable def uJ(ns:List Int)(k many:Int):Int:=(h2V ns k*h2V ns k+h2V ns k/7)%2147483647/11%many
def zdf{i:Int}(h0:0<=i)(h1:i<2147483648):small i=true:=by
 unfold small;exact qw ⟨by omega,by omega⟩
def zaK{ns:List Int}(hl:ns.length<=63)(hm:0<many):(step (step F)).aa [scr ns,.int k,.int many] h=some (.int (uJ ns k many),h):=by
 refine zbh (n:=1) ?_ rfl;have e:=λh=>zoi (F:=F) (k:=k) (h:=h) hl
 generalize step F=G at e;have a1:0<=h1V ns k/\h1V ns k<2147483563:=⟨vG _ ∅,qW _ ∅⟩;have a2:0<=h2V ns k/\h2V ns k<2147483399:=⟨vG _ ∅,qW _ ∅⟩;have c0:0<=zaZ ns k%2147483563/\zaZ ns k%2147483563<2147483563:=⟨vG _ ∅,qW _ ∅⟩;have s1:(small (zaZ ns k%2147483563)||small 69069)=true:=by rw[zdf c0.1 ∅]; rfl
 have s2:(small 104723||small (k+1))=true:=by rw[show small 104723=true by decide]; rfl
 have s3:(small (h1V ns k)||small (h1V ns k))=true:=by rw[zdf a1.1 ∅]; rfl
 have s4:(small (h2V ns k)||small (h2V ns k))=true:=by rw[zdf a2.1 ∅]; rfl
 have m1:∀h,mulW (.int (zaZ ns k%2147483563)) (.int 69069) h=some (.int (zaZ ns k%2147483563*69069),h):=λh=>by simp only[mulW,s1,kI]
 have m2:∀h,mulW (.int 104723) (.int (k+1)) h=some (.int (104723*(k+1)),h):=λh=>by simp only[mulW,s2,kI]
 have m3:∀h,mulW (.int (h1V ns k)) (.int (h1V ns k)) h=some (.int (h1V ns k*h1V ns k),h):=λh=>by simp only[mulW,s3,kI]
 have m4:∀h,mulW (.int (h2V ns k)) (.int (h2V ns k)) h=some (.int (h2V ns k*h2V ns k),h):=λh=>by simp only[mulW,s4,kI]
 have f1:(zaZ ns k%2147483563*69069+104723*(k+1))%2147483563=h1V ns k:=rfl;have f2:(h1V ns k*h1V ns k+h1V ns k/3)%2147483399=h2V ns k:=rfl;have f3:(h2V ns k*h2V ns k+h2V ns k/7)%2147483647/11%many=uJ ns k many:=rfl;have b1:(sAsg (eOp modW (eOp addW (eOp mulW (eOp modW (xK G.cC [eVar 0,eVar 1]) (eC (.int 2147483563))) (eC (.int 69069))) (eOp mulW (eC (.int 104723)) (eOp addW (eVar 1) (eC (.int 1))))) (eC (.int 2147483563))) (gNm 3)) [some (scr ns),some (.int k),some (.int many),none] h=some (.nx [some (scr ns),some (.int k),some (.int many),some (.int (h1V ns k))],h):=by
  simp![e,modW,m1,m2,addW,addI,f1]
 have b2:(sAsg (eOp modW (eOp addW (eOp mulW (eVar 3) (eVar 3)) (eOp divW (eVar 3) (eC (.int 3)))) (eC (.int 2147483399))) (gNm 3)) [some (scr ns),some (.int k),some (.int many),some (.int (h1V ns k))] h=some (.nx [some (scr ns),some (.int k),some (.int many),some (.int (h2V ns k))],h):=by
  simp![modW,m3,divW,addW,addI,f2]
 have b3:(sRet (eOp modW (eOp divW (eOp modW (eOp addW (eOp mulW (eVar 3) (eVar 3)) (eOp divW (eVar 3) (eC (.int 7)))) (eC (.int 2147483647))) (eC (.int 11))) (eVar 2))) [some (scr ns),some (.int k),some (.int many),some (.int (h2V ns k))] h=some (.ret (.int (uJ ns k many)),h):=by
  simp![modW,m4,divW,addW,addI,hm,f3]
 have row:bO G [some (scr ns),some (.int k),some (.int many),none] h=some (.ret (.int (uJ ns k many)),h):=by
  unfold bO;rw[xM b1,xM b2,b3]
 simp only[fnM,zm,zP,kI,zy,ji,List.replicate,jk,zY];simp only[row]
def xW(hm:0<many):0<=uJ ns k many/\uJ ns k many<many:=⟨vG _ ∅,qW _ hm⟩
def zbz{l:List W}(hl:l.length<=1000)(h:∀w∈l,dt n w=true):dt (n+1) (.tup l)=true:=by
 unfold dt;rw[zx];exact⟨qw hl,kW.mpr h⟩
inductive Sh(rl:List W)(k:Nat)(H:List Str):W->Prop
 | number (i:Int):Sh rl k H (th "number" [.int i])
 | name (v:Str):Sh rl k H (th "name" [.str v])
 | read (v:Str):Sh rl k H (th "read" [.str v])
 | doo (v:Str) (hv:v∈H):Sh rl k H (th "do" [.str v])
 | ask:Sh rl k H (th "ask" [])
 | write (v:Str) (a:List W):Sh rl k H (th "write" [.str v,.tup a])
 | say (a:List W):Sh rl k H (th "say" [.tup a])
 | lett (v:Str) (a b:List W):Sh rl k H (th "let" [.str v,.tup a,.tup b])
 | own (v:Str) (a b:List W):Sh rl k H (th "own" [.str v,.tup a,.tup b])
 | add (a b:List W):Sh rl k H (th "add" [.tup a,.tup b])
 | less (a b:List W):Sh rl k H (th "less" [.tup a,.tup b])
 | thenn (a b:List W):Sh rl k H (th "then" [.tup a,.tup b])
 | loop (a b:List W):Sh rl k H (th "loop" [.tup a,.tup b])
 | iff (a b c:List W):Sh rl k H (th "if" [.tup a,.tup b,.tup c])
 | call (i:Nat) (a b:List W) (hi:i<k) (ns:List W) (hs:List Str) (body:W) (e:rl[i]?=some (.tup [.tup ns,.tup (xN hs),body])) (lb:b.length=hs.length):Sh rl k H (th "call" [.int i,.tup a,.tup b])
inductive Pn:W->Prop
 | mk (x:Str) (r:List W) (p:Int×Int) (hc:(x==("call":Str))=false) (hf:fm x=some p) (hp:r.filter (tyB .tuple)=uG (th x r)):Pn (th x r)
def Sh.split{rl:List W}{H:List Str}(h:Sh rl k H w):Pn w\/∃(i:Nat) (a b:List W) (ns:List W) (hs:List Str) (body:W),w=th "call" [.int i,.tup a,.tup b]/\i<k/\rl[i]?=some (.tup [.tup ns,.tup (xN hs),body]):=by
 have key:∀(x:Str) (p:Int×Int),(x==("call":Str))=false->fm x=some p->∀r:List W,r.filter (tyB .tuple)=r.drop (p.2.toNat-1)->Pn (th x r):=by
  intro x p hc hf r hr;refine .mk x r p hc hf ?_;simp only[uG,hc,hf,hr];rfl
 cases h with
 | number i=>exact .inl (key _ (2,2) ⋯ ⋯ _ (by simp[tyB]))
 | name v=>exact .inl (key _ (2,2) ⋯ ⋯ _ (by simp[tyB]))
 | read v=>exact .inl (key _ (2,2) ⋯ ⋯ _ (by simp[tyB]))
 | doo v hv=>exact .inl (key _ (2,2) ⋯ ⋯ _ (by simp[tyB]))
 | ask=>exact .inl (key _ (1,1) ⋯ ⋯ _ (by simp))
 | write v a=>exact .inl (key _ (3,2) ⋯ ⋯ _ (by simp[tyB]))
 | say a=>exact .inl (key _ (2,1) ⋯ ⋯ _ (by simp[tyB]))
 | lett v a b=>exact .inl (key _ (4,2) ⋯ ⋯ _ (by simp[tyB]))
 | own v a b=>exact .inl (key _ (4,2) ⋯ ⋯ _ (by simp[tyB]))
 | add a b=>exact .inl (key _ (3,1) ⋯ ⋯ _ (by simp[tyB]))
 | less a b=>exact .inl (key _ (3,1) ⋯ ⋯ _ (by simp[tyB]))
 | thenn a b=>exact .inl (key _ (3,1) ⋯ ⋯ _ (by simp[tyB]))
 | loop a b=>exact .inl (key _ (3,1) ⋯ ⋯ _ (by simp[tyB]))
 | iff a b c=>exact .inl (key _ (4,1) ⋯ ⋯ _ (by simp[tyB]))
 | call i a b hi ns hs body e lb=>exact .inr ⟨i,a,b,ns,hs,body,rfl,hi,e⟩
def zbD(i:Int)(a b:List W):uG (th "call" [.int i,.tup a,.tup b])=a++b:=by simp[uG]
noncomputable def okd(rl:List W)(k:Nat)(H:List Str):Nat->W->Prop
 | 0,_=>False
 | n+1,w=>Sh rl k H w/\∀p∈uG w,okd rl k H n p
noncomputable def HdOk(l:List (Key×W)):Prop:=∀p∈l,∃v,p.2=.int v
def zmo(h:HdOk l):HdOk (putW l k (.int v)):=by
 intro p hp;unfold putW at hp;split at hp
 .obtain⟨q,hq,rfl⟩:=kZ.mp hp
  split
  .exact⟨v,rfl⟩
  .exact h q hq
 .rcases zV.mp hp with z | z
  .exact h p z
  .simp at z; subst z; exact⟨v,rfl⟩
theorem zeh:∀{more l:List (Key×W)},HdOk l->HdOk more->HdOk (uA l more)
 | [],l,h,_=>h
 | (k,w)::r,l,h,hm=>by
  obtain⟨v,e⟩:=hm (k,w) zZ;simp only at e;subst e;have:=zeh (more:=r) (l:=putW l k (.int v)) (zmo h) λp hp=>hm p (zN _ hp)
  exact this
def zlU(h:HdOk l):∃v,(valW l k).getD (.int 1)=.int v:=by
 unfold valW;cases e:l.find? λkv=>decide (kv.1=k) with
 | none=>exact⟨1,rfl⟩
 | some p=>
  obtain⟨v,hv⟩:=h p (vO e);exact⟨v,by simp[hv]⟩
structure RulesGood(rl:List W):Prop where
 g:∀i,i<rl.length->∃(ns:List W) (hs:List Str) (body:W),rl[i]?=some (.tup [.tup ns,.tup (xN hs),body])/\dt 60 body=true/\okd rl i hs 3 body/\hs.length<=4
noncomputable def WOk(G:Fs)(rl:List W)(k n:Nat):Prop:=∀(Hd:List Str) (w:W) (hd:List (Key×W)),okd rl k Hd n w->dt 60 w=true->HdOk hd->∃v:Int,∀h,G.aj [.tup rl,w,.fdc hd] h=some (.int v,h)
noncomputable def wv(G:Fs)(rl:List W)(hd:List (Key×W))(w:W):Int:=match G.aj [.tup rl,w,.fdc hd] [] with
 | some (.int v,_)=>v
 | _=>0
def WOk.at{G:Fs}(H:WOk G rl k n)(o:okd rl k Hd n w)(d:dt 60 w=true)(q:HdOk hd)(h:MH):G.aj [.tup rl,w,.fdc hd] h=some (.int (wv G rl hd w),h):=by
 obtain⟨v,e⟩:=H _ w hd o d q;unfold wv;rw[e []];exact e h
noncomputable def four:List Str:=["number","name","ask","read"]
noncomputable abbrev ρw(rl:List W)(w:W)(hd:List (Key×W))(x:Str)(o4 o5 o6:Option W):En:=[some (.tup rl),some w,some (.fdc hd),some (.str x),o4,o5,o6]
theorem zdr(F:Fs):aP F=sSeq (sAsg (eOp ixW (eVar 1) (eC (.int 0))) (gNm 3)) (sSeq (w1 F) (sSeq (w2 F) (sSeq (w3 F) (sSeq (w4 F) (sSeq (w5 F) (w6 F)))))):=rfl
def in4(d:dt n (.str x)=true)(hn:n<=60):inB h (.str x) (.tup [.str "number",.str "name",.str "ask",.str "read"])=some (zap four (.str x)):=zdg (l:=four) d hn ⋯
def zn1(d:dt n (.str x)=true)(hn:n<=60)(q:zap four (.str x)=true):w1 F (ρw rl w hd x none none none) h=some (.ret (.int 1),h):=by
 have c4:(4:Nat)<=cap:=by decide
 have e:=in4 (h:=h) d hn;rw[q] at e;simp![w1,tupW,c4,e]
def zeS(d:dt n (.str x)=true)(hn:n<=60)(q:zap four (.str x)=false):w1 F (ρw rl w hd x none none none) h=some (.nx (ρw rl w hd x none none none),h):=by
 have c4:(4:Nat)<=cap:=by decide
 have e:=in4 (h:=h) d hn;rw[q] at e;simp![w1,tupW,c4,e]
def zhJ(q:(x==("do":Str))=false):w2 F (ρw rl w hd x none none none) h=some (.nx (ρw rl w hd x none none none),h):=by
 simp![w2,uM,q]
def zlb(q:(x==("call":Str))=false):w3 F (ρw rl w hd x none none none) h=some (.nx (ρw rl w hd x none none none),h):=by
 simp![w3,uM,q]
def zi1(l:List (Str×W))(f:W->Int):pairsOf (l.map λp=>.tup [.str p.1,.int (f p.2)])=some (l.map λp=>(.str p.1,.int (f p.2))):=by
 induction l with
 | nil=>rfl
 | cons x r ih=>simp only[zy]; unfold pairsOf; rw[ih]
theorem zjG(l:List (Str×W))(f:W->Int):keysOf (l.map λp=>(W.str p.1,W.int (f p.2)))=some (l.map λp=>(.inr p.1,.int (f p.2))):=by
 induction l with
 | nil=>rfl
 | cons x r ih=>simp only[zy]; unfold keysOf; rw[ih]; rfl
def zgc(hs:List Str)(b:List W):(xN hs).zip b=(hs.zip b).map λp=>(W.str p.1,p.2):=by
 induction hs generalizing b with
 | nil=>rfl
 | cons x r ih=>
  cases b with
  | nil=>rfl
  | cons y b=>simp only[xN,zy,jr,zy] at ih ⊢; rw[ih]
theorem zeG:∀{a b:List Str},xN a=xN b->a=b
 | [],[],_=>rfl
 | [],y::b,h=>by simp[xN] at h
 | x::a,[],h=>by simp[xN] at h
 | x::a,y::b,h=>by
  simp only[xN,zy,jO,W.str.injEq] at h;rw[h.1,zeG (a:=a) (b:=b) h.2]
def zbv(e1:m ρ h=some (w,h'))(e2:g w ρ h'=some (ρ',h2)):sAsg m g ρ h=some (.nx ρ',h2):=by
 unfold sAsg; rw[e1]; simp only[e2]
def zfe{f:List W->M W}(e:m ρ h=some (w,h')):xK f [m] ρ h=f [w] h':=by
 simp[xK,xU,bnd,e]
def zgn{rl:List W}(hr:RulesGood rl)(hk:k<=rl.length)(H:WOk G rl k n)(HB:∀i,i<k->WOk G rl i 3):WOk (step G) rl k (n+1):=by
 intro Hd w hd o d q;suffices hs:∃v:Int,∀h,aP G [some (.tup rl),some w,some (.fdc hd),none,none,none,none] h=some (.ret (.int v),h) by
  obtain⟨v,e⟩:=hs;refine⟨v,λh=>zbh (n:=1) ?_ rfl⟩;simp only[fnM,zm,zP,kI,zy,ji,List.replicate,jk,zY];simp only[e h]
 have dp:∀v∈uG w,dt 60 v=true:=λv hv=>um (ziT (n:=59) d v hv) ∅
 have lp:=zhm d;have start:∀x r,w=th x r->∀h,(sAsg (eOp ixW (eVar 1) (eC (.int 0))) (gNm 3)) [some (.tup rl),some w,some (.fdc hd),none,none,none,none] h=some (.nx (ρw rl w hd x none none none),h):=by
  intro x r e h;subst e;simp![ix0]
 have dx:∀x r,w=th x r->dt 59 (.str x)=true:=by
  intro x r e;subst e;obtain⟨m,e,hl,hd⟩:=zal d;cases e;exact hd _ zZ
 have leaf:∀x r,w=th x r->zap four (.str x)=true->∃v:Int,∀h,aP G [some (.tup rl),some w,some (.fdc hd),none,none,none,none] h=some (.ret (.int v),h):=by
  intro x r e hx;refine⟨1,λh=>?_⟩;rw[zdr,xM (start x r e h),zaa (zn1 (dx x r e) ∅ hx)]
 have inner:∀x r,w=th x r->r.filter (tyB .tuple)=uG w->∀h,w4 G (ρw rl w hd x none none none) h=some (.nx (ρw rl w hd x none none (some (.fls ((uG w).map λv=>.int (wv G rl hd v))))),h):=by
  intro x r e hq h;have c:=zb5 (mi:=iSeq (eSl (eVar 1) (some (eC (.int 1))) none)) (ks:=[0,2]) (t:=tVal (eUn (isW .tuple) (eVar 0))) (m:=xK G.aj [eVar 1,eVar 0,eVar 2]) (ρ:=ρw rl w hd x none none none) (h:=h) (l:=r) (tyB .tuple) (λv=>.int (wv G rl hd v))
   (by subst e; simp![iSeq,eSl,zaY,slW,srcOf,zk2])
   (λv hv H'=>by
    subst e;obtain⟨m,e,hl,hd'⟩:=zal d
    simp![znk (hd' v (zN _ hv))])
   (λv hv hy H'=>by
    have hv':v∈uG w:=by rw[<-hq]; exact vD.mpr ⟨hv,hy⟩
    simp![H.at (o.2 v hv') (dp v hv') q H'])
   (λv hv _=>by unfold low; rfl)
   (by
    subst e;obtain⟨m,e,hl,hd'⟩:=zal d;have:r.length<=1000:=by simp at hl; omega
    exact zQ this (by decide))
  rw[hq] at c;unfold w4 sAsg;rw[c];simp![]
 have other:∀x r,w=th x r->zap four (.str x)=false->(x==("do":Str))=false->(x==("loop":Str))=false->Pn w->∃v:Int,∀h,aP G [some (.tup rl),some w,some (.fdc hd),none,none,none,none] h=some (.ret (.int v),h):=by
  intro x r e h1 h2 h3 hp;refine⟨1+sumL ((uG w).map λv=>wv G rl hd v),λh=>?_⟩;cases hp with
  | mk x' r' p hc hf hq=>
   cases e;have e2:=ints_map (uG (th x r)) λv=>wv G rl hd v
   rw[zdr,xM (start x r rfl h),xM (zeS (dx x r rfl) ∅ h1),xM (zhJ h2),xM (zlb hc),xM (inner x r rfl hq h),
    xM (ρ':=ρw rl (th x r) hd x none none (some (.fls ((uG (th x r)).map λv=>.int (wv G rl hd v))))) (h':=h) (by simp![w5,uM,h3])]
   simp![w6,sumW,zao,getL,e2,addW,addI]
 have osh:=o.1;have osp:=o.1.split;cases osh with
 | number i=>exact leaf _ _ rfl ⋯
 | name v=>exact leaf _ _ rfl ⋯
 | read v=>exact leaf _ _ rfl ⋯
 | ask=>exact leaf _ _ rfl ⋯
 | doo v=>
  obtain⟨u,hu⟩:=zlU (k:=.inr v) q;refine⟨u,λh=>?_⟩;rw[zdr,xM (start _ _ rfl h),xM (zeS (dx _ _ rfl) ∅ ⋯)];refine zaa ?_;simp![w2,uM,zdq,zae,ix1,keyOf,hu]
 | write v a=>
  rcases osp with hp | ⟨_,_,_,_,_,_,e,_,_⟩
  .exact other _ _ rfl ⋯ ⋯ ⋯ hp
  .cases e
 | say a=>
  rcases osp with hp | ⟨_,_,_,_,_,_,e,_,_⟩
  .exact other _ _ rfl ⋯ ⋯ ⋯ hp
  .cases e
 | lett v a b=>
  rcases osp with hp | ⟨_,_,_,_,_,_,e,_,_⟩
  .exact other _ _ rfl ⋯ ⋯ ⋯ hp
  .cases e
 | own v a b=>
  rcases osp with hp | ⟨_,_,_,_,_,_,e,_,_⟩
  .exact other _ _ rfl ⋯ ⋯ ⋯ hp
  .cases e
 | add a b=>
  rcases osp with hp | ⟨_,_,_,_,_,_,e,_,_⟩
  .exact other _ _ rfl ⋯ ⋯ ⋯ hp
  .cases e
 | less a b=>
  rcases osp with hp | ⟨_,_,_,_,_,_,e,_,_⟩
  .exact other _ _ rfl ⋯ ⋯ ⋯ hp
  .cases e
 | thenn a b=>
  rcases osp with hp | ⟨_,_,_,_,_,_,e,_,_⟩
  .exact other _ _ rfl ⋯ ⋯ ⋯ hp
  .cases e
 | iff a b c=>
  rcases osp with hp | ⟨_,_,_,_,_,_,e,_,_⟩
  .exact other _ _ rfl ⋯ ⋯ ⋯ hp
  .cases e
 | loop a b=>
  have ep:uG (th "loop" [.tup a,.tup b])=[.tup a,.tup b]:=by
   simp[uG,show(("loop":Str)=="call")=false by decide +kernel,show fm "loop" = some (3,1) by decide +kernel]
  refine⟨1+wv G rl hd (.tup a)+3*wv G rl hd (.tup b),λh=>?_⟩;have hin:=inner _ _ rfl (by rw[ep]; simp[tyB]) h;rw[ep] at hin;rw[zdr,xM (start _ _ rfl h),xM (zeS (dx _ _ rfl) ∅ ⋯),xM (zhJ ⋯),xM (zlb ⋯),xM hin];refine zaa ?_;have sm:(small 3||small (wv G rl hd (.tup b)))=true:=by rw[show small 3=true by decide]; rfl
  simp![w5,uM,ixf0,ixf1,addW,addI,mulW,sm]
 | call i a b hi ns hs body e=>
  obtain⟨ns',hs',body',e',db,ob,hl4⟩:=hr.g i ∅;have eb:hs=hs'/\body=body':=by
   rw[e] at e';injection e' with e';injection e' with e';simp only[jO,W.tup.injEq,and_true] at e';refine⟨?_,e'.2.2⟩;have:=e'.2.1;exact zeG this
  obtain⟨rfl,rfl⟩:=eb;obtain⟨m,em,hl,hd'⟩:=zal d;cases em;obtain⟨m1,e1,la,da⟩:=zal (hd' (.tup a) (by simp));obtain⟨m2,e2,lb,dbb⟩:=zal (hd' (.tup b) (by simp));rw[zbD] at dp;have op:=o.2;rw[zbD] at op;have ei:∀h,ixW (.tup rl) (.int (i:Int)) h=some (.tup [.tup ns,.tup (xN hs),body],h):=λh=>ixn ∅ ∅ (by simpa using e)
  have ok2:HdOk (uA [] ((hs.zip b).map λp=>(Sum.inr p.1,W.int (wv G rl hd p.2)))):=by
   refine zeh (λp hp=>by simp at hp) λp hp=>?_
   obtain⟨z,_,rfl⟩:=kZ.mp hp;exact⟨_,rfl⟩
  refine⟨1+sumL (a.map λv=>wv G rl hd v)+wv G rl (uA [] ((hs.zip b).map λp=>(Sum.inr p.1,W.int (wv G rl hd p.2)))) body,λh=>?_⟩;have c2:(2:Nat)<=cap:=by decide
  have hzl:(hs.zip b).length<=4:=by rw[qg]; omega
  have cz:=zpg (mi:=iZip [eOp ixW (eOp ixW (eVar 0) (eOp ixW (eVar 1) (eC (.int 1)))) (eC (.int 1)),eOp ixW (eVar 1) (eC (.int 3))]) (ks:=[0,2]) (t:=ud) (m:=xK tupW [eVar 0,xK G.aj [eVar 2,eVar 1,eVar 3]]) (ρ:=ρw rl (th "call" [.int i,.tup a,.tup b]) hd "call" none none none) (h:=h) (l:=(hs.zip b).map λp=>(W.str p.1,p.2)) (λ_ _=>true) (λx y=>.tup [x,.int (wv G rl hd y)])
   (by simp![iZip,ix0,ix1,ix3,ei,zipW,zaX,zgc])
   (λv hv H'=>rfl)
   (λv hv _ H'=>by
    obtain⟨p,hp,rfl⟩:=kZ.mp hv;have hb:p.2∈b:=(qT (show(p.1,p.2)∈hs.zip b from hp)).2;have hb':p.2∈a++b:=zV.mpr (.inr hb)
    simp![H.at (op _ hb') (dp _ hb') q H',tupW,c2])
   (λv hv _=>by
    obtain⟨p,hp,rfl⟩:=kZ.mp hv
    simp[low,lows])
   (by rw[zH]; exact zQ hzl (by decide))
  rw[filter_true,vf] at cz;have cs:=zb5 (mi:=iSeq (eOp ixW (eVar 1) (eC (.int 2)))) (ks:=[0,2]) (t:=ud) (m:=xK G.aj [eVar 1,eVar 0,eVar 2]) (ρ:=ρw rl (th "call" [.int i,.tup a,.tup b]) hd "call" (some (.fdc (uA [] ((hs.zip b).map λp=>(Sum.inr p.1,W.int (wv G rl hd p.2)))))) none none) (h:=h) (l:=a) (λ_=>true) (λv=>.int (wv G rl hd v))
   (by simp![iSeq,ix2,srcOf])
   (λv hv H'=>rfl)
   (λv hv _ H'=>by
    have hb':v∈a++b:=zV.mpr (.inl hv)
    simp![H.at (op _ hb') (dp _ hb') q H'])
   (λv hv _=>by unfold low; rfl)
   (zQ la (by decide))
  rw[filter_true] at cs;have e3:=ints_map a λv=>wv G rl hd v
  have pm:=zi1 (hs.zip b) λv=>wv G rl hd v
  have km:=zjG (hs.zip b) λv=>wv G rl hd v
  have body_ok:=(HB i hi).at (hd:=uA [] ((hs.zip b).map λp=>(Sum.inr p.1,W.int (wv G rl hd p.2)))) ob db ok2 h;have hz1000:(hs.zip b).length<=1000:=by omega
  rw[zdr,xM (start _ _ rfl h),xM (zeS (dx _ _ rfl) ∅ ⋯),xM (zhJ ⋯)];refine zaa ?_;have s1:(sAsg (xK zcU [uo (iZip [eOp ixW (eOp ixW (eVar 0) (eOp ixW (eVar 1) (eC (.int 1)))) (eC (.int 1)),eOp ixW (eVar 1) (eC (.int 3))]) 2 [0,2] (gTp [gNm 0,gNm 1]) ud (xK tupW [eVar 0,xK G.aj [eVar 2,eVar 1,eVar 3]])]) (gNm 4)) (ρw rl (th "call" [.int i,.tup a,.tup b]) hd "call" none none none) h=some (.nx (ρw rl (th "call" [.int i,.tup a,.tup b]) hd "call" (some (.fdc (uA [] ((hs.zip b).map λp=>(Sum.inr p.1,W.int (wv G rl hd p.2)))))) none none),h):=by
   refine zbv ((zfe cz).trans ?_) rfl;have:(List.map ((λw:W×W=>W.tup [w.fst,W.int (wv G rl hd w.snd)])∘λp:Str×W=>(W.str p.fst,p.snd)) (hs.zip b))=(hs.zip b).map λp=>.tup [.str p.1,.int (wv G rl hd p.2)]:=rfl
   rw[this];simp only[zcU,zae,getL,pm,km];rw[zH,zX hz1000]
  have s2:(sAsg (xK sumW [uo (iSeq (eOp ixW (eVar 1) (eC (.int 2)))) 1 [0,2] (gNm 0) ud (xK G.aj [eVar 1,eVar 0,eVar 2])]) (gNm 5)) (ρw rl (th "call" [.int i,.tup a,.tup b]) hd "call" (some (.fdc (uA [] ((hs.zip b).map λp=>(Sum.inr p.1,W.int (wv G rl hd p.2)))))) none none) h=some (.nx (ρw rl (th "call" [.int i,.tup a,.tup b]) hd "call" (some (.fdc (uA [] ((hs.zip b).map λp=>(Sum.inr p.1,W.int (wv G rl hd p.2)))))) (some (.int (sumL (a.map λv=>wv G rl hd v)))) none),h):=by
   refine zbv ((zfe cs).trans ?_) rfl;simp only[sumW,zao,getL,e3]
  have t:tVal (eOp (eqW false) (eVar 3) (eC (.str "call"))) (ρw rl (th "call" [.int i,.tup a,.tup b]) hd "call" none none none) h=some (true,h):=by simp![uM]
  unfold w3 sIf;simp only[t,kI];rw[xM s1,xM s2];simp![ix0,ix1,ix2,ei,body_ok,addW,addI]
theorem zcc{rl:List W}(hr:RulesGood rl)(F:Fs):∀(m k n:Nat),3*k+n<=m->n<=3->k<=rl.length->WOk (up m F) rl k n
 | m,k,0,_,_,_=>by intro Hd w hd o; cases o
 | 0,k,n+1,h,_,_=>by omega
 | m+1,k,n+1,h,hn,hk=>zgn hr hk (zcc hr F m k n ∅ ∅ hk) λi hi=>zcc hr F m i 3 ∅ ∅ ∅
inductive D where
 | number (i:Int) | name (v:Str) | read (v:Str) | doo (v:Str) | ask
 | write (v:Str) (a:D) | say (a:D) | lett (v:Str) (a b:D) | own (v:Str) (a b:D)
 | add (a b:D) | less (a b:D) | thenn (a b:D) | loop (a b:D) | iff (a b c:D)
 | call (i:Nat) (as bs:List D)
structure Rule where
 ns:List Str
 hs:List Str
 body:D
inductive Vl where
 | int (i:Int) | cell (c:Nat) | hd (d:D) (env:List (Str×Vl))
abbrev Ev:=List (Str×Vl)
noncomputable def lk:Ev->Str->Option Vl
 | [],_=>none
 | (x,v)::r,y=>if x=y then some v else lk r y
inductive Tch where
 | read (v:Str) | write (v:Str) (i:Int) | say (i:Int) | ask
inductive Tr(α:Type) where
 | ret (a:α) | tch (t:Tch) (k:Int->Tr α)
noncomputable def Tr.bind{α β:Type}:Tr α->(α->Tr β)->Tr β
 | .ret a,f=>f a
 | .tch t k,f=>.tch t λv=>(k v).bind f
theorem Tr.bind_assoc{α β γ:Type}(f:α->Tr β)(g:β->Tr γ):∀T:Tr α,(T.bind f).bind g=T.bind λa=>(f a).bind g
 | .ret a=>rfl
 | .tch t k=>by
  simp only[Tr.bind];congr 1
  funext v
  exact Tr.bind_assoc f g (k v)
theorem Tr.bind_ret{α:Type}:∀T:Tr α,T.bind .ret=T
 | .ret a=>rfl
 | .tch t k=>by
  simp only[Tr.bind];congr 1
  funext v
  exact Tr.bind_ret (k v)
abbrev Tc:=Tr (Int×List Int)
inductive SV where
 | int (i:Int) | cell (c:Nat) | fn (f:List Int->Tc)
abbrev Sv:=Str->SV
noncomputable def SV.i:SV->Int
 | .int i=>i
 | _=>0
noncomputable def SV.c:SV->Nat
 | .cell i=>i
 | _=>0
noncomputable def SV.f:SV->List Int->Tc
 | .fn f=>f
 | _=>λcs=>.ret (0,cs)
noncomputable def us(ρ:Sv)(x:Str)(v:SV):Sv:=λy=>if x=y then v else ρ y
noncomputable def SH:List Str:=["a","b","c","d"]
abbrev Rn:=Nat->List Int->List (List Int->Tc)->List Int->Tc
noncomputable def rp(f:List Int->Tc):Nat->List Int->Tc
 | 0,cs=>.ret (0,cs)
 | n+1,cs=>(f cs).bind λp=>rp f n p.2
mutual
noncomputable def den(R:Rn):D->Sv->List Int->Tc
 | .number i,_,cs=>.ret (i,cs)
 | .name v,ρ,cs=>.ret ((ρ v).i,cs)
 | .read v,ρ,cs=>if v∈SH then .tch (.read v) λx=>.ret (x,cs) else .ret (cs.getD (ρ v).c 0,cs)
 | .doo v,ρ,cs=>(ρ v).f cs
 | .ask,_,cs=>.tch .ask λx=>.ret (x,cs)
 | .write v a,ρ,cs=>(den R a ρ cs).bind λp=>if v∈SH then .tch (.write v p.1) λx=>.ret (x,p.2) else .ret (p.1,p.2.set (ρ v).c p.1)
 | .say a,ρ,cs=>(den R a ρ cs).bind λp=>.tch (.say p.1) λx=>.ret (x,p.2)
 | .lett v a b,ρ,cs=>(den R a ρ cs).bind λp=>den R b (us ρ v (.int p.1)) p.2
 | .own v a b,ρ,cs=>(den R a ρ cs).bind λp=>den R b (us ρ v (.cell p.2.length)) (p.2++[p.1])
 | .add a b,ρ,cs=>(den R a ρ cs).bind λp=>(den R b ρ p.2).bind λq=>.ret ((p.1+q.1)%1009,q.2)
 | .less a b,ρ,cs=>(den R a ρ cs).bind λp=>(den R b ρ p.2).bind λq=>.ret (if p.1<q.1 then 1 else 0,q.2)
 | .thenn a b,ρ,cs=>(den R a ρ cs).bind λp=>den R b ρ p.2
 | .loop a b,ρ,cs=>(den R a ρ cs).bind λp=>rp (λcs=>den R b ρ cs) (p.1%4).toNat p.2
 | .iff a b c,ρ,cs=>(den R a ρ cs).bind λp=>if p.1=0 then den R c ρ p.2 else den R b ρ p.2
 | .call i as bs,ρ,cs=>(dens R as ρ cs).bind λp=>R i p.1 (denf R bs ρ) p.2
noncomputable def dens(R:Rn):List D->Sv->List Int->Tr (List Int×List Int)
 | [],_,cs=>.ret ([],cs)
 | d::r,ρ,cs=>(den R d ρ cs).bind λp=>(dens R r ρ p.2).bind λq=>.ret (p.1::q.1,q.2)
noncomputable def denf(R:Rn):List D->Sv->List (List Int->Tc)
 | [],_=>[]
 | d::r,ρ=>(λcs=>den R d ρ cs)::denf R r ρ
end
noncomputable def ρ0:Sv:=λ_=>.int 0
noncomputable def cρ(r:Rule)(xs:List Int)(fs:List (List Int->Tc)):Sv:=(r.hs.zip fs).foldl (λe p=>us e p.1 (.fn p.2)) ((r.ns.zip xs).foldl (λe p=>us e p.1 (.int p.2)) ρ0)
noncomputable def semK(rs:List Rule):Nat->Rn
 | 0=>λ_ _ _ cs=>.ret (0,cs)
 | k+1=>λi xs fs cs=>if i=k then (match rs[k]? with
   | some r=>den (semK rs k) r.body (cρ r xs fs) cs
   | none=>.ret (0,cs)) else semK rs k i xs fs cs
mutual
noncomputable def cost(B:Nat->Nat->Nat)(h:Nat):D->Nat
 | .number _=>1
 | .name _=>1
 | .read _=>1
 | .doo _=>1+h
 | .ask=>1
 | .write _ a=>cost B h a+2
 | .say a=>cost B h a+2
 | .lett _ a b=>cost B h a+cost B h b+2
 | .own _ a b=>cost B h a+cost B h b+2
 | .add a b=>cost B h a+cost B h b+2
 | .less a b=>cost B h a+cost B h b+2
 | .thenn a b=>cost B h a+cost B h b+2
 | .loop a b=>cost B h a+3*cost B h b+9
 | .iff a b c=>cost B h a+max (cost B h b) (cost B h c)+2
 | .call i as bs=>zaP B h as+B i (zat B h bs)+2
noncomputable def zaP(B:Nat->Nat->Nat)(h:Nat):List D->Nat
 | []=>0
 | d::r=>cost B h d+zaP B h r
noncomputable def zat(B:Nat->Nat->Nat)(h:Nat):List D->Nat
 | []=>0
 | d::r=>max (cost B h d) (zat B h r)
end
noncomputable def zab(rs:List Rule):Nat->Nat->Nat->Nat
 | 0=>λ_ _=>0
 | k+1=>λi h=>if i=k then (match rs[k]? with
   | some r=>cost (zab rs k) h r.body
   | none=>0) else zab rs k i h
theorem zd2{rs:List Rule}{i:Nat}{r:Rule}(e:rs[i]?=some r):∀{K:Nat},i<K->semK rs K i=λxs fs cs=>den (semK rs i) r.body (cρ r xs fs) cs
 | 0,h=>by omega
 | K+1,h=>by
  by_cases q:i=K
  .subst q
   funext xs fs cs
   simp only[semK,kI,e]
  .funext xs fs cs
   simp only[semK,q,jm];rw[zd2 e (K:=K) ∅]
theorem zb0{rs:List Rule}{i:Nat}{r:Rule}(e:rs[i]?=some r):∀{K:Nat},i<K->zab rs K i=λh=>cost (zab rs i) h r.body
 | 0,h=>by omega
 | K+1,h=>by
  by_cases q:i=K
  .subst q
   funext h
   simp only[zab,kI,e]
  .funext h
   simp only[zab,q,jm];rw[zb0 e (K:=K) ∅]
abbrev Stp:=Bool×D×Ev
noncomputable def D.first:D->List D
 | .write _ a=>[a]
 | .say a=>[a]
 | .lett _ a _=>[a]
 | .own _ a _=>[a]
 | .add a b=>[a,b]
 | .less a b=>[a,b]
 | .thenn a b=>[a,b]
 | .loop a _=>[a]
 | .iff a _ _=>[a]
 | .call _ as _=>as
 | _=>[]
noncomputable def unr(b:D):Nat->D
 | 0=>.number 0
 | n+1=>.thenn b (unr b n)
noncomputable def cE(r:Rule)(xs:List Int)(bs:List D)(env:Ev):Ev:=(r.hs.zip bs).foldl (λe p=>(p.1,.hd p.2 env)::e) ((r.ns.zip xs).foldl (λe p=>(p.1,.int p.2)::e) [])
inductive Res where
 | gg (p:List Stp) (ws cs:List Int) | tch (t:Tch) (ws:List Int)
inductive S1(rs:List Rule):Bool->D->Ev->List Int->List Int->Res->Prop
 | number {i env ws cs}:S1 rs false (.number i) env ws cs (.gg [] (i::ws) cs)
 | name {v i env ws cs} (h:lk env v=some (.int i)):S1 rs false (.name v) env ws cs (.gg [] (i::ws) cs)
 | readS {v env ws cs} (h:v∈SH):S1 rs false (.read v) env ws cs (.tch (.read v) ws)
 | readO {v c i env ws cs} (h:v∉SH) (hs:dt 1 (.str v)=true) (hv:lk env v=some (.cell c)) (hc:cs[c]?=some i):S1 rs false (.read v) env ws cs (.gg [] (i::ws) cs)
 | doo {v d' env' env ws cs} (h:lk env v=some (.hd d' env')):S1 rs false (.doo v) env ws cs (.gg [(false,d',env')] ws cs)
 | ask {env ws cs}:S1 rs false .ask env ws cs (.tch .ask ws)
 | push {d env ws cs} (h:d.first≠[]) (hl:d.first.length<=3):S1 rs false d env ws cs (.gg (d.first.map (λa=>(false,a,env))++[(true,d,env)]) ws cs)
 | writeS {v a x env ws cs} (h:v∈SH):S1 rs true (.write v a) env (x::ws) cs (.tch (.write v x) ws)
 | writeO {v a x c env ws cs} (h:v∉SH) (hs:dt 1 (.str v)=true) (hv:lk env v=some (.cell c)) (hc:c<cs.length):S1 rs true (.write v a) env (x::ws) cs (.gg [] (x::ws) (cs.set c x))
 | say {a x env ws cs}:S1 rs true (.say a) env (x::ws) cs (.tch (.say x) ws)
 | add {a b x y env ws cs}:S1 rs true (.add a b) env (y::x::ws) cs (.gg [] ((x+y)%1009::ws) cs)
 | less {a b x y env ws cs}:S1 rs true (.less a b) env (y::x::ws) cs (.gg [] ((if x<y then 1 else 0)::ws) cs)
 | thenn {a b x y env ws cs}:S1 rs true (.thenn a b) env (y::x::ws) cs (.gg [] (y::ws) cs)
 | iff {a b c x env ws cs}:S1 rs true (.iff a b c) env (x::ws) cs (.gg [(false,if x=0 then c else b,env)] ws cs)
 | loop {a b x env ws cs}:S1 rs true (.loop a b) env (x::ws) cs (.gg [(false,unr b (x%4).toNat,env)] ws cs)
 | lett {v a b x env ws cs}:S1 rs true (.lett v a b) env (x::ws) cs (.gg [(false,b,(v,.int x)::env)] ws cs)
 | own {v a b x env ws cs}:S1 rs true (.own v a b) env (x::ws) cs (.gg [(false,b,(v,.cell cs.length)::env)] ws (cs++[x]))
 | call {pd i as bs r xs env ws cs} (hp:pd=true\/as=[]) (hr:rs[i]?=some r) (hx:xs.length=as.length) (ha:as.length=r.ns.length) (hb:bs.length=r.hs.length):S1 rs pd (.call i as bs) env (xs.reverse++ws) cs (.gg [(false,r.body,cE r xs bs env)] ws cs)
inductive Rep(rs:List Rule):List Stp->List Int->List Int->Tr Int->Nat->Prop
 | done {v ws cs c}:Rep rs [] (v::ws) cs (.ret v) c
 | gg {b d env stk ws cs p ws' cs' T c} (h:S1 rs b d env ws cs (.gg p ws' cs')) (r:Rep rs (p++stk) ws' cs' T c):Rep rs ((b,d,env)::stk) ws cs T (c+1)
 | tch {b d env stk ws cs t ws' k c} (h:S1 rs b d env ws cs (.tch t ws')) (r:∀v,Rep rs stk (v::ws') cs (k v) c):Rep rs ((b,d,env)::stk) ws cs (.tch t k) (c+1)
def Rep.mono{T:Tr Int}{c:Nat}(r:Rep rs stk ws cs T c):∀{c':Nat},c<=c'->Rep rs stk ws cs T c':=by
 induction r with
 | done=>intro c' _; exact .done
 | gg h r ih=>
  intro c' hc;obtain⟨c'',rfl⟩:∃c'',c'=c''+1:=⟨c'-1,by omega⟩;exact .gg h (ih ∅)
 | tch h r ih=>
  intro c' hc;obtain⟨c'',rfl⟩:∃c'',c'=c''+1:=⟨c'-1,by omega⟩;exact .tch h λv=>ih v ∅
mutual
noncomputable def Wf(rs:List Rule)(k:Nat):D->List Str->List Str->List Str->Prop
 | .number _,_,_,_=>True
 | .name v,N,_,_=>v∈N
 | .read v,_,O,_=>v∈SH\/v∈O
 | .doo v,_,_,H=>v∈H
 | .ask,_,_,_=>True
 | .write v a,N,O,H=>(v∈SH\/v∈O)/\Wf rs k a N O H
 | .say a,N,O,H=>Wf rs k a N O H
 | .lett v a b,N,O,H=>(v∉O/\v∉H/\dt 1 (.str v)=true)/\Wf rs k a N O H/\Wf rs k b (N++[v]) O H
 | .own v a b,N,O,H=>(v∉N/\v∉H/\dt 1 (.str v)=true)/\Wf rs k a N O H/\Wf rs k b N (O++[v]) H
 | .add a b,N,O,H=>Wf rs k a N O H/\Wf rs k b N O H
 | .less a b,N,O,H=>Wf rs k a N O H/\Wf rs k b N O H
 | .thenn a b,N,O,H=>Wf rs k a N O H/\Wf rs k b N O H
 | .loop a b,N,O,H=>Wf rs k a N O H/\Wf rs k b N O H
 | .iff a b c,N,O,H=>Wf rs k a N O H/\Wf rs k b N O H/\Wf rs k c N O H
 | .call i as bs,N,O,H=>i<k/\(∃r,rs[i]?=some r/\as.length=r.ns.length/\bs.length=r.hs.length)/\Wfs rs k as N O H/\Wfs rs k bs N O H
noncomputable def Wfs(rs:List Rule)(k:Nat):List D->List Str->List Str->List Str->Prop
 | [],_,_,_=>True
 | d::r,N,O,H=>Wf rs k d N O H/\Wfs rs k r N O H
end
structure RsOk(rs:List Rule):Prop where
 w:∀(i:Nat) (r:Rule),rs[i]?=some r->Wf rs i r.body r.ns [] r.hs
 d:∀(i:Nat) (r:Rule),rs[i]?=some r->∀v∈r.ns,v∉r.hs
 l:∀(i:Nat) (r:Rule),rs[i]?=some r->r.ns.length<=3/\r.hs.length<=3
noncomputable def Bs(rs:List Rule)(d:D)(env:Ev)(cs:List Int)(T:Tc)(c:Nat):Prop:=∀(stk:List Stp) (ws:List Int) (K:Int×List Int->Tr Int) (c':Nat),(∀v cs',cs.length<=cs'.length->Rep rs stk (v::ws) cs' (K (v,cs')) c')->Rep rs ((false,d,env)::stk) ws cs (T.bind K) (c+c')
structure EnvR(rs:List Rule)(N O H:List Str)(env:Ev)(ρ:Sv)(h m:Nat):Prop where
 nm:∀v∈N,∃i,lk env v=some (.int i)/\ρ v=.int i
 ow:∀v∈O,∃c,lk env v=some (.cell c)/\ρ v=.cell c/\c<m/\dt 1 (.str v)=true
 hd:∀v∈H,∃d' env' f,lk env v=some (.hd d' env')/\ρ v=.fn f/\∀cs,m<=cs.length->Bs rs d' env' cs (f cs) h
def EnvR.more{H:List Str}(e:EnvR rs N O H env ρ h m)(hm:m<=m'):EnvR rs N O H env ρ h m':=
 ⟨e.nm,λv hv=>let ⟨c,a,b,d,s⟩:=e.ow v hv; ⟨c,a,b,by omega,s⟩,λv hv=>let ⟨d',env',f,a,b,q⟩:=e.hd v hv; ⟨d',env',f,a,b,λcs hc=>q cs ∅⟩⟩
theorem u9:lk ((x,v)::env) y=if x=y then some v else lk env y:=rfl
def EnvR.lett{rs:List Rule}{N O H:List Str}{env:Ev}{ρ:Sv}{h m:Nat}{x:Str}{i:Int}(e:EnvR rs N O H env ρ h m)(ho:x∉O)(hh:x∉H):EnvR rs (N++[x]) O H ((x,.int i)::env) (us ρ x (.int i)) h m:=by
 refine⟨λv hv=>?_,λv hv=>?_,λv hv=>?_⟩
 .by_cases q:x=v
  .exact⟨i,by rw[u9,zX q],by unfold us; rw[zX q]⟩
  .have:v∈N:=by
    rcases zV.mp hv with z | z
    .exact z
    .simp at z; exact absurd z.symm q
   obtain⟨j,a,b⟩:=e.nm v this;exact⟨j,by rw[u9,kO q,a],by unfold us; rw[kO q,b]⟩
 .have q:x≠v:=λz=>ho (z▸hv)
  obtain⟨c,a,b,d⟩:=e.ow v hv;exact⟨c,by rw[u9,kO q,a],by unfold us; rw[kO q,b],d⟩
 .have q:x≠v:=λz=>hh (z▸hv)
  obtain⟨d',env',f,a,b,z⟩:=e.hd v hv;exact⟨d',env',f,by rw[u9,kO q,a],by unfold us; rw[kO q,b],z⟩
def EnvR.own{rs:List Rule}{N O H:List Str}{env:Ev}{ρ:Sv}{h m:Nat}{x:Str}(e:EnvR rs N O H env ρ h m)(ho:x∉N)(hh:x∉H)(hs:dt 1 (.str x)=true):EnvR rs N (O++[x]) H ((x,.cell m)::env) (us ρ x (.cell m)) h (m+1):=by
 refine⟨λv hv=>?_,λv hv=>?_,λv hv=>?_⟩
 .have q:x≠v:=λz=>ho (z▸hv)
  obtain⟨c,a,b⟩:=e.nm v hv;exact⟨c,by rw[u9,kO q,a],by unfold us; rw[kO q,b]⟩
 .by_cases q:x=v
  .exact⟨m,by rw[u9,zX q],by unfold us; rw[zX q],by omega,q▸hs⟩
  .have:v∈O:=by
    rcases zV.mp hv with z | z
    .exact z
    .simp at z; exact absurd z.symm q
   obtain⟨j,a,b,c,s⟩:=e.ow v this;exact⟨j,by rw[u9,kO q,a],by unfold us; rw[kO q,b],by omega,s⟩
 .have q:x≠v:=λz=>hh (z▸hv)
  obtain⟨d',env',f,a,b,z⟩:=e.hd v hv;exact⟨d',env',f,by rw[u9,kO q,a],by unfold us; rw[kO q,b],λcs hc=>z cs ∅⟩
section
variable{rs:List Rule}{R:Rn}{B:Nat->Nat->Nat}
theorem Bs.mono{T:Tc}{c:Nat}(h:Bs rs d env cs T c)(hc:c<=c'):Bs rs d env cs T c':=λstk ws K c2 hK=>(h stk ws K c2 hK).mono ∅
def zbI{d:D}{cs:List Int}{T:Tc}{f:Int×List Int->Tc}{c:Nat}(hf:d.first=[a])(ha:Bs rs a env cs T c)
  (h:∀stk ws K c' x cs',cs.length<=cs'.length->(∀v cs'',cs'.length<=cs''.length->Rep rs stk (v::ws) cs'' (K (v,cs'')) c')->Rep rs ((true,d,env)::stk) (x::ws) cs' ((f (x,cs')).bind K) (c2+c')):Bs rs d env cs (T.bind f) (c+c2+1):=by
 intro stk ws K c' hK;rw[Tr.bind_assoc];have p:=S1.push (rs:=rs) (d:=d) (env:=env) (ws:=ws) (cs:=cs) (by rw[hf]; simp) (by rw[hf]; simp);rw[hf] at p;refine(Rep.gg p (ha ((true,d,env)::stk) ws _ (c2+c') λx cs' hc=>h stk ws K c' x cs' hc λv cs'' hc'=>hK v cs'' ∅)).mono ∅
def zdz{d a b:D}{env:Ev}{cs:List Int}{T:Tc}{U:List Int->Tc}{f:Int->Int->Int}{c c2:Nat}(hf:d.first=[a,b])(ha:Bs rs a env cs T c)(hb:∀cs',cs.length<=cs'.length->Bs rs b env cs' (U cs') c2)
  (h:∀x y ws cs,S1 rs true d env (y::x::ws) cs (.gg [] (f x y::ws) cs)):Bs rs d env cs (T.bind λp=>(U p.2).bind λq=>.ret (f p.1 q.1,q.2)) (c+c2+2):=by
 intro stk ws K c' hK;rw[Tr.bind_assoc];have p:=S1.push (rs:=rs) (d:=d) (env:=env) (ws:=ws) (cs:=cs) (by rw[hf]; simp) (by rw[hf]; simp);rw[hf] at p;refine(Rep.gg p (ha ((false,b,env)::(true,d,env)::stk) ws _ (c2+(c'+1)) λx cs' hc=>?_)).mono (c:=c+(c2+(c'+1))+1) ∅;simp only[Tr.bind_assoc];refine hb cs' hc ((true,d,env)::stk) (x::ws) _ (c'+1) λy cs'' hc'=>?_
 exact .gg (h x y ws cs'') (hK _ cs'' ∅)
theorem zjh{b:D}{env:Ev}{f:List Int->Tc}{c m:Nat}(hb:∀cs,m<=cs.length->Bs rs b env cs (f cs) c):∀(n:Nat) (cs:List Int),m<=cs.length->Bs rs (unr b n) env cs (rp f n cs) (n*(c+2)+1)
 | 0,cs,_=>λstk ws K c' hK=>(Rep.gg .number (hK 0 cs (zj _))).mono ∅
 | n+1,cs,hm=>by
  have:=zdz (rs:=rs) (d:=.thenn b (unr b n)) (a:=b) (b:=unr b n) (env:=env) (cs:=cs) (T:=f cs) (U:=rp f n) (f:=λ_ y=>y) rfl (hb cs hm) (λcs' hc=>zjh hb n cs' ∅) (λx y ws cs=>.thenn);have e:(rp f (n+1) cs)=((f cs).bind λp=>(rp f n p.2).bind λq=>.ret (q.1,q.2)):=by
   have:∀U:Tc,(U.bind λq=>Tr.ret (q.1,q.2))=U:=λU=>Tr.bind_ret U
   simp only[this];rfl
  rw[e];refine this.mono ?_;rw[v6];omega
theorem zfD:∀(l:List (Str×Int)) {env:Ev} {ρ:Sv},EnvR rs N [] [] env ρ h m->EnvR rs (N++l.map (·.1)) [] [] (l.foldl (λe p=>(p.1,.int p.2)::e) env) (l.foldl (λe p=>us e p.1 (.int p.2)) ρ) h m
 | [],env,ρ,e=>by simpa using e
 | (x,i)::r,env,ρ,e=>by
  have:=zfD r (e.lett (x:=x) (i:=i) (by simp) (by simp));rw[kE] at this;exact this
theorem zg8{env0:Ev}:∀(l:List (Str×D×(List Int->Tc))) (H:List Str) {env:Ev} {ρ:Sv},(∀v∈N,v∉l.map (·.1))->(∀p∈l,∀cs,m<=cs.length->Bs rs p.2.1 env0 cs (p.2.2 cs) h)->EnvR rs N [] H env ρ h m->
  EnvR rs N [] (H++l.map (·.1)) (l.foldl (λe p=>(p.1,.hd p.2.1 env0)::e) env) (l.foldl (λe p=>us e p.1 (.fn p.2.2)) ρ) h m
 | [],H,env,ρ,_,_,e=>by simpa using e
 | (x,d,f)::r,H,env,ρ,hN,hB,e=>by
  have hx:∀v∈N,v≠x:=λv hv z=>hN v hv (by simp[z])
  have e2:EnvR rs N [] (H++[x]) ((x,.hd d env0)::env) (us ρ x (.fn f)) h m:=by
   refine⟨λv hv=>?_,λv hv=>by simp at hv,λv hv=>?_⟩
   .obtain⟨i,a,b⟩:=e.nm v hv
    have q:¬x=v:=λz=>hx v hv z.symm
    exact⟨i,by rw[u9,kO q,a],by unfold us; rw[kO q,b]⟩
   .by_cases q:x=v
    .exact⟨d,env0,f,by rw[u9,zX q],by unfold us; rw[zX q],λcs hc=>hB (x,d,f) zZ cs hc⟩
    .have:v∈H:=by
      rcases zV.mp hv with z | z
      .exact z
      .simp at z; exact absurd z.symm q
     obtain⟨d',env',f',a,b,z⟩:=e.hd v this;exact⟨d',env',f',by rw[u9,kO q,a],by unfold us; rw[kO q,b],z⟩
  have:=zg8 r (H++[x]) (λv hv z=>hN v hv (by simp only[zy]; exact zN _ z)) (λp hp=>hB p (zN _ hp)) e2;rw[kE] at this;exact this
theorem zcW{α β:Type}:∀{a:List α} {b:List β},a.length=b.length->(a.zip b).map (·.1)=a
 | [],[],_=>rfl
 | x::a,y::b,h=>by simp only[jr,zy]; rw[zcW (by simpa using h)]
theorem zel{σ:Type}(f:σ->Str×D->σ)(g:D->List Int->Tc):∀(hs:List Str) (bs:List D) (s:σ),(hs.zip bs).foldl f s=(hs.zip (bs.map λb=>(b,g b))).foldl (λe p=>f e (p.1,p.2.1)) s
 | [],_,_=>rfl
 | _::_,[],_=>rfl
 | x::hs,b::bs,s=>by simp only[jr,zy,j5]; exact zel f g hs bs _
theorem zeL{σ:Type}(f:σ->Str×(List Int->Tc)->σ)(g:D->List Int->Tc):∀(hs:List Str) (bs:List D) (s:σ),(hs.zip (bs.map g)).foldl f s=(hs.zip (bs.map λb=>(b,g b))).foldl (λe p=>f e (p.1,p.2.2)) s
 | [],_,_=>rfl
 | _::_,[],_=>rfl
 | x::hs,b::bs,s=>by simp only[jr,zy,j5]; exact zeL f g hs bs _
theorem zfq:∀(bs:List D) (ρ:Sv),denf R bs ρ=bs.map λb cs=>den R b ρ cs
 | [],_=>by simp[denf]
 | b::bs,ρ=>by simp only[denf,zy]; rw[zfq bs ρ]
def zkA{r:Rule}{xs:List Int}{bs:List D}(hx:xs.length=r.ns.length)(hb:bs.length=r.hs.length)(hd:∀v∈r.ns,v∉r.hs)(hB:∀b∈bs,∀cs,m<=cs.length->Bs rs b env cs (den R b ρ cs) h):EnvR rs r.ns [] r.hs (cE r xs bs env) (cρ r xs (denf R bs ρ)) h m:=by
 unfold cE cρ;rw[zfq,zel (λe p=>(p.1,Vl.hd p.2 env)::e) (λb cs=>den R b ρ cs),zeL (λe p=>us e p.1 (.fn p.2)) (λb cs=>den R b ρ cs)];have e0:EnvR rs [] [] [] [] ρ0 h m:=⟨λv hv=>by simp at hv,λv hv=>by simp at hv,λv hv=>by simp at hv⟩;have e1:=zfD (r.ns.zip xs) e0;rw[zcW hx.symm,zY] at e1;have zl:(r.hs.zip (bs.map λb=>(b,λcs=>den R b ρ cs))).map (·.1)=r.hs:=zcW (by simp[hb])
 have e2:=zg8 (env0:=env) (r.hs.zip (bs.map λb=>(b,λcs=>den R b ρ cs))) [] (by rw[zl]; exact hd) (λp hp cs hc=>by
  have:=(qT (a:=p.1) (b:=p.2) hp).2;obtain⟨b,hb,e⟩:=kZ.mp this;rw[<-e]
  exact hB b hb cs hc) e1
 rw[zl,zY] at e2;exact e2
noncomputable def BodyOk(rs:List Rule)(R:Rn)(B:Nat->Nat->Nat)(k:Nat):Prop:=∀i,i<k->∀r,rs[i]?=some r->∀(env:Ev) (fs:List (List Int->Tc)) (xs:List Int) (bs:List D) (h m:Nat) (cs:List Int),EnvR rs r.ns [] r.hs (cE r xs bs env) (cρ r xs fs) h m->m<=cs.length->Bs rs r.body (cE r xs bs env) cs (R i xs fs cs) (B i h)
mutual
theorem adq{k:Nat}(HB:BodyOk rs R B k)(hrs:RsOk rs):∀(d:D) {N O H:List Str} {env:Ev} {ρ:Sv} {h m:Nat} {cs:List Int},Wf rs k d N O H->EnvR rs N O H env ρ h m->m<=cs.length->Bs rs d env cs (den R d ρ cs) (cost B h d)
 | .number i,N,O,H,env,ρ,h,m,cs,w,E,hm=>λstk ws K c' hK=>by
  simp only[den,cost,Tr.bind];exact(Rep.gg .number (hK i cs (zj _))).mono ∅
 | .name v,N,O,H,env,ρ,h,m,cs,w,E,hm=>λstk ws K c' hK=>by
  simp only[Wf] at w;obtain⟨i,a,b⟩:=E.nm v w;simp only[den,cost,Tr.bind,b,SV.i];exact(Rep.gg (.name a) (hK i cs (zj _))).mono ∅
 | .read v,N,O,H,env,ρ,h,m,cs,w,E,hm=>λstk ws K c' hK=>by
  simp only[Wf] at w;by_cases q:v∈SH
  .simp only[den,cost,q,kI,Tr.bind]
   exact(Rep.tch (.readS q) λx=>hK x cs (zj _)).mono ∅
  .obtain⟨c,a,b,lt,ds⟩:=E.ow v (w.resolve_left q)
   have lt':c<cs.length:=by omega
   simp only[den,cost,q,jm,Tr.bind,b,SV.c];refine(Rep.gg (.readO q ds a (zA lt')) (T:=K (cs.getD c 0,cs)) (c:=c') ?_).mono ∅;rw[jj,zA lt'];exact hK _ cs (zj _)
 | .doo v,N,O,H,env,ρ,h,m,cs,w,E,hm=>λstk ws K c' hK=>by
  simp only[Wf] at w;obtain⟨d',env',f,a,b,z⟩:=E.hd v w;simp only[den,cost,b,SV.f];exact(Rep.gg (.doo a) (z cs hm stk ws K c' hK)).mono ∅
 | .ask,N,O,H,env,ρ,h,m,cs,w,E,hm=>λstk ws K c' hK=>by
  simp only[den,cost,Tr.bind];exact(Rep.tch .ask λx=>hK x cs (zj _)).mono ∅
 | .write v a,N,O,H,env,ρ,h,m,cs,w,E,hm=>by
  simp only[Wf] at w;simp only[den,cost];refine(zbI (c2:=1) rfl (adq HB hrs a w.2 E hm) λstk ws K c' x cs' hc hK=>?_).mono ∅;by_cases q:v∈SH
  .simp only[q,kI,Tr.bind]
   exact(Rep.tch (.writeS q) λy=>hK y cs' (zj _)).mono ∅
  .obtain⟨c,a,b,lt,ds⟩:=E.ow v (w.1.resolve_left q)
   simp only[q,jm,Tr.bind,b,SV.c];exact(Rep.gg (.writeO q ds a ∅) (hK x _ (by rw[jb]; exact zj _))).mono ∅
 | .say a,N,O,H,env,ρ,h,m,cs,w,E,hm=>by
  simp only[Wf] at w;simp only[den,cost];refine(zbI (c2:=1) rfl (adq HB hrs a w E hm) λstk ws K c' x cs' hc hK=>?_).mono ∅;simp only[Tr.bind];exact(Rep.tch .say λy=>hK y cs' (zj _)).mono ∅
 | .lett v a b,N,O,H,env,ρ,h,m,cs,w,E,hm=>by
  simp only[Wf] at w;simp only[den,cost];refine(zbI (c2:=cost B h b+1) rfl (adq HB hrs a w.2.1 E hm) λstk ws K c' x cs' hc hK=>?_).mono ∅;exact(Rep.gg .lett (adq HB hrs b w.2.2 (E.lett (i:=x) w.1.1 w.1.2.1) (cs:=cs') ∅ stk ws K c' hK)).mono ∅
 | .own v a b,N,O,H,env,ρ,h,m,cs,w,E,hm=>by
  simp only[Wf] at w;simp only[den,cost];refine(zbI (c2:=cost B h b+1) rfl (adq HB hrs a w.2.1 E hm) λstk ws K c' x cs' hc hK=>?_).mono ∅;exact(Rep.gg .own (adq HB hrs b w.2.2 ((E.more (m':=cs'.length) ∅).own w.1.1 w.1.2.1 w.1.2.2) (cs:=cs'++[x]) (by simp) stk ws K c' λy cs'' hc'=>hK y cs'' (by simp at hc'; omega))).mono ∅
 | .add a b,N,O,H,env,ρ,h,m,cs,w,E,hm=>by
  simp only[Wf] at w;simp only[den,cost];exact(zdz (U:=λcs=>den R b ρ cs) (f:=λx y=>(x+y)%1009) rfl (adq HB hrs a w.1 E hm) (λcs' hc=>adq HB hrs b w.2 E ∅) λx y ws cs=>.add).mono ∅
 | .less a b,N,O,H,env,ρ,h,m,cs,w,E,hm=>by
  simp only[Wf] at w;simp only[den,cost];exact(zdz (U:=λcs=>den R b ρ cs) (f:=λx y=>if x<y then 1 else 0) rfl (adq HB hrs a w.1 E hm) (λcs' hc=>adq HB hrs b w.2 E ∅) λx y ws cs=>.less).mono ∅
 | .thenn a b,N,O,H,env,ρ,h,m,cs,w,E,hm=>by
  simp only[Wf] at w;simp only[den,cost];have:=(zdz (U:=λcs=>den R b ρ cs) (f:=λx y=>y) rfl (adq HB hrs a w.1 E hm) (λcs' hc=>adq HB hrs b w.2 E ∅) λx y ws cs=>.thenn);have e:∀U:Tc,(U.bind λq=>Tr.ret (q.1,q.2))=U:=λU=>Tr.bind_ret U
  simp only[e] at this;exact this.mono ∅
 | .loop a b,N,O,H,env,ρ,h,m,cs,w,E,hm=>by
  simp only[Wf] at w;simp only[den,cost];refine(zbI (c2:=3*cost B h b+8) rfl (adq HB hrs a w.1 E hm) λstk ws K c' x cs' hc hK=>?_).mono ∅;have lt:(x%4).toNat<=3:=by omega
  have u:=zjh (rs:=rs) (b:=b) (env:=env) (f:=λcs=>den R b ρ cs) (m:=m) (λcs hm=>adq HB hrs b w.2 E hm) (x%4).toNat cs' ∅;refine(Rep.gg .loop (u stk ws K c' hK)).mono ?_;have:=wD (cost B h b+2) lt;omega
 | .iff a b c,N,O,H,env,ρ,h,m,cs,w,E,hm=>by
  simp only[Wf] at w;simp only[den,cost];refine(zbI (c2:=max (cost B h b) (cost B h c)+1) rfl (adq HB hrs a w.1 E hm) λstk ws K c' x cs' hc hK=>?_).mono ∅;by_cases q:x=0
  .have s:=S1.iff (rs:=rs) (a:=a) (b:=b) (c:=c) (x:=x) (env:=env) (ws:=ws) (cs:=cs')
   simp only[q,kI] at s ⊢;exact(Rep.gg s (adq HB hrs c w.2.2 E (cs:=cs') ∅ stk ws K c' hK)).mono ∅
  .have s:=S1.iff (rs:=rs) (a:=a) (b:=b) (c:=c) (x:=x) (env:=env) (ws:=ws) (cs:=cs')
   simp only[q,jm] at s ⊢;exact(Rep.gg s (adq HB hrs b w.2.1 E (cs:=cs') ∅ stk ws K c' hK)).mono ∅
 | .call i as bs,N,O,H,env,ρ,h,m,cs,w,E,hm=>by
  simp only[Wf] at w;obtain⟨hi,⟨r,hr,la,lb⟩,wa,wb⟩:=w;intro stk ws K c' hK;simp only[den,cost];rw[Tr.bind_assoc];have fin:∀pd,(pd=true\/as=[])->∀xs cs',xs.length=as.length->cs.length<=cs'.length->Rep rs ((pd,.call i as bs,env)::stk) (xs.reverse++ws) cs' ((R i xs (denf R bs ρ) cs').bind K) (B i (zat B h bs)+c'+1):=by
   intro pd hp xs cs' hx hc;have e:=zkA (rs:=rs) (R:=R) (r:=r) (xs:=xs) (bs:=bs) (env:=env) (ρ:=ρ) (h:=zat B h bs) (m:=m) ∅ lb (hrs.d i r hr) (adqf HB hrs bs wb E);exact .gg (.call hp hr hx la lb) (HB i hi r hr env (denf R bs ρ) xs bs (zat B h bs) m cs' e ∅ stk ws K c' λv cs'' h2=>hK v cs'' ∅)
  cases has:as with
  | nil=>
   subst has;simp only[dens,Tr.bind,zaP];exact(fin false (.inr rfl) [] cs rfl (zj _)).mono ∅
  | cons a1 as1=>
   have p:=S1.push (rs:=rs) (d:=.call i as bs) (env:=env) (ws:=ws) (cs:=cs) (by simp only[D.first]; rw[has]; simp) (by simp only[D.first]; have:=(hrs.l i r hr).1; omega);rw[<-has];refine(Rep.gg p ?_).mono (c:=zaP B h as+(B i (zat B h bs)+c'+1)+1) ∅;simp only[D.first];rw[kE];have:=adqs HB hrs as wa E hm ((true,.call i as bs,env)::stk) ws (λp=>(R i p.1 (denf R bs ρ) p.2).bind K) (B i (zat B h bs)+c'+1) λxs cs' hx hc=>fin true (.inl rfl) xs cs' hx hc
   exact this
theorem adqs(HB:BodyOk rs R B k)(hrs:RsOk rs):∀(l:List D) {N O H:List Str} {env:Ev} {ρ:Sv} {h m:Nat} {cs:List Int},Wfs rs k l N O H->EnvR rs N O H env ρ h m->m<=cs.length->∀(stk:List Stp) (ws:List Int) (K:List Int×List Int->Tr Int) (c':Nat),(∀xs cs',xs.length=l.length->cs.length<=cs'.length->Rep rs stk (xs.reverse++ws) cs' (K (xs,cs')) c')->Rep rs (l.map (λa=>(false,a,env))++stk) ws cs ((dens R l ρ cs).bind K) (zaP B h l+c')
 | [],N,O,H,env,ρ,h,m,cs,w,E,hm=>λstk ws K c' hK=>by
  simp only[dens,Tr.bind,zaP,ji,zY];exact(hK [] cs rfl (zj _)).mono ∅
 | d::r,N,O,H,env,ρ,h,m,cs,w,E,hm=>λstk ws K c' hK=>by
  simp only[Wfs] at w;simp only[dens,zaP,zy,jk];rw[Tr.bind_assoc];refine(adq HB hrs d w.1 E hm (r.map (λa=>(false,a,env))++stk) ws _ (zaP B h r+c') λx cs' hc=>?_).mono ∅;simp only[Tr.bind_assoc];refine adqs HB hrs r w.2 E ∅ stk (x::ws) _ c' λxs cs'' hx hc'=>?_
  have:=hK (x::xs) cs'' (by simp[hx]) ∅;rw[qX,kE] at this;exact this
theorem adqf(HB:BodyOk rs R B k)(hrs:RsOk rs):∀(l:List D) {N O H:List Str} {env:Ev} {ρ:Sv} {h m:Nat},Wfs rs k l N O H->EnvR rs N O H env ρ h m->∀b∈l,∀cs,m<=cs.length->Bs rs b env cs (den R b ρ cs) (zat B h l)
 | [],N,O,H,env,ρ,h,m,w,E=>λb hb=>by simp at hb
 | d::r,N,O,H,env,ρ,h,m,w,E=>λb hb cs hm=>by
  simp only[Wfs] at w;simp only[zat];rcases zb.mp hb with z | z
  .rw[z]
   exact(adq HB hrs d w.1 E hm).mono ∅
  .exact(adqf HB hrs r w.2 E b z cs hm).mono ∅
end
theorem bodies(hrs:RsOk rs):∀(k:Nat) {K:Nat},k<=K->BodyOk rs (semK rs K) (zab rs K) k
 | 0,K,_=>λi hi=>by omega
 | k+1,K,hK=>by
  intro i hi r hr env fs xs bs h m cs E hm;rw[zd2 hr (K:=K) ∅,zb0 hr (K:=K) ∅];exact adq (bodies hrs i (K:=i) (zj _)) hrs r.body (hrs.w i r hr) E hm
termination_by k=>k
end
mutual
noncomputable def toW:D->W
 | .number i=>th "number" [.int i]
 | .name v=>th "name" [.str v]
 | .read v=>th "read" [.str v]
 | .doo v=>th "do" [.str v]
 | .ask=>th "ask" []
 | .write v a=>th "write" [.str v,toW a]
 | .say a=>th "say" [toW a]
 | .lett v a b=>th "let" [.str v,toW a,toW b]
 | .own v a b=>th "own" [.str v,toW a,toW b]
 | .add a b=>th "add" [toW a,toW b]
 | .less a b=>th "less" [toW a,toW b]
 | .thenn a b=>th "then" [toW a,toW b]
 | .loop a b=>th "loop" [toW a,toW b]
 | .iff a b c=>th "if" [toW a,toW b,toW c]
 | .call i as bs=>th "call" [.int i,.tup (toWs as),.tup (toWs bs)]
noncomputable def toWs:List D->List W
 | []=>[]
 | d::r=>toW d::toWs r
end
theorem zah:∀l:List D,toWs l=l.map toW
 | []=>by simp[toWs]
 | d::r=>by simp only[toWs,zy]; rw[zah r]
noncomputable def ruW(r:Rule):W:=.tup [.tup (xN r.ns),.tup (xN r.hs),toW r.body]
noncomputable def rsW(rs:List Rule):List W:=rs.map ruW
mutual
theorem ul(m:Nat):∀d:D,low m (toW d)=true
 | .number i=>by simp[toW,low,lows]
 | .name v=>by simp[toW,low,lows]
 | .read v=>by simp[toW,low,lows]
 | .doo v=>by simp[toW,low,lows]
 | .ask=>by simp[toW,low,lows]
 | .write v a=>by simp[toW,low,lows,ul m a]
 | .say a=>by simp[toW,low,lows,ul m a]
 | .lett v a b=>by simp[toW,low,lows,ul m a,ul m b]
 | .own v a b=>by simp[toW,low,lows,ul m a,ul m b]
 | .add a b=>by simp[toW,low,lows,ul m a,ul m b]
 | .less a b=>by simp[toW,low,lows,ul m a,ul m b]
 | .thenn a b=>by simp[toW,low,lows,ul m a,ul m b]
 | .loop a b=>by simp[toW,low,lows,ul m a,ul m b]
 | .iff a b c=>by simp[toW,low,lows,ul m a,ul m b,ul m c]
 | .call i as bs=>by simp[toW,low,lows,zbt m as,zbt m bs]
theorem zbt(m:Nat):∀l:List D,lows m (toWs l)=true
 | []=>by simp[toWs,lows]
 | d::r=>by simp[toWs,lows,ul m d,zbt m r]
end
theorem zbs:∀{l:List W},lows m l=true->∀w∈l,low m w=true
 | [],_,w,hw=>by simp at hw
 | x::r,h,w,hw=>by
  unfold lows at h;rw[zx] at h;rcases zb.mp hw with rfl | z
  .exact h.1
  .exact zbs h.2 w z
def zex{r:List W}{p:Int×Int}{h:MH}(hc:(x==("call":Str))=false)(hf:fm x=some p)(hl:lows h.length r=true):(step F).cD [th x r] h=some (.tup (r.drop (p.2.toNat-1)),h):=by
 obtain⟨p1,p2⟩:=zn8 hf;obtain⟨k,hk⟩:=ql (show 0<=p.2 by omega);have e:r.drop (p.2.toNat-1)=(W.str x::r).drop k:=by
  rw[hk];cases k with
  | zero=>omega
  | succ k=>simp
 rw[e];refine u5 (h':=h) ?_ ?_ (zR _)
 .have ek:ixW (.tup [.int p.1,.int p.2]) (.int 1) h=some (.int p.2,h):=ix1
  simp![dF,ix0,uM,hc,eSl,zaY,zbj,t_fm,hf,ek,slW];rw[hk];exact zcb
 .rw[<-e]
  unfold low;exact uW λw hw=>zbs hl w (qG hw)
noncomputable def zeW:List Str:=["if","loop","let","own"]
def in44(d:dt 1 (.str x)=true):inB h (.str x) (.tup [.str "if",.str "loop",.str "let",.str "own"])=some (zap zeW (.str x)):=zdg (l:=zeW) d ∅ ⋯
def zbS{r:List W}{p:Int×Int}{h:MH}(hc:(x==("call":Str))=false)(hf:fm x=some p)(hd:dt 1 (.str x)=true)(hi:zap zeW (.str x)=false)(hl:lows h.length r=true):(step (step F)).au [th x r] h=some (.tup (r.drop (p.2.toNat-1)),h):=by
 have c4:(4:Nat)<=cap:=by decide
 have e:=zex (F:=F) hc hf hl;have q:=in44 (h:=h) hd;rw[hi] at q;have lw:low h.length (.tup (r.drop (p.2.toNat-1)))=true:=by
  unfold low;exact uW λw hw=>zbs hl w (qG hw)
 generalize step F=G at e;refine gc_eq' ?_ lw;simp![aA,ix0,uM,hc,tupW,c4,q,e]
where
 gc_eq' {f:List W->M W} {ws:List W} {h:MH} {w:W} (e:f ws h=some (w,h)) (p:low h.length w=true):gc f ws h=some (w,h):=u5 e p (zR _)
def zd3{l:List W}{p:Int×Int}{h:MH}(hc:(x==("call":Str))=false)(hf:fm x=some p)(hd:dt 1 (.str x)=true)(hi:zap zeW (.str x)=true)(hl:lows h.length l=true)(er:l.drop (p.2.toNat-1)=a::r):(step (step F)).au [th x l] h=some (.tup [a],h):=by
 have c4:(4:Nat)<=cap:=by decide
 have e:=zex (F:=F) hc hf hl;rw[er] at e;have q:=in44 (h:=h) hd;rw[hi] at q;have lw:low h.length (.tup [a])=true:=by
  unfold low;refine uW λw hw=>zbs hl w ?_
  have:a∈l.drop (p.2.toNat-1):=by rw[er]; exact zZ
  simp at hw;subst hw;exact qG this
 have ct:cutW (a::r) none (some 1)=[a]:=(zfo (k:=1) (l:=a::r) (by simp)).trans rfl;generalize step F=G at e;refine u5 (h':=h) ?_ lw (zR _);simp![aA,ix0,uM,hc,tupW,c4,q,e,eSl,zaY,slW,ct]
theorem f_first(F:Fs):(step F).au=gc (fnM 1 0 (aA F)):=rfl
def zhb:∀d:D,(step (step F)).au [toW d] h=some (.tup (toWs d.first),h)
 | .number i | .name i | .read i | .doo i=>by simp only[toW,D.first,toWs]; exact(zbS (p:=(2,2)) ⋯ ⋯ ⋯ ⋯ (by simp[low,lows])).trans rfl
 | .ask=>by simp only[toW,D.first,toWs]; exact(zbS (p:=(1,1)) ⋯ ⋯ ⋯ ⋯ (by simp[low,lows])).trans rfl
 | .write v a=>by simp only[toW,D.first,toWs]; exact(zbS (p:=(3,2)) ⋯ ⋯ ⋯ ⋯ (by simp[low,lows,ul])).trans rfl
 | .say a=>by simp only[toW,D.first,toWs]; exact(zbS (p:=(2,1)) ⋯ ⋯ ⋯ ⋯ (by simp[low,lows,ul])).trans rfl
 | .lett v a b | .own v a b=>by simp only[toW,D.first,toWs]; exact zd3 (p:=(4,2)) ⋯ ⋯ ⋯ ⋯ (by simp[low,lows,ul]) rfl
 | .add a b | .less a b | .thenn a b=>by simp only[toW,D.first,toWs]; exact(zbS (p:=(3,1)) ⋯ ⋯ ⋯ ⋯ (by simp[low,lows,ul])).trans rfl
 | .loop a b=>by simp only[toW,D.first,toWs]; exact zd3 (p:=(3,1)) ⋯ ⋯ ⋯ ⋯ (by simp[low,lows,ul]) rfl
 | .iff a b c=>by simp only[toW,D.first,toWs]; exact zd3 (p:=(4,1)) ⋯ ⋯ ⋯ ⋯ (by simp[low,lows,ul]) rfl
 | .call i as bs=>by
  simp only[toW,D.first];have lw:low h.length (.tup (toWs as))=true:=by unfold low; exact zbt _ as
  rw[f_first];refine u5 (h':=h) ?_ lw (zR _);simp![aA,ix0,ix2,uM]
def uP{f:List W->M W}{h h':MH}{i:Nat}(e:f ws h=some (w,h'))(a:h[i]?=some o)(b:h'[i]?≠some o):gc f ws h=some (w,h'):=by
 have n:¬h<+:h':=λp=>by
  obtain⟨t,rfl⟩:=p;exact b (by rw[zu (zU.mp a).1]; exact a)
 unfold gc;rw[e];simp only[n,false_and,jm]
def zbV{f:List W->M W}(e:f ws h=some (.non,h')):gc f ws h=some (.non,h'):=by
 unfold gc;rw[e];simp only[ne_eq,not_true_eq_false,and_false,jm]
def zbd{f:List W->M W}{h:MH}(e:f ws h=some (w,h))(p:low h.length w=true):gc f ws h=some (w,h):=u5 e p (zR _)
noncomputable abbrev doF(rl:List W)(ns nw:Nat)(t:W):List (Str×W):=[("rules",.tup rl),("steps",.ref ns),("worths",.ref nw),("touch_ahead",t)]
structure Dg(H:MH)(nd ns nw:Nat)(rl:List W)(st:List W)(wo:List W)(t:W):Prop where
 d:H[nd]?=some (.ins 0 (doF rl ns nw t))
 s:H[ns]?=some (.lst st)
 w:H[nw]?=some (.lst wo)
 n1:nd≠ns
 n2:nd≠nw
 n3:ns≠nw
def xO{α:Type}{l:List α}{i:Nat}{x:α}(h:l[i]?=some x):i<l.length:=(zU.mp h).1
def Dg.steps{H:MH}{wo:List W}(g:Dg H nd ns nw rl st wo t)(st2:List W):Dg (H.set ns (.lst st2)) nd ns nw rl st2 wo t:=
 ⟨by rw[zJ (kY g.n1),g.d],zK (xO g.s),by rw[zJ g.n3,g.w],g.n1,g.n2,g.n3⟩
def Dg.worths{H:MH}{wo:List W}(g:Dg H nd ns nw rl st wo t)(wo2:List W):Dg (H.set nw (.lst wo2)) nd ns nw rl st wo2 t:=
 ⟨by rw[zJ (kY g.n2),g.d],by rw[zJ (kY g.n3),g.s],zK (xO g.w),g.n1,g.n2,g.n3⟩
def Dg.ahead{H:MH}{wo:List W}(g:Dg H nd ns nw rl st wo t)(t2:W):Dg (H.set nd (.ins 0 (doF rl ns nw t2))) nd ns nw rl st wo t2:=
 ⟨zK (xO g.d),by rw[zJ g.n1,g.s],by rw[zJ g.n2,g.w],g.n1,g.n2,g.n3⟩
def f_steps:uC flds 0 "steps" = true:=by decide +kernel
def f_worths:uC flds 0 "worths" = true:=by decide +kernel
def f_rules:uC flds 0 "rules" = true:=by decide +kernel
def f_ahead:uC flds 0 "touch_ahead" = true:=by decide +kernel
def zhT(rl:List W)(ns nw:Nat)(t:W):(doF rl ns nw t).lookup ("steps":Str)=some (.ref ns):=by
 have a:(("steps":Str)=="rules")=false:=by decide +kernel
 have b:(("steps":Str)=="steps")=true:=by decide +kernel
 simp only[kJ,a,b]
def zgh(rl:List W)(ns nw:Nat)(t:W):(doF rl ns nw t).lookup ("worths":Str)=some (.ref nw):=by
 have a:(("worths":Str)=="rules")=false:=by decide +kernel
 have b:(("worths":Str)=="steps")=false:=by decide +kernel
 have c:(("worths":Str)=="worths")=true:=by decide +kernel
 simp only[kJ,a,b,c]
def zhL(rl:List W)(ns nw:Nat)(t:W):(doF rl ns nw t).lookup ("rules":Str)=some (.tup rl):=by
 have a:(("rules":Str)=="rules")=true:=by decide +kernel
 simp only[kJ,a]
def zhe(rl:List W)(ns nw:Nat)(t:W):(doF rl ns nw t).lookup ("touch_ahead":Str)=some t:=by
 have a:(("touch_ahead":Str)=="rules")=false:=by decide +kernel
 have b:(("touch_ahead":Str)=="steps")=false:=by decide +kernel
 have c:(("touch_ahead":Str)=="worths")=false:=by decide +kernel
 have d:(("touch_ahead":Str)=="touch_ahead")=true:=by decide +kernel
 simp only[kJ,a,b,c,d]
section
variable{H:MH}{nd ns nw:Nat}{rl st wo:List W}{t:W}
def Dg.fS(g:Dg H nd ns nw rl st wo t):fldW flds "steps" (.ref nd) H=some (.ref ns,H):=by simp only[fldW,g.d,f_steps,kI,zhT]
def Dg.fW(g:Dg H nd ns nw rl st wo t):fldW flds "worths" (.ref nd) H=some (.ref nw,H):=by simp only[fldW,g.d,f_worths,kI,zgh]
def Dg.fR(g:Dg H nd ns nw rl st wo t):fldW flds "rules" (.ref nd) H=some (.tup rl,H):=by simp only[fldW,g.d,f_rules,kI,zhL]
def Dg.fA(g:Dg H nd ns nw rl st wo t):fldW flds "touch_ahead" (.ref nd) H=some (t,H):=by simp only[fldW,g.d,f_ahead,kI,zhe]
def zdG{α:Type}(l:List α)(x:α):l++[x]≠l:=λe=>by have:=jW List.length e; simp at this
def zl4(g:Dg H nd ns nw rl st wo t)(hs:st.length<cap):(step F).bV [.ref nd,d,k] H=some (.non,H.set ns (.lst (st++[.tup [.bl false,d,k]]))):=by
 have c3:(3:Nat)<=cap:=by decide
 refine uP (i:=ns) ?_ g.s (by rw[zK (xO g.s)]; intro e; injection e with e; injection e with e; exact zdG _ _ e);have e1:=g.fS;have e2:=g.s;simp![cI,eFld,e1,xX,getL,e2,tupW,c3,ut,hs]
def zmT(g:Dg H nd ns nw rl st wo t)(hs:wo.length<cap):(step F).bN [.ref nd,v] H=some (.non,H.set nw (.lst (wo++[v]))):=by
 refine uP (i:=nw) ?_ g.w (by rw[zK (xO g.w)]; intro e; injection e with e; injection e with e; exact zdG _ _ e);have e1:=g.fW;have e2:=g.w;simp![cg,eFld,e1,xX,getL,e2,ut,hs]
def zjp(rl:List W)(ns nw:Nat)(t v:W):zan "touch_ahead" v (doF rl ns nw t)=doF rl ns nw v:=by
 have a:¬(("rules":Str)="touch_ahead"):=by decide +kernel
 have b:¬(("steps":Str)="touch_ahead"):=by decide +kernel
 have c:¬(("worths":Str)="touch_ahead"):=by decide +kernel
 simp only[zan,a,b,c,jm,kI]
def Dg.pA(g:Dg H nd ns nw rl st wo t)(v:W):fldM flds "touch_ahead" (.ref nd) v H=some (.non,H.set nd (.ins 0 (doF rl ns nw v))):=by
 simp only[fldM,g.d,f_ahead,kI,zjp];rw[zX (by simp)]
def zng(g:Dg H nd ns nw rl st wo t)(hv:v≠t):(step F).aG [.ref nd,v] H=some (.non,H.set nd (.ins 0 (doF rl ns nw v))):=by
 refine uP (i:=nd) ?_ g.d (by rw[zK (xO g.d)]; intro e; injection e with e; injection e with _ e; simp only[jO,wR] at e; exact hv e.2.2.2.1.2);have e1:=g.pA v;generalize H.set nd (.ins 0 (doF rl ns nw v))=H2 at e1 ⊢;simp![aR,gFld,e1]
def zoV(g:Dg H nd ns nw rl st wo t)(e:wo=wo'++[v])(hv:low H.length v=true):(step F).bf [.ref nd] H=some (v,H):=by
 refine zbd ?_ hv;have e1:=g.fW;have e2:=g.w;have e3:L2.atI wo (-1)=some v:=by rw[e]; exact zj1 _ _
 simp![bF,eFld,e1,negW,ixW,getL,e2,e3]
end
def set_same{α:Type}{l:List α}{i:Nat}{x:α}(h:l[i]?=some x):l.set i x=l:=by
 apply List.ext_getElem?
 intro j;by_cases e:i=j
 .subst e; rw[zK (xO h),h]
 .rw[zJ e]
def zdQ{f:List W->M W}{h:MH}{i:Nat}(e:f ws h=some (w,h.set i o'))(a:h[i]?=some o)(p:low h.length w=true):gc f ws h=some (w,h.set i o'):=by
 by_cases q:o'=o
 .subst q
  rw[set_same a] at e ⊢;exact zbd e p
 .refine uP e a ?_
  rw[zK (xO a)];intro z;injection z with z;exact q z
noncomputable abbrev roF(na np:Nat)(ans:List W)(k:Int):List (Str×W):=[("shelves",.ref na),("answers",.fls ans),("spoken",.ref np),("asks",.int k)]
structure Rg(H:MH)(nr na np:Nat)(sh:List (Key×W))(ans sp:List W)(k:Nat):Prop where
 r:H[nr]?=some (.ins 1 (roF na np ans k))
 a:H[na]?=some (.dic sh)
 p:H[np]?=some (.lst sp)
 n1:nr≠na
 n2:nr≠np
 n3:na≠np
section
variable{H:MH}{nr na np k:Nat}{sh:List (Key×W)}{ans sp:List W}
def Rg.fS(g:Rg H nr na np sh ans sp k):fldW flds "shelves" (.ref nr) H=some (.ref na,H):=by
 have f:uC flds 1 "shelves" = true:=by decide +kernel
 have a:(("shelves":Str)=="shelves")=true:=by decide +kernel
 simp only[fldW,g.r,f,kI,kJ,a]
def Rg.fA(g:Rg H nr na np sh ans sp k):fldW flds "answers" (.ref nr) H=some (.fls ans,H):=by
 have f:uC flds 1 "answers" = true:=by decide +kernel
 have a:(("answers":Str)=="shelves")=false:=by decide +kernel
 have b:(("answers":Str)=="answers")=true:=by decide +kernel
 simp only[fldW,g.r,f,kI,kJ,a,b]
def Rg.fP(g:Rg H nr na np sh ans sp k):fldW flds "spoken" (.ref nr) H=some (.ref np,H):=by
 have f:uC flds 1 "spoken" = true:=by decide +kernel
 have a:(("spoken":Str)=="shelves")=false:=by decide +kernel
 have b:(("spoken":Str)=="answers")=false:=by decide +kernel
 have c:(("spoken":Str)=="spoken")=true:=by decide +kernel
 simp only[fldW,g.r,f,kI,kJ,a,b,c]
def Rg.fK(g:Rg H nr na np sh ans sp k):fldW flds "asks" (.ref nr) H=some (.int k,H):=by
 have f:uC flds 1 "asks" = true:=by decide +kernel
 have a:(("asks":Str)=="shelves")=false:=by decide +kernel
 have b:(("asks":Str)=="answers")=false:=by decide +kernel
 have c:(("asks":Str)=="spoken")=false:=by decide +kernel
 have d:(("asks":Str)=="asks")=true:=by decide +kernel
 simp only[fldW,g.r,f,kI,kJ,a,b,c,d]
def Rg.pK(g:Rg H nr na np sh ans sp k)(j:Int):fldM flds "asks" (.ref nr) (.int j) H=some (.non,H.set nr (.ins 1 (roF na np ans j))):=by
 have f:uC flds 1 "asks" = true:=by decide +kernel
 have a:¬(("shelves":Str)="asks"):=by decide +kernel
 have b:¬(("answers":Str)="asks"):=by decide +kernel
 have c:¬(("spoken":Str)="asks"):=by decide +kernel
 simp only[fldM,g.r,f,kI,zan,a,b,c,jm];rw[zX (by simp)]
def Rg.shelves(g:Rg H nr na np sh ans sp k)(sh2:List (Key×W)):Rg (H.set na (.dic sh2)) nr na np sh2 ans sp k:=
 ⟨by rw[zJ (kY g.n1),g.r],zK (xO g.a),by rw[zJ g.n3,g.p],g.n1,g.n2,g.n3⟩
def Rg.spoken(g:Rg H nr na np sh ans sp k)(sp2:List W):Rg (H.set np (.lst sp2)) nr na np sh ans sp2 k:=
 ⟨by rw[zJ (kY g.n2),g.r],by rw[zJ (kY g.n3),g.a],zK (xO g.p),g.n1,g.n2,g.n3⟩
def Rg.asks(g:Rg H nr na np sh ans sp k)(j:Nat):Rg (H.set nr (.ins 1 (roF na np ans j))) nr na np sh ans sp j:=
 ⟨zK (xO g.r),by rw[zJ g.n1,g.a],by rw[zJ g.n2,g.p],g.n1,g.n2,g.n3⟩
def zcE:(("write":Str)=="read")=false/\(("say":Str)=="read")=false/\(("say":Str)=="write")=false/\(("ask":Str)=="read")=false/\(("ask":Str)=="write")=false/\(("ask":Str)=="say")=false:=by decide +kernel
def do_read(g:Rg H nr na np sh ans sp k)(hw:valW sh (.inr v)=some w)(hl:low H.length w=true):(step F).aY [.ref nr,.tup [.str "read",.str v]] H=some (.tup [.str "read",.str v,w],H):=by
 have c3:(3:Nat)<=cap:=by decide
 refine zbd ?_ (by unfold low lows low lows low lows; rw[hl]; unfold lows; rfl);have e1:=g.fS;have e2:=g.a;simp![bc,ix0,ix1,uM,tupW,c3,eFld,e1,uR,zae,e2,keyOf,hw]
def do_write(g:Rg H nr na np sh ans sp k)(hs:sh.length<cap)(hl:low H.length w=true):(step F).aY [.ref nr,.tup [.str "write",.str v,w]] H=some (.tup [.str "write",.str v,w],H.set na (.dic (putW sh (.inr v) w))):=by
 refine zdQ ?_ g.a (by unfold low lows low lows low lows; rw[hl]; unfold lows; rfl);have e1:=g.fS;have e2:=g.a;have n:=zcE.1;have n':¬(("write":Str)="read"):=λe=>by rw[e] at n; simp at n
 simp![bc,ix0,ix1,ix2,uM,n',gPut,eFld,e1,putM,e2,keyOf,hs]
end
section
variable{H:MH}{nr na np k:Nat}{sh:List (Key×W)}{ans sp:List W}
def do_say(g:Rg H nr na np sh ans sp k)(hs:sp.length<cap)(hl:low H.length v=true):(step F).aY [.ref nr,.tup [.str "say",v]] H=some (.tup [.str "say",v],H.set np (.lst (sp++[v]))):=by
 refine zdQ ?_ g.p (by unfold low lows low lows; rw[hl]; unfold lows; rfl);have e1:=g.fP;have e2:=g.p;have n1:¬(("say":Str)="read"):=λe=>by have:=zcE.2.1; rw[e] at this; simp at this
 have n2:¬(("say":Str)="write"):=λe=>by have:=zcE.2.2.1; rw[e] at this; simp at this
 simp![bc,ix0,ix1,uM,n1,n2,eFld,e1,xX,getL,e2,ut,hs]
noncomputable def zbb(ans:List W)(k:Nat):W:=(ans[k]?).getD (.int 0)
def zkt(g:Rg H nr na np sh ans sp k)(hl:low H.length (zbb ans k)=true)(hc:ans.length<=cap):(step F).aU [.ref nr] H=some (zbb ans k,H.set nr (.ins 1 (roF na np ans ((k+1:Nat):Int)))):=by
 refine zdQ ?_ g.r hl;have e1:=g.fK;have g2:=g.asks (k+1);have e2:=g.pK ((k:Int)+1);have e3:fldW flds "answers" (.ref nr) (H.set nr (.ins 1 (roF na np ans ((k:Int)+1))))=some (.fls ans,H.set nr (.ins 1 (roF na np ans ((k:Int)+1)))):=g2.fA;have c:ans.length<=cap:=zQ hc (by decide);have e4:augI (.int k) (.int 1) H=some (.int ((k:Int)+1),H):=by
  simp[augI,addW,addI]
 have e6:clsOf (.ref nr) H=clsOf (.ref nr) H:=rfl;show _=some (_,H.set nr (.ins 1 (roF na np ans ((k:Int)+1))))
 generalize H.set nr (.ins 1 (roF na np ans ((k:Int)+1)))=H2 at e2 e3 ⊢;unfold zbb;by_cases q:k<ans.length
 .have q':(k:Int)<(ans.length:Int):=by omega
  have e5:L2.atI ans (k:Int)=some ans[k]:=zgV (zA q);rw[zA q];simp![aK,eFld,e1,zdu,e4,e2,e3,lenW,getL,cmpI,q',ixW,e5]
 .have q':¬((k:Int)<(ans.length:Int)):=by omega
  rw[jB ∅];simp![aK,eFld,e1,zdu,e4,e2,e3,lenW,getL,cmpI,q']
def do_ask(g:Rg H nr na np sh ans sp k)(hl:low H.length (zbb ans k)=true)(hc:ans.length<=cap):(step (step F)).aY [.ref nr,.tup [.str "ask"]] H=some (.tup [.str "ask",zbb ans k],H.set nr (.ins 1 (roF na np ans ((k+1:Nat):Int)))):=by
 refine zdQ ?_ g.r (by unfold low lows low lows; rw[hl]; unfold lows; rfl);have e1:=zkt (F:=F) g hl hc;have c2:(2:Nat)<=cap:=by decide
 have n1:¬(("ask":Str)="read"):=λe=>by have:=zcE.2.2.2.1; rw[e] at this; simp at this
 have n2:¬(("ask":Str)="write"):=λe=>by have:=zcE.2.2.2.2.1; rw[e] at this; simp at this
 have n3:¬(("ask":Str)="say"):=λe=>by have:=zcE.2.2.2.2.2; rw[e] at this; simp at this
 have m1:(roF na np ans (k:Int)).lookup ("next_answer":Str)=none:=by
  have a:(("next_answer":Str)=="shelves")=false:=by decide +kernel
  have b:(("next_answer":Str)=="answers")=false:=by decide +kernel
  have c:(("next_answer":Str)=="spoken")=false:=by decide +kernel
  have d:(("next_answer":Str)=="asks")=false:=by decide +kernel
  simp only[kJ,yu,a,b,c,d]
 have m2:(mt (step F)).lookup (1,("next_answer":Str))=some (step F).aU:=by kernel_rfl
 have e2:=g.r;have em:xQ (mt (step F)) "next_answer" (eVar 0) [] [some (.ref nr),some (.tup [.str "ask"])] H=some (zbb ans k,H.set nr (.ins 1 (roF na np ans ((k+1:Nat):Int)))):=by
  unfold xQ;simp only[bnd,eVar,zq,e2,m1,m2,xU,e1]
 generalize H.set nr (.ins 1 (roF na np ans ((k+1:Nat):Int)))=H2 at em ⊢;generalize zbb ans k=A at em ⊢;generalize step F=G at em;simp![bc,ix0,uM,n1,n2,n3,tupW,c2,em]
end
theorem zfb(hn:nw≠n0):∀(l vs:List W) (wo acc:List W) (H:MH) (o:Option W),l.length=vs.length->H[nw]?=some (.lst (wo++vs))->H[n0]?=some (.lst acc)->acc.length+vs.length<=1000->
  uH 1 (gNm 0) ud (xX popM (eVar 1) []) n0 l [o,some (.ref nw)] H=some ((H.set nw (.lst wo)).set n0 (.lst (acc++vs.reverse)))
 | [],vs,wo,acc,H,o,hl,h1,h2,_=>by
  have:vs=[]:=jN.mp hl.symm;subst this;rw[kh] at h1;simp only[uH,List.reverse_nil,kh];rw[set_same h1,set_same h2]
 | w::l,vs,wo,acc,H,o,hl,h1,h2,hc=>by
  rcases List.eq_nil_or_concat vs with rfl | ⟨vs',v,rfl⟩
  .cases hl
  .rw[List.concat_eq_append] at h1 hl hc ⊢
   simp only[zF,zm,zP] at hl hc;rw[<-kE] at h1;have c:acc.length<cap:=zM (show acc.length<1001 by omega) (by decide);have ep:=last_at' (wo++vs') v;have h3:(H.set nw (.lst (wo++vs')))[n0]?=some (.lst acc):=by rw[zJ hn,h2]
   have ih:=zfb hn l vs' wo (acc++[v]) ((H.set nw (.lst (wo++vs'))).set n0 (.lst (acc++[v]))) none ∅
    (by rw[zJ (kY hn),zK (xO h1)]) (zK (by rw[jb]; exact xO h2)) (by simp; omega)
   have g:gNm 0 w [o,some (.ref nw)] H=some ([some w,some (.ref nw)],H):=by simp[gNm]
   have m:xX popM (eVar 1) [] [some w,some (.ref nw)] H=some (v,H.set nw (.lst (wo++vs'))):=by
    simp[xX,eVar,bnd,getL,h1,xU,popM,ep]
   unfold uH;simp only[g,ud,m,h3,c,kI];show uH 1 (gNm 0) ud (xX popM (eVar 1) []) n0 l [none,some (.ref nw)] _=_
   rw[ih];congr 1
   rw[List.reverse_append,kE];have s1:(((H.set nw (.lst (wo++vs'))).set n0 (.lst (acc++[v]))).set nw (.lst wo)).set n0 (.lst (acc++([v]++vs'.reverse)))=(H.set nw (.lst wo)).set n0 (.lst (acc++([v]++vs'.reverse))):=by
    rw[List.set_comm _ _ (kY hn),yU,yU]
   exact s1
where
 last_at' {α:Type} (l:List α) (x:α):(l++[x])[(l++[x]).length-1]?=some x:=by simp
def zgv(h:∀v∈l,low m v=true):low m (.fls l)=true:=by unfold low; exact uW h
def zoJ{n:Nat}{ρ:En}{H:MH}(hn:n<=1000)(hv:eVar 1 ρ H=some (.int (n:Int),H)):iRng [eVar 1] ρ H=some (.items (upto n),H):=by
 have q:-(2 ^ 62:Int)<=(n:Int)/\(n:Int)<2 ^ 62:=by omega
 have rw1:∀h,rngW [.int (n:Int)] h=some (.items (upto n),h):=λh=>by
  unfold rngW;simp only;rw[zX q,j0]
 simp only[iRng,xU,bnd,hv,rw1]
def zc4{ks:List Nat}{ρ ρ0:En}{h1:MH}(e:mi ρ h=some (.items l,h1))(er:(List.replicate nl none++ks.map λk=>(ρ[k]?).join)=ρ0)(ec:uH nl g t m h1.length l ρ0 (h1++[.lst []])=some h2):zak mi nl ks g t m ρ h=some (.ref h1.length,h2):=by
 subst er;unfold zak zaW;rw[e];simp only[ec]
def zhr{H:MH}{nw n:Nat}{wo vs:List W}(h1:H[nw]?=some (.lst (wo++vs)))(hn:n=vs.length)(hl:n<=1000):zak (iRng [eVar 1]) 1 [0] (gNm 0) ud (xX popM (eVar 1) []) [some (.ref nw),some (.int (n:Int)),none] H=some (.ref H.length,H.set nw (.lst wo)++[.lst vs.reverse]):=by
 have lt:=xO h1;have hu:(upto n).length=vs.length:=by rw[<-hn]; unfold upto; rw[zH,qY]
 have hp:=zfb (nw:=nw) (n0:=H.length) (zW lt) (upto n) vs wo [] (H++[.lst []]) none hu (by rw[zu lt,h1]) List.getElem?_concat_length (by rw[zP,q9,<-hn]; exact hl);have hh:((H++[MO.lst []]).set nw (.lst wo)).set H.length (.lst ([]++vs.reverse))=H.set nw (.lst wo)++[.lst vs.reverse]:=by
  rw[List.set_append_left _ _ lt,jT _ _ (by rw[jb]; exact zj _),jb,qP,zY];rfl
 rw[hh] at hp;exact zc4 (zoJ hl rfl) rfl hp
def ziL{H:MH}{wo vs:List W}(hl:vs.length<=1000):revL (.ref H.length) (H.set nw (.lst wo)++[.lst vs.reverse])=some (.fls vs,H.set nw (.lst wo)++[.lst vs.reverse]):=by
 have:getL (H.set nw (.lst wo)++[.lst vs.reverse]) (.ref H.length)=some vs.reverse:=by
  simp only[getL];rw[zE (by rw[jb]; exact zj _),jb,qP];rfl
 simp only[revL,this,qK,j4,List.reverse_reverse];rw[zX hl]
def ziY{H:MH}(cm:zak (iRng [eVar 1]) 1 [0] (gNm 0) ud (xX popM (eVar 1) []) [some (.ref nw),some j,none] H=some (.ref m,H2))(rv:revL (.ref m) H2=some (.fls vs,H2)):fnM 2 1 (aB F) [.ref nw,j] H=some (.fls vs,H2):=by
 have row:aB F [some (.ref nw),some j,none] H=some (.ret (.fls vs),H2):=by
  unfold aB;rw[xM (ρ':=[some (.ref nw),some j,some (.ref m)]) (h':=H2) (by unfold sAsg; rw[cm]; rfl)];simp only[sRet,eUn,bnd,eVar,zG,zq,rv]
 simp only[fnM,zm,zP,kI,zy,ji,List.replicate,jk,zY];simp only[row]
def zdC{H:MH}{wo vs:List W}(h1:H[nw]?=some (.lst (wo++vs)))(hn:n=vs.length)(hl:n<=1000):fnM 2 1 (aB F) [.ref nw,.int (n:Int)] H=some (.fls vs,H.set nw (.lst wo)++[.lst vs.reverse]):=
 ziY (zhr h1 hn hl) (ziL (by rw[<-hn]; exact hl))
theorem f_taken(F:Fs):(step F).aO=gc (fnM 2 1 (aB F)):=rfl
def zlS{H:MH}{wo vs:List W}(h1:H[nw]?=some (.lst (wo++vs)))(hn:n=vs.length)(hl:n<=1000)(hv:vs≠[]):(step F).aO [.ref nw,.int (n:Int)] H=some (.fls vs,H.set nw (.lst wo)++[.lst vs.reverse]):=by
 have e0:=zdC (F:=F) h1 hn hl;rw[f_taken];generalize fnM 2 1 (aB F)=f at e0 ⊢;refine uP e0 h1 ?_;rw[zu (by rw[jb]; exact xO h1),zK (xO h1)];intro e;injection e with e;injection e with e;have:=jW List.length e;simp only[zF] at this;exact hv (jN.mp ∅)
def zjH{H:MH}{wo:List W}(h1:H[nw]?=some (.lst wo)):(step F).aO [.ref nw,.int ((0:Nat):Int)] H=some (.fls [],H):=by
 have e:=zdC (F:=F) (n:=0) (vs:=[]) (wo:=wo) (by rw[kh]; exact h1) rfl (qO _);rw[set_same h1] at e;rw[f_taken];generalize fnM 2 1 (aB F)=f at e ⊢;exact u5 e (by unfold low lows; rfl) (jh _ _)
def uQ{fs:List (Str×W)}{c:Nat}{H:MH}(ho:H[n]?=some (.ins c fs))(hl:fs.lookup m=none)(hm:(mt F).lookup (c,m)=some g)(e1:mo ρ H0=some (.ref n,H))(e2:xU ms ρ H=some (ws,H1)):xQ (mt F) m mo ms ρ H0=g (.ref n::ws) H1:=by
 unfold xQ;simp only[bnd,e1,ho,hl,hm,e2]
def noF(a:(m==("rules":Str))=false)(b:(m==("steps":Str))=false)(c:(m==("worths":Str))=false)(d:(m==("touch_ahead":Str))=false):(doF rl ns nw t).lookup m=none:=by
 simp only[kJ,yu,a,b,c,d]
theorem zkx(F:Fs):(mt F).lookup (0,("bring":Str))=some F.bN:=by kernel_rfl
theorem zkz(F:Fs):(mt F).lookup (0,("begin":Str))=some F.bV:=by kernel_rfl
theorem zmF(F:Fs):(mt F).lookup (0,("rest_ahead_of":Str))=some F.aG:=by kernel_rfl
theorem zlv(F:Fs):(mt F).lookup (0,("take_step":Str))=some F.aJ:=by kernel_rfl
theorem zpy(F:Fs):(mt F).lookup (0,("go_on":Str))=some F.aH:=by kernel_rfl
theorem zfQ(F:Fs):(mt F).lookup (0,("do_touch":Str))=some F.aQ:=by kernel_rfl
theorem zml(F:Fs):(mt F).lookup (0,("came_to":Str))=some F.bf:=by kernel_rfl
theorem zoX(F:Fs):(mt F).lookup (1,("do":Str))=some F.aY:=by kernel_rfl
theorem zj8(F:Fs):(mt F).lookup (1,("store":Str))=some F.cH:=by kernel_rfl
theorem zl0(F:Fs):(mt F).lookup (1,("said":Str))=some F.cP:=by kernel_rfl
def uU{ws:List W}{H:MH}(hl:ws.length=np)(hr:ws.map some++List.replicate k none=ρ)(e:b ρ H=some (.nx ρ',H')):fnM np k b ws H=some (.non,H'):=by
 subst hr;unfold fnM;rw[zX hl,e]
def zaf{ws:List W}{H:MH}(hl:ws.length=np)(hr:ws.map some++List.replicate k none=ρ)(e:b ρ H=some (.ret w,H')):fnM np k b ws H=some (w,H'):=by
 subst hr;unfold fnM;rw[zX hl,e]
def zbf(e:t ρ h=some (true,h))(eA:A ρ h=some (.ret w,h')):sSeq (sIf t A ue) b ρ h=some (.ret w,h'):=by
 refine zaa ?_;unfold sIf; rw[e]; simp only[kI]; exact eA
theorem ziZ(e:t ρ h=some (false,h)):sSeq (sIf t A ue) b ρ h=b ρ h:=by
 refine xM ?_;unfold sIf; rw[e]; rfl
def zfi{f:Fl}(e:t ρ h=some (true,h))(eA:A ρ h=some (f,h')):sIf t A ue ρ h=some (f,h'):=by
 unfold sIf; rw[e]; simp only[kI]; exact eA
theorem zcR(e:t ρ h=some (false,h)):sIf t A ue ρ h=some (.nx ρ,h):=by
 unfold sIf; rw[e]; rfl
def uF{H:MH}(e:m ρ H=some (w,H')):xT m ρ H=some (.nx ρ,H'):=by unfold xT; rw[e]
section
variable{H:MH}{nd ns nw:Nat}{rl st wo:List W}{t:W}{F:Fs}
def zda(g:Dg H nd ns nw rl st wo t)(v:W):(H.set nw (.lst (wo++[v])))[nw]?≠some (.lst wo):=by
 rw[zK (xO g.w)];intro e;injection e with e;injection e with e;exact zdG _ _ e
def zc9(g:Dg H nd ns nw rl st wo t)(v:W):(H.set ns (.lst (st++[v])))[ns]?≠some (.lst st):=by
 rw[zK (xO g.s)];intro e;injection e with e;injection e with e;exact zdG _ _ e
def zcH(g:Dg H nd ns nw rl st wo t)(hw:wo.length<cap)(e1:mo ρ H=some (.ref nd,H))(e2:m ρ H=some (v,H)):xQ (mt (step F)) "bring" mo [m] ρ H=some (.non,H.set nw (.lst (wo++[v]))):=by
 rw[uQ g.d (noF ⋯ ⋯ ⋯ ⋯) (zkx _) e1 (ws:=[v]) (H1:=H) (by simp only[xU,bnd,e2])];exact zmT g hw
def zfg(g:Dg H nd ns nw rl st wo t)(hv:v≠t)(e1:mo ρ H=some (.ref nd,H))(e2:m ρ H=some (v,H)):xQ (mt (step F)) "rest_ahead_of" mo [m] ρ H=some (.non,H.set nd (.ins 0 (doF rl ns nw v))):=by
 rw[uQ g.d (noF ⋯ ⋯ ⋯ ⋯) (zmF _) e1 (ws:=[v]) (H1:=H) (by simp only[xU,bnd,e2])];exact zng g hv
def zcC{H2:MH}(g0:Dg H nd ns nw rl st wo t)(g:Dg H2 nd ns nw rl st wo t)(hw:st.length<cap)(e1:mo ρ H=some (.ref nd,H))(e2:m ρ H=some (d,H1))(e3:m2 ρ H1=some (k,H2)):xQ (mt (step F)) "begin" mo [m,m2] ρ H=some (.non,H2.set ns (.lst (st++[.tup [.bl false,d,k]]))):=by
 rw[uQ g0.d (noF ⋯ ⋯ ⋯ ⋯) (zkz _) e1 (ws:=[d,k]) (H1:=H2) (by simp only[xU,bnd,e2,e3])];exact zl4 g hw
def Dg.app(g:Dg H nd ns nw rl st wo t)(X:MH):Dg (H++X) nd ns nw rl st wo t:=
 ⟨by rw[zu (xO g.d)]; exact g.d,by rw[zu (xO g.s)]; exact g.s,by rw[zu (xO g.w)]; exact g.w,g.n1,g.n2,g.n3⟩
def zbM{r:List W}(g:Dg H nd ns nw rl st wo t)(hw:wo.length<cap)(hl:r.length=3)(e:m ((W.ref nd::r).map some++List.replicate k none) H=some (v,H)):gc (fnM 4 k (xT (xQ (mt (step F)) "bring" (eVar 0) [m]))) (.ref nd::r) H=some (.non,H.set nw (.lst (wo++[v]))):=
 uP (uU (by simp[hl]) rfl (uF (zcH g hw rfl e))) g.w (zda g v)
def zdm(g:Dg H nd ns nw rl st wo t)(hv:v≠t):(H.set nd (.ins 0 (doF rl ns nw v)))[nd]?≠some (.ins 0 (doF rl ns nw t)):=by
 rw[zK (xO g.d)];intro e;injection e with e;injection e with _ e;simp only[jO,wR] at e;exact hv e.2.2.2.1.2
def ziM{r:List W}(g:Dg H nd ns nw rl st wo t)(hv:v≠t)(hl:r.length=3)(e:m ((W.ref nd::r).map some++List.replicate k none) H=some (v,H)):gc (fnM 4 k (xT (xQ (mt (step F)) "rest_ahead_of" (eVar 0) [m]))) (.ref nd::r) H=some (.non,H.set nd (.ins 0 (doF rl ns nw v))):=
 uP (uU (by simp[hl]) rfl (uF (zfg g hv rfl e))) g.d (zdm g hv)
def zej(g:Dg H nd ns nw rl st wo t)(v:W):((H++X).set ns (.lst (st++[v])))[ns]?≠some (.lst st):=zc9 (g.app X) v
def zdX{r:List W}{kn:W}(g:Dg H nd ns nw rl st wo t)(hw:st.length<cap)(hl:r.length=3)(e:m ((W.ref nd::r).map some++List.replicate k none) H=some (d,H))(e2:m2 ((W.ref nd::r).map some++List.replicate k none) H=some (kn,H++X)):gc (fnM 4 k (xT (xQ (mt (step F)) "begin" (eVar 0) [m,m2]))) (.ref nd::r) H=some (.non,(H++X).set ns (.lst (st++[.tup [.bl false,d,kn]]))):=
 uP (uU (by simp[hl]) rfl (uF (zcC g (g.app X) hw rfl e e2))) g.s (zej g _)
def do_number{i:Int}(g:Dg H nd ns nw rl st wo t)(hw:wo.length<cap):(step (step F)).bH [.ref nd,th "number" [.int i],kw,ww] H=some (.non,H.set nw (.lst (wo++[.int i]))):=
 zbM g hw rfl (by simp![ix1])
def do_name(g:Dg H nd ns nw rl st wo t)(hw:wo.length<cap)(hk:uR kw (.str v) H=some (w,H)):(step (step F)).cR [.ref nd,th "name" [.str v],kw,ww] H=some (.non,H.set nw (.lst (wo++[w]))):=
 zbM g hw rfl (by simp![ix1,hk])
def do_add(g:Dg H nd ns nw rl st wo t)(hw:wo.length<cap):(step (step F)).dC [.ref nd,d,kw,.fls [.int x,.int y]] H=some (.non,H.set nw (.lst (wo++[.int ((x+y)%1009)]))):=
 zbM g hw rfl (by simp![ixf0,ixf1,addW,addI,modW,zcj])
def do_less(g:Dg H nd ns nw rl st wo t)(hw:wo.length<cap):(step (step F)).cT [.ref nd,d,kw,.fls [.int x,.int y]] H=some (.non,H.set nw (.lst (wo++[.int (if x<y then 1 else 0)]))):=
 zbM g hw rfl (by
  by_cases q:x<y
  .simp![ixf0,ixf1,cmpI,q]
  .simp![ixf0,ixf1,cmpI,q])
def do_then(g:Dg H nd ns nw rl st wo t)(hw:wo.length<cap):(step (step F)).cV [.ref nd,d,kw,.fls [x,y]] H=some (.non,H.set nw (.lst (wo++[y]))):=
 zbM g hw rfl (by simp![ixf1])
def zlM(g:Dg H nd ns nw rl st wo .non):(step (step F)).dw [.ref nd,d,kw,.fls [x]] H=some (.non,H.set nd (.ins 0 (doF rl ns nw (.tup [.str "say",x])))):=by
 have c2:(2:Nat)<=cap:=by decide
 exact ziM g nofun rfl (by simp![ixf0,tupW,c2])
def zlC(g:Dg H nd ns nw rl st wo .non):(step (step F)).dD [.ref nd,d,kw,ww] H=some (.non,H.set nd (.ins 0 (doF rl ns nw (.tup [.str "ask"])))):=by
 have c1:(1:Nat)<=cap:=by decide
 exact ziM g nofun rfl (by simp![tupW,c1])
def do_if{c:W}(g:Dg H nd ns nw rl st wo t)(hw:st.length<cap):(step (step F)).dO [.ref nd,th "if" [a,b,c],kw,.fls [.int x]] H=some (.non,H.set ns (.lst (st++[.tup [.bl false,if x=0 then c else b,kw]]))):=by
 have:=zdX (F:=F) (X:=[]) (k:=0) (m:=(eIf (tVal (eOp (eqW true) (eOp ixW (eVar 3) (eC (.int 0))) (eC (.int 0)))) (eOp ixW (eVar 1) (eC (.int 2))) (eOp ixW (eVar 1) (eC (.int 3))))) (m2:=eVar 2) (r:=[th "if" [a,b,c],kw,.fls [.int x]]) (d:=if x=0 then c else b) (kn:=kw) g hw rfl (by
  by_cases q:x=0
  .simp![ixf0,ix2,ix3,uE,q]
  .simp![ixf0,ix2,ix3,uE,q]) (by simp![])
 rw[kh] at this;exact this
end
def zhO(h:v∈SH):dt 1 (.str v)=true:=by
 simp only[SH,zb,zc,zO] at h;rcases h with rfl | rfl | rfl | rfl<;>decide +kernel
def ze0{H:MH}(d:dt 1 (.str v)=true):inB H (.str v) uB=some (decide (v∈SH)):=by
 have e:=zdg (h:=H) (l:=SH) d ∅ ⋯;have e2:zap SH (.str v)=decide (v∈SH):=by
  unfold zap;rw[vH,qt,decide_eq_true_iff];constructor
  .rintro⟨x,hx,e⟩
   rw[<-eq_of_beq e];exact hx
  .intro h
   exact⟨v,h,beq_self_eq_true v⟩
 rw[<-e2];exact e
def znb{f:List W->M W}{h:MH}(e:f ws h=some (.ref h.length,h++[.dic l])):gc f ws h=some (.ref h.length,h++[.dic l]):=by
 unfold gc;rw[e];have p:h<+:h++[MO.dic l]:=jh _ _;have q:low h.length (.ref h.length)=false:=by unfold low; simp
 have c:h<+:h++[MO.dic l]/\W.ref h.length≠.non:=⟨p,nofun⟩;simp only;rw[zX c];simp only[q,jG,jm,at0]
section
variable{H:MH}{nd ns nw:Nat}{rl st wo:List W}{t:W}{F:Fs}
theorem f_with(F:Fs):(step F).aX=gc (fnM 3 1 (bA F)):=rfl
theorem ziu{l:List (Key×W)}(hk:zae H kw=some l)(hl:l.length<cap):(step F).aX [kw,.str v,x] H=some (.ref H.length,H++[.dic (putW l (.inr v) x)]):=by
 rw[f_with];refine znb (zaf (ρ:=[some kw,some (.str v),some x,none]) rfl rfl ?_);unfold bA
 rw[xM (ρ':=[some kw,some (.str v),some x,some (.ref H.length)]) (h':=H++[.dic l]) (by
  simp only[sAsg,xK,xU,bnd,eVar,zq,zdT,hk,gNm]
  rfl)]
 have e:putM (.ref H.length) (.str v) x (H++[.dic l])=some (.non,H++[.dic (putW l (.inr v) x)]):=by
  simp only[putM,at0,keyOf,hl,kI,set0]
 rw[xM (ρ':=[some kw,some (.str v),some x,some (.ref H.length)]) (h':=H++[.dic (putW l (.inr v) x)]) (by
  simp only[sAsg,eVar,zq,zG,gPut,bnd,e])]
 rfl
def zkj(g:Dg H nd ns nw rl st wo .non)(h:v∈SH):(step (step F)).bY [.ref nd,th "read" [.str v],kw,ww] H=some (.non,H.set nd (.ins 0 (doF rl ns nw (.tup [.str "read",.str v])))):=by
 have c2:(2:Nat)<=cap:=by decide
 have e:=ze0 (H:=H) (zhO h);rw[qw h] at e;refine uP (uU (ρ:=[some (.ref nd),some (th "read" [.str v]),some kw,some ww]) (ρ':=[some (.ref nd),some (th "read" [.str v]),some kw,some ww]) rfl rfl ?_) g.d (zdm g (v:=.tup [.str "read",.str v]) nofun);have e2:xT (xQ (mt (step F)) "rest_ahead_of" (eVar 0) [xK tupW [eC (.str "read"),eOp ixW (eVar 1) (eC (.int 1))]]) [some (.ref nd),some (th "read" [.str v]),some kw,some ww] H=some (.nx _,H.set nd (.ins 0 (doF rl ns nw (.tup [.str "read",.str v])))):=uF (zfg g nofun rfl (by simp![ix1,tupW,c2]));unfold cN;unfold sIf;rw[show tVal (eOp (inW false) (eOp ixW (eVar 1) (eC (.int 1))) (eC uB)) [some (.ref nd),some (th "read" [.str v]),some kw,some ww] H=some (true,H) by simp![ix1,e]];exact e2
def zkN(g:Dg H nd ns nw rl st wo t)(hw:wo.length<cap)(h:v∉SH)(d:dt 1 (.str v)=true)(hk:uR kw (.str v) H=some (.ref n,H))(hn:H[n]?=some (.lst [w])):(step (step F)).bY [.ref nd,th "read" [.str v],kw,ww] H=some (.non,H.set nw (.lst (wo++[w]))):=by
 have e:=ze0 (H:=H) d;rw[jL h] at e;have ix:ixW (.ref n) (.int 0) H=some (w,H):=by simp[ixW,getL,hn,atI,ixN]
 refine uP (uU (ρ:=[some (.ref nd),some (th "read" [.str v]),some kw,some ww]) (ρ':=[some (.ref nd),some (th "read" [.str v]),some kw,some ww]) rfl rfl ?_) g.w (zda g w);have e2:xT (xQ (mt (step F)) "bring" (eVar 0) [eOp ixW (eOp uR (eVar 2) (eOp ixW (eVar 1) (eC (.int 1)))) (eC (.int 0))]) [some (.ref nd),some (th "read" [.str v]),some kw,some ww] H=some (.nx _,H.set nw (.lst (wo++[w]))):=uF (zcH g hw rfl (by simp![ix1,hk,ix]));unfold cN;unfold sIf;rw[show tVal (eOp (inW false) (eOp ixW (eVar 1) (eC (.int 1))) (eC uB)) [some (.ref nd),some (th "read" [.str v]),some kw,some ww] H=some (false,H) by simp![ix1,e]];exact e2
def zh9(g:Dg H nd ns nw rl st wo .non)(h:v∈SH):(step (step F)).bz [.ref nd,th "write" [.str v,a],kw,.fls [x]] H=some (.non,H.set nd (.ins 0 (doF rl ns nw (.tup [.str "write",.str v,x])))):=by
 have c3:(3:Nat)<=cap:=by decide
 have e:=ze0 (H:=H) (zhO h);rw[qw h] at e;refine uP (uU (ρ:=[some (.ref nd),some (th "write" [.str v,a]),some kw,some (.fls [x])]) (ρ':=[some (.ref nd),some (th "write" [.str v,a]),some kw,some (.fls [x])]) rfl rfl ?_) g.d (zdm g (v:=.tup [.str "write",.str v,x]) nofun);have e2:xT (xQ (mt (step F)) "rest_ahead_of" (eVar 0) [xK tupW [eC (.str "write"),eOp ixW (eVar 1) (eC (.int 1)),eOp ixW (eVar 3) (eC (.int 0))]]) [some (.ref nd),some (th "write" [.str v,a]),some kw,some (.fls [x])] H=some (.nx _,H.set nd (.ins 0 (doF rl ns nw (.tup [.str "write",.str v,x])))):=uF (zfg g nofun rfl (by simp![ix1,ixf0,tupW,c3]));unfold b8;unfold sIf;rw[show tVal (eOp (inW false) (eOp ixW (eVar 1) (eC (.int 1))) (eC uB)) [some (.ref nd),some (th "write" [.str v,a]),some kw,some (.fls [x])] H=some (true,H) by simp![ix1,e]];exact e2
def Dg.cell(g:Dg H nd ns nw rl st wo t){n:Nat}{o:MO}(a:n≠nd)(b:n≠ns)(c:n≠nw):Dg (H.set n o) nd ns nw rl st wo t:=
 ⟨by rw[zJ a,g.d],by rw[zJ b,g.s],by rw[zJ c,g.w],g.n1,g.n2,g.n3⟩
def ziN(g:Dg H nd ns nw rl st wo t)(hw:wo.length<cap)(h:v∉SH)(d:dt 1 (.str v)=true)(hk:uR kw (.str v) H=some (.ref n,H))(hn:H[n]?=some (.lst [w]))(na:n≠nd)(nb:n≠ns)(nc:n≠nw):(step (step F)).bz [.ref nd,th "write" [.str v,a],kw,.fls [x]] H=some (.non,(H.set n (.lst [x])).set nw (.lst (wo++[x]))):=by
 have e:=ze0 (H:=H) d;rw[jL h] at e;have g2:=g.cell (o:=.lst [x]) na nb nc;have ch:((H.set n (.lst [x])).set nw (.lst (wo++[x])))[nw]?≠some (.lst wo):=zda g2 x;refine uP (uU (ρ:=[some (.ref nd),some (th "write" [.str v,a]),some kw,some (.fls [x])]) (ρ':=[some (.ref nd),some (th "write" [.str v,a]),some kw,some (.fls [x])]) rfl rfl ?_) g.w ch;have pm:putM (.ref n) (.int 0) x H=some (.non,H.set n (.lst [x])):=by simp[putM,hn,ixN]
 have e2:xT (xQ (mt (step F)) "bring" (eVar 0) [eOp ixW (eVar 3) (eC (.int 0))]) [some (.ref nd),some (th "write" [.str v,a]),some kw,some (.fls [x])] (H.set n (.lst [x]))=some (.nx _,(H.set n (.lst [x])).set nw (.lst (wo++[x]))):=uF (zcH g2 hw rfl (by simp![ixf0]));unfold b8;unfold sIf;rw[show tVal (eOp (inW false) (eOp ixW (eVar 1) (eC (.int 1))) (eC uB)) [some (.ref nd),some (th "write" [.str v,a]),some kw,some (.fls [x])] H=some (false,H) by simp![ix1,e]];simp only[jG,jm];rw[xM (ρ':=[some (.ref nd),some (th "write" [.str v,a]),some kw,some (.fls [x])]) (h':=H.set n (.lst [x])) (by simp![ixf0,gPut,ix1,hk,pm])];exact e2
theorem zfL:∀(l:List W) (j:Nat) (o:Option W),∃o',forL (gNm 5) (sAsg (xK tupW [eC (.str "then"),eOp ixW (eVar 1) (eC (.int 2)),eVar 4]) (gNm 4)) l [some d,some (th "loop" [toW a,toW b]),some kw,some ww,some (toW (unr b j)),o] H=some (.nx [some d,some (th "loop" [toW a,toW b]),some kw,some ww,some (toW (unr b (j+l.length))),o'],H)
 | [],j,o=>⟨o,rfl⟩
 | w::l,j,o=>by
  obtain⟨o',ih⟩:=zfL l (j+1) (some w);refine⟨o',?_⟩;have c3:(3:Nat)<=cap:=by decide
  have e1:gNm 5 w [some d,some (th "loop" [toW a,toW b]),some kw,some ww,some (toW (unr b j)),o] H=some ([some d,some (th "loop" [toW a,toW b]),some kw,some ww,some (toW (unr b j)),some w],H):=rfl;have e2:sAsg (xK tupW [eC (.str "then"),eOp ixW (eVar 1) (eC (.int 2)),eVar 4]) (gNm 4) [some d,some (th "loop" [toW a,toW b]),some kw,some ww,some (toW (unr b j)),some w] H=some (.nx [some d,some (th "loop" [toW a,toW b]),some kw,some ww,some (toW (unr b (j+1))),some w],H):=by
   simp only[unr,toW];simp![ix2,tupW,c3]
  unfold forL;rw[e1];simp only;rw[e2];simp only;rw[ih,show j+(w::l).length=j+1+l.length by simp only[zm]; omega]
def do_loop(g:Dg H nd ns nw rl st wo t)(hw:st.length<cap):(step (step F)).cU [.ref nd,toW (.loop a b),kw,.fls [.int x]] H=some (.non,H.set ns (.lst (st++[.tup [.bl false,toW (unr b (x%4).toNat),kw]]))):=by
 have c2:(2:Nat)<=cap:=by decide
 simp only[toW];obtain⟨o',lr⟩:=zfL (a:=a) (b:=b) (H:=H) (kw:=kw) (ww:=.fls [.int x]) (d:=.ref nd) (upto (x%4).toNat) 0 none;have hu:(upto (x%4).toNat).length=(x%4).toNat:=by unfold upto; rw[zH,qY]
 rw[hu,q9] at lr;refine uP (uU (ρ:=[some (.ref nd),some (th "loop" [toW a,toW b]),some kw,some (.fls [.int x]),none,none]) (ρ':=[some (.ref nd),some (th "loop" [toW a,toW b]),some kw,some (.fls [.int x]),some (toW (unr b (x%4).toNat)),o']) rfl rfl ?_) g.s (zc9 g _);unfold dN;rw[xM (ρ':=[some (.ref nd),some (th "loop" [toW a,toW b]),some kw,some (.fls [.int x]),some (toW (unr b 0)),none]) (h':=H) (by simp only[unr,toW]; simp![tupW,c2])];have rg:iRng [eOp modW (eOp ixW (eVar 3) (eC (.int 0))) (eC zaq)] [some (.ref nd),some (th "loop" [toW a,toW b]),some kw,some (.fls [.int x]),some (toW (unr b 0)),none] H=some (.items (upto (x%4).toNat),H):=by
  have q:-(2 ^ 62:Int)<=x%4/\x%4<2 ^ 62:=by omega
  simp only[iRng,xU,bnd,eOp,eVar,zG,zq,eC,ixf0,modW,zaq,rngW];simp only[show(0:Int)<4 by omega,kI];rw[zX q]
 rw[xM (ρ':=[some (.ref nd),some (th "loop" [toW a,toW b]),some kw,some (.fls [.int x]),some (toW (unr b (x%4).toNat)),o']) (h':=H) (by unfold sFor; rw[rg]; exact lr)];have:=zcC (F:=F) (mo:=eVar 0) (m:=eVar 4) (m2:=eVar 2) (ρ:=[some (.ref nd),some (th "loop" [toW a,toW b]),some kw,some (.fls [.int x]),some (toW (unr b (x%4).toNat)),o']) (d:=toW (unr b (x%4).toNat)) (k:=kw) (H1:=H) (H2:=H) g g hw rfl rfl rfl;exact uF this
def do_let{l:List (Key×W)}(g:Dg H nd ns nw rl st wo t)(hw:st.length<cap)(hk:zae H kw=some l)(hl:l.length<cap):(step (step F)).dH [.ref nd,th "let" [.str v,a,b],kw,.fls [x]] H=some (.non,(H++[.dic (putW l (.inr v) x)]:MH).set ns (.lst (st++[.tup [.bl false,b,.ref H.length]]))):=by
 have e:=ziu (F:=F) (v:=v) (x:=x) hk hl
 exact zdX (F:=F) (k:=0) g hw rfl (by simp![ix3]) (by
  simp only[xK,xU,bnd,eVar,eOp,eC,zy,ji,List.replicate,kh,zG,zq,ix1,ixf0,e])
def do_own{l:List (Key×W)}(g:Dg H nd ns nw rl st wo t)(hw:st.length<cap)(hk:zae (H++[.lst [x]]) kw=some l)(hl:l.length<cap):(step (step F)).dG [.ref nd,th "own" [.str v,a,b],kw,.fls [x]] H=some (.non,(H++[.lst [x],.dic (putW l (.inr v) (.ref H.length))]:MH).set ns (.lst (st++[.tup [.bl false,b,.ref (H.length+1)]]))):=by
 have e:=ziu (F:=F) (v:=v) (x:=.ref H.length) hk hl;rw[kE,zF] at e;have c1:(1:Nat)<=cap:=by decide
 exact zdX (F:=F) (k:=0) g hw rfl (by simp![ix3]) (by
  simp only[xK,xU,bnd,eVar,eOp,eC,zy,ji,List.replicate,kh,zG,zq,ix1,ixf0,lstW,zm,zP,c1,kI]
  exact e)
def do_handed(g:Dg H nd ns nw rl st wo t)(hw:st.length<cap)(hk:uR kw (.str v) H=some (.tup [d',kw'],H)):(step (step F)).bG [.ref nd,th "do" [.str v],kw,ww] H=some (.non,H.set ns (.lst (st++[.tup [.bl false,d',kw']]))):=by
 refine uP (uU (ρ:=[some (.ref nd),some (th "do" [.str v]),some kw,some ww,none]) (ρ':=[some (.ref nd),some (th "do" [.str v]),some kw,some ww,some (.tup [d',kw'])]) rfl rfl ?_) g.s (zc9 g _);unfold cZ;rw[xM (ρ':=[some (.ref nd),some (th "do" [.str v]),some kw,some ww,some (.tup [d',kw'])]) (h':=H) (by simp![ix1,hk])];exact uF (zcC (F:=F) (H1:=H) g g hw rfl (by simp![ix0]) (by simp![ix1]))
end
def zbq{l:List (Key×W)}:(putW l k v).length<=l.length+1:=by
 unfold putW;split
 .rw[zH]; omega
 .rw[zF]; simp
noncomputable def cL0(ps:List (Str×Int)):List (Key×W):=uA [] (ps.map λp=>(.inr p.1,.int p.2))
noncomputable def cL1(kw:W)(ps:List (Str×W))(l:List (Key×W)):List (Key×W):=ps.foldl (λl p=>putW l (.inr p.1) (.tup [p.2,kw])) l
theorem zcv:∀(ps:List (Key×W)) (l:List (Key×W)),(uA l ps).length<=l.length+ps.length
 | [],l=>by simp[uA]
 | p::ps,l=>by
  have h1:=zcv ps (putW l p.1 p.2);have h2:=zbq (l:=l) (k:=p.1) (v:=p.2);have e:uA l (p::ps)=uA (putW l p.1 p.2) ps:=rfl;rw[e,zm];omega
theorem zgX:∀(ps:List (Str×W)) (l:List (Key×W)),(cL1 kw ps l).length<=l.length+ps.length
 | [],l=>by simp[cL1]
 | p::ps,l=>by
  have h1:=zgX (kw:=kw) ps (putW l (.inr p.1) (.tup [p.2,kw]));have h2:=zbq (l:=l) (k:=.inr p.1) (v:=.tup [p.2,kw]);have e:cL1 kw (p::ps) l=cL1 kw ps (putW l (.inr p.1) (.tup [p.2,kw])):=rfl;rw[e,zm];omega
theorem zb7:∀(ns:List Str) (xs:List Int),keysOf ((xN ns).zip (xs.map W.int))=some ((ns.zip xs).map λp=>(.inr p.1,.int p.2))
 | [],_=>by simp[xN,keysOf]
 | _::_,[]=>by simp[xN,keysOf]
 | n::ns,x::xs=>by
  have ih:=zb7 ns xs;simp only[xN,zy,jr] at ih ⊢;unfold keysOf;rw[ih];rfl
section
variable{H:MH}{nd ns nw:Nat}{rl st wo:List W}{t:W}{F:Fs}
noncomputable abbrev ρq(nd:Nat)(d kw ww ru:W)(n:Nat)(o6 o7:Option W):En:=[some (.ref nd),some d,some kw,some ww,some ru,some (.ref n),o6,o7]
theorem zgd:∀(ps:List (Str×W)) (L:List (Key×W)) (o6 o7:Option W),L.length+ps.length<=100->∃o6' o7',forL (gTp [gNm 6,gNm 7]) (sAsg (xK tupW [eVar 7,eVar 2]) (gPut (eVar 5) (eVar 6))) (ps.map λp=>.tup [.str p.1,p.2]) (ρq nd d kw ww ru H.length o6 o7) (H++[.dic L])=some (.nx (ρq nd d kw ww ru H.length o6' o7'),H++[.dic (cL1 kw ps L)])
 | [],L,o6,o7,_=>⟨o6,o7,rfl⟩
 | p::ps,L,o6,o7,hl=>by
  have c2:(2:Nat)<=cap:=by decide
  have lc:L.length<cap:=zM (show L.length<101 by omega) (by decide);have pl:=zbq (l:=L) (k:=.inr p.1) (v:=.tup [p.2,kw]);simp only[zm] at hl;obtain⟨o6',o7',ih⟩:=zgd ps (putW L (.inr p.1) (.tup [p.2,kw])) (some (.str p.1)) (some p.2) ∅;refine⟨o6',o7',?_⟩;have e1:gTp [gNm 6,gNm 7] (.tup [.str p.1,p.2]) (ρq nd d kw ww ru H.length o6 o7) (H++[.dic L])=some (ρq nd d kw ww ru H.length (some (.str p.1)) (some p.2),H++[.dic L]):=by
   simp[gTp,gTps,gNm,bnd]
  have pm:putM (.ref H.length) (.str p.1) (.tup [p.2,kw]) (H++[.dic L])=some (.non,H++[.dic (putW L (.inr p.1) (.tup [p.2,kw]))]):=by
   simp only[putM,at0,keyOf,lc,kI,set0]
  have e2:sAsg (xK tupW [eVar 7,eVar 2]) (gPut (eVar 5) (eVar 6)) (ρq nd d kw ww ru H.length (some (.str p.1)) (some p.2)) (H++[.dic L])=some (.nx (ρq nd d kw ww ru H.length (some (.str p.1)) (some p.2)),H++[.dic (putW L (.inr p.1) (.tup [p.2,kw]))]):=by
   simp only[sAsg,xK,xU,bnd,eVar,zG,zq,tupW,zm,zP,c2,kI,gPut,pm]
  simp only[zy];unfold forL;rw[e1];simp only;rw[e2];simp only;exact ih
theorem f_call(F:Fs):(step F).bZ=gc (fnM 4 4 (cO F)):=rfl
def do_call{i:Nat}{bs:List D}{r:Rule}{xs:List Int}(g:Dg H nd ns nw rl st wo t)(hw:st.length<cap)(hr:rl[i]?=some (ruW r))(hx:r.ns.length<=10)(hb:r.hs.length<=10):(step (step F)).bZ [.ref nd,toW (.call i as bs),kw,.fls (xs.map .int)] H=some (.non,(H++[.dic (cL1 kw (r.hs.zip (toWs bs)) (cL0 (r.ns.zip xs)))]:MH).set ns (.lst (st++[.tup [.bl false,toW r.body,.ref H.length]]))):=by
 have l0:(cL0 (r.ns.zip xs)).length<=10:=by
  have:=zcv ((r.ns.zip xs).map λp=>(.inr p.1,.int p.2)) [];rw[zH,qg,zP] at this;unfold cL0;omega
 have l1:(r.hs.zip (toWs bs)).length<=10:=by rw[qg]; omega
 obtain⟨o6,o7,lp⟩:=zgd (nd:=nd) (H:=H) (d:=toW (.call i as bs)) (kw:=kw) (ww:=.fls (xs.map .int)) (ru:=ruW r) (r.hs.zip (toWs bs)) (cL0 (r.ns.zip xs)) none none ∅;simp only[toW] at lp ⊢;have g2:=g.app [.dic (cL1 kw (r.hs.zip (toWs bs)) (cL0 (r.ns.zip xs)))];have ei:ixW (.tup rl) (.int (i:Int)) H=some (ruW r,H):=ixn ∅ (by have:=xO hr; omega) (by simpa using hr);have zd:zipD [.tup (xN r.ns),.fls (xs.map .int)] H=some (.ref H.length,H++[.dic (cL0 (r.ns.zip xs))]):=by
  have k:=zb7 r.ns xs;have kl:((r.ns.zip xs).map λp=>((.inr p.1:Key),W.int p.2)).length<=1000:=by rw[zH,qg]; omega
  simp only[zipD,zaX,k,kl,kI];rfl
 have zz:∀H',zipW [.tup (xN r.hs),.tup (toWs bs)] H'=some (.items ((r.hs.zip (toWs bs)).map λp=>.tup [.str p.1,p.2]),H'):=λH'=>by
  simp only[zipW,zaX,zgc,vf];rfl
 have e1:=g.fR;have r0:ixW (ruW r) (.int 0) H=some (.tup (xN r.ns),H):=ix0;have r1:∀H',ixW (ruW r) (.int 1) H'=some (.tup (xN r.hs),H'):=λH'=>ix1
 have r2:∀H',ixW (ruW r) (.int 2) H'=some (toW r.body,H'):=λH'=>ix2
 rw[f_call];refine uP (uU (ρ:=[some (.ref nd),some (th "call" [.int i,.tup (toWs as),.tup (toWs bs)]),some kw,some (.fls (xs.map .int)),none,none,none,none]) (ρ':=ρq nd (th "call" [.int i,.tup (toWs as),.tup (toWs bs)]) kw (.fls (xs.map .int)) (ruW r) H.length o6 o7) rfl rfl ?_) g.s (zej g _);unfold cO;rw[xM (ρ':=[some (.ref nd),some (th "call" [.int i,.tup (toWs as),.tup (toWs bs)]),some kw,some (.fls (xs.map .int)),some (ruW r),none,none,none]) (h':=H) (by simp![eFld,e1,ix1,ei])]
 rw[xM (ρ':=ρq nd (th "call" [.int i,.tup (toWs as),.tup (toWs bs)]) kw (.fls (xs.map .int)) (ruW r) H.length none none) (h':=H++[.dic (cL0 (r.ns.zip xs))]) (by
  simp only[sAsg,zcB,xK,xU,bnd,eVar,eOp,eC,zG,zq,r0,zd,gNm]
  rfl)]
 rw[xM (ρ':=ρq nd (th "call" [.int i,.tup (toWs as),.tup (toWs bs)]) kw (.fls (xs.map .int)) (ruW r) H.length o6 o7) (h':=H++[.dic (cL1 kw (r.hs.zip (toWs bs)) (cL0 (r.ns.zip xs)))]) (by
  unfold sFor
  rw[show iZip [eOp ixW (eVar 4) (eC (.int 1)),eOp ixW (eVar 1) (eC (.int 3))] (ρq nd (th "call" [.int i,.tup (toWs as),.tup (toWs bs)]) kw (.fls (xs.map .int)) (ruW r) H.length none none) (H++[.dic (cL0 (r.ns.zip xs))])=some (.items ((r.hs.zip (toWs bs)).map λp=>.tup [.str p.1,p.2]),H++[.dic (cL0 (r.ns.zip xs))]) by
   simp only[iZip,xU,bnd,eVar,eOp,eC,zG,zq,r1,ix3,zz]]
  exact lp)]
 exact uF (zcC (F:=F) (H1:=H++[.dic (cL1 kw (r.hs.zip (toWs bs)) (cL0 (r.ns.zip xs)))]) (H2:=H++[.dic (cL1 kw (r.hs.zip (toWs bs)) (cL0 (r.ns.zip xs)))]) g2 g2 hw rfl (by simp![r2]) rfl)
end
mutual
inductive VlR(na:Nat)(H:MH)(ca:List Nat)(b:Nat):Vl->W->Prop
 | int (i:Int):VlR na H ca b (.int i) (.int i)
 | cell {c n:Nat} (h:ca[c]?=some n):VlR na H ca b (.cell c) (.ref n)
 | hd {d:D} {env:Ev} {w:W} (e:EvR na H ca b env w):VlR na H ca b (.hd d env) (.tup [toW d,w])
inductive EvR(na:Nat)(H:MH)(ca:List Nat)(b:Nat):Ev->W->Prop
 | nil:EvR na H ca b [] (.fdc [])
 | mk {env:Ev} {l:List (Key×W)} {n:Nat} (f:Str->W) (h:H[n]?=some (.dic l)) (hx:n≠na) (hl:l.length<=b) (r:∀v x,lk env v=some x->valW l (.inr v)=some (f v)) (q:∀v x,lk env v=some x->VlR na H ca b x (f v)):EvR na H ca b env (.ref n)
end
noncomputable def DicP(na:Nat)(H H':MH):Prop:=∀n l,n≠na->H[n]?=some (.dic l)->H'[n]?=some (.dic l)
section
variable{na:Nat}{H H':MH}{ca ca':List Nat}{b b':Nat}
mutual
theorem VlR.mono(p:DicP na H H')(hc:ca<+:ca')(hb:b<=b'):∀{x:Vl} {w:W},VlR na H ca b x w->VlR na H' ca' b' x w
 | _,_,.int i=>.int i
 | _,_,.cell h=>.cell (by
   obtain⟨t,rfl⟩:=hc
   rw[zu (xO h)]; exact h)
 | _,_,.hd e=>.hd (EvR.mono p hc hb e)
theorem EvR.mono(p:DicP na H H')(hc:ca<+:ca')(hb:b<=b'):∀{x:Ev} {w:W},EvR na H ca b x w->EvR na H' ca' b' x w
 | _,_,.nil=>.nil
 | _,_,.mk f h hx hl r q=>.mk f (p _ _ hx h) hx (zQ hl hb) r λv x e=>VlR.mono p hc hb (q v x e)
end
def EvR.di(e:EvR na H ca b env w):∃l,zae H w=some l/\l.length<=b/\∀v x,lk env v=some x->∃w',valW l (.inr v)=some w'/\VlR na H ca b x w':=by
 cases e with
 | nil=>exact⟨[],rfl,qO _,λv x h=>by cases h⟩
 | mk f h hx hl r q=>exact⟨_,by simp only[zae,h],hl,λv x e=>⟨f v,r v x e,q v x e⟩⟩
def EvR.get(e:EvR na H ca b env w)(h:lk env v=some x):∃w',uR w (.str v) H=some (w',H)/\VlR na H ca b x w':=by
 obtain⟨l,h1,h2,h3⟩:=e.di;obtain⟨w',h4,h5⟩:=h3 v x h;exact⟨w',by simp only[uR,h1,keyOf,h4],h5⟩
theorem EvR.low(e:EvR na H ca b env w):ML.low H.length w=true:=by
 cases e with
 | nil=>unfold ML.low; unfold lowk; rfl
 | mk f h hx hl r q=>unfold ML.low; exact qw (xO h)
def zaE{p:Key×W}:valW (p::r) k=if p.1=k then some p.2 else valW r k:=by
 unfold valW;rw[jC];by_cases q:p.1=k<;>simp[q]
def zmN:valW (putW l k v) k'=if k=k' then some v else valW l k':=by
 have mp0:∀l:List (Key×W),¬k=k'->valW (l.map λkv=>if kv.1=k then (kv.1,v) else kv) k'=valW l k':=by
  intro l q;induction l with
  | nil=>rfl
  | cons p r ih=>
   rw[zy,zaE,zaE,ih];by_cases q1:p.1=k
   .have:¬p.1=k':=λz=>q (q1.symm.trans z)
    simp only[q1,kI,q,this,jm]
   .simp only[q1,jm]
 have mp:∀l:List (Key×W),(l.any λkv=>decide (kv.1=k))=true->valW (l.map λkv=>if kv.1=k then (kv.1,v) else kv) k=some v:=by
  intro l;induction l with
  | nil=>intro h; simp at h
  | cons p r ih=>
   intro h;rw[zy,zaE];by_cases q1:p.1=k
   .simp only[q1,kI]
   .simp only[q1,jm]
    exact ih (by simpa[q1] using h)
 unfold putW;split
 .rename_i h
  by_cases q:k=k'
  .subst q; rw[zX rfl]; exact mp l h
  .rw[kO q]; exact mp0 l q
 .rename_i h
  have ap:∀l:List (Key×W),(l.any λkv=>decide (kv.1=k))≠true->valW (l++[(k,v)]) k'=if k=k' then some v else valW l k':=by
   intro l;induction l with
   | nil=>intro _; rw[zY,zaE]
   | cons p r ih=>
    intro h;rw[jk,zaE,zaE,ih (λz=>h (by simp[z]))];by_cases q1:p.1=k'
    .have:¬k=k':=λz=>h (by simp[q1.trans z.symm])
     simp only[q1,kI,this,jm]
    .simp only[q1,jm]
  exact ap l h
noncomputable def LR(na:Nat)(H:MH)(ca:List Nat)(b:Nat)(l:List (Key×W))(env:Ev):Prop:=∀v x,lk env v=some x->∃w',valW l (.inr v)=some w'/\VlR na H ca b x w'
def LR.put(h:LR na H ca b l env)(r:VlR na H ca b x w):LR na H ca b (putW l (.inr v) w) ((v,x)::env):=by
 intro u y e;rw[u9] at e;rw[zmN];by_cases q:v=u
 .subst q
  rw[zX rfl] at e;injection e with e;subst e;exact⟨w,by simp,r⟩
 .rw[kO q] at e
  obtain⟨w',h1,h2⟩:=h u y e;exact⟨w',by rw[kO (λz=>q (yq z)),h1],h2⟩
def LR.ev{l:List (Key×W)}(h:LR na H ca b l env)(hn:H[n]?=some (.dic l))(hx:n≠na)(hl:l.length<=b):EvR na H ca b env (.ref n):=
 .mk (λv=>(valW l (.inr v)).getD .non) hn hx hl (λv x e=>by obtain⟨w',h1,h2⟩:=h v x e; rw[h1]; rfl) λv x e=>by obtain⟨w',h1,h2⟩:=h v x e; rw[h1]; exact h2
theorem LR.mono(h:LR na H ca b l env)(p:DicP na H H')(hc:ca<+:ca')(hb:b<=b'):LR na H' ca' b' l env:=λv x e=>let ⟨w',h1,h2⟩:=h v x e; ⟨w',h1,h2.mono p hc hb⟩
theorem LR.ints:∀(ps:List (Str×Int)) {l:List (Key×W)} {env:Ev},LR na H ca b l env->LR na H ca b (uA l (ps.map λp=>(.inr p.1,.int p.2))) (ps.foldl (λe p=>(p.1,.int p.2)::e) env)
 | [],l,env,h=>h
 | p::ps,l,env,h=>LR.ints ps (h.put (.int p.2))
theorem LR.hds{env0:Ev}(e0:EvR na H ca b env0 kw):∀(hs:List Str) (bs:List D) {l:List (Key×W)} {env:Ev},LR na H ca b l env->LR na H ca b (cL1 kw (hs.zip (toWs bs)) l) ((hs.zip bs).foldl (λe p=>(p.1,.hd p.2 env0)::e) env)
 | [],_,l,env,h=>h
 | _::_,[],l,env,h=>by simpa[toWs,cL1] using h
 | x::hs,d::bs,l,env,h=>by
  simp only[toWs,jr,j5,cL1];exact LR.hds e0 hs bs (h.put (.hd e0))
def zaH(X:MH):DicP na H (H++X):=λn l _ h=>by rw[zu (xO h)]; exact h
def zaJ(h:H[a]?=some o)(ho:∀l,o≠.dic l):DicP na H (H.set a o'):=λn l _ e=>by
 have:a≠n:=λz=>by subst z; rw[h] at e; injection e with e; exact ho l e
 rw[zJ this]; exact e
def DicP.trans(a:DicP na H H')(c:DicP na H' H''):DicP na H H'':=λn l hn e=>c n l hn (a n l hn e)
end
inductive StR(na:Nat)(H:MH)(ca:List Nat)(b:Nat):List Stp->List W->Prop
 | nil:StR na H ca b [] []
 | cons {pd:Bool} {d:D} {env:Ev} {kw:W} {stk:List Stp} {st:List W} (e:EvR na H ca b env kw) (r:StR na H ca b stk st):StR na H ca b ((pd,d,env)::stk) (st++[.tup [.bl pd,toW d,kw]])
theorem StR.mono{H:MH}(h:StR na H ca b stk st)(p:DicP na H H')(hc:ca<+:ca')(hb:b<=b'):StR na H' ca' b' stk st:=by
 induction h with
 | nil=>exact .nil
 | cons e r ih=>exact .cons (e.mono p hc hb) ih
def StR.len{H:MH}{stk:List Stp}{st:List W}(h:StR na H ca b stk st):st.length=stk.length:=by
 induction h with
 | nil=>rfl
 | cons e r ih=>simp[ih]
noncomputable def wsW(ws:List Int):List W:=ws.reverse.map .int
structure Sim(na:Nat)(rs:List Rule)(H:MH)(nd ns nw:Nat)(ca:List Nat)(s:Nat)(st:List W)(stk:List Stp)(ws cs:List Int)(t:W):Prop where
 g:Dg H nd ns nw (rsW rs) st (wsW ws) t
 sr:StR na H ca s stk st
 cl:ca.length=cs.length
 ce:∀(c n:Nat) (i:Int),ca[c]?=some n->cs[c]?=some i->H[n]?=some (.lst [.int i])
 cn:ca.Nodup
 cx:∀n∈ca,n≠nd/\n≠ns/\n≠nw
 l1:stk.length<=s
 l2:ws.length<=s
structure Fm(A:List Nat)(H H':MH):Prop where
 l:H.length<=H'.length
 k:∀n o,n∉A->H[n]?=some o->H'[n]?=some o
def Fm.refl{H:MH}:Fm A H H:=⟨zj _,λ_ _ _ e=>e⟩
def Fm.trans{H:MH}(a:Fm A H H')(b:Fm A H' H''):Fm A H H'':=⟨zQ a.l b.l,λn o h e=>b.k n o h (a.k n o h e)⟩
theorem Fm.set{H:MH}(h:a∈A):Fm A H (H.set a o):=⟨by rw[jb]; exact zj _,λn o' hn e=>by
 have q:a≠n:=λz=>hn (by rw[<-z]; exact h)
 rw[zJ q]; exact e⟩
def Fm.app{H:MH}(X:MH):Fm A H (H++X):=⟨by rw[zF]; omega,λn o _ e=>by rw[zu (xO e)]; exact e⟩
def Fm.sub{H:MH}(a:Fm A H H')(h:∀n∈A,n∈B):Fm B H H':=⟨a.l,λn o hn e=>a.k n o (λz=>hn (h n z)) e⟩
section
variable{na:Nat}{rs:List Rule}{H:MH}{nd ns nw:Nat}{ca:List Nat}{s:Nat}{st:List W}{stk:List Stp}{ws cs:List Int}{t:W}
def Sim.more(S:Sim na rs H nd ns nw ca s st stk ws cs t)(h:s<=s'):Sim na rs H nd ns nw ca s' st stk ws cs t:=⟨S.g,S.sr.mono (λ_ _ _ e=>e) (zR _) h,S.cl,S.ce,S.cn,S.cx,zQ S.l1 h,zQ S.l2 h⟩
theorem Sim.app(S:Sim na rs H nd ns nw ca s st stk ws cs t)(X:MH):Sim na rs (H++X) nd ns nw ca s st stk ws cs t:=
 ⟨S.g.app X,S.sr.mono (zaH X) (zR _) (zj _),S.cl,λc n i a b=>by have:=S.ce c n i a b; rw[zu (xO this)]; exact this,S.cn,S.cx,S.l1,S.l2⟩
def Sim.cnot(S:Sim na rs H nd ns nw ca s st stk ws cs t){c:Nat}(h:ca[c]?=some n)(ha:a=nd\/a=ns\/a=nw):a≠n:=by
 have:=S.cx n (jF h);rcases ha with rfl | rfl | rfl
 .exact this.1.symm
 .exact this.2.1.symm
 .exact this.2.2.symm
theorem Sim.worths(S:Sim na rs H nd ns nw ca s st stk ws cs t){ws':List Int}(h:ws'.length<=s):Sim na rs (H.set nw (.lst (wsW ws'))) nd ns nw ca s st stk ws' cs t:=
 ⟨S.g.worths _,S.sr.mono (zaJ S.g.w (λ_=>nofun)) (zR _) (zj _),S.cl,λc n i a b=>by rw[zJ (S.cnot a (.inr (.inr rfl)))]; exact S.ce c n i a b,S.cn,S.cx,S.l1,h⟩
theorem Sim.ahead(S:Sim na rs H nd ns nw ca s st stk ws cs t)(t':W):Sim na rs (H.set nd (.ins 0 (doF (rsW rs) ns nw t'))) nd ns nw ca s st stk ws cs t':=
 ⟨S.g.ahead _,S.sr.mono (zaJ S.g.d (λ_=>nofun)) (zR _) (zj _),S.cl,λc n i a b=>by rw[zJ (S.cnot a (.inl rfl))]; exact S.ce c n i a b,S.cn,S.cx,S.l1,S.l2⟩
theorem Sim.steps(S:Sim na rs H nd ns nw ca s st stk ws cs t){stk':List Stp}(r:StR na H ca s stk' st')(h:stk'.length<=s):Sim na rs (H.set ns (.lst st')) nd ns nw ca s st' stk' ws cs t:=
 ⟨S.g.steps _,r.mono (zaJ S.g.s (λ_=>nofun)) (zR _) (zj _),S.cl,λc n i a b=>by rw[zJ (S.cnot a (.inr (.inl rfl)))]; exact S.ce c n i a b,S.cn,S.cx,h,S.l2⟩
theorem Sim.cell(S:Sim na rs H nd ns nw ca s st stk ws cs t){c n:Nat}{x:Int}(h:ca[c]?=some n)(hc:c<cs.length):Sim na rs (H.set n (.lst [.int x])) nd ns nw ca s st stk ws (cs.set c x) t:=by
 have old:=S.ce c n cs[c] h (zA hc);have nn:=S.cx n (jF h);refine⟨S.g.cell nn.1 nn.2.1 nn.2.2,S.sr.mono (zaJ old (λ_=>nofun)) (zR _) (zj _),by rw[jb]; exact S.cl,λc' n' i a b=>?_,S.cn,S.cx,S.l1,S.l2⟩;by_cases q:c'=c
 .subst q
  rw[h] at a;injection a with a;subst a;rw[zK hc] at b;injection b with b;subst b;exact zK (xO old)
 .rw[zJ (kY q)] at b
  have:n≠n':=λz=>by
   subst z;have h1:=xO h;have h2:=xO a;rw[zA h1] at h;rw[zA h2] at a;injection h with h;injection a with a;exact q ((vh S.cn).mp (a.trans h.symm))
  rw[zJ this];exact S.ce c' n' i a b
def Sim.newc(S:Sim na rs H nd ns nw ca s st stk ws cs t)(x:Int):Sim na rs (H++[.lst [.int x]]) nd ns nw (ca++[H.length]) s st stk ws (cs++[x]) t:=by
 have lt:∀n∈ca,n<H.length:=λn hn=>by
  obtain⟨c,hc⟩:=jA.mp hn;have h1:c<cs.length:=by rw[<-S.cl]; exact xO hc
  exact xO (S.ce c n cs[c] hc (zA h1))
 refine⟨S.g.app _,S.sr.mono (zaH _) (jh _ _) (zj _),by simp[S.cl],λc n i a b=>?_,?_,λn hn=>?_,S.l1,S.l2⟩
 .by_cases q:c<ca.length
  .rw[zu q] at a
   rw[zu (by rw[<-S.cl]; exact q)] at b;have:=S.ce c n i a b;rw[zu (xO this)];exact this
  .rw[zE ∅] at a
   rw[zE (by rw[<-S.cl]; omega)] at b;have z:c-ca.length=0:=by have:=xO a; simp at this; omega
   rw[z] at a;rw[<-S.cl,z] at b;simp at a b;subst a;subst b;exact at0 _ _
 .rw[yc]
  exact⟨S.cn,by simp,λa ha b hb=>by simp at hb; subst hb; exact zW (lt a ha)⟩
 .rcases zV.mp hn with z | z
  .exact S.cx n z
  .simp at z
   subst z;have h1:=xO S.g.d;have h2:=xO S.g.s;have h3:=xO S.g.w;omega
end
noncomputable def tW:Tch->W
 | .read v=>.tup [.str "read",.str v]
 | .write v i=>.tup [.str "write",.str v,.int i]
 | .say i=>.tup [.str "say",.int i]
 | .ask=>.tup [.str "ask"]
def zdU(t:Tch):tW t≠.non:=by cases t<;>exact nofun
section
variable{na:Nat}{rs:List Rule}{H:MH}{nd ns nw:Nat}{ca:List Nat}{s:Nat}{st:List W}{stk:List Stp}{ws cs:List Int}{t:W}{G F:Fs}
def zkT{d:D}{wo:List W}{f:List W->M W}(g:Dg H nd ns nw rl st wo t)(hf:G.au [toW d] H=some (.tup (toWs d.first),H))(hp:pd=true\/d.first=[])(ht:G.aO [.ref nw,.int (d.first.length:Int)] H=some (.fls vs,H1))(hd:toW d=th x r)(hw:(uz G).lookup x=some f)(e:f [.ref nd,th x r,kw,.fls vs] H1=some (w,H2)):fnM 4 1 (aq G) [.ref nd,.bl pd,toW d,kw] H=some (.non,H2):=by
 refine uU (ρ:=[some (.ref nd),some (.bl pd),some (toW d),some kw,none]) (ρ':=[some (.ref nd),some (.bl pd),some (toW d),some kw,some (.tup (toWs d.first))]) rfl rfl ?_;unfold aq;rw[xM (ρ':=[some (.ref nd),some (.bl pd),some (toW d),some kw,some (.tup (toWs d.first))]) (h':=H) (by simp![hf])];have lt:(toWs d.first).length=d.first.length:=by rw[zah,zH]
 have tt:(tOrM (tVal (eVar 1)) (tVal (eOp (eqW false) (xK lenW [eVar 4]) (eC (.int 0))))) [some (.ref nd),some (.bl pd),some (toW d),some kw,some (.tup (toWs d.first))] H=some (true,H):=by
  rcases hp with rfl | hp
  .simp![]
  .cases pd
   .rw[hp]; simp![toWs,lenW,uE]
   .simp![]
 unfold sIf;rw[tt];simp only[kI];refine uF (w:=w) ?_;have e1:=g.fW;unfold eWay;rw[hd];simp only[bnd,eOp,eVar,eC,zG,zq,ix0,hw,xU,xK,eFld,e1,lenW,zao,lt,ht,e]
def zji{d:D}{wo:List W}(g:Dg H nd ns nw rl st wo t)(hf:G.au [toW d] H=some (.tup (toWs d.first),H))(hp:d.first≠[])(hl:d.first.length<=4)(hs:st.length+10<=cap)(lk':low H.length kw=true):fnM 4 1 (aq G) [.ref nd,.bl false,toW d,kw] H=some (.non,H.set ns (.lst ((st++[.tup [.bl true,toW d,kw]])++(toWs d.first).reverse.map λp=>.tup [.bl false,p,kw]))):=by
 refine uU (ρ:=[some (.ref nd),some (.bl false),some (toW d),some kw,none]) (ρ':=[some (.ref nd),some (.bl false),some (toW d),some kw,some (.tup (toWs d.first))]) rfl rfl ?_;unfold aq;rw[xM (ρ':=[some (.ref nd),some (.bl false),some (toW d),some kw,some (.tup (toWs d.first))]) (h':=H) (by simp![hf])];have c3:(3:Nat)<=cap:=by decide
 have lt:(toWs d.first).length=d.first.length:=by rw[zah,zH]
 have n0:((((d.first.length:Nat):Int))==0)=false:=by
  rw[jt];intro z;exact hp (jN.mp ∅)
 have tt:(tOrM (tVal (eVar 1)) (tVal (eOp (eqW false) (xK lenW [eVar 4]) (eC (.int 0))))) [some (.ref nd),some (.bl false),some (toW d),some kw,some (.tup (toWs d.first))] H=some (false,H):=by
  simp![lenW,lt,uE,n0]
 unfold sIf;rw[tt];simp only[jG,jm];have e1:=g.fS;have e2:=g.s;have sl:st.length<cap:=by omega
 have a1:xT (xX ut (eFld flds "steps" (eVar 0)) [xK tupW [eC (.bl true),eVar 2,eVar 3]]) [some (.ref nd),some (.bl false),some (toW d),some kw,some (.tup (toWs d.first))] H=some (.nx [some (.ref nd),some (.bl false),some (toW d),some kw,some (.tup (toWs d.first))],H.set ns (.lst (st++[.tup [.bl true,toW d,kw]]))):=by
  simp![eFld,e1,xX,getL,e2,tupW,c3,ut,sl]
 rw[xM a1];have g2:=g.steps (st++[.tup [.bl true,toW d,kw]]);have lk2:low (H.set ns (.lst (st++[.tup [.bl true,toW d,kw]]))).length kw=true:=by rw[jb]; exact lk'
 suffices fin:∀H2:MH,Dg H2 nd ns nw rl (st++[.tup [.bl true,toW d,kw]]) wo t->low H2.length kw=true->xT (xX zaT (eFld flds "steps" (eVar 0)) [uo (iRev [eVar 4]) 1 [3] (gNm 0) ud (xK tupW [eC (.bl false),eVar 0,eVar 1])]) [some (.ref nd),some (.bl false),some (toW d),some kw,some (.tup (toWs d.first))] H2=some (.nx [some (.ref nd),some (.bl false),some (toW d),some kw,some (.tup (toWs d.first))],H2.set ns (.lst ((st++[.tup [.bl true,toW d,kw]])++(toWs d.first).reverse.map λp=>.tup [.bl false,p,kw]))) by
  have:=fin _ g2 lk2;rw[yU] at this;exact this
 clear g2 lk2;intro H2 g2 lk2;have cp:=zb5 (mi:=iRev [eVar 4]) (ks:=[3]) (t:=ud) (m:=xK tupW [eC (.bl false),eVar 0,eVar 1]) (ρ:=[some (.ref nd),some (.bl false),some (toW d),some kw,some (.tup (toWs d.first))]) (h:=H2) (l:=(toWs d.first).reverse) (λ_=>true) (λp=>.tup [.bl false,p,kw])
  (by simp only[iRev,xU,bnd,eVar,zG,zq,revS]) (λw _ H'=>rfl) (λw _ _ H'=>by simp![tupW,c3])
  (λw hw _=>by
   have:low H2.length w=true:=zbs (zbt _ _) w (List.mem_reverse.mp hw);unfold low lows low lows;rw[this];unfold lows;rw[lk2];unfold lows
   rfl)
  (by rw[j4,lt]; exact zQ hl (by decide))
 rw[filter_true] at cp;have f1:=g2.fS;have f2:=g2.s;have sl2:st.length+1+d.first.length<=cap:=by omega
 unfold xT xX;simp only[bnd,eFld,eVar,zq,f1,getL,f2,vL,kI,xU,cp,zaT,zao,zF,zm,zP,zH,j4,lt,sl2]
theorem f_take(F:Fs):(step F).aJ=gc (fnM 4 1 (aq F)):=rfl
def zbU(ws:List Int):(wsW ws).length=ws.length:=by simp[wsW]
def zfc{f:List W->M W}{stk':List Stp}{ws':List Int}(e:f as H=some (w,H2))(S:Sim na rs H nd ns nw ca s st stk ws cs t)(S2:Sim na rs H2 nd ns nw ca' s' st' stk' ws' cs' t')(h:ws.length≠ws'.length\/stk.length≠stk'.length\/t'≠t):gc f as H=some (w,H2):=by
 rcases h with h | h | h
 .refine uP e S.g.w ?_
  rw[S2.g.w];intro z;injection z with z;injection z with z;have:=jW List.length z;rw[zbU,zbU] at this;omega
 .refine uP e S.g.s ?_
  rw[S2.g.s];intro z;injection z with z;injection z with z;have:=jW List.length z;rw[S.sr.len,S2.sr.len] at this;omega
 .refine uP e S.g.d ?_
  rw[S2.g.d];intro z;injection z with z;injection z with _ z;simp only[jO,wR] at z;exact h z.2.2.2.1.2
def zms(xs ws:List Int):wsW (xs.reverse++ws)=wsW ws++xs.map .int:=by simp[wsW]
def zpI{xs:List Int}(S:Sim na rs H nd ns nw ca s st stk (xs.reverse++ws) cs t)(hl:xs.length<=1000):∃X,(step G).aO [.ref nw,.int (xs.length:Int)] H=some (.fls (xs.map .int),H.set nw (.lst (wsW ws))++X):=by
 have h1:=S.g.w;rw[zms] at h1;by_cases q:xs=[]
 .subst q
  simp only[ji,kh] at h1;refine⟨[],?_⟩;rw[kh,set_same h1];exact zjH h1
 .exact⟨_,zlS (n:=xs.length) h1 (by simp) hl (by simpa using q)⟩
end
def zb6(v:Int)(ws:List Int):wsW (v::ws)=wsW ws++[.int v]:=by simp[wsW]
section
variable{na:Nat}{rs:List Rule}{H:MH}{nd ns nw:Nat}{ca:List Nat}{s:Nat}{st:List W}{stk:List Stp}{ws cs:List Int}{t:W}{F:Fs}
theorem zf0(E:EvR na H ca b env kw):∀(l:List D) {st1:List W} {stk1:List Stp},StR na H ca b stk1 st1->StR na H ca b (l.map (λa=>(false,a,env))++stk1) (st1++(toWs l).reverse.map λp=>.tup [.bl false,p,kw])
 | [],st1,stk1,h=>by simpa[toWs] using h
 | a::l,st1,stk1,h=>by
  have ih:=zf0 E l h;have e:st1++(toWs (a::l)).reverse.map (λp=>W.tup [.bl false,p,kw])=(st1++(toWs l).reverse.map λp=>W.tup [.bl false,p,kw])++[.tup [.bl false,toW a,kw]]:=by simp[toWs]
  rw[e];exact .cons E ih
def zb4{d:D}{f:List W->M W}{xs:List Int}(S:Sim na rs H nd ns nw ca s st stk (xs.reverse++ws) cs t)(hx:xs.length=d.first.length)(hl:d.first.length<=4)(hp:pd=true\/d.first=[])(hd:toW d=th x r)(hw:(uz (step (step (step F)))).lookup x=some f) :
  ∃X,∀w H2,f [.ref nd,th x r,kw,.fls (xs.map .int)] (H.set nw (.lst (wsW ws))++X)=some (w,H2)->fnM 4 1 (aq (step (step (step F)))) [.ref nd,.bl pd,toW d,kw] H=some (.non,H2):=by
 obtain⟨X,e⟩:=zpI (G:=step (step F)) S ∅;rw[hx] at e;exact⟨X,λw H2 h=>zkT S.g (zhb d) hp e hd hw h⟩
noncomputable def Took(F:Fs)(na:Nat)(rs:List Rule)(H:MH)(nd ns nw:Nat)(ca:List Nat)(s:Nat)(pd:Bool)(d:D)(kw:W)(stk:List Stp)(ws cs:List Int)(t:W):Prop:=
 ∃H' ca' st',(step (step (step (step F)))).aJ [.ref nd,.bl pd,toW d,kw] H=some (.non,H')/\Sim na rs H' nd ns nw ca' (s+4) st' stk ws cs t/\Fm (nd::ns::nw::ca) H H'/\∀n∈ca',n∈ca\/H.length<=n
def took{stk':List Stp}{ws':List Int}(S:Sim na rs H nd ns nw ca s st stk ws cs t)(e:fnM 4 1 (aq (step (step (step F)))) [.ref nd,.bl pd,toW d,kw] H=some (.non,H2))(S2:Sim na rs H2 nd ns nw ca' (s+4) st' stk' ws' cs' t')(fm:Fm (nd::ns::nw::ca) H H2)(hc:∀n∈ca',n∈ca\/H.length<=n)(h:ws.length≠ws'.length\/stk.length≠stk'.length\/t'≠t):Took F na rs H nd ns nw ca s pd d kw stk' ws' cs' t':=
 ⟨H2,ca',st',by rw[f_take]; exact zfc e S S2 h,S2,fm,hc⟩
variable{pd:Bool}{d:D}{kw:W}{x:Str}{r:List W}{f:List W->M W}{xs:List Int}
def off_fm:Fm (nd::ns::nw::ca) H (H.set nw o++X):=(Fm.set (by simp)).trans (Fm.app X)
def zbL(S:Sim na rs H nd ns nw ca s st stk (xs.reverse++ws) cs t)(X:MH):Sim na rs (H.set nw (.lst (wsW ws))++X) nd ns nw ca s st stk ws cs t:=
 (S.worths (ws':=ws) (by have:=S.l2; simp at this; omega)).app X
def zcX(S:Sim na rs H nd ns nw ca s st stk (xs.reverse++ws) cs t)(X:MH):DicP na H (H.set nw (.lst (wsW ws))++X):=(zaJ S.g.w (λ_=>nofun)).trans (zaH X)
def zas(S:Sim na rs H nd ns nw ca s st stk (xs.reverse++ws) cs t)(hx:xs.length=d.first.length)(hl:d.first.length<=4)(hp:pd=true\/d.first=[])(hd:toW d=th x r)(hw:(uz (step (step (step F)))).lookup x=some f)(hs:s+100<=cap)(h1:xs.length≠1)
  (h:∀X,Dg (H.set nw (.lst (wsW ws))++X) nd ns nw (rsW rs) st (wsW ws) t->(wsW ws).length<cap->f [.ref nd,th x r,kw,.fls (xs.map .int)] (H.set nw (.lst (wsW ws))++X)=some (.non,(H.set nw (.lst (wsW ws))++X:MH).set nw (.lst (wsW ws++[.int v])))):Took F na rs H nd ns nw ca s pd d kw stk (v::ws) cs t:=by
 obtain⟨X,e⟩:=zb4 (F:=F) (kw:=kw) S hx hl hp hd hw;have S1':=zbL S X;have wl:=S1'.l2;have e2:=e _ _ (h X S1'.g (by rw[zbU]; omega));rw[<-zb6] at e2;refine took S e2 ((S1'.more (s':=s+4) ∅).worths (by simp; omega)) (off_fm.trans (Fm.set (by simp))) (λn hn=>.inl hn) (.inl ?_);simp only[zF,j4,zm];omega
def zar(S:Sim na rs H nd ns nw ca s st stk (xs.reverse++ws) cs t)(hx:xs.length=d.first.length)(hl:d.first.length<=4)(hp:pd=true\/d.first=[])(hd:toW d=th x r)(hw:(uz (step (step (step F)))).lookup x=some f)(hs:s+100<=cap)
  (h:∀X,st.length<cap->Sim na rs (H.set nw (.lst (wsW ws))++X) nd ns nw ca s st stk ws cs t->DicP na H (H.set nw (.lst (wsW ws))++X)->∃(Y:MH) (ca':List Nat) (kw':W),f [.ref nd,th x r,kw,.fls (xs.map .int)] (H.set nw (.lst (wsW ws))++X)=some (.non,((H.set nw (.lst (wsW ws))++X)++Y:MH).set ns (.lst (st++[.tup [.bl false,toW d',kw']])))/\Sim na rs ((H.set nw (.lst (wsW ws))++X)++Y) nd ns nw ca' (s+4) st stk ws cs' t/\EvR na ((H.set nw (.lst (wsW ws))++X)++Y) ca' (s+4) env' kw'/\∀n∈ca',n∈ca\/H.length<=n):Took F na rs H nd ns nw ca s pd d kw ((false,d',env')::stk) ws cs' t:=by
 obtain⟨X,e⟩:=zb4 (F:=F) (kw:=kw) S hx hl hp hd hw;have l1:=S.l1;obtain⟨Y,ca',kw',e2,S2,E2,hc⟩:=h X (by rw[S.sr.len]; omega) (zbL S X) (zcX S X);refine took S (e _ _ e2) (S2.steps (.cons E2 S2.sr) (by simp; omega)) ((off_fm.trans (Fm.app Y)).trans (Fm.set (by simp))) hc (.inr (.inl (by simp)))
def zbB(S:Sim na rs H nd ns nw ca s st stk (xs.reverse++ws) cs .non)(hx:xs.length=d.first.length)(hl:d.first.length<=4)(hp:pd=true\/d.first=[])(hd:toW d=th x r)(hw:(uz (step (step (step F)))).lookup x=some f)
  (h:∀X,Dg (H.set nw (.lst (wsW ws))++X) nd ns nw (rsW rs) st (wsW ws) .non->f [.ref nd,th x r,kw,.fls (xs.map .int)] (H.set nw (.lst (wsW ws))++X)=some (.non,(H.set nw (.lst (wsW ws))++X:MH).set nd (.ins 0 (doF (rsW rs) ns nw (tW tt))))):Took F na rs H nd ns nw ca s pd d kw stk ws cs (tW tt):=by
 obtain⟨X,e⟩:=zb4 (F:=F) (kw:=kw) S hx hl hp hd hw;have S1':=zbL S X;exact took S (e _ _ (h X S1'.g)) ((S1'.more (s':=s+4) ∅).ahead _) (off_fm.trans (Fm.set (by simp))) (λn hn=>.inl hn) (.inr (.inr (zdU tt)))
end
def zgE(G:Fs):(uz G).lookup ("number":Str)=some G.bH/\(uz G).lookup ("name":Str)=some G.cR/\(uz G).lookup ("read":Str)=some G.bY/\(uz G).lookup ("write":Str)=some G.bz/\(uz G).lookup ("add":Str)=some G.dC/\(uz G).lookup ("less":Str)=some G.cT/\(uz G).lookup ("then":Str)=some G.cV/\(uz G).lookup ("if":Str)=some G.dO/\(uz G).lookup ("loop":Str)=some G.cU/\(uz G).lookup ("let":Str)=some G.dH/\(uz G).lookup ("own":Str)=some G.dG/\(uz G).lookup ("say":Str)=some G.dw/\(uz G).lookup ("ask":Str)=some G.dD/\(uz G).lookup ("do":Str)=some G.bG/\(uz G).lookup ("call":Str)=some G.bZ:=by
 refine⟨?_,?_,?_,?_,?_,?_,?_,?_,?_,?_,?_,?_,?_,?_,?_⟩<;>kernel_rfl
section
variable{na:Nat}{rs:List Rule}{H:MH}{nd ns nw:Nat}{ca:List Nat}{s:Nat}{st:List W}{stk:List Stp}{ws cs:List Int}{F:Fs}{pd:Bool}{d:D}{env:Ev}{kw:W}
def zkJ(S:Sim na rs H nd ns nw ca s st stk ws cs .non)(h:S1 rs pd d env ws cs (.tch tt ws')):Took F na rs H nd ns nw ca s pd d kw stk ws' cs (tW tt):=by
 have wy:=zgE (step (step (step F)));obtain⟨w1,w2,w3,w4,w5,w6,w7,w8,w9,w10,w11,w12,w13,w14,w15⟩:=wy;cases h with
 | readS h=>exact zbB (xs:=[]) (d:=.read _) S rfl (by simp[D.first]) (.inr rfl) rfl w3 λX g=>zkj g h
 | ask=>exact zbB (xs:=[]) (d:=.ask) S rfl (by simp[D.first]) (.inr rfl) rfl w13 λX g=>zlC g
 | writeS h=>exact zbB (xs:=[_]) (d:=.write _ _) S rfl (by simp[D.first]) (.inl rfl) rfl w4 λX g=>zh9 g h
 | say=>exact zbB (xs:=[_]) (d:=.say _) S rfl (by simp[D.first]) (.inl rfl) rfl w12 λX g=>zlM g
theorem ze4{i:Nat}(h:rs[i]?=some r):(rsW rs)[i]?=some (ruW r):=by
 unfold rsW;rw[je,h];rfl
def zmj(hr:RsOk rs)(S:Sim na rs H nd ns nw ca s st stk ws cs .non)(E:EvR na H ca s env kw)(hs:s+100<=cap)(h8:10<=s)(hna:na<H.length)(h:S1 rs pd d env ws cs (.gg p ws' cs')):Took F na rs H nd ns nw ca s pd d kw (p++stk) ws' cs' .non:=by
 have wy:=zgE (step (step (step F)));obtain⟨w1,w2,w3,w4,w5,w6,w7,w8,w9,w10,w11,w12,w13,w14,w15⟩:=wy;have hnaX:∀(o:MO) (X:MH),na<(H.set nw o++X).length:=λo X=>by rw[zF,jb]; omega
 cases h with
 | number=>exact zas (xs:=[]) (d:=.number _) S rfl (by simp[D.first]) (.inr rfl) rfl w1 hs (by simp) λX g hw=>do_number g hw
 | name h=>
  exact zas (xs:=[]) (d:=.name _) S rfl (by simp[D.first]) (.inr rfl) rfl w2 hs (by simp) λX g hw=>by
   obtain⟨w',e1,e2⟩:=(E.mono (zcX (xs:=[]) S X) (zR _) (zj _)).get h;cases e2;exact do_name g hw e1
 | readO h ds hv hc=>
  exact zas (xs:=[]) (d:=.read _) S rfl (by simp[D.first]) (.inr rfl) rfl w3 hs (by simp) λX g hw=>by
   obtain⟨w',e1,e2⟩:=(E.mono (zcX (xs:=[]) S X) (zR _) (zj _)).get hv;cases e2 with | cell hn=>
   exact zkN g hw h ds e1 ((zbL (xs:=[]) S X).ce _ _ _ hn hc)
 | doo h=>
  exact zar (xs:=[]) (d:=.doo _) S rfl (by simp[D.first]) (.inr rfl) rfl w14 hs λX hw S1' dp=>by
   obtain⟨w',e1,e2⟩:=(E.mono dp (zR _) (zj _)).get h;cases e2 with | hd e2=>
   refine⟨[],ca,_,?_,by rw[kh]; exact S1'.more ∅,by rw[kh]; exact e2.mono (λ_ _ _ e=>e) (zR _) ∅,λn hn=>.inl hn⟩;rw[kh];exact do_handed S1'.g hw e1
 | push h hl=>
  have raw:=zji (G:=step (step (step F))) S.g (zhb d) h ∅ (by rw[S.sr.len]; have:=S.l1; omega) E.low;have sr:=zf0 E d.first (.cons (pd:=true) (d:=d) E S.sr);have l1:=S.l1;refine took S raw ((S.more (s':=s+4) ∅).steps (stk':=(d.first.map (λa=>(false,a,env))++[(true,d,env)])++stk) ?_ ?_) (Fm.set (by simp)) (λn hn=>.inl hn) (.inr (.inl ?_))
  .rw[kE]
   exact sr.mono (λ_ _ _ e=>e) (zR _) ∅
  .simp; omega
  .simp; omega
 | @writeO v a x c _ ws0 _ h ds hv hc=>
  obtain⟨X,e⟩:=zb4 (F:=F) (kw:=kw) (xs:=[x]) (pd:=true) (d:=.write v a) (ws:=ws0) S rfl (by simp[D.first]) (.inl rfl) rfl w4;have S1':=zbL (xs:=[x]) (ws:=ws0) S X;have E1:=E.mono (zcX (xs:=[x]) (ws:=ws0) S X) (zR _) (zj _);obtain⟨w',e1,e2⟩:=E1.get hv;cases e2 with | @cell _ n hn=>
  have lw:=S.l2;simp only[zm] at lw;have nn:=S.cx n (jF hn);have old:=S1'.ce c n cs[c] hn (zA hc);have raw:=e _ _ (ziN (x:=.int x) (a:=toW a) S1'.g (by rw[zbU]; omega) h ds e1 old nn.1 nn.2.1 nn.2.2);rw[<-zb6] at raw;have S2:=(S1'.cell (x:=x) hn hc).worths (ws':=x::ws0) (by simp; omega);exact⟨_,ca,st,by rw[f_take]; exact zbV raw,S2.more ∅,(off_fm.trans (Fm.set (by simp[jF hn]))).trans (Fm.set (by simp)),λn hn=>.inl hn⟩
 | @add a b x y=>exact zas (xs:=[x,y]) (d:=.add a b) S rfl (by simp[D.first]) (.inl rfl) rfl w5 hs (by simp) λX g hw=>do_add g hw
 | @less a b x y=>exact zas (xs:=[x,y]) (d:=.less a b) S rfl (by simp[D.first]) (.inl rfl) rfl w6 hs (by simp) λX g hw=>do_less g hw
 | @thenn a b x y=>exact zas (xs:=[x,y]) (d:=.thenn a b) S rfl (by simp[D.first]) (.inl rfl) rfl w7 hs (by simp) λX g hw=>do_then g hw
 | @iff a b c x=>
  exact zar (xs:=[x]) (d:=.iff a b c) S rfl (by simp[D.first]) (.inl rfl) rfl w8 hs λX hw S1' dp=>by
   refine⟨[],ca,kw,?_,by rw[kh]; exact S1'.more ∅,by rw[kh]; exact E.mono dp (zR _) ∅,λn hn=>.inl hn⟩;rw[kh];have:=do_if (F:=step F) (x:=x) (a:=toW a) (b:=toW b) (c:=toW c) (kw:=kw) S1'.g hw;by_cases q:x=0
   .simp only[q,kI] at this ⊢; exact this
   .simp only[q,jm] at this ⊢; exact this
 | @loop a b x=>
  exact zar (xs:=[x]) (d:=.loop a b) S rfl (by simp[D.first]) (.inl rfl) rfl w9 hs λX hw S1' dp=>by
   refine⟨[],ca,kw,?_,by rw[kh]; exact S1'.more ∅,by rw[kh]; exact E.mono dp (zR _) ∅,λn hn=>.inl hn⟩;rw[kh];have:=do_loop (F:=step F) (x:=x) (a:=a) (b:=b) (kw:=kw) S1'.g hw;simp only[toW] at this;exact this
 | @lett v a b x=>
  exact zar (xs:=[x]) (d:=.lett v a b) S rfl (by simp[D.first]) (.inl rfl) rfl w10 hs λX hw S1' dp=>by
   have E1:=E.mono dp (zR _) (zj _);obtain⟨l,d1,d2,d3⟩:=E1.di;have h1:=hnaX (.lst (wsW ws')) X;generalize H.set nw (.lst (wsW ws'))++X=H1 at S1' E1 d1 d3 h1 ⊢;have pl:=zbq (l:=l) (k:=.inr v) (v:=.int x);have L:LR na (H1++[.dic (putW l (.inr v) (.int x))]) ca (s+4) l env:=LR.mono (H:=H1) (ca:=ca) (b:=s) d3 (zaH _) (zR _) ∅;exact⟨[.dic (putW l (.inr v) (.int x))],ca,.ref H1.length,do_let S1'.g hw d1 ∅,(S1'.app _).more ∅,(L.put (v:=v) (.int x)).ev (at0 _ _) ∅ ∅,λn hn=>.inl hn⟩
 | @own v a b x=>
  exact zar (xs:=[x]) (d:=.own v a b) S rfl (by simp[D.first]) (.inl rfl) rfl w11 hs λX hw S1' dp=>by
   have E1:=E.mono dp (zR _) (zj _);have h1:=hnaX (.lst (wsW ws')) X;have h2:H.length<=(H.set nw (.lst (wsW ws'))++X).length:=by rw[zF,jb]; omega
   generalize H.set nw (.lst (wsW ws'))++X=H1 at S1' E1 h1 h2 ⊢;obtain⟨l,d1,d2,d3⟩:=(E1.mono (zaH [.lst [.int x]]) (zR _) (zj _)).di;have pl:=zbq (l:=l) (k:=.inr v) (v:=.ref H1.length);have ap:H1++[.lst [.int x],.dic (putW l (.inr v) (.ref H1.length))]=(H1++[.lst [.int x]])++[.dic (putW l (.inr v) (.ref H1.length))]:=by rw[kE]; rfl
   have L:LR na (H1++[.lst [.int x],.dic (putW l (.inr v) (.ref H1.length))]) (ca++[H1.length]) (s+4) l env:=by
    rw[ap];exact LR.mono (H:=H1++[MO.lst [.int x]]) (ca:=ca) (b:=s) d3 (zaH _) (jh _ _) ∅
   have at1:(H1++[.lst [.int x],.dic (putW l (.inr v) (.ref H1.length))]:MH)[H1.length+1]?=some (.dic (putW l (.inr v) (.ref H1.length))):=by
    rw[zE ∅,show H1.length+1-H1.length=1 by omega];rfl
   have cc:(ca++[H1.length])[cs.length]?=some H1.length:=by rw[<-S1'.cl]; exact at0 _ _
   refine⟨[.lst [.int x],.dic (putW l (.inr v) (.ref H1.length))],ca++[H1.length],.ref (H1.length+1),do_own S1'.g hw d1 ∅,?_,(L.put (v:=v) (.cell cc)).ev at1 ∅ ∅,λn hn=>?_⟩
   .rw[ap]
    exact((S1'.newc x).app _).more ∅
   .rcases zV.mp hn with z | z
    .exact .inl z
    .simp at z
     exact .inr ∅
 | @call pd i as bs r xs _ _ _ hp hri hx ha hb=>
  have rl:=hr.l i r hri;exact zar (xs:=xs) (d:=.call i as bs) S hx (by simp only[D.first]; omega) hp rfl w15 hs λX hw S1' dp=>by
   have E1:=E.mono dp (zR _) (zj _);have h1:=hnaX (.lst (wsW ws')) X;generalize H.set nw (.lst (wsW ws'))++X=H1 at S1' E1 h1 ⊢;have l0:=zcv ((r.ns.zip xs).map λp=>(.inr p.1,.int p.2)) [];have l1:=zgX (kw:=kw) (r.hs.zip (toWs bs)) (cL0 (r.ns.zip xs));rw[zH,qg,zP] at l0;rw[qg] at l1;unfold cL0 at l1;have L0:LR na (H1++[.dic (cL1 kw (r.hs.zip (toWs bs)) (cL0 (r.ns.zip xs)))]) ca (s+4) [] []:=λv x h=>by cases h
   have E2:=E1.mono (b':=s+4) (zaH [.dic (cL1 kw (r.hs.zip (toWs bs)) (cL0 (r.ns.zip xs)))]) (zR _) ∅;have L1:=LR.hds E2 r.hs bs (LR.ints (r.ns.zip xs) L0);have dc:=do_call (F:=step F) (i:=i) (as:=as) (bs:=bs) (r:=r) (xs:=xs) (kw:=kw) S1'.g hw (ze4 hri) ∅ ∅;simp only[toW] at dc;refine⟨[.dic (cL1 kw (r.hs.zip (toWs bs)) (cL0 (r.ns.zip xs)))],ca,.ref H1.length,dc,(S1'.app _).more ∅,LR.ev L1 (at0 _ _) ∅ ?_,λn hn=>.inl hn⟩;omega
end
noncomputable def okT:Tch->Prop
 | .read v=>v∈SH
 | .write v _=>v∈SH
 | _=>True
inductive Ac(na:Nat)(rs:List Rule)(H:MH)(nd ns nw:Nat)(ca:List Nat)(s:Nat)(T:Tr Int)(c:Nat):Prop
 | mk {st:List W} {stk:List Stp} {ws cs:List Int} (S:Sim na rs H nd ns nw ca s st stk ws cs .non) (R:Rep rs stk ws cs T c)
inductive Rs(na:Nat)(rs:List Rule)(H:MH)(nd ns nw:Nat)(ca:List Nat)(s:Nat):Tr Int->Nat->W->Prop
 | ret {st:List W} {ws cs:List Int} {v:Int} {c:Nat} (S:Sim na rs H nd ns nw ca s st [] (v::ws) cs .non):Rs na rs H nd ns nw ca s (.ret v) c .non
 | tch {st:List W} {stk:List Stp} {ws cs:List Int} {t:Tch} {k:Int->Tr Int} {c:Nat} (o:okT t) (S:Sim na rs H nd ns nw ca s st stk ws cs (tW t)) (R:∀v,Rep rs stk (v::ws) cs (k v) c):Rs na rs H nd ns nw ca s (.tch t k) c (tW t)
def zpc(h:S1 rs b d env ws cs (.tch t ws')):okT t:=by
 cases h with
 | readS h=>exact h
 | ask=>trivial
 | writeS h=>exact h
 | say=>trivial
def Fm.trans2{H:MH}(a:Fm (nd::ns::nw::ca) H H')(b:Fm (nd::ns::nw::ca') H' H'')(h:∀n∈ca',n∈ca\/H.length<=n):Fm (nd::ns::nw::ca) H H'':=
 ⟨zQ a.l b.l,λn o hn e=>b.k n o (λz=>by
  simp only[zb,j8] at hn z;rcases z with z | z | z | z
  .exact hn.1 z
  .exact hn.2.1 z
  .exact hn.2.2.1 z
  .rcases h n z with y | y
   .exact hn.2.2.2 y
   .have:=xO e; omega) (a.k n o hn e)⟩
noncomputable abbrev goC:MT:=(zbC (tVal (eOp gtW (xK lenW [eFld flds "steps" (eVar 0)]) (eC (.int 0)))) (tVal (eOp (uY true) (eFld flds "touch_ahead" (eVar 0)) (eC .non))))
noncomputable def goB(F:Fs):MS:=(sSeq (sAsg (xX popM (eFld flds "steps" (eVar 0)) []) (gNm 1))
 (xT (xQ (mt F) "take_step" (eVar 0) [eOp ixW (eVar 1) (eC (.int 0)),eOp ixW (eVar 1) (eC (.int 1)),eOp ixW (eVar 1) (eC (.int 2))])))
theorem zfu(F:Fs):aW F=zav goC (goB F):=rfl
section
variable{na:Nat}{rs:List Rule}{H:MH}{nd ns nw:Nat}{ca:List Nat}{s:Nat}{F:Fs}
def zcM{wo:List W}(g:Dg H nd ns nw rl [] wo t):goC [some (.ref nd),o] H=some (false,H):=by
 have e1:=g.fS;have e2:=g.s;simp![eFld,e1,lenW,getL,e2,cmpI]
def zgP{wo:List W}(g:Dg H nd ns nw rl st wo .non)(h:st≠[]):goC [some (.ref nd),o] H=some (true,H):=by
 have e1:=g.fS;have e2:=g.s;have e3:=g.fA;cases st with
 | nil=>exact absurd rfl h
 | cons x st=>
  have q:(0:Int)<(st.length:Int)+1:=by omega
  simp![eFld,e1,lenW,getL,e2,cmpI,q,e3,uY]
def zlH{wo:List W}(g:Dg H nd ns nw rl st wo (tW tt)):goC [some (.ref nd),o] H=some (false,H):=by
 cases st with
 | nil=>exact zcM g
 | cons x st=>
  have e1:=g.fS;have e2:=g.s;have e3:=g.fA;have q:(0:Int)<(st.length:Int)+1:=by omega
  cases tt<;>simp![eFld,e1,lenW,getL,e2,cmpI,q,e3,uY,tW]
def zio(S:Sim na rs H nd ns nw ca s st ((pd,d,env)::stk) ws cs .non)
  (h:∀H1 st1 kw,Sim na rs H1 nd ns nw ca s st1 stk ws cs .non->EvR na H1 ca s env kw->H1.length=H.length->Took F na rs H1 nd ns nw ca s pd d kw stk' ws' cs' t') :
  ∃H' ca' st' o',goB (step (step (step (step F)))) [some (.ref nd),o] H=some (.nx [some (.ref nd),o'],H')/\Sim na rs H' nd ns nw ca' (s+4) st' stk' ws' cs' t'/\Fm (nd::ns::nw::ca) H H'/\∀n∈ca',n∈ca\/H.length<=n:=by
 generalize hst:st=st0 at S;cases S.sr with
 | @cons _ _ _ kw _ st1 e r=>
  have l1:=S.l1;simp only[zm] at l1;have S1':=S.steps (st':=st1) (stk':=stk) r ∅;have E1:=e.mono (zaJ (na:=na) (o':=.lst st1) S.g.s (λ_=>nofun)) (zR _) (zj _);obtain⟨H',ca',st',e1,S2,fm,hc⟩:=h _ _ kw S1' E1 (by rw[jb]);refine⟨H',ca',st',some (.tup [.bl pd,toW d,kw]),?_,S2,(Fm.set (by simp)).trans fm,λn hn=>by have:=hc n hn; rw[jb] at this; exact this⟩;unfold goB;have f1:=S.g.fS;have f2:=S.g.s;have lp:(st1++[W.tup [.bl pd,toW d,kw]])[(st1++[W.tup [.bl pd,toW d,kw]]).length-1]?=some (.tup [.bl pd,toW d,kw]):=by simp
  rw[xM (ρ':=[some (.ref nd),some (.tup [.bl pd,toW d,kw])]) (h':=H.set ns (.lst st1)) (by
   simp only[sAsg,xX,bnd,eFld,eVar,zq,f1,getL,f2,vL,kI,xU,popM,lp,List.dropLast_concat,gNm]
   rfl)]
  refine uF (w:=.non) ?_;rw[uQ (F:=step (step (step (step F)))) S1'.g.d (noF ⋯ ⋯ ⋯ ⋯) (zlv _) (mo:=eVar 0) rfl (ws:=[.bl pd,toW d,kw]) (H1:=H.set ns (.lst st1)) (by simp only[xU,bnd,eOp,eVar,eC,zG,zq,ix0,ix1,ix2])];exact e1
def zme(hr:RsOk rs)(h0:10<=s){T:Tr Int}{c:Nat}(R:Rep rs stk ws cs T c):∀{H:MH} {ca:List Nat} {s:Nat} {st:List W} (o:Option W),Sim na rs H nd ns nw ca s st stk ws cs .non->s+4*c+100<=cap->10<=s->na<H.length->
  ∃n H' ca' s' c' t' o',uw goC (goB (step (step (step (step F))))) n [some (.ref nd),o] H=some (.nx [some (.ref nd),o'],H')/\Rs na rs H' nd ns nw ca' s' T c' t'/\Fm (nd::ns::nw::ca) H H'/\(∀n∈ca',n∈ca\/H.length<=n)/\s'+4*c'<=s+4*c/\s<=s'/\(t'≠.non->s+4<=s'):=by
 induction R with
 | @done v ws cs c=>
  intro H ca s st o S hs h8 hna;have:st=[]:=jN.mp (by rw[S.sr.len]; rfl);subst this;have e:=zcM (o:=o) S.g;refine⟨1,H,ca,s,c,.non,o,?_,.ret S,Fm.refl,λn hn=>.inl hn,zj _,zj _,λz=>absurd rfl z⟩;unfold uw;rw[e]
 | @gg b d env stk ws cs p ws' cs' T c h r ih=>
  intro H ca s st o S hs h8 hna;have ne:st≠[]:=λz=>by have:=S.sr.len; rw[z] at this; simp at this
  have e:=zgP (o:=o) S.g ne;obtain⟨H1,ca1,st1,o1,e1,S2,fm,hc⟩:=zio (F:=F) (o:=o) (stk':=p++stk) (ws':=ws') (cs':=cs') (t':=.non) S λH1 st1 kw S1' E1 hl=>zmj hr S1' E1 ∅ h8 ∅ h
  obtain⟨n,H',ca',s',c',t',o',e2,R2,fm2,hc2,b1,b2,b3⟩:=ih o1 S2 ∅ ∅ (zM hna fm.l);refine⟨n+1,H',ca',s',c',t',o',?_,R2,fm.trans2 fm2 hc,λn hn=>?_,by omega,by omega,λz=>by have:=b3 z; omega⟩
  .unfold uw
   rw[e];simp only;rw[e1];exact e2
  .rcases hc2 n hn with z | z
   .exact hc n z
   .exact .inr (zQ fm.l z)
 | @tch b d env stk ws cs t ws' k c h r ih=>
  intro H ca s st o S hs h8 hna;have ne:st≠[]:=λz=>by have:=S.sr.len; rw[z] at this; simp at this
  have e:=zgP (o:=o) S.g ne;obtain⟨H1,ca1,st1,o1,e1,S2,fm,hc⟩:=zio (F:=F) (o:=o) (stk':=stk) (ws':=ws') (cs':=cs) (t':=tW t) S λH1 st1 kw S1' E1 hl=>zkJ S1' h
  have e2:=zlH (o:=o1) S2.g;refine⟨2,H1,ca1,s+4,c,tW t,o1,?_,.tch (zpc h) S2 r,fm,hc,by omega,by omega,λ_=>zj _⟩;unfold uw;rw[e];simp only;rw[e1];simp only;unfold uw;rw[e2]
theorem f_go(F:Fs):(step F).aH=gc (fnM 1 1 (aW F)):=rfl
def s_go(hr:RsOk rs){T:Tr Int}{c:Nat}(A:Ac na rs H nd ns nw ca s T c)(hs:s+4*c+100<=cap)(h8:10<=s)(hna:na<H.length) :
  ∃H' ca' s' c' t',(step (step (step (step (step F))))).aH [.ref nd] H=some (.non,H')/\Rs na rs H' nd ns nw ca' s' T c' t'/\Fm (nd::ns::nw::ca) H H'/\(∀n∈ca',n∈ca\/H.length<=n)/\s'+4*c'<=s+4*c/\s<=s'/\(t'≠.non->s+4<=s'):=by
 obtain⟨S,R⟩:=A;rename_i st stk ws cs;cases stk with
 | nil=>
  cases R with
  | @done v ws _ _=>
  have:st=[]:=jN.mp (by rw[S.sr.len]; rfl);subst this;have e:=zcM (o:=none) S.g;refine⟨H,ca,s,c,.non,?_,.ret S,Fm.refl,λn hn=>.inl hn,zj _,zj _,λz=>absurd rfl z⟩;rw[f_go];refine zbd (uU (ρ:=[some (.ref nd),none]) (ρ':=[some (.ref nd),none]) rfl rfl ?_) (by unfold low; rfl);rw[zfu];refine za7 (n:=1) ?_;unfold uw;rw[e]
 | cons x stk=>
  obtain⟨n,H',ca',s',c',t',o',e,R2,fm,hc,b1,b2,b3⟩:=zme (F:=F) hr h8 R none S hs h8 hna;have raw:fnM 1 1 (aW (step (step (step (step F))))) [.ref nd] H=some (.non,H'):=by
   refine uU (ρ:=[some (.ref nd),none]) (ρ':=[some (.ref nd),o']) rfl rfl ?_;rw[zfu];exact za7 e
  refine⟨H',ca',s',c',t',?_,R2,fm,hc,b1,b2,b3⟩;rw[f_go];cases R2 with
  | ret S2=>exact zfc raw S S2 (.inr (.inl (by simp)))
  | tch o S2 R=>exact zfc raw S S2 (.inr (.inr (zdU _)))
end
structure Rm where
 st:Str->Int
 ans:List Int
 sp:List Int
 k:Nat
noncomputable def upS(st:Str->Int)(v:Str)(x:Int):Str->Int:=λu=>if u=v then x else st u
noncomputable def doT:Tch->Rm->Int×Rm
 | .read v,r=>(r.st v,r)
 | .write v x,r=>(x,{ r with st:=upS r.st v x })
 | .say x,r=>(x,{ r with sp:=r.sp++[x] })
 | .ask,r=>(r.ans.getD r.k 0,{ r with k:=r.k+1 })
noncomputable def dW:Tch->Int->W
 | .read v,x=>.tup [.str "read",.str v,.int x]
 | .write v y,_=>.tup [.str "write",.str v,.int y]
 | .say y,_=>.tup [.str "say",.int y]
 | .ask,x=>.tup [.str "ask",.int x]
noncomputable def shW(st:Str->Int):List (Key×W):=SH.map λv=>((.inr v:Key),W.int (st v))
def ziP(h:v∈SH):valW (shW st) (.inr v)=some (.int (st v)):=by
 have:∀l:List Str,v∈l->valW (l.map λv=>((.inr v:Key),W.int (st v))) (.inr v)=some (.int (st v)):=by
  intro l;induction l with
  | nil=>intro h; simp at h
  | cons u l ih=>
   intro h;rw[zy,zaE];by_cases q:u=v
   .subst q; simp
   .have:¬(Sum.inr u:Key)=.inr v:=λz=>q (yq z)
    simp only[this,jm];exact ih ((zb.mp h).resolve_left (kY q))
 exact this SH h
def zob(h:v∈SH):putW (shW st) (.inr v) (.int x)=shW (upS st v x):=by
 have a:((shW st).any λkv=>decide (kv.1=(.inr v:Key)))=true:=by
  rw[qt];exact⟨(.inr v,.int (st v)),kZ.mpr ⟨v,h,rfl⟩,by simp⟩
 unfold putW;rw[zX a];unfold shW;rw[vf];refine List.map_congr_left λu _=>?_
 simp only[Function.comp];unfold upS;by_cases q:u=v
 .subst q; simp
 .have:¬(Sum.inr u:Key)=.inr v:=λz=>q (yq z)
  simp only[this,jm,q]
noncomputable def RmR(H:MH)(nr na np:Nat)(r:Rm):Prop:=Rg H nr na np (shW r.st) (r.ans.map .int) (r.sp.map .int) r.k
theorem uL{i:Int}:low m (.int i)=true:=by unfold low; rfl
noncomputable def Ap(A B:List Nat):Prop:=∀n∈A,n∉B
def zh6{H:MH}(f:Fm A H H')(h:∀a∈A,a≠na->∀l,H[a]?≠some (.dic l)):DicP na H H':=λn l hn e=>by
 by_cases q:n∈A
 .exact absurd e (h n q hn l)
 .exact f.k n _ q e
section
variable{na:Nat}{rs:List Rule}{H H':MH}{nd ns nw nr np:Nat}{ca:List Nat}{s:Nat}{st:List W}{stk:List Stp}{ws cs:List Int}{t:W}{F:Fs}{r:Rm}
def Sim.nodic(S:Sim na rs H nd ns nw ca s st stk ws cs t):∀a∈nd::ns::nw::ca,a≠na->∀l,H[a]?≠some (.dic l):=λa ha _ l=>by
 simp only[zb] at ha;rcases ha with rfl | rfl | rfl | ha
 .rw[S.g.d]; exact nofun
 .rw[S.g.s]; exact nofun
 .rw[S.g.w]; exact nofun
 .obtain⟨c,hc⟩:=jA.mp ha
  have h1:c<cs.length:=by rw[<-S.cl]; exact xO hc
  rw[S.ce c a cs[c] hc (zA h1)];exact nofun
def Sim.frame(S:Sim na rs H nd ns nw ca s st stk ws cs t)(f:Fm B H H')(p:DicP na H H')(ap:Ap (nd::ns::nw::ca) B):Sim na rs H' nd ns nw ca s st stk ws cs t:=
 ⟨⟨f.k _ _ (ap nd (by simp)) S.g.d,f.k _ _ (ap ns (by simp)) S.g.s,f.k _ _ (ap nw (by simp)) S.g.w,S.g.n1,S.g.n2,S.g.n3⟩,S.sr.mono p (zR _) (zj _),S.cl,λc n i a b=>f.k _ _ (ap n (by simp[jF a])) (S.ce c n i a b),S.cn,S.cx,S.l1,S.l2⟩
def RmR.frame(g:RmR H nr na np r)(f:Fm B H H')(ap:Ap [nr,na,np] B):RmR H' nr na np r:=
 ⟨f.k _ _ (ap nr (by simp)) g.r,f.k _ _ (ap na (by simp)) g.a,f.k _ _ (ap np (by simp)) g.p,g.n1,g.n2,g.n3⟩
def RmR.nodic(g:RmR H nr na np r):∀a∈[nr,na,np],a≠na->∀l,H[a]?≠some (.dic l):=λa ha hn l=>by
 simp only[zb,zc,zO] at ha;rcases ha with rfl | rfl | rfl
 .rw[g.r]; exact nofun
 .exact absurd rfl hn
 .rw[g.p]; exact nofun
def zmL(g:RmR H nr na np r)(o:okT tt)(hs:r.sp.length<cap)(ha:r.ans.length<=cap):∃H',(step (step F)).aY [.ref nr,tW tt] H=some (dW tt (doT tt r).1,H')/\RmR H' nr na np (doT tt r).2/\Fm [nr,na,np] H H'/\H'.length=H.length:=by
 cases tt with
 | read v=>exact⟨H,do_read g (ziP o) uL,g,Fm.refl,rfl⟩
 | write v x=>
  have c4:(4:Nat)<cap:=by decide
  have e:=do_write (F:=step F) (v:=v) (w:=.int x) g c4 uL;rw[zob o] at e;exact⟨_,e,g.shelves _,Fm.set (by simp),by rw[jb]⟩
 | say x=>
  have e:=do_say (F:=step F) (v:=.int x) g (by rw[zH]; exact hs) uL;refine⟨_,e,?_,Fm.set (by simp),by rw[jb]⟩;have:=g.spoken (r.sp.map .int++[.int x]);rw[show r.sp.map W.int++[.int x]=(r.sp++[x]).map .int by simp] at this ⊢;exact this
 | ask=>
  have ea:zbb (r.ans.map W.int) r.k=.int (r.ans.getD r.k 0):=by
   unfold zbb;rw[je,jj];cases r.ans[r.k]?<;>rfl
  have e:=do_ask (F:=F) g (by rw[ea]; exact uL) (by rw[zH]; exact ha);rw[ea] at e;exact⟨_,e,g.asks (r.k+1),Fm.set (by simp),by rw[jb]⟩
def noR(a:(m==("shelves":Str))=false)(b:(m==("answers":Str))=false)(c:(m==("spoken":Str))=false)(d:(m==("asks":Str))=false):(roF na np ans k).lookup m=none:=by
 simp only[kJ,yu,a,b,c,d]
def zlr:ixW (dW tt (doT tt r).1) (.int (-1)) h=some (.int (doT tt r).1,h):=by
 cases tt<;>simp[dW,doT,ixW,atI,ixN]
def zoo:low m (dW tt x)=true:=by
 cases tt<;>simp[dW,low,lows]
theorem f_touch(F:Fs):(step F).aQ=gc (fnM 2 1 (aV F)):=rfl
theorem zg4(S:Sim na rs H nd ns nw ca s st stk ws cs (tW tt))(g:RmR H nr na np r)(o:okT tt)(hs:r.sp.length<cap)(ha:r.ans.length<=cap)(hw:s+100<=cap)(ap:Ap (nd::ns::nw::ca) [nr,na,np]) :
  ∃H',(step (step (step F))).aQ [.ref nd,.ref nr] H=some (dW tt (doT tt r).1,H')/\Sim na rs H' nd ns nw ca (s+1) st stk ((doT tt r).1::ws) cs .non/\RmR H' nr na np (doT tt r).2/\Fm (nd::ns::nw::ca++[nr,na,np]) H H'/\H'.length=H.length:=by
 obtain⟨H1,e1,g1,f1,l1⟩:=zmL (F:=F) g o hs ha;have S1':=S.frame f1 (zh6 f1 g.nodic) ap;have S2:=S1'.ahead .non;have wl:=S2.l2;have S3:=(S2.more (s':=s+1) ∅).worths (ws':=(doT tt r).1::ws) (by simp; omega);have f2:Fm [nd,nw] H1 ((H1.set nd (.ins 0 (doF (rsW rs) ns nw .non))).set nw (.lst (wsW ((doT tt r).1::ws)))):=(Fm.set (by simp)).trans (Fm.set (by simp));have ap2:Ap [nr,na,np] [nd,nw]:=λn hn z=>by
  simp only[zb,zc,zO] at z;rcases z with rfl | rfl
  .exact ap _ (by simp) hn
  .exact ap _ (by simp) hn
 refine⟨_,?_,S3,g1.frame f2 ap2,(f1.sub (λn hn=>by simp only[zV,jk,zb]; simp only[zb] at hn; exact .inr (.inr (.inr (.inr hn))))).trans (f2.sub (λn hn=>by simp only[zb,zc,zO] at hn; rcases hn with rfl | rfl<;>simp)),by rw[jb,jb,l1]⟩;rw[f_touch];have ch:((H1.set nd (.ins 0 (doF (rsW rs) ns nw .non))).set nw (.lst (wsW ((doT tt r).1::ws))))[nd]?≠some (.ins 0 (doF (rsW rs) ns nw (tW tt))):=by
  rw[S3.g.d];intro z;injection z with z;injection z with _ z;simp only[jO,wR] at z;exact zdU tt z.2.2.2.1.2.symm
 refine uP (zaf (ρ:=[some (.ref nd),some (.ref nr),none]) rfl rfl ?_) S.g.d ch;unfold aV;have fa:=S.g.fA;have em:xQ (mt (step (step F))) "do" (eVar 1) [eFld flds "touch_ahead" (eVar 0)] [some (.ref nd),some (.ref nr),none] H=some (dW tt (doT tt r).1,H1):=by
  rw[uQ (F:=step (step F)) g.r (noR ⋯ ⋯ ⋯ ⋯) (zoX _) (mo:=eVar 1) rfl (ws:=[tW tt]) (H1:=H) (by simp only[xU,bnd,eFld,eVar,zq,fa])];exact e1
 rw[xM (ρ':=[some (.ref nd),some (.ref nr),some (dW tt (doT tt r).1)]) (h':=H1) (by unfold sAsg; rw[em]; rfl)];have pa:=S1'.g.pA .non;rw[xM (ρ':=[some (.ref nd),some (.ref nr),some (dW tt (doT tt r).1)]) (h':=H1.set nd (.ins 0 (doF (rsW rs) ns nw .non))) (by simp only[sAsg,eC,gFld,bnd,eVar,zq,pa])];have br:=zcH (F:=step F) (mo:=eVar 0) (m:=eOp ixW (eVar 2) (eUn negW (eC (.int 1)))) (ρ:=[some (.ref nd),some (.ref nr),some (dW tt (doT tt r).1)]) (v:=.int (doT tt r).1) S2.g (by rw[zbU]; omega) rfl (by simp only[eOp,eUn,bnd,eVar,eC,zG,zq,negW,zlr]);rw[xM (uF br),zb6];rfl
end
noncomputable def runT{α:Type}:Tr α->Rm->α×Rm×List (Tch×Int)
 | .ret a,r=>(a,r,[])
 | .tch t k,r=>((runT (k (doT t r).1) (doT t r).2).1,(runT (k (doT t r).1) (doT t r).2).2.1,(t,(doT t r).1)::(runT (k (doT t r).1) (doT t r).2).2.2)
noncomputable def dWs(l:List (Tch×Int)):List W:=l.map λp=>dW p.1 p.2
noncomputable def tC:MT:=(tVal (eOp (uY false) (eFld flds "touch_ahead" (eVar 0)) (eC .non)))
noncomputable def tB(F:Fs):MS:=(sSeq (xT (xX ut (eVar 2) [xQ (mt F) "do_touch" (eVar 0) [eVar 1]]))
 (xT (xQ (mt F) "go_on" (eVar 0) [])))
theorem zdZ(t:Tch)(r:Rm):(doT t r).2.ans=r.ans:=by cases t<;>rfl
def zfK(t:Tch)(r:Rm):(doT t r).2.sp.length<=r.sp.length+1:=by cases t<;>simp[doT]
section
variable{na:Nat}{rs:List Rule}{H:MH}{nd ns nw nr np nt:Nat}{ca:List Nat}{s:Nat}{F:Fs}{r:Rm}
def zhh{wo:List W}(g:Dg H nd ns nw rl st wo .non):tC (some (.ref nd)::ρ) H=some (false,H):=by
 have e3:=g.fA;simp![tC,eFld,e3,uY]
def zi8{wo:List W}(g:Dg H nd ns nw rl st wo (tW tt)):tC (some (.ref nd)::ρ) H=some (true,H):=by
 have e3:=g.fA;cases tt<;>simp![tC,eFld,e3,uY,tW]
def m_go{wo:List W}(g:Dg H nd ns nw rl st wo t)(e1:mo ρ H=some (.ref nd,H))(e:(step F).aH [.ref nd] H=some (.non,H')):xT (xQ (mt (step F)) "go_on" mo []) ρ H=some (.nx ρ,H'):=by
 refine uF (w:=.non) ?_;rw[uQ (F:=step F) g.d (noF ⋯ ⋯ ⋯ ⋯) (zpy _) e1 (ws:=[]) (H1:=H) rfl];exact e
structure Lp(H:MH)(na nd ns nw nr np nt:Nat)(ca:List Nat)(r:Rm)(acc:List W):Prop where
 g:RmR H nr na np r
 a:H[nt]?=some (.lst acc)
 ap:Ap (nd::ns::nw::ca) [nr,na,np]
 n1:nt∉nd::ns::nw::ca
 n2:nt∉[nr,na,np]
 an:r.ans.length<=cap
def Lp.lt(L:Lp H na nd ns nw nr np nt ca r acc):∀n∈[nr,na,np],n<H.length:=λn hn=>by
 simp only[zb,zc,zO] at hn;rcases hn with rfl | rfl | rfl
 .exact xO L.g.r
 .exact xO L.g.a
 .exact xO L.g.p
def Lp.mv(L:Lp H na nd ns nw nr np nt ca r acc)(fm:Fm (nd::ns::nw::ca) H H')(hc:∀n∈ca',n∈ca\/H.length<=n):Lp H' na nd ns nw nr np nt ca' r acc:=by
 have ap2:Ap [nr,na,np] (nd::ns::nw::ca):=λn hn z=>L.ap n z hn
 refine⟨L.g.frame fm ap2,fm.k _ _ L.n1 L.a,λn hn z=>?_,λz=>?_,L.n2,L.an⟩
 .simp only[zb] at hn
  rcases hn with h | h | h | h
  .exact L.ap n (by simp[h]) z
  .exact L.ap n (by simp[h]) z
  .exact L.ap n (by simp[h]) z
  .rcases hc n h with y | y
   .exact L.ap n (by simp[y]) z
   .have:=L.lt n z; omega
 .have n1:=L.n1
  simp only[zb,j8] at z n1;rcases z with h | h | h | h
  .exact n1.1 h
  .exact n1.2.1 h
  .exact n1.2.2.1 h
  .rcases hc nt h with y | y
   .exact n1.2.2.2 y
   .have:=xO L.a; omega
theorem zf6(hr:RsOk rs):∀(T:Tr Int) {H:MH} {ca:List Nat} {s c:Nat} {t:W} {r:Rm} {acc:List W},Rs na rs H nd ns nw ca s T c t->Lp H na nd ns nw nr np nt ca r acc->10<=s->s+200<=cap->(t≠.non->s+5*c+201<=cap/\r.sp.length+c+1<cap/\acc.length+c+1<cap)->
  ∃n H' ca' s',uw tC (tB (step (step (step (step (step F)))))) n [some (.ref nd),some (.ref nr),some (.ref nt)] H=some (.nx [some (.ref nd),some (.ref nr),some (.ref nt)],H')/\Rs na rs H' nd ns nw ca' s' (.ret (runT T r).1) 0 .non/\Lp H' na nd ns nw nr np nt ca' (runT T r).2.1 (acc++dWs (runT T r).2.2)/\Fm (nd::ns::nw::(ca++[nr,na,np,nt])) H H'/\(∀n∈ca',n∈ca\/H.length<=n)/\s<=s'/\s'+200<=cap
 | .ret v,H,ca,s,c,t,r,acc,R,L,h8,h2,hb=>by
  cases R with
  | ret S=>
  refine⟨1,H,ca,s,?_,.ret S,by simpa[runT,dWs] using L,Fm.refl,λn hn=>.inl hn,zj _,h2⟩;unfold uw;rw[zhh S.g]
 | .tch tt k,H,ca,s,c,t,r,acc,R,L,h8,h2,hb=>by
  cases R with
  | @tch st stk ws cs _ _ _ o S R=>
  obtain⟨b1,b2,b3⟩:=hb (zdU tt);obtain⟨H1,e1,S1',g1,f1,l1⟩:=zg4 (F:=step (step F)) S L.g o ∅ L.an ∅ L.ap
  have a1:H1[nt]?=some (.lst acc):=f1.k _ _ (by
   have n1:=L.n1;have n2:=L.n2;simp only[zb,zV,jk] at n1 n2 ⊢;rintro(h | h | h | h | h)
   .exact n1 (.inl h)
   .exact n1 (.inr (.inl h))
   .exact n1 (.inr (.inr (.inl h)))
   .exact n1 (.inr (.inr (.inr h)))
   .exact n2 h) L.a
  have f2:Fm [nt] H1 (H1.set nt (.lst (acc++[dW tt (doT tt r).1]))):=Fm.set (by simp);have apn:Ap (nd::ns::nw::ca) [nt]:=λn hn z=>by simp only[zb,zc,zO] at z; exact L.n1 (z▸hn)
  have apr:Ap [nr,na,np] [nt]:=λn hn z=>by simp only[zb (a:=n) (b:=nt),zc,zO] at z; exact L.n2 (z▸hn)
  have S2:=S1'.frame f2 (zaJ a1 (λ_=>nofun)) apn;have L2:Lp (H1.set nt (.lst (acc++[dW tt (doT tt r).1]))) na nd ns nw nr np nt ca (doT tt r).2 (acc++[dW tt (doT tt r).1]):=⟨g1.frame f2 apr,zK (xO a1),L.ap,L.n1,L.n2,by rw[zdZ]; exact L.an⟩;have lna:na<(H1.set nt (.lst (acc++[dW tt (doT tt r).1]))).length:=xO L2.g.a;obtain⟨H3,ca3,s3,c3,t3,e3,R3,f3,hc3,q1,q2,q3⟩:=s_go (F:=F) hr (.mk S2 (R (doT tt r).1)) ∅ ∅ lna;have L3:=L2.mv f3 hc3;have spl:=zfK tt r
  obtain⟨n,H',ca',s',e4,R4,L4,f4,hc4,q4,q5⟩:=zf6 hr (k (doT tt r).1) R3 L3 ∅ ∅ (λz=>by
   have:=q3 z;refine⟨by omega,by omega,?_⟩;simp only[zF,zm,zP]
   omega)
  have len1:H.length=(H1.set nt (.lst (acc++[dW tt (doT tt r).1]))).length:=by rw[jb,l1]
  have hc5:∀n∈ca3,n∈ca\/H.length<=n:=λn hn=>by have:=hc3 n hn; rw[<-len1] at this; exact this
  refine⟨n+1,H',ca',s',?_,R4,?_,?_,λn hn=>?_,by omega,q5⟩
  .unfold uw
   rw[zi8 S.g];simp only;have body:tB (step (step (step (step (step F))))) [some (.ref nd),some (.ref nr),some (.ref nt)] H=some (.nx [some (.ref nd),some (.ref nr),some (.ref nt)],H3):=by
    unfold tB;have ac:acc.length<cap:=by omega
    have em:xQ (mt (step (step (step (step (step F)))))) "do_touch" (eVar 0) [eVar 1] [some (.ref nd),some (.ref nr),some (.ref nt)] H=some (dW tt (doT tt r).1,H1):=by
     rw[uQ (F:=step (step (step (step (step F))))) S.g.d (noF ⋯ ⋯ ⋯ ⋯) (zfQ _) (mo:=eVar 0) rfl (ws:=[.ref nr]) (H1:=H) rfl];exact e1
    have la:=L.a
    rw[xM (ρ':=[some (.ref nd),some (.ref nr),some (.ref nt)]) (h':=H1.set nt (.lst (acc++[dW tt (doT tt r).1]))) (uF (w:=.non) (by
     unfold xX;simp only[bnd,eVar,zG,zq,getL,la,vL,kI,xU];rw[em]
     simp only[ut,a1,ac,kI]))]
    exact m_go S2.g rfl e3
   rw[body];exact e4
  .simp only[runT]
   have:acc++dWs ((tt,(doT tt r).1)::(runT (k (doT tt r).1) (doT tt r).2).2.2)=(acc++[dW tt (doT tt r).1])++dWs (runT (k (doT tt r).1) (doT tt r).2).2.2:=by simp[dWs]
   rw[this];exact L4
  .have g1:Fm (nd::ns::nw::(ca++[nr,na,np,nt])) H H1:=f1.sub (λn hn=>(zV (s:=nd::ns::nw::ca) (t:=[nr,na,np])).mp hn |>.elim (λh=>jQ [nr,na,np,nt] h) (λh=>jd (nd::ns::nw::ca) (jQ [nt] h)))
   have g2:Fm (nd::ns::nw::(ca++[nr,na,np,nt])) H (H1.set nt (.lst (acc++[dW tt (doT tt r).1]))):=g1.trans (f2.sub (λn hn=>jd (nd::ns::nw::ca) (jd [nr,na,np] hn)));have g3:Fm (nd::ns::nw::(ca++[nr,na,np,nt])) H H3:=g2.trans (f3.sub (λn hn=>jQ [nr,na,np,nt] hn));refine⟨zQ g3.l f4.l,λn o hn e=>f4.k n o (λz=>?_) (g3.k n o hn e)⟩;simp only[zb,zV,zc,zO,j8] at hn z;rcases z with h | h | h | h | h
   .exact hn.1 h
   .exact hn.2.1 h
   .exact hn.2.2.1 h
   .rcases hc5 n h with y | y
    .exact hn.2.2.2.1 y
    .have:=xO e; omega
   .rcases h with h | h | h | h
    .exact hn.2.2.2.2.1 h
    .exact hn.2.2.2.2.2.1 h
    .exact hn.2.2.2.2.2.2.1 h
    .exact hn.2.2.2.2.2.2.2 h
  .rcases hc4 n hn with y | y
   .exact hc5 n y
   .exact .inr (by have:=f3.l; omega)
end
noncomputable def stepT:Tr Int->Rm->Tr Int×Rm
 | .ret v,r=>(.ret v,r)
 | .tch t k,r=>(k (doT t r).1,(doT t r).2)
section
variable{na:Nat}{rs:List Rule}{H:MH}{nd ns nw nr np:Nat}{ca:List Nat}{s c:Nat}{F:Fs}{r:Rm}{T:Tr Int}
theorem f_turn(F:Fs):(step F).bw=gc (fnM 2 0 (bh F)):=rfl
theorem f_tte(F:Fs):(step F).aC=gc (fnM 2 1 (aD F)):=rfl
theorem tteR(F:Fs):aD F=sSeq (sAsg (xK lstW []) (gNm 2)) (sSeq (xT (xQ (mt F) "go_on" (eVar 0) [])) (sSeq (zav tC (tB F)) (sRet (eVar 2)))):=rfl
def zoC(g:RmR H nr na np r)(ap:Ap (nd::ns::nw::ca) [nr,na,np])(hc:∀n∈ca',n∈ca\/H.length<=n):Ap (nd::ns::nw::ca') [nr,na,np]:=λn hn z=>by
 simp only[zb (a:=n) (b:=nd),zb (a:=n) (b:=ns),zb (a:=n) (b:=nw)] at hn;rcases hn with h | h | h | h
 .exact ap n (by simp[h]) z
 .exact ap n (by simp[h]) z
 .exact ap n (by simp[h]) z
 .rcases hc n h with y | y
  .exact ap n (by simp[y]) z
  .have h1:=xO g.r
   have h2:=xO g.a;have h3:=xO g.p;simp only[zb,zc,zO] at z;omega
def znT(hr:RsOk rs)(A:Ac na rs H nd ns nw ca s T c)(g:RmR H nr na np r)(ap:Ap (nd::ns::nw::ca) [nr,na,np])(hs:s+5*c+200<=cap)(h8:10<=s)(hp:r.sp.length+c<cap)(ha:r.ans.length<=cap) :
  ∃H' ca' s' c',(step (step (step (step (step (step F)))))).bw [.ref nd,.ref nr] H=some (.non,H')/\Ac na rs H' nd ns nw ca' s' (stepT T r).1 c'/\RmR H' nr na np (stepT T r).2/\Fm ((nd::ns::nw::ca)++[nr,na,np]) H H'/\(∀n∈ca',n∈ca\/H.length<=n)/\s'+5*c'<=s+5*c/\10<=s'/\(stepT T r).2.sp.length+c'<=r.sp.length+c/\(stepT T r).2.ans=r.ans:=by
 obtain⟨H1,ca1,s1,c1,t1,e1,R1,f1,hc1,q1,q2,q3⟩:=s_go (F:=F) hr A ∅ h8 (xO g.a);have f1':Fm ((nd::ns::nw::ca)++[nr,na,np]) H H1:=f1.sub λn hn=>jQ _ hn
 have g1:RmR H1 nr na np r:=g.frame f1 λn hn z=>ap n z hn
 obtain⟨S0,R0⟩:=A;rw[f_turn];have first:xT (xQ (mt (step (step (step (step (step F)))))) "go_on" (eVar 0) []) [some (.ref nd),some (.ref nr)] H=some (.nx [some (.ref nd),some (.ref nr)],H1):=m_go S0.g rfl e1
 cases R1 with
 | @ret st ws cs v c S=>
  refine⟨H1,ca1,s1,0,zbV (uU (ρ:=[some (.ref nd),some (.ref nr)]) (ρ':=[some (.ref nd),some (.ref nr)]) rfl rfl ?_),.mk S .done,g1,f1',hc1,by omega,by omega,by simp[stepT],rfl⟩;unfold bh;rw[xM first];exact zcR (zhh S.g)
 | @tch st stk ws cs tt k _ o S R=>
  have hq:=q3 (zdU tt);obtain⟨H2,e2,S2,g2,f2,l2⟩:=zg4 (F:=step (step F)) S g1 o ∅ ha ∅ (zoC g ap hc1);have spl:=zfK tt r;refine⟨H2,ca1,s1+1,c1,zbV (uU (ρ:=[some (.ref nd),some (.ref nr)]) (ρ':=[some (.ref nd),some (.ref nr)]) rfl rfl ?_),.mk S2 (R _),g2,?_,hc1,by omega,by omega,by simp only[stepT]; omega,by simp only[stepT]; exact zdZ tt r⟩
  .unfold bh
   rw[xM first];refine zfi (zi8 S.g) (uF (w:=dW tt (doT tt r).1) ?_);rw[uQ (F:=step (step (step (step (step F))))) S.g.d (noF ⋯ ⋯ ⋯ ⋯) (zfQ _) (mo:=eVar 0) rfl (ws:=[.ref nr]) (H1:=H1) rfl];exact e2
  .refine⟨zQ f1'.l f2.l,λn o hn e=>f2.k n o (λz=>?_) (f1'.k n o hn e)⟩
   rcases(zV (s:=nd::ns::nw::ca1) (t:=[nr,na,np])).mp z with z | z
   .simp only[zV,j8] at hn
    simp only[zb] at z;rcases z with h | h | h | h
    .exact hn.1 (by simp[h])
    .exact hn.1 (by simp[h])
    .exact hn.1 (by simp[h])
    .rcases hc1 n h with y | y
     .exact hn.1 (by simp[y])
     .have:=xO e; omega
   .exact hn (jd _ z)
def zmb(S:Sim na rs H nd ns nw ca s st [] ws cs t):(step F).aH [.ref nd] H=some (.non,H):=by
 have:st=[]:=jN.mp (by rw[S.sr.len]; rfl);subst this;have e:=zcM (o:=none) S.g;rw[f_go];refine zbV (uU (ρ:=[some (.ref nd),none]) (ρ':=[some (.ref nd),none]) rfl rfl ?_);rw[zfu];refine za7 (n:=1) ?_;unfold uw;rw[e]
def zfp(l:List (Tch×Int)):lows m (dWs l)=true:=uW λw hw=>by
 obtain⟨p,_,rfl⟩:=kZ.mp hw;exact zoo
noncomputable def zpu(H H':MH)(w:W)(l:List W):Prop:=w=.fls l\/∃n,w=.ref n/\H.length<=n/\H'[n]?=some (.lst l)
def zle(hr:RsOk rs)(A:Ac na rs H nd ns nw ca s T c)(g:RmR H nr na np r)(ap:Ap (nd::ns::nw::ca) [nr,na,np])(hs:s+5*c+200<=cap)(h8:10<=s)(hp:r.sp.length+c<cap)(ha:r.ans.length<=cap) :
  ∃w H' ca' s',(step (step (step (step (step (step F)))))).aC [.ref nd,.ref nr] H=some (w,H')/\zpu H H' w (dWs (runT T r).2.2)/\Rs na rs H' nd ns nw ca' s' (.ret (runT T r).1) 0 .non/\RmR H' nr na np (runT T r).2.1/\Fm ((nd::ns::nw::ca)++[nr,na,np]) H H'/\(∀n∈ca',n∈ca\/H.length<=n)/\10<=s'/\s'+200<=cap:=by
 obtain⟨S0,R0⟩:=A;rename_i st stk ws cs;rw[f_tte];have c0:(0:Nat)<=cap:=by decide
 have s1:sAsg (xK lstW []) (gNm 2) [some (.ref nd),some (.ref nr),none] H=some (.nx [some (.ref nd),some (.ref nr),some (.ref H.length)],H++[.lst []]):=by
  simp[sAsg,xK,xU,bnd,lstW,gNm]
 cases stk with
 | nil=>
  cases R0 with
  | @done v ws _ _=>
  refine⟨.fls [],H,ca,s,zin (n:=H.length) (h':=H++[.lst []]) (zaf (ρ:=[some (.ref nd),some (.ref nr),none]) rfl rfl ?_) (jh _ _) (zj _) (at0 _ _) (by unfold lows; rfl),.inl rfl,.ret S0,g,Fm.refl,λn hn=>.inl hn,h8,by omega⟩;have S1':=S0.app [.lst []];rw[tteR,xM s1,xM (m_go S1'.g rfl (zmb S1')),xM (ρ':=[some (.ref nd),some (.ref nr),some (.ref H.length)]) (h':=H++[.lst []]) (za7 (n:=1) (by unfold uw; rw[zhh S1'.g]))];rfl
 | cons x stk=>
  have S1':=S0.app [.lst []];have g1:RmR (H++[.lst []]) nr na np r:=g.frame (B:=[]) (Fm.app _) (λn _ z=>by simp at z);obtain⟨H1,ca1,s1',c1,t1,e1,R1,f1,hc1,q1,q2,q3⟩:=s_go (F:=F) hr (.mk S1' R0) ∅ h8 (by rw[zF]; have:=xO g.a; omega);have own_lt:∀n∈nd::ns::nw::ca,n<H.length:=λn hn=>by
   simp only[zb] at hn;rcases hn with rfl | rfl | rfl | hn
   .exact xO S0.g.d
   .exact xO S0.g.s
   .exact xO S0.g.w
   .obtain⟨c,hc⟩:=jA.mp hn
    have h1:c<cs.length:=by rw[<-S0.cl]; exact xO hc
    exact xO (S0.ce c n cs[c] hc (zA h1))
  have L0:Lp (H++[.lst []]) na nd ns nw nr np H.length ca r []:=⟨g1,at0 _ _,ap,λz=>jE _ (own_lt _ z),λz=>by
   have h1:=xO g.r;have h2:=xO g.a;have h3:=xO g.p;simp only[zb,zc,zO] at z
   omega,ha⟩
  have L1:=L0.mv f1 hc1;obtain⟨n,H',ca',s',e2,R2,L2,f2,hc2,q4,q5⟩:=zf6 (F:=F) hr T R1 L1 ∅ ∅ (λz=>by have:=q3 z; refine⟨by omega,by omega,?_⟩; simp only[zP]; omega);rw[zY] at L2;have hcF:∀n∈ca',n∈ca\/H.length<=n:=λn hn=>by
   rcases hc2 n hn with y | y
   .rcases hc1 n y with z | z
    .exact .inl z
    .rw[zF] at z; exact .inr ∅
   .have:=f1.l; rw[zF] at this; exact .inr ∅
  have hcG:∀n∈ca1,n∈ca\/H.length<=n:=λn hn=>by
   rcases hc1 n hn with z | z
   .exact .inl z
   .rw[zF] at z; exact .inr ∅
  have raw:fnM 2 1 (aD (step (step (step (step (step F)))))) [.ref nd,.ref nr] H=some (.ref H.length,H'):=by
   refine zaf (ρ:=[some (.ref nd),some (.ref nr),none]) rfl rfl ?_;rw[tteR,xM s1,xM (m_go S1'.g rfl e1),xM (za7 e2)];rfl
  have ne:H'[ns]?≠some (.lst st):=by
   cases R2 with | @ret st2 _ _ _ _ S2=>
   have z2:st2=[]:=jN.mp (by rw[S2.sr.len]; rfl);rw[S2.g.s,z2];intro z;injection z with z;injection z with z;have:=S0.sr.len;rw[<-z] at this;simp at this
  refine⟨.ref H.length,H',ca',s',uP raw S0.g.s ne,.inr ⟨H.length,rfl,zj _,L2.a⟩,R2,L2.g,?_,hcF,by omega,q5⟩;have f0:Fm ((nd::ns::nw::ca)++[nr,na,np]) H H1:=(Fm.app _).trans (f1.sub λn hn=>jQ _ hn);refine⟨zQ f0.l f2.l,λn o hn e=>f2.k n o (λz=>?_) (f0.k n o hn e)⟩;have nl:=xO e;simp only[zV,j8] at hn;simp only[zb (a:=n) (b:=nd),zb (a:=n) (b:=ns),zb (a:=n) (b:=nw)] at z;rcases z with h | h | h | h
  .exact hn.1 (by simp[h])
  .exact hn.1 (by simp[h])
  .exact hn.1 (by simp[h])
  .rcases zV.mp h with h | h
   .rcases hcG n h with y | y
    .exact hn.1 (by simp[y])
    .omega
   .have:n∈[nr,na,np]\/n=H.length:=by simpa[or_assoc] using h
    rcases this with y | y
    .exact hn.2 y
    .omega
inductive Dp:Tr Int->Nat->Prop
 | ret {v:Int} {c:Nat}:Dp (.ret v) c
 | tch {t:Tch} {k:Int->Tr Int} {c:Nat} (h:∀v,Dp (k v) c):Dp (.tch t k) (c+1)
def Dp.up{T:Tr Int}{c:Nat}(h:Dp T c):Dp T (c+1):=by
 induction h with
 | ret=>exact .ret
 | tch _ ih=>exact .tch ih
def Rep.dp{T:Tr Int}{c:Nat}(h:Rep rs stk ws cs T c):Dp T c:=by
 induction h with
 | done=>exact .ret
 | gg _ _ ih=>exact ih.up
 | tch _ _ ih=>exact .tch ih
theorem Dp.sp{T:Tr Int}{c:Nat}(h:Dp T c):∀r,(runT T r).2.1.sp.length<=r.sp.length+c/\(runT T r).2.1.ans=r.ans:=by
 induction h with
 | ret=>intro r; exact⟨by simp[runT],rfl⟩
 | @tch t k c h ih=>
  intro r;have:=ih (doT t r).1 (doT t r).2;have sp:=zfK t r;have an:=zdZ t r;simp only[runT];exact⟨by omega,this.2.trans an⟩
end
structure Do where
 nd:Nat
 ns:Nat
 nw:Nat
 ca:List Nat
 s:Nat
 T:Tr Int
 c:Nat
noncomputable abbrev Do.own(d:Do):List Nat:=d.nd::d.ns::d.nw::d.ca
structure Wd(B:MH)(na:Nat)(rs:List Rule)(H:MH)(nr np n0:Nat)(L:List Do)(r:Rm):Prop where
 ac:∀(j:Nat) (d:Do),L[j]?=some d->Ac na rs H d.nd d.ns d.nw d.ca d.s d.T d.c/\10<=d.s/\d.s+5*d.c+200<=cap
 dj:∀(i j:Nat) (d e:Do),i≠j->L[i]?=some d->L[j]?=some e->Ap d.own e.own
 rm:∀(j:Nat) (d:Do),L[j]?=some d->Ap d.own [nr,na,np]/\n0∉d.own
 g:RmR H nr na np r
 l:H[n0]?=some (.lst (L.map λd=>.ref d.nd))
 n:n0∉[nr,na,np]
 an:r.ans.length<=cap
 b:r.sp.length+(L.map Do.c).sum<cap
 p:B<+:H
 lo:∀(j:Nat) (d:Do),L[j]?=some d->∀n∈d.own,B.length<=n
 lr:∀n∈[nr,na,np],B.length<=n
section
variable{B:MH}{na:Nat}{rs:List Rule}{H H':MH}{nr np n0:Nat}{L:List Do}{r r':Rm}{F:Fs}
def Ac.lt{c:Nat}{T:Tr Int}(A:Ac na rs H nd ns nw ca s T c):∀n∈nd::ns::nw::ca,n<H.length:=λn hn=>by
 obtain⟨S0,R0⟩:=A;rename_i st stk ws cs;simp only[zb] at hn;rcases hn with rfl | rfl | rfl | hn
 .exact xO S0.g.d
 .exact xO S0.g.s
 .exact xO S0.g.w
 .obtain⟨c,hc⟩:=jA.mp hn
  have h1:c<cs.length:=by rw[<-S0.cl]; exact xO hc
  exact xO (S0.ce c n cs[c] hc (zA h1))
theorem sum_set(f:Do->Nat):∀{L:List Do} {j:Nat} {d d':Do},L[j]?=some d->((L.set j d').map f).sum+f d=(L.map f).sum+f d'
 | [],_,_,_,h=>by simp at h
 | x::L,0,d,d',h=>by simp at h; subst h; simp; omega
 | x::L,j+1,d,d',h=>by
  have:=sum_set f (L:=L) (j:=j) (d:=d) (d':=d') (by simpa using h);simp only[List.set_cons_succ,zy,yK];omega
def Fm.pre(f:Fm A H H')(p:B<+:H)(h:∀n∈A,B.length<=n):B<+:H':=by
 rw[List.prefix_iff_getElem?] at p ⊢;intro i hi;exact f.k i _ (λz=>by have:=h i z; omega) (p i hi)
def Wd.adv(w:Wd B na rs H nr np n0 L r){d:Do}(hj:L[j]?=some d)(A:Ac na rs H' d.nd d.ns d.nw ca' s' T' c')(h8:10<=s')(hs:s'+5*c'+200<=cap)(g:RmR H' nr na np r')(fm:Fm (d.own++[nr,na,np]) H H')(hc:∀n∈ca',n∈d.ca\/H.length<=n)(hb:r'.sp.length+c'<=r.sp.length+d.c)(ha:r'.ans=r.ans):Wd B na rs H' nr np n0 (L.set j ⟨d.nd,d.ns,d.nw,ca',s',T',c'⟩) r':=by
 have old:∀n∈(⟨d.nd,d.ns,d.nw,ca',s',T',c'⟩:Do).own,n∈d.own\/H.length<=n:=λn hn=>by
  simp only[zb] at hn ⊢;rcases hn with h | h | h | h
  .exact .inl (.inl h)
  .exact .inl (.inr (.inl h))
  .exact .inl (.inr (.inr (.inl h)))
  .rcases hc n h with y | y
   .exact .inl (.inr (.inr (.inr y)))
   .exact .inr y
 have dic:DicP na H H':=zh6 fm λa ha hn l=>by
  rcases zV.mp ha with z | z
  .obtain⟨S,_⟩:=(w.ac j d hj).1
   exact S.nodic a z hn l
  .exact w.g.nodic a z hn l
 have other:∀i e,i≠j->L[i]?=some e->Ap e.own (d.own++[nr,na,np]):=λi e hi he n hn z=>by
  rcases zV.mp z with z | z
  .exact w.dj i j e d hi he hj n hn z
  .exact(w.rm i e he).1 n hn z
 have get:∀i e,(L.set j ⟨d.nd,d.ns,d.nw,ca',s',T',c'⟩)[i]?=some e->(i=j/\e=⟨d.nd,d.ns,d.nw,ca',s',T',c'⟩)\/(i≠j/\L[i]?=some e):=λi e h=>by
  by_cases q:i=j
  .subst q
   rw[zK (xO hj)] at h;injection h with h;exact .inl ⟨rfl,h.symm⟩
  .rw[zJ (kY q)] at h
   exact .inr ⟨q,h⟩
 have n0lt:=xO w.l;refine⟨λi e h=>?_,λi k e1 e2 hik h1 h2=>?_,λi e h=>?_,g,?_,w.n,by rw[ha]; exact w.an,?_,?_,λi e h=>?_,w.lr⟩
 .rcases get i e h with ⟨rfl,rfl⟩ | ⟨hi,he⟩
  .exact⟨A,h8,hs⟩
  .obtain⟨⟨S,R⟩,h1,h2⟩:=w.ac i e he
   exact⟨⟨S.frame fm dic (other i e hi he),R⟩,h1,h2⟩
 .rcases get i e1 h1 with ⟨rfl,rfl⟩ | ⟨hi,he⟩<;>rcases get k e2 h2 with ⟨rfl,rfl⟩ | ⟨hk,he2⟩
  .exact absurd rfl hik
  .intro n hn z
   rcases old n hn with y | y
   .exact w.dj i k d e2 (kY hk) hj he2 n y z
   .have:=(w.ac k e2 he2).1.lt n z; omega
  .intro n hn z
   rcases old n z with y | y
   .exact w.dj i k e1 d hi he hj n hn y
   .have:=(w.ac i e1 he).1.lt n hn; omega
  .exact w.dj i k e1 e2 hik he he2
 .rcases get i e h with ⟨rfl,rfl⟩ | ⟨hi,he⟩
  .refine⟨λn hn z=>?_,λz=>?_⟩
   .rcases old n hn with y | y
    .exact(w.rm i d hj).1 n y z
    .have h1:=xO w.g.r
     have h2:=xO w.g.a;have h3:=xO w.g.p;simp only[zb,zc,zO] at z;omega
   .rcases old n0 z with y | y
    .exact(w.rm i d hj).2 y
    .omega
  .exact w.rm i e he
 .have:(L.set j ⟨d.nd,d.ns,d.nw,ca',s',T',c'⟩).map (λd=>W.ref d.nd)=L.map λd=>.ref d.nd:=by
   rw[List.map_set];refine set_same ?_;rw[je,hj];rfl
  rw[this];refine fm.k _ _ (λz=>?_) w.l;rcases zV.mp z with z | z
  .exact(w.rm j d hj).2 z
  .exact w.n z
 .have:=sum_set Do.c (d':=⟨d.nd,d.ns,d.nw,ca',s',T',c'⟩) hj
  have:=w.b;simp only at *;omega
 .refine fm.pre w.p λn hn=>?_
  rcases zV.mp hn with z | z
  .exact w.lo j d hj n z
  .exact w.lr n z
 .rcases get i e h with ⟨rfl,rfl⟩ | ⟨hi,he⟩
  .intro n hn
   rcases old n hn with y | y
   .exact w.lo i d hj n y
   .exact zQ w.p.length_le y
  .exact w.lo i e he
noncomputable def zbe(p:List (Tr Int)×Rm)(n:Int):List (Tr Int)×Rm:=if 0<=n/\n<p.1.length then (match p.1[n.toNat]? with
 | some T=>(p.1.set n.toNat (stepT T p.2).1,(stepT T p.2).2)
 | none=>p) else p
noncomputable def endT:List (Tr Int)->Rm->List Int×Rm
 | [],r=>([],r)
 | T::Ts,r=>((runT T r).1::(endT Ts (runT T r).2.1).1,(endT Ts (runT T r).2.1).2)
noncomputable def trees(L:List Do):List (Tr Int):=L.map Do.T
def Wd.turn(hr:RsOk rs)(w:Wd B na rs H nr np n0 L r){d:Do}(hj:L[j]?=some d):∃H' d',(step (step (step (step (step (step F)))))).bw [.ref d.nd,.ref nr] H=some (.non,H')/\Wd B na rs H' nr np n0 (L.set j d') (stepT d.T r).2/\d'.T=(stepT d.T r).1:=by
 obtain⟨A,h8,hs⟩:=w.ac j d hj;have b:=w.b;have sl:=sum_set Do.c (d':=⟨0,0,0,[],0,.ret 0,0⟩) hj;obtain⟨H',ca',s',c',e,A',g',fm,hc,q1,q2,q3,q4⟩:=znT (F:=F) hr A w.g (w.rm j d hj).1 hs h8 (by simp only at sl; omega) w.an;exact⟨H',_,e,w.adv hj A' q2 ∅ g' fm hc q3 q4,rfl⟩
def Wd.end1(hr:RsOk rs)(w:Wd B na rs H nr np n0 L r){d:Do}(hj:L[j]?=some d):∃v H' d',(step (step (step (step (step (step F)))))).aC [.ref d.nd,.ref nr] H=some (v,H')/\Wd B na rs H' nr np n0 (L.set j d') (runT d.T r).2.1/\d'.T=.ret (runT d.T r).1/\d'.c=0:=by
 obtain⟨A,h8,hs⟩:=w.ac j d hj;have b:=w.b;have sl:=sum_set Do.c (d':=⟨0,0,0,[],0,.ret 0,0⟩) hj;obtain⟨v,H',ca',s',e,hh,R',g',fm,hc,z1,z2⟩:=zle (F:=F) hr A w.g (w.rm j d hj).1 hs h8 (by simp only at sl; omega) w.an;obtain⟨S0,R0⟩:=A;have dp:=R0.dp.sp r;cases R' with | @ret st ws cs _ _ S=>
 exact⟨v,H',_,e,w.adv hj (c':=0) (T':=.ret (runT d.T r).1) (.mk S .done) z1 ∅ g' fm hc ∅ dp.2,rfl,rfl⟩
end
section
variable{B:MH}{na:Nat}{rs:List Rule}{H:MH}{nr np n0:Nat}{L:List Do}{r:Rm}{F:Fs}
noncomputable abbrev ρB(a b c d e:W)(nr n0:Nat)(o7 o8 o9:Option W):En:=[some a,some b,some c,some d,some e,some (.ref nr),some (.ref n0),o7,o8,o9]
noncomputable def G6(F:Fs):Fs:=step (step (step (step (step (step F)))))
theorem zcs(hr:RsOk rs){c:W}:∀(ns:List Int) {H:MH} {L:List Do} {r:Rm} (o7:Option W),Wd B na rs H nr np n0 L r->∃H' L' r' o7',forL (gNm 7) (tuB (G6 F)) (ns.map .int) (ρB a b c d e nr n0 o7 none none) H=some (.nx (ρB a b c d e nr n0 o7' none none),H')/\Wd B na rs H' nr np n0 L' r'/\(trees L',r')=ns.foldl zbe (trees L,r)
 | [],H,L,r,o7,w=>⟨H,L,r,o7,rfl,w,rfl⟩
 | n::ns,H,L,r,o7,w=>by
  have e1:gNm 7 (.int n) (ρB a b c d e nr n0 o7 none none) H=some (ρB a b c d e nr n0 (some (.int n)) none none,H):=rfl;have wl:=w.l;have len:(trees L).length=L.length:=by unfold trees; rw[zH]
  by_cases q:0<=n/\n<(L.length:Int)
  .have lt:n.toNat<L.length:=by omega
   have hj:L[n.toNat]?=some L[n.toNat]:=zA lt;obtain⟨H1,d',e2,w1,dT⟩:=w.turn (F:=F) hr hj;obtain⟨H',L',r',o7',e3,w2,tr⟩:=zcs hr ns (some (.int n)) w1;refine⟨H',L',r',o7',?_,w2,?_⟩
   .simp only[zy]
    unfold forL;rw[e1];simp only;have cond:tVal (za1 leW ltW (eC (.int 0)) (eVar 7) (xK lenW [eVar 6])) (ρB a b c d e nr n0 (some (.int n)) none none) H=some (true,H):=by
     simp![cmpI,q.1,lenW,getL,wl,q.2]
    have ix:ixW (.ref n0) (.int n) H=some (.ref L[n.toNat].nd,H):=by
     have:L2.atI (L.map λd=>W.ref d.nd) n=some (.ref L[n.toNat].nd):=by
      obtain⟨k,hk⟩:=ql q.1;subst hk;exact zgV (by rw[je]; simp only[j0] at hj ⊢; rw[hj]; rfl)
     simp only[ixW,getL,wl,this]
    have body:tuB (G6 F) (ρB a b c d e nr n0 (some (.int n)) none none) H=some (.nx (ρB a b c d e nr n0 (some (.int n)) none none),H1):=by
     refine zfi cond (uF (w:=.non) ?_);simp only[xK,xU,bnd,eOp,eVar,zG,zq,ix];exact e2
    rw[body];exact e3
   .rw[tr,j5]
    congr 1
    unfold zbe;have hT:(trees L)[n.toNat]?=some L[n.toNat].T:=by unfold trees; rw[je,hj]; rfl
    simp only[len,q,and_self,kI,hT];congr 1
    unfold trees;rw[List.map_set,dT]
  .obtain⟨H',L',r',o7',e3,w2,tr⟩:=zcs hr ns (some (.int n)) w
   refine⟨H',L',r',o7',?_,w2,?_⟩
   .simp only[zy]
    unfold forL;rw[e1];simp only;have cond:tVal (za1 leW ltW (eC (.int 0)) (eVar 7) (xK lenW [eVar 6])) (ρB a b c d e nr n0 (some (.int n)) none none) H=some (false,H):=by
     by_cases q1:0<=n
     .have q2:¬n<(L.length:Int):=λz=>q ⟨q1,z⟩
      simp![cmpI,q1,lenW,getL,wl,q2]
     .simp![cmpI,q1]
    have body:tuB (G6 F) (ρB a b c d e nr n0 (some (.int n)) none none) H=some (.nx (ρB a b c d e nr n0 (some (.int n)) none none),H):=zcR cond;rw[body];exact e3
   .rw[tr,j5]
    congr 1
    unfold zbe;simp only[len,q,jm]
theorem zfH(hr:RsOk rs){c d:W}:∀(L2:List Do) {H:MH} {L1:List Do} {r:Rm} (o8:Option W) (k:Nat),Wd B na rs H nr np n0 (L1++L2) r->L2.length<k->(∀d∈L1,d.c=0)->∃H' L' o8',forN (.live n0) (gNm 8) (enB (G6 F)) k L1.length (ρB a b c d e nr n0 o7 o8 o9) H=some (.nx (ρB a b c d e nr n0 o7 o8' o9),H')/\Wd B na rs H' nr np n0 (L1++L') (endT (trees L2) r).2/\trees L'=(endT (trees L2) r).1.map .ret/\∀d∈L1++L',d.c=0
 | [],H,L1,r,o8,0,w,hk,h0=>by simp at hk
 | [],H,L1,r,o8,k+1,w,hk,h0=>by
  refine⟨H,[],o8,?_,w,rfl,by simpa using h0⟩;have wl:=w.l;rw[kh] at wl;unfold forN;simp only[zaj,wl];rw[jB (by simp)]
 | x::L2,H,L1,r,o8,0,w,hk,h0=>by simp at hk
 | x::L2,H,L1,r,o8,k+1,w,hk,h0=>by
  have hj:(L1++x::L2)[L1.length]?=some x:=by rw[zE (zj _),qP]; rfl
  obtain⟨v,H1,d',e2,w1,dT,dc⟩:=w.end1 (F:=F) hr hj;have st:(L1++x::L2).set L1.length d'=(L1++[d'])++L2:=by
   rw[jT _ _ (zj _),qP,kE];rfl
  rw[st] at w1
  obtain⟨H',L',o8',e3,w2,tr,z⟩:=zfH hr L2 (some (.ref x.nd)) k w1 (by simp only[zm] at hk; omega) (λd hd=>by
   rcases zV.mp hd with y | y
   .exact h0 d y
   .simp at y; subst y; exact dc)
  refine⟨H',d'::L',o8',?_,?_,?_,?_⟩
  .have wl:=w.l
   have at_:((L1++x::L2).map λd=>W.ref d.nd)[L1.length]?=some (.ref x.nd):=by rw[je,hj]; rfl
   unfold forN;simp only[zaj,wl,at_];have e1:gNm 8 (.ref x.nd) (ρB a b c d e nr n0 o7 o8 o9) H=some (ρB a b c d e nr n0 o7 (some (.ref x.nd)) o9,H):=rfl;rw[e1];simp only;have body:enB (G6 F) (ρB a b c d e nr n0 o7 (some (.ref x.nd)) o9) H=some (.nx (ρB a b c d e nr n0 o7 (some (.ref x.nd)) o9),H1):=by
    refine uF (w:=v) ?_;simp only[xK,xU,bnd,eVar,zG,zq];exact e2
   rw[body];simp only[zF,zm,zP] at e3;exact e3
  .rw[kE] at w2
   exact w2
  .simp only[trees,zy,endT,dT]
   congr 1
  .intro d hd
   exact z d (by rw[kE]; exact hd)
theorem zdP{h:MH}{l:List W}{f:W->W}(hn:h[n]?=some (.lst l))(hm:∀w∈l,∀X,m [some w] (h++X)=some (f w,h++X))(hl:l.length<=cap):∀(k i:Nat) (acc:List W) (o:Option W),i<=l.length->l.length<i+k->acc.length+(l.length-i)<=cap->zai (.live n) 1 (gNm 0) ud m h.length k i [o] (h++[.lst acc])=some (h++[.lst (acc++(l.drop i).map f)])
 | 0,i,acc,o,hi,hk,ha=>by omega
 | k+1,i,acc,o,hi,hk,ha=>by
  have hn':(h++[MO.lst acc])[n]?=some (.lst l):=by rw[zu (xO hn)]; exact hn
  unfold zai;simp only[zaj,hn'];by_cases q:i<l.length
  .rw[zA q]
   have g:gNm 0 l[i] [o] (h++[.lst acc])=some ([some l[i]],h++[.lst acc]):=rfl;simp only[g,ud,hm l[i] (List.getElem_mem q) [.lst acc],at0];rw[zX ∅,set0];show zai (.live n) 1 (gNm 0) ud m h.length k (i+1) [none] _=_
   rw[zdP hn hm hl k (i+1) (acc++[f l[i]]) none ∅ ∅ (by simp; omega)];rw[qJ q,zy,kE];rfl
  .rw[jB ∅,yO ∅,ji,kh]
def ziJ{h:MH}{l:List W}{f:W->W}(hi:mi ρ h=some (.ref n,h))(hn:h[n]?=some (.lst l))(hm:∀w∈l,∀X,m [some w] (h++X)=some (f w,h++X))(hl:l.length<=cap)(hf:∀w∈l,low h.length (f w)=true):uo (iSeq mi) 1 [] (gNm 0) ud m ρ h=some (.fls (l.map f),h):=by
 have e:=zdP hn hm hl (l.length+1) 0 [] none ∅ ∅ (by simp; omega);rw[wI,zY] at e;unfold uo zaW;have es:iSeq mi ρ h=some (.live n,h):=by simp only[iSeq,bnd,hi,srcOf,hn]
 rw[es];have sl:zbH (.live n) h=l.length:=by simp only[zbH,hn]
 simp only[sl];have er:(List.replicate 1 (none:Option W)++([]:List Nat).map λk=>(ρ[k]?).join)=[none]:=rfl;rw[er,e];simp only[at0];rw[zX];refine⟨jh _ _,uW λw hw=>?_⟩;obtain⟨w',h1,rfl⟩:=kZ.mp hw;exact hf w' h1
def zmA(A:Ac na rs H nd ns nw ca s (.ret v) 0)(X:MH):xQ (mt (step F)) "came_to" (eVar 0) [] [some (.ref nd)] (H++X)=some (.int v,H++X):=by
 obtain⟨S,R⟩:=A;cases R with | @done v ws cs _=>
 have S1':=S.app X;rw[uQ (F:=step F) S1'.g.d (noF ⋯ ⋯ ⋯ ⋯) (zml _) (mo:=eVar 0) rfl (ws:=[]) (H1:=H++X) rfl];exact zoV S1'.g (zb6 v ws) uL
def zko(w:Wd B na rs H nr np n0 L r){vs:List Int}(ht:trees L=vs.map .ret)(h0:∀d∈L,d.c=0)(hi:eVar 6 ρ H=some (.ref n0,H))(hl:L.length<=1000):uo (iSeq (eVar 6)) 1 [] (gNm 0) ud (xQ (mt (step F)) "came_to" (eVar 0) []) ρ H=some (.fls (vs.map .int),H):=by
 have hd:∀d∈L,∃v,d.T=.ret v/\∀X,xQ (mt (step F)) "came_to" (eVar 0) [] [some (.ref d.nd)] (H++X)=some (.int v,H++X):=λd hd=>by
  obtain⟨j,hj⟩:=jA.mp hd;have A:=(w.ac j d hj).1;have:(trees L)[j]?=some d.T:=by unfold trees; rw[je,hj]; rfl
  rw[ht,je] at this;cases e:vs[j]? with
  | none=>rw[e] at this; cases this
  | some v=>
   rw[e] at this;injection this with this;rw[<-this,h0 d hd] at A;exact⟨v,this.symm,zmA A⟩
 have c:=ziJ (h:=H) (n:=n0) (l:=L.map λd=>.ref d.nd) (m:=xQ (mt (step F)) "came_to" (eVar 0) []) (f:=λw=>match xQ (mt (step F)) "came_to" (eVar 0) [] [some w] H with | some (v,_)=>v | none=>.non) hi w.l (λx hx X=>by
  obtain⟨d,hm,rfl⟩:=kZ.mp hx;obtain⟨v,_,e⟩:=hd d hm;have e0:=e [];rw[kh] at e0;rw[e X,e0]) (by rw[zH]; exact zQ hl (by decide)) (λx hx=>by
  obtain⟨d,hm,rfl⟩:=kZ.mp hx;obtain⟨v,_,e⟩:=hd d hm;have e0:=e [];rw[kh] at e0;rw[e0]
  exact uL)
 rw[c];congr 2
 congr 1
 rw[vf];have:∀(L:List Do) (vs:List Int),L.map Do.T=vs.map .ret->(∀d∈L,∃v,d.T=.ret v/\∀X,xQ (mt (step F)) "came_to" (eVar 0) [] [some (.ref d.nd)] (H++X)=some (.int v,H++X))->L.map ((λw=>match xQ (mt (step F)) "came_to" (eVar 0) [] [some w] H with | some (v,_)=>v | none=>.non)∘λd=>.ref d.nd)=vs.map W.int:=by
  intro L;induction L with
  | nil=>intro vs h _; cases vs with
   | nil=>rfl
   | cons _ _=>simp at h
  | cons d L ih=>
   intro vs h hd;cases vs with
   | nil=>simp at h
   | cons v vs=>
    simp only[zy,jO] at h ⊢;obtain⟨v',e1,e2⟩:=hd d zZ;have e0:=e2 [];rw[kh] at e0;rw[h.1] at e1;injection e1 with e1;refine⟨?_,ih vs h.2 λd hd'=>hd d (zN _ hd')⟩;simp only[Function.comp,e0,e1]
 exact this L vs ht hd
theorem zf3{h:MH}{f:W->W}:∀(l acc:List W) (o:Option W),(∀w∈l,∀X,m (some w::caps) (h++X)=some (f w,h++X))->acc.length+l.length<=cap->uH 1 (gNm 0) ud m h.length l (o::caps) (h++[.lst acc])=some (h++[.lst (acc++l.map f)])
 | [],acc,o,_,_=>by simp[uH]
 | w::l,acc,o,hm,hl=>by
  simp only[zm] at hl;have g:gNm 0 w (o::caps) (h++[.lst acc])=some (some w::caps,h++[.lst acc]):=by simp[gNm]
  unfold uH;simp only[g,ud,hm w zZ [.lst acc],at0];rw[zX ∅,set0];show uH 1 (gNm 0) ud m h.length l (none::caps) _=_
  rw[zf3 l (acc++[f w]) none (λw hw=>hm w (zN _ hw)) (by simp; omega),kE];rfl
def zma{h:MH}{ks:List Nat}{l:List W}{f:W->W}{ρ:En}(hi:mi ρ h=some (.items l,h))(hm:∀w∈l,∀X,m (some w::ks.map λk=>(ρ[k]?).join) (h++X)=some (f w,h++X))(hl:l.length<=cap)(hf:∀w∈l,low h.length (f w)=true):uo mi 1 ks (gNm 0) ud m ρ h=some (.fls (l.map f),h):=by
 have e:=zf3 (caps:=ks.map λk=>(ρ[k]?).join) l [] none hm (by simpa using hl);unfold uo zaW;rw[hi];simp only;have er:(List.replicate 1 (none:Option W)++ks.map λk=>(ρ[k]?).join)=none::ks.map λk=>(ρ[k]?).join:=rfl
 rw[er,e];simp only[zY,at0];rw[zX];refine⟨jh _ _,uW λw hw=>?_⟩;obtain⟨w',h1,rfl⟩:=kZ.mp hw;exact hf w' h1
noncomputable def stW(st:Str->Int):W:=.tup (SH.map λv=>.int (st v))
def zcG:low m (stW st)=true:=by
 unfold stW low;exact uW λw hw=>by obtain⟨v,_,rfl⟩:=kZ.mp hw; exact uL
theorem f_store(F:Fs):(step F).cH=gc (fnM 1 0 (bB F)):=rfl
theorem f_said(F:Fs):(step F).cP=gc (fnM 1 0 (bR F)):=rfl
theorem zmn(g:RmR H nr na np r)(e1:mo ρ H=some (.ref nr,H)):xQ (mt (step F)) "store" mo [] ρ H=some (stW r.st,H):=by
 rw[uQ (F:=step F) g.r (noR ⋯ ⋯ ⋯ ⋯) (zj8 _) e1 (ws:=[]) (H1:=H) rfl,f_store];refine zbd (zaf (ρ:=[some (.ref nr)]) rfl rfl ?_) zcG;have c:=zma (mi:=iSeq (eC uB)) (ks:=[0]) (m:=eOp uR (eFld flds "shelves" (eVar 1)) (eVar 0)) (ρ:=[some (.ref nr)]) (h:=H) (l:=SH.map .str) (f:=λw=>match w with | .str v=>.int (r.st v) | w=>w)
  (by simp only[iSeq,bnd,eC,uB,srcOf]; rfl) (λw hw X=>by
   obtain⟨v,hv,rfl⟩:=kZ.mp hw;have g1:RmR (H++X) nr na np r:=g.frame (B:=[]) (Fm.app _) (λn _ z=>by simp at z);have f1:=g1.fS;have f2:=g1.a;simp only[eOp,bnd,eFld,eVar,zy,ji,zG,zq,vg,f1,uR,zae,f2,keyOf,ziP hv]) ⋯ (λw hw=>by
   obtain⟨v,_,rfl⟩:=kZ.mp hw
   exact uL)
 unfold bB;simp only[sRet,xK,xU,bnd,c,zay,getL];unfold stW;rw[vf];rfl
def znU(g:RmR H nr na np r)(e1:mo ρ H=some (.ref nr,H)):xQ (mt (step F)) "said" mo [] ρ H=some (.fls (r.sp.map .int),H):=by
 rw[uQ (F:=step F) g.r (noR ⋯ ⋯ ⋯ ⋯) (zl0 _) e1 (ws:=[]) (H1:=H) rfl,f_said];have lw:low H.length (.fls (r.sp.map .int))=true:=zgv λw hw=>by obtain⟨v,_,rfl⟩:=kZ.mp hw; exact uL
 refine zbd (zaf (ρ:=[some (.ref nr)]) rfl rfl ?_) lw;have f1:=g.fP;have f2:=g.p;unfold bR;simp only[sRet,xK,xU,bnd,eFld,eVar,zq,f1,zce,zao,getL,f2]
end
theorem zhk{H:MH}:(H++o::X)[H.length]?=some o:=by rw[zE (zj _),qP]; rfl
theorem zoQ{H:MH}:(H++o::X).set H.length o'=H++o'::X:=by rw[jT _ _ (zj _),qP]; rfl
theorem zeH:∀(ks l:List (Key×W)),((l++ks).map (·.1)).Nodup->uA l ks=l++ks
 | [],l,_=>by simp[uA]
 | p::ks,l,h=>by
  have na:(l.any λkv=>decide (kv.1=p.1))≠true:=λz=>by
   obtain⟨x,hx,e⟩:=qt.mp z;have e:=qz e;rw[jU,yc] at h;exact h.2.2 x.1 (kZ.mpr ⟨x,hx,rfl⟩) p.1 (by simp) e
  have e:uA l (p::ks)=uA (putW l p.1 p.2) ks:=rfl;have e2:putW l p.1 p.2=l++[p]:=by unfold putW; rw[kO na]
  rw[e,e2,zeH ks (l++[p]) (by rw[kE]; exact h),kE];rfl
def zoe{H:MH}:zipD [uB,stW st] H=some (.ref H.length,H++[.dic (shW st)]):=by
 have z:(SH.map W.str).zip (SH.map λv=>W.int (st v))=SH.map λv=>(.str v,.int (st v)):=by rw[List.zip_map']
 have k:keysOf (SH.map λv=>(W.str v,W.int (st v)))=some (shW st):=by
  unfold shW;generalize SH=l;induction l with
  | nil=>rfl
  | cons v l ih=>simp only[zy]; unfold keysOf; rw[ih]; rfl
 have m:uA [] (shW st)=shW st:=zeH _ _ (by
  rw[zY];unfold shW;rw[vf];show(SH.map λv=>(.inr v:Key)).Nodup
  decide +kernel)
 have c:uB=.tup (SH.map .str):=rfl;have kl:(shW st).length<=1000:=by unfold shW; rw[zH]; decide
 rw[c];unfold stW;simp only[zipD,zaX,z,k,kl,kI,m]
section
variable{B:MH}{na:Nat}{rs:List Rule}{H:MH}{nr np n0:Nat}{L:List Do}{r:Rm}{F:Fs}
def fok:uC flds 1 "shelves" = true/\uC flds 1 "answers" = true/\uC flds 1 "spoken" = true/\uC flds 1 "asks" = true:=by decide +kernel
def fne:(¬("shelves":Str)="answers")/\(¬("shelves":Str)="spoken")/\(¬("shelves":Str)="asks")/\(¬("answers":Str)="spoken")/\(¬("answers":Str)="asks")/\(¬("spoken":Str)="asks"):=by decide +kernel
def fne0:(¬("rules":Str)="steps")/\(¬("rules":Str)="worths")/\(¬("rules":Str)="touch_ahead")/\(¬("steps":Str)="worths")/\(¬("steps":Str)="touch_ahead")/\(¬("worths":Str)="touch_ahead"):=by decide +kernel
theorem f_rinit(F:Fs):(step F).bL=gc (fnM 3 0 (bT F)):=rfl
theorem f_dinit(F:Fs):(step F).bj=gc (fnM 3 0 (bx F)):=rfl
def zaM{f:Str}{H:MH}{c:Nat}{fs:List (Str×W)}(hp:zan f v fs=fs')(e:m (some (.ref H.length)::ρ) H1=some (v,H++.ins c fs::X))(hf:uC fl c f=true)(hl:fs.length<1000):sAsg m (gFld fl f (eVar 0)) (some (.ref H.length)::ρ) H1=some (.nx (some (.ref H.length)::ρ),H++.ins c fs'::X):=by
 subst hp;have a:(H++.ins c fs::X)[H.length]?=some (.ins c fs):=zhk;simp only[sAsg,e,gFld,bnd,eVar,zq,fldM,a,hf,hl,kI,zoQ]
def zj2{ans:List Int}:(step F).bL [.ref H.length,stW st,.fls (ans.map .int)] (H++[.ins 1 []])=some (.non,H++[.ins 1 (roF (H.length+1) (H.length+2) (ans.map .int) 0),.dic (shW st),.lst []]):=by
 rw[f_rinit];obtain⟨f1,f2,f3,f4⟩:=fok;obtain⟨n1,n2,n3,n4,n5,n6⟩:=fne;refine zbV (uU (ρ:=[some (.ref H.length),some (stW st),some (.fls (ans.map .int))]) (ρ':=[some (.ref H.length),some (stW st),some (.fls (ans.map .int))]) rfl rfl ?_);unfold bT;have z:=zoe (st:=st) (H:=H++[.ins 1 []]);rw[zF,kE] at z
 rw[xM (zaM (H:=H) (c:=1) (fs:=[]) (X:=[.dic (shW st)]) (v:=.ref (H.length+1)) (fs':=[("shelves",.ref (H.length+1))]) rfl (by
  simp only[zcB,xK,xU,bnd,eC,eVar,zG,zq]
  exact z) f1 (by simp))]
 rw[xM (zaM (H:=H) (c:=1) (X:=[.dic (shW st)]) (v:=.fls (ans.map .int)) (fs:=[("shelves",.ref (H.length+1))]) (fs':=[("shelves",.ref (H.length+1)),("answers",.fls (ans.map .int))]) (by simp[zan,n1]) (by
  simp only[xK,xU,bnd,eVar,zG,zq,zce,zao,getL]) f2 (by simp))]
 have c0:(0:Nat)<=cap:=by decide
 rw[xM (zaM (H:=H) (c:=1) (X:=[.dic (shW st),.lst []]) (v:=.ref (H.length+2)) (fs:=[("shelves",.ref (H.length+1)),("answers",.fls (ans.map .int))]) (fs':=[("shelves",.ref (H.length+1)),("answers",.fls (ans.map .int)),("spoken",.ref (H.length+2))]) (by simp[zan,n2,n4]) (by
  simp only[xK,xU,bnd,lstW,zP,c0,kI,zF,zm,kE,jk,zY]) f3 (by simp))]
 rw[zaM (H:=H) (c:=1) (X:=[.dic (shW st),.lst []]) (v:=.int 0) (fs:=[("shelves",.ref (H.length+1)),("answers",.fls (ans.map .int)),("spoken",.ref (H.length+2))]) (fs':=roF (H.length+1) (H.length+2) (ans.map .int) 0) (by simp[zan,n3,n5,n6]) rfl f4 (by simp)]
def zi2(hr:rl=.tup (rsW rs)):(step F).bj [.ref H.length,rl,d] (H++[.ins 0 []])=some (.non,H++[.ins 0 (doF (rsW rs) (H.length+1) (H.length+2) .non),.lst [.tup [.bl false,d,.fdc []]],.lst []]):=by
 subst hr;rw[f_dinit];obtain⟨n1,n2,n3,n4,n5,n6⟩:=fne0;refine zbV (uU (ρ:=[some (.ref H.length),some (.tup (rsW rs)),some d]) (ρ':=[some (.ref H.length),some (.tup (rsW rs)),some d]) rfl rfl ?_);unfold bx;have c0:(0:Nat)<=cap:=by decide
 have c1:(1:Nat)<=cap:=by decide
 have c3:(3:Nat)<=cap:=by decide
 rw[xM (zaM (H:=H) (c:=0) (fs:=[]) (X:=[]) (v:=.tup (rsW rs)) (fs':=[("rules",.tup (rsW rs))]) rfl rfl f_rules (by simp))]
 rw[xM (zaM (H:=H) (c:=0) (X:=[.lst [.tup [.bl false,d,.fdc []]]]) (v:=.ref (H.length+1)) (fs:=[("rules",.tup (rsW rs))]) (fs':=[("rules",.tup (rsW rs)),("steps",.ref (H.length+1))]) (by simp[zan,n1]) (by
  simp only[xK,xU,bnd,eC,eVar,zG,zq,tupW,zP,zm,c3,c1,kI,lstW,zF,kE,jk,zY]) f_steps (by simp))]
 rw[xM (zaM (H:=H) (c:=0) (X:=[.lst [.tup [.bl false,d,.fdc []]],.lst []]) (v:=.ref (H.length+2)) (fs:=[("rules",.tup (rsW rs)),("steps",.ref (H.length+1))]) (fs':=[("rules",.tup (rsW rs)),("steps",.ref (H.length+1)),("worths",.ref (H.length+2))]) (by simp[zan,n2,n4]) (by
  simp only[xK,xU,bnd,lstW,zP,c0,kI,zF,zm,kE,jk,zY]) f_worths (by simp))]
 rw[zaM (H:=H) (c:=0) (X:=[.lst [.tup [.bl false,d,.fdc []]],.lst []]) (v:=.non) (fs:=[("rules",.tup (rsW rs)),("steps",.ref (H.length+1)),("worths",.ref (H.length+2))]) (fs':=doF (rsW rs) (H.length+1) (H.length+2) .non) (by simp[zan,n3,n5,n6]) rfl f_ahead (by simp)]
def zgz{ans:List Int}(e1:m1 ρ H=some (stW st,H))(e2:m2 ρ H=some (.fls (ans.map .int),H)):zam 1 (step (step F)).dB [m1,m2] ρ H=some (.ref H.length,H++[.ins 1 (roF (H.length+1) (H.length+2) (ans.map .int) 0),.dic (shW st),.lst []]):=by
 have e:(step (step F)).dB [.ref H.length,stW st,.fls (ans.map .int)] (H++[.ins 1 []])=_:=zj2 (F:=F) (H:=H) (st:=st) (ans:=ans);unfold zam;simp only[xU,bnd,e1,e2,e];rw[zX (by simp)]
def zft(e1:m1 ρ H=some (.tup (rsW rs),H))(e2:m2 ρ H=some (d,H)):zam 0 (step (step F)).b7 [m1,m2] ρ H=some (.ref H.length,H++[.ins 0 (doF (rsW rs) (H.length+1) (H.length+2) .non),.lst [.tup [.bl false,d,.fdc []]],.lst []]):=by
 have e:(step (step F)).b7 [.ref H.length,.tup (rsW rs),d] (H++[.ins 0 []])=_:=zi2 (F:=F) (H:=H) (d:=d) rfl;unfold zam;simp only[xU,bnd,e1,e2,e];rw[zX (by simp)]
theorem zgD(rs:List Rule)(d:D)(H:MH):Sim na rs (H++[.ins 0 (doF (rsW rs) (H.length+1) (H.length+2) .non),.lst [.tup [.bl false,toW d,.fdc []]],.lst []]) H.length (H.length+1) (H.length+2) [] 10 [.tup [.bl false,toW d,.fdc []]] [(false,d,[])] [] [] .non:=by
 refine⟨⟨zhk,?_,?_,by omega,by omega,by omega⟩,StR.cons (st:=[]) .nil .nil,rfl,λc n i a=>by simp at a,vN,λn hn=>by simp at hn,by simp,by simp⟩
 .rw[zE ∅,show H.length+1-H.length=1 by omega]; rfl
 .rw[zE ∅,show H.length+2-H.length=2 by omega]; rfl
theorem zgs{ans:List Int}:RmR (H++[.ins 1 (roF (H.length+1) (H.length+2) (ans.map .int) 0),.dic (shW st),.lst []]) H.length (H.length+1) (H.length+2) ⟨st,ans,[],0⟩:=by
 refine⟨zhk,?_,?_,by omega,by omega,by omega⟩
 .rw[zE ∅,show H.length+1-H.length=1 by omega]; rfl
 .rw[zE ∅,show H.length+2-H.length=2 by omega]; rfl
end
section
variable{B:MH}{na:Nat}{rs:List Rule}{H:MH}{nr np n0:Nat}{L:List Do}{r:Rm}{F:Fs}
noncomputable abbrev blk(rs:List Rule)(d:D)(n:Nat):MH:=[.ins 0 (doF (rsW rs) (n+1) (n+2) .non),.lst [.tup [.bl false,toW d,.fdc []]],.lst []]
def Wd.add(w:Wd B na rs H nr np n0 L r)(hn0:B.length<=n0){d:D}{T:Tr Int}{c:Nat}(R:Rep rs [(false,d,[])] [] [] T c)(hc:5*c+210<=cap)(hb:r.sp.length+((L.map Do.c).sum+c)<cap):Wd B na rs ((H++blk rs d H.length).set n0 (.lst ((L.map λd=>.ref d.nd)++[.ref H.length]))) nr np n0 (L++[⟨H.length,H.length+1,H.length+2,[],10,T,c⟩]) r:=by
 have n0lt:=xO w.l;have l1:(H++blk rs d H.length)[n0]?=some (.lst (L.map λd=>.ref d.nd)):=by rw[zu n0lt]; exact w.l
 have f0:Fm [n0] (H++blk rs d H.length) ((H++blk rs d H.length).set n0 (.lst ((L.map λd=>.ref d.nd)++[.ref H.length]))):=Fm.set (by simp);have f1:Fm [n0] H ((H++blk rs d H.length).set n0 (.lst ((L.map λd=>.ref d.nd)++[.ref H.length]))):=(Fm.app _).trans f0;have d0:DicP na (H++blk rs d H.length) ((H++blk rs d H.length).set n0 (.lst ((L.map λd=>.ref d.nd)++[.ref H.length]))):=zaJ l1 (λ_=>nofun);have d1:DicP na H ((H++blk rs d H.length).set n0 (.lst ((L.map λd=>.ref d.nd)++[.ref H.length]))):=(zaH _).trans d0
 have S:=(zgD (na:=na) rs d H).frame f0 d0 (λn hn z=>by
  simp only[zb,zc,zO] at hn z
  omega)
 have get:∀i e,(L++[⟨H.length,H.length+1,H.length+2,[],10,T,c⟩])[i]?=some e->(i=L.length/\e=⟨H.length,H.length+1,H.length+2,[],10,T,c⟩)\/(i<L.length/\L[i]?=some e):=λi e h=>by
  by_cases q:i<L.length
  .rw[zu q] at h
   exact .inr ⟨q,h⟩
  .rw[zE ∅] at h
   have z:i-L.length=0:=by have:=xO h; simp at this; omega
   rw[z] at h;injection h with h;exact .inl ⟨by omega,h.symm⟩
 have ap0:∀(i:Nat) (e:Do),L[i]?=some e->Ap e.own [n0]:=λi e he n hn z=>by
  simp only[zb (a:=n) (b:=n0),zc,zO] at z;exact(w.rm i e he).2 (z▸hn)
 have rlt:=λn hn=>Lp.lt' w.g n hn
 refine⟨λi e h=>?_,λi k e1 e2 hik h1 h2=>?_,λi e h=>?_,w.g.frame f1 (λn hn z=>?_),?_,w.n,w.an,?_,f1.pre w.p (λn hn=>?_),λi e h=>?_,w.lr⟩
 .rcases get i e h with ⟨rfl,rfl⟩ | ⟨hi,he⟩
  .exact⟨.mk S R,zj _,by simp only; omega⟩
  .obtain⟨⟨S,R⟩,h1,h2⟩:=w.ac i e he
   exact⟨⟨S.frame f1 d1 (ap0 i e he),R⟩,h1,h2⟩
 .rcases get i e1 h1 with ⟨rfl,rfl⟩ | ⟨hi,he⟩<;>rcases get k e2 h2 with ⟨rfl,rfl⟩ | ⟨hk,he2⟩
  .exact absurd rfl hik
  .intro n hn z
   have:=(w.ac k e2 he2).1.lt n z;simp only[zb,zc,zO] at hn;omega
  .intro n hn z
   have:=(w.ac i e1 he).1.lt n hn;simp only[zb,zc,zO] at z;omega
  .exact w.dj i k e1 e2 hik he he2
 .rcases get i e h with ⟨rfl,rfl⟩ | ⟨hi,he⟩
  .refine⟨λn hn z=>?_,λz=>?_⟩
   .have:=rlt n z
    simp only[zb,zc,zO] at hn;omega
   .simp only[zb,zc,zO] at z
    omega
  .exact w.rm i e he
 .simp only[zb (a:=n) (b:=n0),zc,zO] at z
  exact w.n (z▸hn)
 .rw[jU]
  exact zK (xO l1)
 .simp only[jU,List.sum_append,zy,ji,yK,List.sum_nil]
  omega
 .simp only[zb,zc,zO] at hn
  omega
 .rcases get i e h with ⟨rfl,rfl⟩ | ⟨hi,he⟩
  .intro n hn
   have:=w.p.length_le;simp only[zb,zc,zO] at hn;omega
  .exact w.lo i e he
where
 Lp.lt' {H:MH} {nr na np:Nat} {r:Rm} (g:RmR H nr na np r):∀n∈[nr,na,np],n<H.length:=λn hn=>by
  simp only[zb,zc,zO] at hn;rcases hn with rfl | rfl | rfl
  .exact xO g.r
  .exact xO g.a
  .exact xO g.p
theorem zg1(hC:5*C+210<=cap):∀(ds:List D) {H:MH} {L:List Do} (o:Option W),Wd B na rs H nr np n0 L r->B.length<=n0->(∀d∈ds,Rep rs [(false,d,[])] [] [] (tr d) C)->r.sp.length+((L.map Do.c).sum+ds.length*C)<cap->L.length+ds.length<=1000->
  ∃H' L',uH 1 (gNm 0) ud (zam 0 (step (step F)).b7 [eVar 1,eVar 0]) n0 (ds.map toW) [o,some (.tup (rsW rs))] H=some H'/\Wd B na rs H' nr np n0 L' r/\trees L'=trees L++ds.map tr/\L'.length=L.length+ds.length
 | [],H,L,o,w,hn,hR,hb,hl=>⟨H,L,by simp[uH],w,by simp,by simp⟩
 | d::ds,H,L,o,w,hn,hR,hb,hl=>by
  simp only[zm,v6,Nat.one_mul] at hb hl;have w1:=w.add hn (hR d zZ) hC ∅;obtain⟨H',L',e,w2,tr2,ln⟩:=zg1 hC ds none w1 hn (λd hd=>hR d (zN _ hd)) (by simp only[jU,List.sum_append,zy,ji,yK,List.sum_nil]; omega) (by simp; omega);refine⟨H',L',?_,w2,?_,?_⟩
  .simp only[zy]
   unfold uH;have g:gNm 0 (toW d) [o,some (.tup (rsW rs))] H=some ([some (toW d),some (.tup (rsW rs))],H):=rfl;have m:=zft (F:=F) (rs:=rs) (H:=H) (d:=toW d) (ρ:=[some (toW d),some (.tup (rsW rs))]) (m1:=eVar 1) (m2:=eVar 0) rfl rfl;have l1:(H++blk rs d H.length)[n0]?=some (.lst (L.map λd=>.ref d.nd)):=by rw[zu (xO w.l)]; exact w.l
   simp only[g,ud];rw[m];simp only[l1];rw[zX (by rw[zH]; exact zM (show L.length<1001 by omega) (by decide))];exact e
  .rw[tr2]
   simp[trees]
  .rw[ln]
   simp only[zF,zm,zP];omega
noncomputable def outW(q:List Int×Rm):W:=.tup [.fls (q.1.map .int),stW q.2.st,.fls (q.2.sp.map .int),.int q.2.k]
noncomputable def byT(Ts:List (Tr Int))(r:Rm)(ns:List Int):List Int×Rm:=endT (ns.foldl zbe (Ts,r)).1 (ns.foldl zbe (Ts,r)).2
def zb3{l:List Int}:low m (.fls (l.map .int))=true:=zgv λw hw=>by obtain⟨v,_,rfl⟩:=kZ.mp hw; exact uL
theorem zgb{q:List Int×Rm}:low m (outW q)=true:=by
 unfold outW low lows;rw[zb3];unfold lows;rw[zcG];unfold lows;rw[zb3];unfold lows;rw[uL];unfold lows;rfl
theorem f_by(F:Fs):(step F).cM=gc (fnM 5 5 (dh F)):=rfl
theorem znc(F:Fs):dh F=sSeq (sAsg (zam 1 F.dB [eVar 2,eVar 3]) (gNm 5)) (sSeq (sAsg (zak (iSeq (eVar 1)) 1 [0] (gNm 0) ud (zam 0 F.b7 [eVar 1,eVar 0])) (gNm 6)) (sSeq (sFor (iSeq (eVar 4)) (gNm 7) (tuB F)) (sSeq (sFor (iSeq (eVar 6)) (gNm 8) (enB F)) (sSeq (sAsg (uo (iSeq (eVar 6)) 1 [] (gNm 0) ud (xQ (mt F) "came_to" (eVar 0) [])) (gNm 9)) (sRet (xK tupW [eVar 9,xQ (mt F) "store" (eVar 5) [],xQ (mt F) "said" (eVar 5) [],eFld flds "asks" (eVar 5)])))))):=rfl
theorem ze6:∀(Ts:List (Tr Int)) (r:Rm),(endT Ts r).1.length=Ts.length
 | [],r=>rfl
 | T::Ts,r=>by simp only[endT,zm]; rw[ze6 Ts]
theorem zjM(p:List (Tr Int)×Rm)(n:Int):(zbe p n).1.length=p.1.length:=by
 unfold zbe;split
 .split
  .simp
  .rfl
 .rfl
theorem zen:∀(ns:List Int) (p:List (Tr Int)×Rm),(ns.foldl zbe p).1.length=p.1.length
 | [],p=>rfl
 | n::ns,p=>by rw[j5,zen ns,zjM]
theorem zkq(hr:RsOk rs){ds:List D}{ans ns:List Int}(hC:5*C+210<=cap)(hR:∀d∈ds,Rep rs [(false,d,[])] [] [] (tr d) C)(hb:ds.length*C<cap)(hl:ds.length<=1000)(ha:ans.length<=cap)(H:MH) :
  (step (G6 F)).cM [.tup (rsW rs),.fls (ds.map toW),stW st,.fls (ans.map .int),.fls (ns.map .int)] H=some (outW (byT (ds.map tr) ⟨st,ans,[],0⟩ ns),H):=by
 have c4:(4:Nat)<=cap:=by decide
 have g0:=zgs (H:=H) (st:=st) (ans:=ans);have mr:=zgz (F:=step (step (step (step F)))) (H:=H) (st:=st) (ans:=ans) (ρ:=[some (.tup (rsW rs)),some (.fls (ds.map toW)),some (stW st),some (.fls (ans.map .int)),some (.fls (ns.map .int)),none,none,none,none,none]) (m1:=eVar 2) (m2:=eVar 3) rfl rfl;have p0:H<+:(H++[.ins 1 (roF (H.length+1) (H.length+2) (ans.map .int) 0),.dic (shW st),.lst []]:MH):=jh _ _;have len1:(H++[.ins 1 (roF (H.length+1) (H.length+2) (ans.map .int) 0),.dic (shW st),.lst []]:MH).length=H.length+3:=by rw[zF]; rfl
 generalize (H++[.ins 1 (roF (H.length+1) (H.length+2) (ans.map .int) 0),.dic (shW st),.lst []]:MH)=H1 at g0 mr p0 len1;have w0:Wd H (H.length+1) rs (H1++[.lst []]) H.length (H.length+2) H1.length [] ⟨st,ans,[],0⟩:=
  ⟨λj d h=>by simp at h,λi j d e _ h=>by simp at h,λj d h=>by simp at h,g0.frame (B:=[]) (Fm.app _) (λn _ z=>by simp at z),at0 _ _,λz=>by simp only[zb,zc,zO] at z; omega,ha,by simp; decide,p0.trans (jh _ _),λj d h=>by simp at h,λn hn=>by simp only[zb,zc,zO] at hn; omega⟩
 obtain⟨H2,L,e2,w2,t2,l2⟩:=zg1 (F:=step (step (step (step F)))) hC ds none w0 ∅ hR (by simpa using hb) (by simpa using hl);obtain⟨H3,L3,r3,o7,e3,w3,t3⟩:=zcs (F:=F) (a:=.tup (rsW rs)) (b:=.fls (ds.map toW)) (c:=stW st) (d:=.fls (ans.map .int)) (e:=.fls (ns.map .int)) hr ns none w2;have t2':trees L=ds.map tr:=by rw[t2]; rfl
 have len3:L3.length=ds.length:=by
  have:(trees L3).length=ds.length:=by
   rw[show trees L3=(ns.foldl zbe (trees L,⟨st,ans,[],0⟩)).1 by rw[<-t3],zen,t2',zH]
  simpa[trees] using this
 obtain⟨H4,L4,o8,e4,w4,t4,z4⟩:=zfH (F:=F) (a:=.tup (rsW rs)) (b:=.fls (ds.map toW)) (c:=stW st) (d:=.fls (ans.map .int)) (e:=.fls (ns.map .int)) (o7:=o7) (o9:=none) hr L3 (L1:=[]) none (L3.length+1) (by simpa using w3) ∅ (λd hd=>by simp at hd);rw[zY] at w4;simp only[zY] at z4;have q:endT (trees L3) r3=byT (ds.map tr) ⟨st,ans,[],0⟩ ns:=by
  unfold byT;rw[<-t2',<-t3]
 rw[q] at w4 t4;have ln4:L4.length=ds.length:=by
  have:(trees L4).length=ds.length:=by rw[t4,zH,<-q,ze6]; simpa[trees] using len3
  simpa[trees] using this
 have ca:=zko (F:=step (step (step (step (step F))))) w4 t4 z4 (ρ:=ρB (.tup (rsW rs)) (.fls (ds.map toW)) (stW st) (.fls (ans.map .int)) (.fls (ns.map .int)) H.length H1.length o7 o8 none) rfl ∅;have ms:=zmn (F:=step (step (step (step (step F))))) (mo:=eVar 5) (ρ:=ρB (.tup (rsW rs)) (.fls (ds.map toW)) (stW st) (.fls (ans.map .int)) (.fls (ns.map .int)) H.length H1.length o7 o8 (some (.fls ((byT (ds.map tr) ⟨st,ans,[],0⟩ ns).1.map .int)))) w4.g rfl;have md:=znU (F:=step (step (step (step (step F))))) (mo:=eVar 5) (ρ:=ρB (.tup (rsW rs)) (.fls (ds.map toW)) (stW st) (.fls (ans.map .int)) (.fls (ns.map .int)) H.length H1.length o7 o8 (some (.fls ((byT (ds.map tr) ⟨st,ans,[],0⟩ ns).1.map .int)))) w4.g rfl;have mk:=w4.g.fK;have g6:step (step (step (step (step (step F)))))=G6 F:=rfl;rw[g6] at mr e2 ca ms md;rw[f_by];refine u5 (zaf (ρ:=[some (.tup (rsW rs)),some (.fls (ds.map toW)),some (stW st),some (.fls (ans.map .int)),some (.fls (ns.map .int)),none,none,none,none,none]) rfl rfl ?_) zgb w4.p (.inl nofun);rw[znc];rw[xM (ρ':=[some (.tup (rsW rs)),some (.fls (ds.map toW)),some (stW st),some (.fls (ans.map .int)),some (.fls (ns.map .int)),some (.ref H.length),none,none,none,none]) (h':=H1) (zbv mr rfl)];rw[xM (ρ':=ρB (.tup (rsW rs)) (.fls (ds.map toW)) (stW st) (.fls (ans.map .int)) (.fls (ns.map .int)) H.length H1.length none none none) (h':=H2) (zbv (zc4 (h1:=H1) (l:=ds.map toW) rfl rfl e2) rfl)]
 rw[xM (ρ':=ρB (.tup (rsW rs)) (.fls (ds.map toW)) (stW st) (.fls (ans.map .int)) (.fls (ns.map .int)) H.length H1.length o7 none none) (h':=H3) (by
  unfold sFor;rw[show iSeq (eVar 4) (ρB (.tup (rsW rs)) (.fls (ds.map toW)) (stW st) (.fls (ans.map .int)) (.fls (ns.map .int)) H.length H1.length none none none) H2=some (.items (ns.map .int),H2) from rfl]
  exact e3)]
 have wl3:=w3.l
 rw[xM (ρ':=ρB (.tup (rsW rs)) (.fls (ds.map toW)) (stW st) (.fls (ans.map .int)) (.fls (ns.map .int)) H.length H1.length o7 o8 none) (h':=H4) (by
  unfold sFor;rw[show iSeq (eVar 6) (ρB (.tup (rsW rs)) (.fls (ds.map toW)) (stW st) (.fls (ans.map .int)) (.fls (ns.map .int)) H.length H1.length o7 none none) H3=some (.live H1.length,H3) by simp only[iSeq,bnd,eVar,zG,zq,srcOf,wl3]];have sl:zbH (.live H1.length) H3=L3.length:=by simp only[zbH,wl3,zH]
  simp only[sl]
  exact e4)]
 rw[xM (ρ':=ρB (.tup (rsW rs)) (.fls (ds.map toW)) (stW st) (.fls (ans.map .int)) (.fls (ns.map .int)) H.length H1.length o7 o8 (some (.fls ((byT (ds.map tr) ⟨st,ans,[],0⟩ ns).1.map .int)))) (h':=H4) (zbv ca rfl)];unfold sRet xK;simp only[xU,bnd,eVar,zG,zq];rw[ms];simp only;rw[md];simp only[eFld,bnd,eVar,zG,zq,mk,tupW,zm,zP,c4,kI];rfl
end
section
variable{rs:List Rule}{H:MH}{F:Fs}{tr:D->Tr Int}{C:Nat}{st:Str->Int}{ans:List Int}
theorem f_all(F:Fs):(step F).aZ=gc (fnM 4 0 (cQ F)):=rfl
theorem aM(F:Fs):(step F).aM=gc (fnM 4 1 (fC F)):=rfl
theorem bC(F:Fs):(step F).bC=gc (fnM 4 0 (cX F)):=rfl
def zet(hr:RsOk rs){ds:List D}(hC:5*C+210<=cap)(hR:∀d∈ds,Rep rs [(false,d,[])] [] [] (tr d) C)(hb:ds.length*C<cap)(hl:ds.length<=1000)(ha:ans.length<=cap)(H:MH) :
  (step (step (G6 F))).aZ [.tup (rsW rs),.fls (ds.map toW),stW st,.fls (ans.map .int)] H=some (outW (endT (ds.map tr) ⟨st,ans,[],0⟩),H):=by
 have e:=zkq (F:=F) (st:=st) (ns:=[]) hr hC hR hb hl ha H;have c0:(0:Nat)<=cap:=by decide
 rw[f_all];generalize step (G6 F)=G at e ⊢;refine zbd (zaf (ρ:=[some (.tup (rsW rs)),some (.fls (ds.map toW)),some (stW st),some (.fls (ans.map .int))]) rfl rfl ?_) zgb;unfold cQ sRet xK;simp only[xU,bnd,eVar,zG,zq,flsW,zP,c0,kI];have e':G.cM [.tup (rsW rs),.fls (ds.map toW),stW st,.fls (ans.map .int),.fls []] H=some (outW (endT (ds.map tr) ⟨st,ans,[],0⟩),H):=e;rw[e']
noncomputable def oneW(v:Int)(r:Rm):W:=.tup [.int v,stW r.st,.fls (r.sp.map .int),.int r.k]
theorem zkI:low m (oneW v r)=true:=by
 unfold oneW low lows;rw[uL];unfold lows;rw[zcG];unfold lows;rw[zb3];unfold lows;rw[uL];unfold lows;rfl
def zpv(hr:RsOk rs){T:Tr Int}(hC:5*C+210<=cap)(hR:Rep rs [(false,d,[])] [] [] T C)(hb:C<cap)(ha:ans.length<=cap)(H:MH) :
  (step (step (step (G6 F)))).aM [.tup (rsW rs),toW d,stW st,.fls (ans.map .int)] H=some (oneW (runT T ⟨st,ans,[],0⟩).1 (runT T ⟨st,ans,[],0⟩).2.1,H):=by
 have e:=zet (F:=F) (st:=st) (tr:=λ_=>T) (ds:=[d]) hr hC (λx hx=>by simp at hx; subst hx; exact hR) (by simpa using hb) (by simp) ha H;have c1:(1:Nat)<=cap:=by decide
 have c4:(4:Nat)<=cap:=by decide
 rw[aM];generalize step (step (G6 F))=G at e ⊢;refine zbd (zaf (ρ:=[some (.tup (rsW rs)),some (toW d),some (stW st),some (.fls (ans.map .int)),none]) rfl rfl ?_) zkI;have e':G.aZ [.tup (rsW rs),.fls [toW d],stW st,.fls (ans.map .int)] H=some (.tup [.fls [.int (runT T ⟨st,ans,[],0⟩).1],stW (runT T ⟨st,ans,[],0⟩).2.1.st,.fls ((runT T ⟨st,ans,[],0⟩).2.1.sp.map .int),.int (runT T ⟨st,ans,[],0⟩).2.1.k],H):=e;unfold oneW;generalize (runT T ⟨st,ans,[],0⟩).1=v at e' ⊢;generalize (runT T ⟨st,ans,[],0⟩).2.1=q at e' ⊢;simp![fC,flsW,c1,e',ix0,ix1,ix2,ix3,ixf0,tupW,c4]
def zll(hr:RsOk rs){T:Tr Int}(hC:5*C+210<=cap)(hR:Rep rs [(false,d,[])] [] [] T C)(hb:C<cap)(ha:ans.length<=cap)(H:MH) :
  (step (G6 F)).bC [.tup (rsW rs),toW d,stW st,.fls (ans.map .int)] H=some (.fls (dWs (runT T ⟨st,ans,[],0⟩).2.2),H):=by
 have m1:=zft (F:=step (step (step (step F)))) (rs:=rs) (H:=H) (d:=toW d) (ρ:=[some (.tup (rsW rs)),some (toW d),some (stW st),some (.fls (ans.map .int))]) (m1:=eVar 0) (m2:=eVar 1) rfl rfl;have S0:=zgD (na:=(H++blk rs d H.length).length+1) rs d H;have p0:H<+:H++blk rs d H.length:=jh _ _;have l0:(H++blk rs d H.length).length=H.length+3:=by rw[zF]; rfl
 generalize (H++blk rs d H.length)=H1 at m1 S0 p0 l0;have m2:=zgz (F:=step (step (step (step F)))) (H:=H1) (st:=st) (ans:=ans) (ρ:=[some (.tup (rsW rs)),some (toW d),some (stW st),some (.fls (ans.map .int))]) (m1:=eVar 2) (m2:=eVar 3) rfl rfl;have g0:=zgs (H:=H1) (st:=st) (ans:=ans);have S1':=S0.app [.ins 1 (roF (H1.length+1) (H1.length+2) (ans.map .int) 0),.dic (shW st),.lst []];have p1:H<+:(H1++[.ins 1 (roF (H1.length+1) (H1.length+2) (ans.map .int) 0),.dic (shW st),.lst []]:MH):=p0.trans (jh _ _);generalize (H1++[.ins 1 (roF (H1.length+1) (H1.length+2) (ans.map .int) 0),.dic (shW st),.lst []]:MH)=H2 at m2 g0 S1' p1;have g6:step (step (step (step (step (step F)))))=G6 F:=rfl
 obtain⟨w,H',ca',s',e,hh,R',g',fm,hc,z1,z2⟩:=zle (F:=F) hr (.mk S1' hR) g0 (λn hn z=>by
  simp only[zb,zc,zO] at hn z
  omega) ∅ (zj _) (by simpa using hb) ha
 rw[g6] at m1 m2 e;have pre:H<+:H':=fm.pre p1 λn hn=>by
  simp only[jk,zY,zb,zc,zO] at hn;omega
 have raw:fnM 4 0 (cX (G6 F)) [.tup (rsW rs),toW d,stW st,.fls (ans.map .int)] H=some (w,H'):=by
  refine zaf (ρ:=[some (.tup (rsW rs)),some (toW d),some (stW st),some (.fls (ans.map .int))]) rfl rfl ?_;unfold cX sRet xK;simp only[xU,bnd,m1,m2,e]
 rw[bC];rcases hh with rfl | ⟨n,rfl,hn,ho⟩
 .exact u5 raw (by unfold low; exact zfp _) pre (.inl nofun)
 .exact zin raw pre (by have:=p1.length_le; omega) ho (zfp _)
end
theorem zcl{α β:Type}(f:α->Tr β):∀(T:Tr α) (r:Rm),runT (T.bind f) r=((runT (f (runT T r).1) (runT T r).2.1).1,(runT (f (runT T r).1) (runT T r).2.1).2.1,(runT T r).2.2++(runT (f (runT T r).1) (runT T r).2.1).2.2)
 | .ret a,r=>by simp[Tr.bind,runT]
 | .tch t k,r=>by
  simp only[Tr.bind,runT];rw[zcl f (k (doT t r).1) (doT t r).2];rfl
noncomputable def shf(pre:List Int)(T:Tc):Tc:=T.bind λp=>.ret (p.1,pre++p.2)
structure ShR(pre:List Int)(N O H:List Str)(ρ1 ρ2:Sv):Prop where
 nm:∀v∈N,∃i,ρ1 v=.int i/\ρ2 v=.int i
 ow:∀v∈O,∃c,ρ1 v=.cell c/\ρ2 v=.cell (pre.length+c)
 hd:∀v∈H,∃f g,ρ1 v=.fn f/\ρ2 v=.fn g/\∀cs,g (pre++cs)=shf pre (f cs)
section
variable{pre:List Int}{rs:List Rule}{R:Rn}
def ShR.lett{N O H:List Str}{ρ1 ρ2:Sv}{x:Str}{i:Int}(e:ShR pre N O H ρ1 ρ2)(ho:x∉O)(hh:x∉H):ShR pre (N++[x]) O H (us ρ1 x (.int i)) (us ρ2 x (.int i)):=by
 unfold us;refine⟨λv hv=>?_,λv hv=>?_,λv hv=>?_⟩
 .by_cases q:x=v
  .exact⟨i,zX q,zX q⟩
  .have:v∈N:=by
    rcases zV.mp hv with z | z
    .exact z
    .simp at z; exact absurd z.symm q
   obtain⟨j,a,b⟩:=e.nm v this;exact⟨j,by rw[kO q,a],by rw[kO q,b]⟩
 .have q:x≠v:=λz=>ho (z▸hv)
  obtain⟨c,a,b⟩:=e.ow v hv;exact⟨c,by rw[kO q,a],by rw[kO q,b]⟩
 .have q:x≠v:=λz=>hh (z▸hv)
  obtain⟨f,g,a,b,z⟩:=e.hd v hv;exact⟨f,g,by rw[kO q,a],by rw[kO q,b],z⟩
def ShR.own{N O H:List Str}{ρ1 ρ2:Sv}{x:Str}{c:Nat}(e:ShR pre N O H ρ1 ρ2)(ho:x∉N)(hh:x∉H):ShR pre N (O++[x]) H (us ρ1 x (.cell c)) (us ρ2 x (.cell (pre.length+c))):=by
 unfold us;refine⟨λv hv=>?_,λv hv=>?_,λv hv=>?_⟩
 .have q:x≠v:=λz=>ho (z▸hv)
  obtain⟨c,a,b⟩:=e.nm v hv;exact⟨c,by rw[kO q,a],by rw[kO q,b]⟩
 .by_cases q:x=v
  .exact⟨c,zX q,zX q⟩
  .have:v∈O:=by
    rcases zV.mp hv with z | z
    .exact z
    .simp at z; exact absurd z.symm q
   obtain⟨j,a,b⟩:=e.ow v this;exact⟨j,by rw[kO q,a],by rw[kO q,b]⟩
 .have q:x≠v:=λz=>hh (z▸hv)
  obtain⟨f,g,a,b,z⟩:=e.hd v hv;exact⟨f,g,by rw[kO q,a],by rw[kO q,b],z⟩
theorem zg2:∀(l:List (Str×Int)) {ρ1 ρ2:Sv},ShR pre N [] [] ρ1 ρ2->ShR pre (N++l.map (·.1)) [] [] (l.foldl (λe p=>us e p.1 (.int p.2)) ρ1) (l.foldl (λe p=>us e p.1 (.int p.2)) ρ2)
 | [],ρ1,ρ2,e=>by simpa using e
 | (x,i)::r,ρ1,ρ2,e=>by
  have:=zg2 r (e.lett (x:=x) (i:=i) (by simp) (by simp));rw[kE] at this;exact this
theorem zii:∀(l:List (Str×(List Int->Tc)×(List Int->Tc))) (H:List Str) {ρ1 ρ2:Sv},(∀v∈N,v∉l.map (·.1))->(∀p∈l,∀cs,p.2.2 (pre++cs)=shf pre (p.2.1 cs))->ShR pre N [] H ρ1 ρ2->
  ShR pre N [] (H++l.map (·.1)) (l.foldl (λe p=>us e p.1 (.fn p.2.1)) ρ1) (l.foldl (λe p=>us e p.1 (.fn p.2.2)) ρ2)
 | [],H,ρ1,ρ2,_,_,e=>by simpa using e
 | (x,f,g)::r,H,ρ1,ρ2,hN,hB,e=>by
  have hx:∀v∈N,v≠x:=λv hv z=>hN v hv (by simp[z])
  have e2:ShR pre N [] (H++[x]) (us ρ1 x (.fn f)) (us ρ2 x (.fn g)):=by
   unfold us;refine⟨λv hv=>?_,λv hv=>by simp at hv,λv hv=>?_⟩
   .obtain⟨i,a,b⟩:=e.nm v hv
    have q:¬x=v:=λz=>hx v hv z.symm
    exact⟨i,by rw[kO q,a],by rw[kO q,b]⟩
   .by_cases q:x=v
    .exact⟨f,g,zX q,zX q,hB (x,f,g) zZ⟩
    .have:v∈H:=by
      rcases zV.mp hv with z | z
      .exact z
      .simp at z; exact absurd z.symm q
     obtain⟨f',g',a,b,z⟩:=e.hd v this;exact⟨f',g',by rw[kO q,a],by rw[kO q,b],z⟩
  have:=zii r (H++[x]) (λv hv z=>hN v hv (by simp only[zy]; exact zN _ z)) (λp hp=>hB p (zN _ hp)) e2;rw[kE] at this;exact this
theorem zg3{σ:Type}(f:σ->Str×(List Int->Tc)->σ):∀(hs:List Str) (fs gs:List (List Int->Tc)) (s:σ),fs.length=gs.length->(hs.zip fs).foldl f s=(hs.zip (fs.zip gs)).foldl (λe p=>f e (p.1,p.2.1)) s
 | [],_,_,_,_=>rfl
 | _::_,[],[],_,_=>rfl
 | x::hs,b::bs,c::cs,s,h=>by simp only[jr,j5]; exact zg3 f hs bs cs _ (by simpa using h)
theorem zgt{σ:Type}(f:σ->Str×(List Int->Tc)->σ):∀(hs:List Str) (fs gs:List (List Int->Tc)) (s:σ),fs.length=gs.length->(hs.zip gs).foldl f s=(hs.zip (fs.zip gs)).foldl (λe p=>f e (p.1,p.2.2)) s
 | [],_,_,_,_=>rfl
 | _::_,[],[],_,_=>rfl
 | x::hs,b::bs,c::cs,s,h=>by simp only[jr,j5]; exact zgt f hs bs cs _ (by simpa using h)
def zmI{r:Rule}{fs gs:List (List Int->Tc)}(hf:fs.length=r.hs.length)(hg:gs.length=r.hs.length)(hd:∀v∈r.ns,v∉r.hs)(hB:∀p∈fs.zip gs,∀cs,p.2 (pre++cs)=shf pre (p.1 cs)):ShR pre r.ns [] r.hs (cρ r xs fs) (cρ r xs gs):=by
 unfold cρ;rw[zg3 (λe p=>us e p.1 (.fn p.2)) r.hs fs gs _ ∅,zgt (λe p=>us e p.1 (.fn p.2)) r.hs fs gs _ ∅];have e0:ShR pre r.ns [] [] ρ0 ρ0:=⟨λv hv=>⟨0,rfl,rfl⟩,λv hv=>by simp at hv,λv hv=>by simp at hv⟩;have e1':=zg2 (r.ns.zip xs) e0;have e1:ShR pre r.ns [] [] _ _:=⟨λv hv=>e1'.nm v (jQ _ hv),e1'.ow,e1'.hd⟩;have zl:(r.hs.zip (fs.zip gs)).map (·.1)=r.hs:=zcW (by rw[qg]; omega);have e2:=zii (r.hs.zip (fs.zip gs)) [] (by rw[zl]; exact hd) (λp hp cs=>hB p.2 (qT (a:=p.1) (b:=p.2) hp).2 cs) e1;rw[zl,zY] at e2;exact e2
noncomputable def RSh(rs:List Rule)(pre:List Int)(R:Rn)(k:Nat):Prop:=∀i,i<k->∀r,rs[i]?=some r->∀(xs:List Int) (fs gs:List (List Int->Tc)) (cs:List Int),ShR pre r.ns [] r.hs (cρ r xs fs) (cρ r xs gs)->R i xs gs (pre++cs)=shf pre (R i xs fs cs)
theorem uT{β:Type}(T:Tc)(f:Int×List Int->Tr β):(shf pre T).bind f=T.bind λp=>f (p.1,pre++p.2):=by
 unfold shf;rw[Tr.bind_assoc];rfl
def uZ{α:Type}(T:Tr α)(f:α->Tc):shf pre (T.bind f)=T.bind λp=>shf pre (f p):=by
 unfold shf;rw[Tr.bind_assoc]
theorem zk8{f:List Int->Tc}(h:∀cs,g (pre++cs)=shf pre (f cs)):∀(n:Nat) (cs:List Int),rp g n (pre++cs)=shf pre (rp f n cs)
 | 0,cs=>rfl
 | n+1,cs=>by
  simp only[rp];rw[h,uT,uZ];congr 1
  funext p
  exact zk8 h n p.2
def zlP(cs:List Int)(c:Nat)(x:Int):(pre++cs).set (pre.length+c) x=pre++cs.set c x:=by
 rw[jT _ _ ∅,yJ]
def zly(cs:List Int)(c:Nat):(pre++cs).getD (pre.length+c) 0=cs.getD c 0:=by
 rw[jj,jj,zE ∅,yJ]
def zmh(cs:List Int):(pre++cs).length=pre.length+cs.length:=zF
theorem zdj:∀(l:List D) (ρ:Sv),(denf R l ρ).length=l.length
 | [],_=>by simp[denf]
 | d::l,ρ=>by simp only[denf,zm]; rw[zdj l ρ]
mutual
theorem uI(HB:RSh rs pre R k)(hrs:RsOk rs):∀(d:D) {N O H:List Str} {ρ1 ρ2:Sv} (cs:List Int),Wf rs k d N O H->ShR pre N O H ρ1 ρ2->den R d ρ2 (pre++cs)=shf pre (den R d ρ1 cs)
 | .number i,N,O,H,ρ1,ρ2,cs,w,E=>by simp only[den,shf,Tr.bind]
 | .name v,N,O,H,ρ1,ρ2,cs,w,E=>by
  simp only[Wf] at w;obtain⟨i,a,b⟩:=E.nm v w;simp only[den,shf,Tr.bind,a,b]
 | .read v,N,O,H,ρ1,ρ2,cs,w,E=>by
  simp only[Wf] at w;by_cases q:v∈SH
  .simp only[den,q,kI,shf,Tr.bind]
  .obtain⟨c,a,b⟩:=E.ow v (w.resolve_left q)
   simp only[den,q,jm,shf,Tr.bind,a,b,SV.c,zly]
 | .doo v,N,O,H,ρ1,ρ2,cs,w,E=>by
  simp only[Wf] at w;obtain⟨f,g,a,b,z⟩:=E.hd v w;simp only[den,a,b,SV.f,z]
 | .ask,N,O,H,ρ1,ρ2,cs,w,E=>by simp only[den,shf,Tr.bind]
 | .write v a,N,O,H,ρ1,ρ2,cs,w,E=>by
  simp only[Wf] at w;simp only[den];rw[uI HB hrs a cs w.2 E,uT,uZ];congr 1
  funext p
  by_cases q:v∈SH
  .simp only[q,kI,shf,Tr.bind]
  .obtain⟨c,a,b⟩:=E.ow v (w.1.resolve_left q)
   simp only[q,jm,shf,Tr.bind,a,b,SV.c,zlP]
 | .say a,N,O,H,ρ1,ρ2,cs,w,E=>by
  simp only[Wf] at w;simp only[den];rw[uI HB hrs a cs w E,uT,uZ];rfl
 | .lett v a b,N,O,H,ρ1,ρ2,cs,w,E=>by
  simp only[Wf] at w;simp only[den];rw[uI HB hrs a cs w.2.1 E,uT,uZ];congr 1
  funext p
  exact uI HB hrs b p.2 w.2.2 (E.lett w.1.1 w.1.2.1)
 | .own v a b,N,O,H,ρ1,ρ2,cs,w,E=>by
  simp only[Wf] at w;simp only[den];rw[uI HB hrs a cs w.2.1 E,uT,uZ];congr 1
  funext p
  rw[zmh,kE];exact uI HB hrs b (p.2++[p.1]) w.2.2 (E.own w.1.1 w.1.2.1)
 | .add a b,N,O,H,ρ1,ρ2,cs,w,E | .less a b,N,O,H,ρ1,ρ2,cs,w,E=>by
  simp only[Wf] at w;simp only[den];rw[uI HB hrs a cs w.1 E,uT,uZ];congr 1
  funext p
  rw[uI HB hrs b p.2 w.2 E,uT,uZ];rfl
 | .thenn a b,N,O,H,ρ1,ρ2,cs,w,E=>by
  simp only[Wf] at w;simp only[den];rw[uI HB hrs a cs w.1 E,uT,uZ];congr 1
  funext p
  exact uI HB hrs b p.2 w.2 E
 | .loop a b,N,O,H,ρ1,ρ2,cs,w,E=>by
  simp only[Wf] at w;simp only[den];rw[uI HB hrs a cs w.1 E,uT,uZ];congr 1
  funext p
  exact zk8 (λcs=>uI HB hrs b cs w.2 E) _ _
 | .iff a b c,N,O,H,ρ1,ρ2,cs,w,E=>by
  simp only[Wf] at w;simp only[den];rw[uI HB hrs a cs w.1 E,uT,uZ];congr 1
  funext p
  by_cases q:p.1=0
  .simp only[q,kI]; exact uI HB hrs c p.2 w.2.2 E
  .simp only[q,jm]; exact uI HB hrs b p.2 w.2.1 E
 | .call i as bs,N,O,H,ρ1,ρ2,cs,w,E=>by
  simp only[Wf] at w;obtain⟨hi,⟨r,hr,la,lb⟩,wa,wb⟩:=w;simp only[den];rw[zgO HB hrs as cs wa E,Tr.bind_assoc,uZ];congr 1
  funext p
  exact HB i hi r hr p.1 (denf R bs ρ1) (denf R bs ρ2) p.2 (zmI (by rw[zdj,lb]) (by rw[zdj,lb]) (hrs.d i r hr) (zgK HB hrs bs wb E))
theorem zgO(HB:RSh rs pre R k)(hrs:RsOk rs):∀(l:List D) {N O H:List Str} {ρ1 ρ2:Sv} (cs:List Int),Wfs rs k l N O H->ShR pre N O H ρ1 ρ2->dens R l ρ2 (pre++cs)=(dens R l ρ1 cs).bind λp=>.ret (p.1,pre++p.2)
 | [],N,O,H,ρ1,ρ2,cs,w,E=>by simp only[dens,Tr.bind]
 | d::l,N,O,H,ρ1,ρ2,cs,w,E=>by
  simp only[Wfs] at w;simp only[dens];rw[uI HB hrs d cs w.1 E,uT,Tr.bind_assoc];congr 1
  funext p
  rw[zgO HB hrs l p.2 w.2 E,Tr.bind_assoc,Tr.bind_assoc];rfl
theorem zgK(HB:RSh rs pre R k)(hrs:RsOk rs):∀(l:List D) {N O H:List Str} {ρ1 ρ2:Sv},Wfs rs k l N O H->ShR pre N O H ρ1 ρ2->∀p∈(denf R l ρ1).zip (denf R l ρ2),∀cs,p.2 (pre++cs)=shf pre (p.1 cs)
 | [],N,O,H,ρ1,ρ2,w,E=>λp hp=>by simp[denf] at hp
 | d::l,N,O,H,ρ1,ρ2,w,E=>λp hp cs=>by
  simp only[Wfs] at w;simp only[denf,jr,zb] at hp;rcases hp with rfl | hp
  .exact uI HB hrs d cs w.1 E
  .exact zgK HB hrs l w.2 E p hp cs
end
theorem ziQ(hrs:RsOk rs):∀(k:Nat) {K:Nat},k<=K->RSh rs pre (semK rs K) k
 | 0,K,_=>λi hi=>by omega
 | k+1,K,hK=>by
  intro i hi r hr xs fs gs cs E;rw[zd2 hr (K:=K) ∅];exact uI (ziQ hrs i (K:=i) (zj _)) hrs r.body cs (hrs.w i r hr) E
termination_by k=>k
end
noncomputable abbrev Rr(rs:List Rule):Rn:=semK rs rs.length
noncomputable def treeOf(rs:List Rule)(d:D):Tr Int:=(den (Rr rs) d ρ0 []).bind λp=>.ret p.1
noncomputable abbrev cst(rs:List Rule)(d:D):Nat:=cost (zab rs rs.length) 0 d
noncomputable abbrev Cd(rs:List Rule)(d:D):Prop:=Wf rs rs.length d [] [] []
section
variable{rs:List Rule}
def zc8(hr:RsOk rs)(w:Cd rs d):Rep rs [(false,d,[])] [] [] (treeOf rs d) (cst rs d):=
 adq (bodies hr rs.length (zj _)) hr d w (env:=[]) (ρ:=ρ0) (h:=0) (m:=0) (cs:=[]) ⟨λv hv=>by simp at hv,λv hv=>by simp at hv,λv hv=>by simp at hv⟩ (zj _) [] [] (λp=>.ret p.1) 0 λv cs' _=>.done
theorem zcA(hr:RsOk rs){d:D}(w:Cd rs d){β:Type}(cs:List Int)(f:Int->Tr β):((den (Rr rs) d ρ0 cs).bind λp=>f p.1)=(treeOf rs d).bind f:=by
 have:=uI (ziQ (pre:=cs) hr rs.length (zj _)) hr d (ρ1:=ρ0) (ρ2:=ρ0) [] w ⟨λv hv=>by simp at hv,λv hv=>by simp at hv,λv hv=>by simp at hv⟩;rw[kh] at this;unfold treeOf;rw[this,uT,Tr.bind_assoc];rfl
def znI(hr:RsOk rs)(wa:Cd rs a)(wb:Cd rs b):treeOf rs (.thenn a b)=(treeOf rs a).bind λ_=>treeOf rs b:=by
 rw[<-zcA hr wa []];conv=>lhs; unfold treeOf
 simp only[den,Tr.bind_assoc];congr 1
 funext p
 rw[zcA hr wb p.2 .ret,Tr.bind_ret]
def zph(hr:RsOk rs)(wa:Cd rs a)(wb:Cd rs b):treeOf rs (.add a b)=(treeOf rs a).bind λx=>(treeOf rs b).bind λy=>.ret ((x+y)%1009):=by
 rw[<-zcA hr wa []];conv=>lhs; unfold treeOf
 simp only[den,Tr.bind_assoc];congr 1
 funext p
 exact zcA hr wb p.2 λy=>.ret ((p.1+y)%1009)
noncomputable def says:List (Tch×Int)->List Int
 | []=>[]
 | (.say x,_)::l=>x::says l
 | _::l=>says l
noncomputable def asks:List (Tch×Int)->Nat
 | []=>0
 | (.ask,_)::l=>asks l+1
 | _::l=>asks l
theorem zbk:∀(T:Tr Int) (r:Rm),(runT T r).2.1.sp=r.sp++says (runT T r).2.2/\(runT T r).2.1.k=r.k+asks (runT T r).2.2
 | .ret v,r=>by simp[runT,says,asks]
 | .tch t k,r=>by
  have ih:=zbk (k (doT t r).1) (doT t r).2;simp only[runT];rw[ih.1,ih.2];cases t<;>simp[doT,says,asks]<;>omega
end
mutual
noncomputable def dpt:D->Nat
 | .write _ a=>dpt a+1
 | .say a=>dpt a+1
 | .lett _ a b=>max (dpt a) (dpt b)+1
 | .own _ a b=>max (dpt a) (dpt b)+1
 | .add a b=>max (dpt a) (dpt b)+1
 | .less a b=>max (dpt a) (dpt b)+1
 | .thenn a b=>max (dpt a) (dpt b)+1
 | .loop a b=>max (dpt a) (dpt b)+1
 | .iff a b c=>max (dpt a) (max (dpt b) (dpt c))+1
 | .call _ as bs=>max (dpts as) (dpts bs)+1
 | _=>0
noncomputable def dpts:List D->Nat
 | []=>0
 | d::r=>max (dpt d) (dpts r)
end
noncomputable abbrev wS(l:List Str):Prop:=∀v∈l,dt 1 (.str v)=true
def zg6(h:wS l)(hv:dt 1 (.str v)=true):wS (l++[v]):=by
 intro u hu;rcases zV.mp hu with z | z
 .exact h u z
 .simp at z; subst z; exact hv
def zaC{r:List W}(hx:dt 1 (.str x)=true)(hl:r.length<=3)(h:∀w∈r,dt (n+1) w=true):dt (n+2) (th x r)=true:=zbz (by simp; omega) λw hw=>by
 rcases zb.mp hw with rfl | z
 .exact um hx ∅
 .exact h w z
def dtS(h:dt 1 (.str v)=true):dt (n+1) (.str v)=true:=um h ∅
section
variable{rs:List Rule}{k:Nat}
def zk6(h:v∈SH\/v∈O)(hO:wS O):dt 1 (.str v)=true:=h.elim zhO (hO v)
def znt(hx:dt 1 (.str x)=true)(ha:dt (2+2*m) u=true)(hb:dt (2+2*m) v=true):dt (2+2*(m+1)) (th x [u,v])=true:=by
 rw[show 2+2*(m+1)=(2+2*m)+2 by omega];refine zaC hx (by simp) λw hw=>?_
 simp only[zb,zc,zO] at hw;rcases hw with rfl | rfl
 .exact um ha ∅
 .exact um hb ∅
mutual
theorem uX(hl:∀(i:Nat) (r:Rule),rs[i]?=some r->r.ns.length<=3/\r.hs.length<=3):∀(d:D) {N O H:List Str} {n:Nat},Wf rs k d N O H->wS N->wS O->wS H->dpt d<=n->dt (2+2*n) (toW d)=true
 | .number i,N,O,H,n,w,hN,hO,hH,hd=>by
  rw[vd];exact zaC ⋯ (by simp) (by simp[dt])
 | .name v,N,O,H,n,w,hN,hO,hH,hd=>by
  simp only[Wf] at w;rw[vd];exact zaC ⋯ (by simp) (by simpa using dtS (hN v w))
 | .read v,N,O,H,n,w,hN,hO,hH,hd=>by
  simp only[Wf] at w;rw[vd];exact zaC ⋯ (by simp) (by simpa using dtS (zk6 w hO))
 | .doo v,N,O,H,n,w,hN,hO,hH,hd=>by
  simp only[Wf] at w;rw[vd];exact zaC ⋯ (by simp) (by simpa using dtS (hH v w))
 | .ask,N,O,H,n,w,hN,hO,hH,hd=>by
  rw[vd];exact zaC ⋯ (by simp) (by simp)
 | .write v a,N,O,H,n,w,hN,hO,hH,hd=>by
  simp only[Wf] at w;simp only[dpt] at hd;obtain⟨m,rfl⟩:∃m,n=m+1:=⟨n-1,by omega⟩;have ha:=uX hl a w.2 hN hO hH (show dpt a<=m by omega);rw[show 2+2*(m+1)=(2+2*m)+2 by omega];refine zaC ⋯ (by simp) λu hu=>?_
  simp only[zb,zc,zO] at hu;rcases hu with rfl | rfl
  .exact dtS (zk6 w.1 hO)
  .exact um ha ∅
 | .say a,N,O,H,n,w,hN,hO,hH,hd=>by
  simp only[Wf] at w;simp only[dpt] at hd;obtain⟨m,rfl⟩:∃m,n=m+1:=⟨n-1,by omega⟩;have ha:=uX hl a w hN hO hH (show dpt a<=m by omega);rw[show 2+2*(m+1)=(2+2*m)+2 by omega];refine zaC ⋯ (by simp) λu hu=>?_
  simp only[zb,zc,zO] at hu;subst hu;exact um ha ∅
 | .lett v a b,N,O,H,n,w,hN,hO,hH,hd=>by
  simp only[Wf] at w;simp only[dpt] at hd;obtain⟨m,rfl⟩:∃m,n=m+1:=⟨n-1,by omega⟩;have ha:=uX hl a w.2.1 hN hO hH (show dpt a<=m by omega);have hb:=uX hl b w.2.2 (zg6 hN w.1.2.2) hO hH (show dpt b<=m by omega);rw[show 2+2*(m+1)=(2+2*m)+2 by omega];refine zaC ⋯ (by simp) λu hu=>?_
  simp only[zb,zc,zO] at hu;rcases hu with rfl | rfl | rfl
  .exact dtS w.1.2.2
  .exact um ha ∅
  .exact um hb ∅
 | .own v a b,N,O,H,n,w,hN,hO,hH,hd=>by
  simp only[Wf] at w;simp only[dpt] at hd;obtain⟨m,rfl⟩:∃m,n=m+1:=⟨n-1,by omega⟩;have ha:=uX hl a w.2.1 hN hO hH (show dpt a<=m by omega);have hb:=uX hl b w.2.2 hN (zg6 hO w.1.2.2) hH (show dpt b<=m by omega);rw[show 2+2*(m+1)=(2+2*m)+2 by omega];refine zaC ⋯ (by simp) λu hu=>?_
  simp only[zb,zc,zO] at hu;rcases hu with rfl | rfl | rfl
  .exact dtS w.1.2.2
  .exact um ha ∅
  .exact um hb ∅
 | .add a b,N,O,H,n,w,hN,hO,hH,hd | .less a b,N,O,H,n,w,hN,hO,hH,hd | .thenn a b,N,O,H,n,w,hN,hO,hH,hd | .loop a b,N,O,H,n,w,hN,hO,hH,hd=>by
  simp only[Wf] at w;simp only[dpt] at hd;obtain⟨m,rfl⟩:∃m,n=m+1:=⟨n-1,by omega⟩;exact znt ⋯ (uX hl a w.1 hN hO hH (show dpt a<=m by omega)) (uX hl b w.2 hN hO hH (show dpt b<=m by omega))
 | .iff a b c,N,O,H,n,w,hN,hO,hH,hd=>by
  simp only[Wf] at w;simp only[dpt] at hd;obtain⟨m,rfl⟩:∃m,n=m+1:=⟨n-1,by omega⟩;have ha:=uX hl a w.1 hN hO hH (show dpt a<=m by omega);have hb:=uX hl b w.2.1 hN hO hH (show dpt b<=m by omega);have hc:=uX hl c w.2.2 hN hO hH (show dpt c<=m by omega);rw[show 2+2*(m+1)=(2+2*m)+2 by omega];refine zaC ⋯ (by simp) λu hu=>?_
  simp only[zb,zc,zO] at hu;rcases hu with rfl | rfl | rfl
  .exact um ha ∅
  .exact um hb ∅
  .exact um hc ∅
 | .call i as bs,N,O,H,n,w,hN,hO,hH,hd=>by
  simp only[Wf] at w;obtain⟨hi,⟨r,hr,la,lb⟩,wa,wb⟩:=w;simp only[dpt] at hd;obtain⟨m,rfl⟩:∃m,n=m+1:=⟨n-1,by omega⟩;have hL:=hl i r hr;rw[show 2+2*(m+1)=(2+2*m)+2 by omega];refine zaC ⋯ (by simp) λu hu=>?_
  simp only[zb,zc,zO] at hu;rcases hu with rfl | rfl | rfl
  .rfl
  .exact zbz (by rw[zah,zH]; omega) (zd1 hl as wa hN hO hH ∅)
  .exact zbz (by rw[zah,zH]; omega) (zd1 hl bs wb hN hO hH ∅)
theorem zd1(hl:∀(i:Nat) (r:Rule),rs[i]?=some r->r.ns.length<=3/\r.hs.length<=3):∀(l:List D) {N O H:List Str} {n:Nat},Wfs rs k l N O H->wS N->wS O->wS H->dpts l<=n->∀w∈toWs l,dt (2+2*n) w=true
 | [],N,O,H,n,w,hN,hO,hH,hd=>λu hu=>by simp[toWs] at hu
 | d::l,N,O,H,n,w,hN,hO,hH,hd=>λu hu=>by
  simp only[Wfs] at w;simp only[dpts] at hd;simp only[toWs,zb] at hu;rcases hu with rfl | hu
  .exact uX hl d w.1 hN hO hH ∅
  .exact zd1 hl l w.2 hN hO hH ∅ u hu
end
noncomputable def D.parts:D->List D
 | .write _ a=>[a]
 | .say a=>[a]
 | .lett _ a b=>[a,b]
 | .own _ a b=>[a,b]
 | .add a b=>[a,b]
 | .less a b=>[a,b]
 | .thenn a b=>[a,b]
 | .loop a b=>[a,b]
 | .iff a b c=>[a,b,c]
 | .call _ as bs=>as++bs
 | _=>[]
def tup_of(d:D):∃l,toW d=.tup l:=by cases d<;>(simp only[toW]; exact⟨_,rfl⟩)
def zm1(d:D):uG (toW d)=d.parts.map toW:=by
 have key:∀(x:Str) (p:Int×Int),(x==("call":Str))=false->fm x=some p->∀r:List W,uG (th x r)=r.drop (p.2.toNat-1):=by
  intro x p hc hf r;simp only[uG,hc,hf];rfl
 cases d with
 | number i=>simp only[toW]; rw[key _ (2,2) ⋯ ⋯]; rfl
 | name i=>simp only[toW]; rw[key _ (2,2) ⋯ ⋯]; rfl
 | read i=>simp only[toW]; rw[key _ (2,2) ⋯ ⋯]; rfl
 | doo i=>simp only[toW]; rw[key _ (2,2) ⋯ ⋯]; rfl
 | ask=>simp only[toW]; rw[key _ (1,1) ⋯ ⋯]; rfl
 | write v a=>simp only[toW]; rw[key _ (3,2) ⋯ ⋯]; rfl
 | say a=>simp only[toW]; rw[key _ (2,1) ⋯ ⋯]; rfl
 | lett v a b=>simp only[toW]; rw[key _ (4,2) ⋯ ⋯]; rfl
 | own v a b=>simp only[toW]; rw[key _ (4,2) ⋯ ⋯]; rfl
 | add a b=>simp only[toW]; rw[key _ (3,1) ⋯ ⋯]; rfl
 | less a b=>simp only[toW]; rw[key _ (3,1) ⋯ ⋯]; rfl
 | thenn a b=>simp only[toW]; rw[key _ (3,1) ⋯ ⋯]; rfl
 | loop a b=>simp only[toW]; rw[key _ (3,1) ⋯ ⋯]; rfl
 | iff a b c=>simp only[toW]; rw[key _ (4,1) ⋯ ⋯]; rfl
 | call i as bs=>simp only[toW]; rw[zbD,zah,zah,D.parts,jU]
def zpt{H:List Str}(w:Wf rs k d N O H):Sh (rsW rs) k H (toW d):=by
 cases d with
 | number i=>simp only[toW]; exact .number i
 | name i=>simp only[toW]; exact .name i
 | read i=>simp only[toW]; exact .read i
 | doo i=>simp only[toW]; simp only[Wf] at w; exact .doo i w
 | ask=>simp only[toW]; exact .ask
 | write v a=>obtain⟨l,e⟩:=tup_of a; simp only[toW]; rw[e]; exact .write v l
 | say a=>obtain⟨l,e⟩:=tup_of a; simp only[toW]; rw[e]; exact .say l
 | lett v a b=>obtain⟨l,e⟩:=tup_of a; obtain⟨l',e'⟩:=tup_of b; simp only[toW]; rw[e,e']; exact .lett v l l'
 | own v a b=>obtain⟨l,e⟩:=tup_of a; obtain⟨l',e'⟩:=tup_of b; simp only[toW]; rw[e,e']; exact .own v l l'
 | add a b=>obtain⟨l,e⟩:=tup_of a; obtain⟨l',e'⟩:=tup_of b; simp only[toW]; rw[e,e']; exact .add l l'
 | less a b=>obtain⟨l,e⟩:=tup_of a; obtain⟨l',e'⟩:=tup_of b; simp only[toW]; rw[e,e']; exact .less l l'
 | thenn a b=>obtain⟨l,e⟩:=tup_of a; obtain⟨l',e'⟩:=tup_of b; simp only[toW]; rw[e,e']; exact .thenn l l'
 | loop a b=>obtain⟨l,e⟩:=tup_of a; obtain⟨l',e'⟩:=tup_of b; simp only[toW]; rw[e,e']; exact .loop l l'
 | iff a b c=>obtain⟨l,e⟩:=tup_of a; obtain⟨l',e'⟩:=tup_of b; obtain⟨l2,e2⟩:=tup_of c; simp only[toW]; rw[e,e',e2]; exact .iff l l' l2
 | call i as bs=>
  simp only[Wf] at w;obtain⟨hi,⟨r,hr,la,lb⟩,wa,wb⟩:=w;simp only[toW];exact .call i _ _ hi (xN r.ns) r.hs (toW r.body) (ze4 hr) (by rw[zah,zH]; exact lb)
theorem zdW:∀{l:List D} {N O H:List Str},Wfs rs k l N O H->∀d∈l,Wf rs k d N O H/\dpt d<=dpts l
 | [],N,O,H,w,d,hd=>by simp at hd
 | x::l,N,O,H,w,d,hd=>by
  simp only[Wfs] at w;simp only[dpts];rcases zb.mp hd with rfl | z
  .exact⟨w.1,by omega⟩
  .have:=zdW w.2 d z
   exact⟨this.1,by omega⟩
def zjA{d:D}{H:List Str}(w:Wf rs k d N O H):∀a∈d.parts,(∃N' O',Wf rs k a N' O' H)/\dpt a+1<=dpt d:=by
 intro p hp;cases d with
 | write v a=>simp only[D.parts,zb,zc,zO] at hp; subst hp; simp only[Wf] at w; exact⟨⟨_,_,w.2⟩,by simp only[dpt]; omega⟩
 | say a=>simp only[D.parts,zb,zc,zO] at hp; subst hp; simp only[Wf] at w; exact⟨⟨_,_,w⟩,by simp only[dpt]; omega⟩
 | lett v a b | own v a b=>simp only[D.parts,zb,zc,zO] at hp; simp only[Wf] at w; rcases hp with rfl | rfl; exact⟨⟨_,_,w.2.1⟩,by simp only[dpt]; omega⟩; exact⟨⟨_,_,w.2.2⟩,by simp only[dpt]; omega⟩
 | add a b | less a b | thenn a b | loop a b=>simp only[D.parts,zb,zc,zO] at hp; simp only[Wf] at w; rcases hp with rfl | rfl; exact⟨⟨_,_,w.1⟩,by simp only[dpt]; omega⟩; exact⟨⟨_,_,w.2⟩,by simp only[dpt]; omega⟩
 | iff a b c=>simp only[D.parts,zb,zc,zO] at hp; simp only[Wf] at w; rcases hp with rfl | rfl | rfl; exact⟨⟨_,_,w.1⟩,by simp only[dpt]; omega⟩; exact⟨⟨_,_,w.2.1⟩,by simp only[dpt]; omega⟩; exact⟨⟨_,_,w.2.2⟩,by simp only[dpt]; omega⟩
 | call i as bs=>
  simp only[Wf] at w;simp only[D.parts] at hp;rcases zV.mp hp with z | z
  .have:=zdW w.2.2.1 p z
   exact⟨⟨_,_,this.1⟩,by simp only[dpt]; omega⟩
  .have:=zdW w.2.2.2 p z
   exact⟨⟨_,_,this.1⟩,by simp only[dpt]; omega⟩
 | _=>simp[D.parts] at hp
theorem zfY{H:List Str}:∀(n:Nat) {d:D} {N O:List Str},Wf rs k d N O H->dpt d<=n->okd (rsW rs) k H (n+1) (toW d)
 | n,d,N,O,w,hd=>by
  refine⟨zpt w,λp hp=>?_⟩;rw[zm1] at hp;obtain⟨a,ha,rfl⟩:=kZ.mp hp;obtain⟨⟨N',O',w'⟩,hd'⟩:=zjA w a ha;cases n with
  | zero=>omega
  | succ n=>exact zfY n w' ∅
end
theorem zok(F:Fs):bu F=sSeq (LF0 F) (sSeq (LF1 F) (sSeq (LF2 F) (sSeq (LF3 F) (sSeq (LF4 F) (sSeq (LF5 F) (sSeq (LF6 F) (LF7 F))))))):=rfl
noncomputable abbrev kn(N O H:List Str):W:=.tup [.tup (xN N),.tup (xN O),.tup (xN H)]
noncomputable abbrev ρF(ns:List Int)(a:Int)(N O H:List Str)(x y:Option W):En:=[some (scr ns),some (.int a),some (kn N O H),some (.tup (xN N)),some (.tup (xN O)),some (.tup (xN H)),x,y]
def ziz{l:List W}{i:Int}(h0:0<=i)(h1:i<l.length):∃v∈l,atI l i=some v:=by
 have hj:i.toNat<l.length:=by omega
 exact⟨l[i.toNat],List.getElem_mem hj,by unfold atI ixN; rw[zX h0,zX h1]; simp[hj]⟩
def zbQ{l:List W}{i:Int}(h0:0<=i)(h1:i<l.length):∃v∈l,∀h,ixW (.fls l) (.int i) h=some (v,h):=by
 obtain⟨v,hv,e⟩:=ziz h0 h1;exact⟨v,hv,λh=>by simp[ixW,getL,e]⟩
def zga{l:List W}{i:Int}(h0:0<=i)(h1:i<l.length):∃v∈l,∀h,ixW (.tup l) (.int i) h=some (v,h):=by
 obtain⟨v,hv,e⟩:=ziz h0 h1;exact⟨v,hv,λh=>by simp[ixW,e]⟩
def zcP{l:List Str}{i:Int}(h0:0<=i)(h1:i<l.length):∃v∈l,∀h,ixW (.tup (xN l)) (.int i) h=some (.str v,h):=by
 obtain⟨v,hv,e⟩:=zga (l:=xN l) h0 (by rw[uK]; exact h1);unfold xN at hv;obtain⟨x,hx,rfl⟩:=kZ.mp hv;exact⟨x,hx,e⟩
def zeg{l:List Str}(h:wS l)(hl:l.length<=1000):dt 2 (.tup (xN l))=true:=by
 refine zbz (by rw[uK]; exact hl) λw hw=>?_
 unfold xN at hw;obtain⟨x,hx,rfl⟩:=kZ.mp hw;exact h x hx
theorem zho(l:List Str):zdM (.tup (xN l))=l.isEmpty:=by cases l<;>rfl
def zc0{l:List Str}(hw:wS l)(hl:l.length<=1000):eqB h (.tup (xN l)) (.tup [])=some l.isEmpty:=by
 rw[zgu (zeg hw hl) ∅,zho]
noncomputable def wn(l:List Str):Prop:=∀v∈l,v="x" \/ v="y" \/ v="x1"
noncomputable def wo(l:List Str):Prop:=∀v∈l,v="p" \/ v="q"
noncomputable def wh(l:List Str):Prop:=∀v∈l,v="f" \/ v="g1"
def wn_S(h:wn l):wS l:=λv hv=>by rcases h v hv with rfl | rfl | rfl<;>decide +kernel
def wo_S(h:wo l):wS l:=λv hv=>by rcases h v hv with rfl | rfl<;>decide +kernel
def wh_S(h:wh l):wS l:=λv hv=>by rcases h v hv with rfl | rfl<;>decide +kernel
def wn_o{l:List Str}{v:Str}(h:wo l)(hv:v="x" \/ v="y" \/ v="x1"):v∉l:=λz=>by
 have:=h v z;rcases hv with rfl | rfl | rfl<;>revert this<;>decide +kernel
def wn_h{l:List Str}{v:Str}(h:wh l)(hv:v="x" \/ v="y" \/ v="x1"):v∉l:=λz=>by
 have:=h v z;rcases hv with rfl | rfl | rfl<;>revert this<;>decide +kernel
def wo_n{l:List Str}{v:Str}(h:wn l)(hv:v="p" \/ v="q"):v∉l:=λz=>by
 have:=h v z;rcases hv with rfl | rfl<;>revert this<;>decide +kernel
def wo_h{l:List Str}{v:Str}(h:wh l)(hv:v="p" \/ v="q"):v∉l:=λz=>by
 have:=h v z;rcases hv with rfl | rfl<;>revert this<;>decide +kernel
def zl9{l:List Str}{v:Str}(h:wn l)(hv:v="x" \/ v="y" \/ v="x1"):wn (l++[v]):=λu hu=>by
 rcases zV.mp hu with z | z
 .exact h u z
 .simp at z; subst z; exact hv
def zmR{l:List Str}{v:Str}(h:wo l)(hv:v="p" \/ v="q"):wo (l++[v]):=λu hu=>by
 rcases zV.mp hu with z | z
 .exact h u z
 .simp at z; subst z; exact hv
noncomputable def shel(O:List Str):List Str:=([("a":Str),"b","c","d"]:List Str)++(O++(O++O))
def zg0(O:List Str):[W.str "a",.str "b",.str "c",.str "d"]++(List.replicate 3 (xN O)).flatten=xN (shel O):=by
 simp[shel,xN,List.replicate]
def zg7(hv:v∈shel O):v∈SH\/v∈O:=by
 unfold shel at hv;rcases zV.mp hv with z | z
 .exact .inl z
 .rcases zV.mp z with z | z
  .exact .inr z
  .rcases zV.mp z with z | z<;>exact .inr z
def ze9(O:List Str):(shel O).length=4+3*O.length:=by simp[shel]; omega
structure RG(rs:List Rule):Prop where
 l:rs.length<=2
 g:RsOk rs
 b:∀(i:Nat) (r:Rule),rs[i]?=some r->(r.ns.length<=2/\r.hs.length<=2)/\wn r.ns/\wh r.hs/\dpt r.body<=2
def RG.dt1{rs:List Rule}(h:RG rs){H:List Str}(w:Wf rs rs.length d N O H)(hN:wn N)(hO:wo O)(hH:wh H)(hd:dpt d<=n):dt (2+2*n) (toW d)=true:=uX h.g.l d w (wn_S hN) (wo_S hO) (wh_S hH) hd
theorem RG.dt(h:RG rs):ML.dt 8 (.tup (rsW rs))=true:=by
 refine zbz (by unfold rsW; rw[zH]; have:=h.l; omega) λw hw=>?_
 obtain⟨r,hr,rfl⟩:=kZ.mp hw;obtain⟨i,hi⟩:=jA.mp hr;obtain⟨⟨l1,l2⟩,w1,w2,d2⟩:=h.b i r hi;refine zbz (by simp) λv hv=>?_
 simp only[zb,zc,zO] at hv;rcases hv with rfl | rfl | rfl
 .exact um (zeg (wn_S w1) ∅) ∅
 .exact um (zeg (wh_S w2) ∅) ∅
 .exact uX (n:=2) h.g.l r.body (h.g.w i r hi) (wn_S w1) (λv hv=>by simp at hv) (wh_S w2) d2
def zi4{ns:List Int}{N O H:List Str}{rs:List Rule}(hr:RG rs)(hl:ns.length<=63)(hN':wn N)(hO':wo O)(hH':wh H)(lN:N.length<=100)(lO:O.length<=100)(lH:H.length<=100) :
  ∃x:D,(∀h,(step (step (step F))).dm [scr ns,.int a,kn N O H] h=some (toW x,h))/\Wf rs rs.length x N O H/\dpt x<=0:=by
 have hN:=wn_S hN';have hH:=wh_S hH';have e:=λ(k many:Int) (h:MH) (hm:0<many)=>zaK (F:=F) (k:=k) (many:=many) (h:=h) hl hm
 generalize step (step F)=G at e;suffices hs:∃x:D,(∀h,bu G [some (scr ns),some (.int a),some (kn N O H),none,none,none,none,none] h=some (.ret (toW x),h))/\Wf rs rs.length x N O H/\dpt x<=0 by
  obtain⟨x,e,w,d⟩:=hs;refine⟨x,λh=>zbh (n:=2) ?_ (hr.dt1 w hN' hO' hH' d),w,d⟩;simp only[fnM,zm,zP,kI,zy,ji,List.replicate,jk,zY];simp only[e h]
 have c1':(1:Nat)<=cap:=by decide
 have c2':(2:Nat)<=cap:=by decide
 have c4':(4:Nat)<=cap:=by decide
 have c6':(6:Nat)<=cap:=by decide
 have s0:∀h,LF0 G [some (scr ns),some (.int a),some (kn N O H),none,none,none,none,none] h=some (.nx (ρF ns a N O H none none),h):=λh=>by
  simp![LF0]
 have s1:∀h,LF1 G (ρF ns a N O H none none) h=some (.nx (ρF ns a N O H (some (.int (uJ ns a 8))) none),h):=λh=>by
  simp![LF1,e a 8 _ ∅]
 generalize uJ ns a 8=d at s1;have row:∀h,bu G [some (scr ns),some (.int a),some (kn N O H),none,none,none,none,none] h=sSeq (LF2 G) (sSeq (LF3 G) (sSeq (LF4 G) (sSeq (LF5 G) (sSeq (LF6 G) (LF7 G))))) (ρF ns a N O H (some (.int d)) none) h:=λh=>by
  rw[zok,xM (s0 h),xM (s1 h)]
 by_cases k2:d<2
 .obtain⟨v,hv,ev⟩:=zbQ (l:=[.int 0,.int 1,.int 2,.int 3,.int 7,.int 1008]) (xW (ns:=ns) (k:=a+1) (many:=6) ∅).1 (by simpa using (xW (ns:=ns) (k:=a+1) (many:=6) ∅).2)
  have:∃i,v=.int i:=by
   simp only[zb,zc,zO] at hv;rcases hv with rfl | rfl | rfl | rfl | rfl | rfl<;>exact⟨_,rfl⟩
  obtain⟨i,rfl⟩:=this;refine⟨.number i,λh=>?_,by simp only[Wf],by simp only[dpt,zj]⟩;rw[row];refine zaa ?_;simp![LF2,cmpI,k2,flsW,c6',addW,addI,e (a+1) 6 _ ∅,ev,tupW,c2',toW]
 have p2:∀h,LF2 G (ρF ns a N O H (some (.int d)) none) h=some (.nx (ρF ns a N O H (some (.int d)) none),h):=λh=>by
  simp![LF2,cmpI,k2]
 have eN:=λh=>zc0 (h:=h) hN ∅
 have eH:=λh=>zc0 (h:=h) hH ∅
 by_cases k3:(d==2)=true/\N.isEmpty=false
 .have hp:(0:Int)<(N.length:Int):=by
   cases N with
   | nil=>simp at k3
   | cons _ _=>simp only[zm]; omega
  obtain⟨v,hv,ev⟩:=zcP (l:=N) (xW (ns:=ns) (k:=a+1) (many:=N.length) hp).1 (xW (ns:=ns) (k:=a+1) (many:=N.length) hp).2;refine⟨.name v,λh=>?_,by simp only[Wf]; exact hv,by simp only[dpt,zj]⟩;rw[row,xM (p2 h)];refine zaa ?_;simp![LF3,uE,k3.1,k3.2,eN,tupW,lenW,uK,addW,addI,e (a+1) N.length _ hp,ev,c2',toW]
 have p3:∀h,LF3 G (ρF ns a N O H (some (.int d)) none) h=some (.nx (ρF ns a N O H (some (.int d)) none),h):=λh=>by
  cases q1:(d==2) with
  | false=>simp![LF3,uE,q1]
  | true=>
   have q2:N.isEmpty=true:=by
    cases q:N.isEmpty with
    | true=>rfl
    | false=>exact absurd ⟨q1,q⟩ k3
   simp![LF3,uE,q1,eN,tupW,q2]
 by_cases k4:(d==3)=true/\H.isEmpty=false
 .have hp:(0:Int)<(H.length:Int):=by
   cases H with
   | nil=>simp at k4
   | cons _ _=>simp only[zm]; omega
  obtain⟨v,hv,ev⟩:=zcP (l:=H) (xW (ns:=ns) (k:=a+1) (many:=H.length) hp).1 (xW (ns:=ns) (k:=a+1) (many:=H.length) hp).2;refine⟨.doo v,λh=>?_,by simp only[Wf]; exact hv,by simp only[dpt,zj]⟩;rw[row,xM (p2 h),xM (p3 h)];refine zaa ?_;simp![LF4,uE,k4.1,k4.2,eH,tupW,lenW,uK,addW,addI,e (a+1) H.length _ hp,ev,c2',toW]
 have p4:∀h,LF4 G (ρF ns a N O H (some (.int d)) none) h=some (.nx (ρF ns a N O H (some (.int d)) none),h):=λh=>by
  cases q1:(d==3) with
  | false=>simp![LF4,uE,q1]
  | true=>
   have q2:H.isEmpty=true:=by
    cases q:H.isEmpty with
    | true=>rfl
    | false=>exact absurd ⟨q1,q⟩ k4
   simp![LF4,uE,q1,eH,tupW,q2]
 cases k5:(d==4) with
 | true=>
  refine⟨.ask,λh=>?_,by simp only[Wf],by simp only[dpt,zj]⟩;rw[row,xM (p2 h),xM (p3 h),xM (p4 h)];refine zaa ?_;simp![LF5,uE,k5,tupW,c1',toW]
 | false=>
  have hp:(0:Int)<((shel O).length:Int):=by rw[ze9]; omega
  obtain⟨v,hv,ev⟩:=zcP (l:=shel O) (xW (ns:=ns) (k:=a+1) (many:=(shel O).length) hp).1 (xW (ns:=ns) (k:=a+1) (many:=(shel O).length) hp).2;have c7:4+(List.replicate 3 (xN O)).flatten.length<=cap:=by
   have:(List.replicate 3 (xN O)).flatten.length=3*O.length:=by simp[List.replicate,xN]; omega
   rw[this];exact zQ (show 4+3*O.length<=400 by omega) (by decide)
  have hs3:(xN O).length<=1000:=by rw[uK]; omega
  refine⟨.read v,λh=>?_,by simp only[Wf]; exact zg7 hv,by simp only[dpt,zj]⟩;have p6:LF6 G (ρF ns a N O H (some (.int d)) none) h=some (.nx (ρF ns a N O H (some (.int d)) (some (.tup (xN (shel O))))),h):=by
   rw[<-zg0];have m:∀h,mulW (.tup (xN O)) (.int 3) h=some (.tup (List.replicate 3 (xN O)).flatten,h):=λh=>by
    simp only[mulW];rw[zX ⟨by omega,by omega,hs3⟩];rfl
   have ad:∀h,addW (.tup [.str "a",.str "b",.str "c",.str "d"]) (.tup (List.replicate 3 (xN O)).flatten) h=some (.tup ([.str "a",.str "b",.str "c",.str "d"]++(List.replicate 3 (xN O)).flatten),h):=λh=>by
    simp only[addW,addI,zm,zP];rw[zX c7]
   generalize (List.replicate 3 (xN O)).flatten=Z at m ad;simp![LF6,tupW,c4',m,ad]
  rw[row,xM (p2 h),xM (p3 h),xM (p4 h),xM (ρ':=(ρF ns a N O H (some (.int d)) none)) (h':=h) (by simp![LF5,uE,k5]),xM p6];simp![LF7,lenW,uK,addW,addI,e (a+1) (shel O).length _ hp,ev,tupW,c2',toW]
theorem zoj(F:Fs):aF F=sSeq (DS0 F) (sSeq (DS1 F) (sSeq (DS2 F) (sSeq (DS3 F) (sSeq (DS4 F) (sSeq (DS5 F) (sSeq (DS6 F) (sSeq (DS7 F) (sSeq (DS8 F) (sSeq (DS9 F) (DS10 F)))))))))):=rfl
noncomputable def zbn(G:Fs)(ns:List Int)(rs:List Rule)(d:Nat):Prop:=∀(a:Int) (N O H:List Str),wn N->wo O->wh H->N.length+d<=20->O.length+d<=20->H.length<=20->
 ∃x:D,(∀h,G.az [scr ns,.int a,.int (d:Int),kn N O H,.tup (rsW rs)] h=some (toW x,h))/\Wf rs rs.length x N O H/\dpt x<=d
noncomputable def zim(G:Fs)(ns:List Int)(rs:List Rule)(d:Nat):Prop:=∀(a:Int) (N O H:List Str),wn N->wo O->wh H->N.length+d<=20->O.length+d<=20->H.length<=20->
 ∃x:D,(∀h,G.dq [scr ns,.int a,.int ((d:Int)+1),kn N O H,.tup (rsW rs)] h=some (toW x,h))/\Wf rs rs.length x N O H/\dpt x<=d+1
def zdE(l:List Str)(v:Str):xN l++[.str v]=xN (l++[v]):=by simp[xN]
noncomputable abbrev ρD(ns:List Int)(a:Int)(d:Int)(K:W)(rl:List W)(o5 o6 o7 o8 o9 o10:Option W):En:=[some (scr ns),some (.int a),some (.int d),some K,some (.tup rl),o5,o6,o7,o8,o9,o10]
noncomputable abbrev ρE(ns:List Int)(a:Int)(d:Nat)(N O H:List Str)(rl:List W)(y:Int)(o6 o7 o8 o9 o10:Option W):En:=ρD ns a ((d:Int)+1) (kn N O H) rl (some (.int y)) o6 o7 o8 o9 o10
def t_lt{i j:Nat}{ρ:En}(e:ρ[i]?=some (some (.int d))):tVal (eOp ltW (eVar i) (eC (.int m))) ρ h=some (decide (d<m),h):=by simp![e,cmpI]
def t_eq{i:Nat}{ρ:En}(e:ρ[i]?=some (some (.int d))):tVal (eOp (eqW false) (eVar i) (eC (.int m))) ρ h=some (d==m,h):=by simp![e,uE]
def m3:mulW (.int a) (.int 3) h=some (.int (a*3),h):=by
 have:(small a||small 3)=true:=by rw[show small 3=true by decide]; simp
 simp only[mulW,this,kI]
def zi0{ns:List Int}(hr:RG rs)(hl:ns.length<=63)(hd:d+1<=5)(HD:zbn (step (step (step F))) ns rs d)(HC:rsW rs≠[]->zim (step (step (step F))) ns rs d):zbn (step (step (step (step F)))) ns rs (d+1):=by
 intro a N O H hN hO' hH lN lO lH;have hrl:=hr.dt;have e:=λ(k many:Int) (h:MH) (hm:0<many)=>zaK (F:=step F) (k:=k) (many:=many) (h:=h) hl hm
 have eL:=λ(a:Int)=>zi4 (F:=F) (ns:=ns) (a:=a) (N:=N) (O:=O) (H:=H) hr hl hN hO' hH ∅ ∅ ∅
 have rlE:∃rl,rl=rsW rs:=⟨_,rfl⟩;obtain⟨rl,erl⟩:=rlE;rw[<-erl] at hrl HC;generalize step (step (step F))=G at e HD HC eL;have ed:((d+1:Nat):Int)=(d:Int)+1:=by omega
 rw[ed];suffices hs:∃x:D,(∀h,aF G (ρD ns a ((d:Int)+1) (kn N O H) rl none none none none none none) h=some (.ret (toW x),h))/\Wf rs rs.length x N O H/\dpt x<=d+1 by
  obtain⟨x,e,w,o⟩:=hs;refine⟨x,λh=>zbh (n:=2+2*(d+1)) ?_ (hr.dt1 w hN hO' hH o),w,o⟩;rw[<-erl];simp only[fnM,zm,zP,kI,zy,ji,List.replicate,jk,zY];have:=e h;simp only[ρD] at this;simp only[this]
 have c1:(1:Nat)<=cap:=by decide
 have c2:(2:Nat)<=cap:=by decide
 have c3:(3:Nat)<=cap:=by decide
 have c4:(4:Nat)<=cap:=by decide
 have c5:(5:Nat)<=cap:=by decide
 have s0:∀h,DS0 G (ρD ns a ((d:Int)+1) (kn N O H) rl none none none none none none) h=some (.nx (ρD ns a ((d:Int)+1) (kn N O H) rl (some (.int (uJ ns a 15))) none none none none none),h):=λh=>by
  simp![DS0,e a 15 _ ∅]
 have rg:=xW (ns:=ns) (k:=a) (many:=15) ∅;generalize uJ ns a 15=y at s0 rg;have row:∀h,aF G (ρD ns a ((d:Int)+1) (kn N O H) rl none none none none none none) h=sSeq (DS1 G) (sSeq (DS2 G) (sSeq (DS3 G) (sSeq (DS4 G) (sSeq (DS5 G) (sSeq (DS6 G) (sSeq (DS7 G) (sSeq (DS8 G) (sSeq (DS9 G) (DS10 G))))))))) (ρE ns a d N O H rl y none none none none none) h:=λh=>by
  rw[zoj,xM (s0 h)]
 have dz:(((d:Int)+1)==0)=false:=by rw[jt]; omega
 by_cases k1:y<2
 .obtain⟨x,ew,p,o⟩:=eL (a+1)
  refine⟨x,λh=>?_,p,by omega⟩;rw[row];refine zaa ?_;simp![DS1,uE,dz,cmpI,k1,addW,addI,ew]
 have p1:∀h,DS1 G (ρE ns a d N O H rl y none none none none none) h=some (.nx (ρE ns a d N O H rl y none none none none none),h):=λh=>by
  simp![DS1,uE,dz,cmpI,k1]
 have eR:=λh=>zgu (h:=h) hrl ∅
 have iR:zdM (.tup rl)=rl.isEmpty:=by cases rl<;>rfl
 by_cases k2:y<4/\rl≠[]
 .obtain⟨x,ew,p,o⟩:=HC k2.2 a N O H hN hO' hH ∅ ∅ lH
  rw[<-erl] at ew;refine⟨x,λh=>?_,p,o⟩;have q:rl.isEmpty=false:=by
   cases rl with
   | nil=>exact absurd rfl k2.2
   | cons _ _=>rfl
  rw[row,xM (p1 h)];refine zaa ?_;simp![DS2,cmpI,k2.1,eR,iR,q,tupW,ew]
 have p2:∀h,DS2 G (ρE ns a d N O H rl y none none none none none) h=some (.nx (ρE ns a d N O H rl y none none none none none),h):=λh=>by
  by_cases q1:y<4
  .have q:rl.isEmpty=true:=by
    cases rl with
    | nil=>rfl
    | cons _ _=>exact absurd ⟨q1,by simp⟩ k2
   simp![DS2,cmpI,q1,eR,iR,q,tupW]
  .simp![DS2,cmpI,q1]
 obtain⟨x1,e1,wf1,o1⟩:=HD (a*3+7) N O H hN hO' hH ∅ ∅ lH;rw[<-erl] at e1;have p3:∀h,DS3 G (ρE ns a d N O H rl y none none none none none) h=some (.nx (ρE ns a d N O H rl y (some (toW x1)) none none none none),h):=λh=>by
  simp![DS3,m3,addW,addI,subW,e1]
 have row3:∀h,aF G (ρD ns a ((d:Int)+1) (kn N O H) rl none none none none none none) h=sSeq (DS4 G) (sSeq (DS5 G) (sSeq (DS6 G) (sSeq (DS7 G) (sSeq (DS8 G) (sSeq (DS9 G) (DS10 G)))))) (ρE ns a d N O H rl y (some (toW x1)) none none none none) h:=λh=>by
  rw[row,xM (p1 h),xM (p2 h),xM (p3 h)]
 by_cases k4:y<6
 .have hp:(0:Int)<((shel O).length:Int):=by rw[ze9]; omega
  obtain⟨v,hv,ev⟩:=zcP (l:=shel O) (xW (ns:=ns) (k:=a+3) (many:=(shel O).length) hp).1 (xW (ns:=ns) (k:=a+3) (many:=(shel O).length) hp).2;have c7:4+(List.replicate 3 (xN O)).flatten.length<=cap:=by
   have:(List.replicate 3 (xN O)).flatten.length=3*O.length:=by simp[List.replicate,xN]; omega
   rw[this];exact zQ (show 4+3*O.length<=400 by omega) (by decide)
  have hs3:(xN O).length<=1000:=by rw[uK]; omega
  refine⟨.write v x1,λh=>?_,by simp only[Wf]; exact⟨zg7 hv,wf1⟩,by simp only[dpt]; omega⟩
  .rw[row3]
   refine zaa ?_;have m:∀h,mulW (.tup (xN O)) (.int 3) h=some (.tup (List.replicate 3 (xN O)).flatten,h):=λh=>by
    simp only[mulW];rw[zX ⟨by omega,by omega,hs3⟩];rfl
   have ad:∀h,addW (.tup [.str "a",.str "b",.str "c",.str "d"]) (.tup (List.replicate 3 (xN O)).flatten) h=some (.tup ([.str "a",.str "b",.str "c",.str "d"]++(List.replicate 3 (xN O)).flatten),h):=λh=>by
    simp only[addW,addI,zm,zP];rw[zX c7]
   rw[zg0] at ad;generalize (List.replicate 3 (xN O)).flatten=Z at m ad;have a3:∀h,addW (.int a) (.int 3) h=some (.int (a+3),h):=λh=>by simp[addW,addI]
   unfold DS4;refine zfi ((t_lt (j:=0) rfl).trans (by simp[k4])) ?_;rw[xM (ρ':=ρE ns a d N O H rl y (some (toW x1)) (some (.tup (xN (shel O)))) none none none) (h':=h) (by simp![tupW,c4,ix1,m,ad])];simp![lenW,uK,a3,e (a+3) (shel O).length _ hp,ev,tupW,c3,toW]
 have p4:∀h,DS4 G (ρE ns a d N O H rl y (some (toW x1)) none none none none) h=some (.nx (ρE ns a d N O H rl y (some (toW x1)) none none none none),h):=λh=>
  zcR ((t_lt (j:=0) rfl).trans (by simp[k4]))
 cases k5:(y==6) with
 | true=>
  refine⟨.say x1,λh=>?_,by simp only[Wf]; exact wf1,by simp only[dpt]; omega⟩;rw[row3,xM (p4 h)];refine zbf ((t_eq rfl).trans (by rw[k5])) ?_;simp![tupW,c2,toW]
 | false=>
 have p5:∀h,DS5 G (ρE ns a d N O H rl y (some (toW x1)) none none none none) h=some (.nx (ρE ns a d N O H rl y (some (toW x1)) none none none none),h):=λh=>
  zcR ((t_eq rfl).trans (by rw[k5]))
 have a3:∀h,addW (.int a) (.int 3) h=some (.int (a+3),h):=λh=>by simp[addW,addI]
 cases k6:(y==7) with
 | true=>
  obtain⟨v',hv,ev⟩:=zbQ (l:=[.str "x",.str "y",.str "x1"]) (xW (ns:=ns) (k:=a+3) (many:=3) ∅).1 (by simpa using (xW (ns:=ns) (k:=a+3) (many:=3) ∅).2);have:∃v:Str,v'=.str v/\(v="x" \/ v="y" \/ v="x1"):=by
   simp only[zb,zc,zO] at hv;rcases hv with rfl | rfl | rfl
   .exact⟨_,rfl,.inl rfl⟩
   .exact⟨_,rfl,.inr (.inl rfl)⟩
   .exact⟨_,rfl,.inr (.inr rfl)⟩
  obtain⟨v,rfl,pv⟩:=this;obtain⟨x2,e2,wf2,o2⟩:=HD (a*3+23) (N++[v]) O H (zl9 hN pv) hO' hH (by simp; omega) ∅ lH;rw[<-erl] at e2;have dv:dt 1 (.str v)=true:=by rcases pv with rfl | rfl | rfl<;>decide +kernel
  have a4:∀h,addW (.tup (xN N)) (.tup [.str v]) h=some (.tup (xN (N++[v])),h):=λh=>by
   rw[<-zdE];simp only[addW,addI,zm,zP,uK];rw[zX (zQ (show N.length+(0+1)<=100 by omega) (by decide))]
  have a5:∀h,slW (kn N O H) (some 1) none h=some (.tup [.tup (xN O),.tup (xN H)],h):=λh=>by simp[slW,zk2]
  have a6:∀h,addW (.tup [.tup (xN (N++[v]))]) (.tup [.tup (xN O),.tup (xN H)]) h=some (kn (N++[v]) O H,h):=λh=>by
   simp only[addW,addI,zm,zP];rw[zX (by decide)];rfl
  have a7:∀h,addW (.int (a*3)) (.int 23) h=some (.int (a*3+23),h):=λh=>by simp[addW,addI]
  refine⟨.lett v x1 x2,λh=>?_,by simp only[Wf]; exact⟨⟨wn_o hO' pv,wn_h hH pv,dv⟩,wf1,wf2⟩,by simp only[dpt]; omega⟩
  .rw[row3,xM (p4 h),xM (p5 h)]
   refine zbf ((t_eq rfl).trans (by rw[k6])) ?_;rw[xM (ρ':=ρE ns a d N O H rl y (some (toW x1)) none (some (.str v)) none none) (h':=h) (by simp![flsW,c3,a3,e (a+3) 3 _ ∅,ev])];simp![m3,a7,subW,ix0,tupW,c1,c4,a4,eSl,zaY,a5,a6,e2,toW]
 | false=>
 have p6:∀h,DS6 G (ρE ns a d N O H rl y (some (toW x1)) none none none none) h=some (.nx (ρE ns a d N O H rl y (some (toW x1)) none none none none),h):=λh=>
  zcR ((t_eq rfl).trans (by rw[k6]))
 cases k7:(y==8) with
 | true=>
  obtain⟨v',hv,ev⟩:=zbQ (l:=[.str "p",.str "q"]) (xW (ns:=ns) (k:=a+3) (many:=2) ∅).1 (by simpa using (xW (ns:=ns) (k:=a+3) (many:=2) ∅).2);have:∃v:Str,v'=.str v/\(v="p" \/ v="q"):=by
   simp only[zb,zc,zO] at hv;rcases hv with rfl | rfl
   .exact⟨_,rfl,.inl rfl⟩
   .exact⟨_,rfl,.inr rfl⟩
  obtain⟨v,rfl,vpq⟩:=this;have dv:dt 1 (.str v)=true:=by rcases vpq with rfl | rfl<;>decide +kernel
  obtain⟨x2,e2,wf2,o2⟩:=HD (a*3+23) N (O++[v]) H hN (zmR hO' vpq) hH ∅ (by simp; omega) lH;rw[<-erl] at e2;have a4:∀h,addW (.tup (xN O)) (.tup [.str v]) h=some (.tup (xN (O++[v])),h):=λh=>by
   rw[<-zdE];simp only[addW,addI,zm,zP,uK];rw[zX (zQ (show O.length+(0+1)<=100 by omega) (by decide))]
  have a7:∀h,addW (.int (a*3)) (.int 23) h=some (.int (a*3+23),h):=λh=>by simp[addW,addI]
  refine⟨.own v x1 x2,λh=>?_,by simp only[Wf]; exact⟨⟨wo_n hN vpq,wo_h hH vpq,dv⟩,wf1,wf2⟩,by simp only[dpt]; omega⟩
  .rw[row3,xM (p4 h),xM (p5 h),xM (p6 h)]
   refine zbf ((t_eq rfl).trans (by rw[k7])) ?_;rw[xM (ρ':=ρE ns a d N O H rl y (some (toW x1)) none (some (.str v)) none none) (h':=h) (by simp![flsW,c2,a3,e (a+3) 2 _ ∅,ev])];rw[xM (ρ':=ρE ns a d N O H rl y (some (toW x1)) none (some (.str v)) (some (kn N (O++[v]) H)) none) (h':=h) (by simp![tupW,c1,c3,ix0,ix1,ix2,a4])];simp![m3,a7,subW,tupW,c4,e2,toW]
 | false=>
 have p7:∀h,DS7 G (ρE ns a d N O H rl y (some (toW x1)) none none none none) h=some (.nx (ρE ns a d N O H rl y (some (toW x1)) none none none none),h):=λh=>
  zcR ((t_eq rfl).trans (by rw[k7]))
 obtain⟨x2,e2,wf2,o2⟩:=HD (a*3+41) N O H hN hO' hH ∅ ∅ lH;rw[<-erl] at e2;have a8:∀h,addW (.int (a*3)) (.int 41) h=some (.int (a*3+41),h):=λh=>by simp[addW,addI]
 have p8:∀h,DS8 G (ρE ns a d N O H rl y (some (toW x1)) none none none none) h=some (.nx (ρE ns a d N O H rl y (some (toW x1)) none none none (some (toW x2))),h):=λh=>by
  simp![DS8,m3,a8,subW,e2]
 have row8:∀h,aF G (ρD ns a ((d:Int)+1) (kn N O H) rl none none none none none none) h=sSeq (DS9 G) (DS10 G) (ρE ns a d N O H rl y (some (toW x1)) none none none (some (toW x2))) h:=λh=>by
  rw[row3,xM (p4 h),xM (p5 h),xM (p6 h),xM (p7 h),xM (p8 h)]
 cases k9:(y==9) with
 | true=>
  obtain⟨x3,e3,wf3,o3⟩:=HD (a*3+61) N O H hN hO' hH ∅ ∅ lH;rw[<-erl] at e3;have a9:∀h,addW (.int (a*3)) (.int 61) h=some (.int (a*3+61),h):=λh=>by simp[addW,addI]
  refine⟨.iff x1 x2 x3,λh=>?_,by simp only[Wf]; exact⟨wf1,wf2,wf3⟩,by simp only[dpt]; omega⟩
  .rw[row8]
   refine zbf ((t_eq rfl).trans (by rw[k9])) ?_;simp![m3,a9,subW,tupW,c4,e3,toW]
 | false=>
 have g10:0<=y-10/\y-10<5:=by
  rw[jt] at k5 k6 k7 k9;omega
 obtain⟨v',hv,ev⟩:=zbQ (l:=[.tup [.str "then"],.tup [.str "add"],.tup [.str "less"],.tup [.str "loop"],.tup [.str "then"]]) (i:=y-10) g10.1 (by simpa using g10.2);have:∃(x:Str) (y2:D),v'=.tup [.str x]/\toW y2=th x [toW x1,toW x2]/\Wf rs rs.length y2 N O H/\dpt y2<=d+1:=by
  simp only[zb,zc,zO] at hv;rcases hv with rfl | rfl | rfl | rfl | rfl
  .exact⟨_,.thenn x1 x2,rfl,by simp only[toW],by simp only[Wf]; exact⟨wf1,wf2⟩,by simp only[dpt]; omega⟩
  .exact⟨_,.add x1 x2,rfl,by simp only[toW],by simp only[Wf]; exact⟨wf1,wf2⟩,by simp only[dpt]; omega⟩
  .exact⟨_,.less x1 x2,rfl,by simp only[toW],by simp only[Wf]; exact⟨wf1,wf2⟩,by simp only[dpt]; omega⟩
  .exact⟨_,.loop x1 x2,rfl,by simp only[toW],by simp only[Wf]; exact⟨wf1,wf2⟩,by simp only[dpt]; omega⟩
  .exact⟨_,.thenn x1 x2,rfl,by simp only[toW],by simp only[Wf]; exact⟨wf1,wf2⟩,by simp only[dpt]; omega⟩
 obtain⟨x,y2,rfl,ty,ww,dd⟩:=this;refine⟨y2,λh=>?_,ww,dd⟩
 .rw[row8,ty]
  unfold DS9;rw[ziZ ((t_eq rfl).trans (by rw[k9]))];have a10:∀h,addW (.tup [.str x]) (.tup [toW x1,toW x2]) h=some (th x [toW x1,toW x2],h):=λh=>by
   simp only[addW,addI,zm,zP];rw[zX (by decide)];rfl
  simp![DS10,tupW,flsW,c1,c2,c5,subW,ev,a10]
def zja{ns:List Int}(hr:RG rs)(hl:ns.length<=63):zbn (step (step (step (step F)))) ns rs 0:=by
 intro a N O H hN hO' hH lN lO lH;have e:=λ(k many:Int) (h:MH) (hm:0<many)=>zaK (F:=step F) (k:=k) (many:=many) (h:=h) hl hm
 obtain⟨x,ew,p,o⟩:=zi4 (F:=F) (ns:=ns) (a:=a+1) (N:=N) (O:=O) (H:=H) hr hl hN hO' hH ∅ ∅ ∅;generalize step (step (step F))=G at e ew;refine⟨x,λh=>zbh (n:=2) ?_ (hr.dt1 p hN hO' hH o),p,o⟩;simp![aF,DS0,DS1,DS2,DS3,DS4,DS5,DS6,DS7,DS8,DS9,DS10,e a 15 _ ∅,uE,addW,addI,ew]
theorem znr(F:Fs):cF F=sSeq (CL0 F) (sSeq (CL1 F) (sSeq (CL2 F) (sSeq (CL3 F) (CL4 F)))):=rfl
theorem znO(F:Fs):bQ F=sSeq (RU0 F) (sSeq (RU1 F) (RU2 F)):=rfl
def m5:mulW (.int 5) (.int a) h=some (.int (5*a),h):=by
 have:(small 5||small a)=true:=by rw[show small 5=true by decide]; rfl
 simp only[mulW,this,kI]
def m7:mulW (.int 7) (.int a) h=some (.int (7*a),h):=by
 have:(small 7||small a)=true:=by rw[show small 7=true by decide]; rfl
 simp only[mulW,this,kI]
noncomputable abbrev ρC(ns:List Int)(a d:Int)(K:W)(rl:List W)(o5 o6 o7 o8:Option W):En:=[some (scr ns),some (.int a),some (.int d),some K,some (.tup rl),o5,o6,o7,o8]
theorem zer{G:Fs}{rs:List Rule}{N O H:List Str}(HD:zbn G ns rs d)(hN:wn N)(hO:wo O)(hH:wh H)(lN:N.length+d<=20)(lO:O.length+d<=20)(lH:H.length<=20) :
  ∀is:List Int,∃xs:List D,xs.length=is.length/\(∀x∈xs,Wf rs rs.length x N O H/\dpt x<=d)/\∀(h0:MH) (acc:List W) (o5 o6 o8:Option W),acc.length+is.length<=1000->
   ∃o,forL (gNm 8) (xT (xX ut (eVar 7) [xK G.az [eVar 0,eOp addW (eOp addW (eOp mulW (eVar 1) (eC (.int 3))) (eC (.int 7))) (eOp mulW (eC (.int 5)) (eVar 8)),eOp subW (eVar 2) (eC (.int 1)),eVar 3,eVar 4]])) (is.map W.int) (ρC ns a ((d:Int)+1) (kn N O H) (rsW rs) o5 o6 (some (.ref h0.length)) o8) (h0++[.lst acc]) =
    some (.nx (ρC ns a ((d:Int)+1) (kn N O H) (rsW rs) o5 o6 (some (.ref h0.length)) o),h0++[.lst (acc++xs.map toW)])
 | []=>⟨[],rfl,λw hw=>by simp at hw,λh0 acc o5 o6 o8 _=>⟨o8,by simp[forL]⟩⟩
 | i::is=>by
  obtain⟨xs,h1,h2,h3⟩:=zer (a:=a) HD hN hO hH lN lO lH is;obtain⟨x,ew,p,o⟩:=HD (a*3+7+5*i) N O H hN hO hH lN lO lH;refine⟨x::xs,by simp[h1],λv hv=>?_,λh0 acc o5 o6 o8 hc=>?_⟩
  .rcases zb.mp hv with rfl | z
   .exact⟨p,o⟩
   .exact h2 v z
  .simp only[zm] at hc
   obtain⟨o',e⟩:=h3 h0 (acc++[toW x]) o5 o6 (some (.int i)) (by simp; omega);refine⟨o',?_⟩;simp only[zy];generalize rsW rs=rl at ew e ⊢;unfold forL;have g:gNm 8 (.int i) (ρC ns a ((d:Int)+1) (kn N O H) rl o5 o6 (some (.ref h0.length)) o8) (h0++[.lst acc])=some (ρC ns a ((d:Int)+1) (kn N O H) rl o5 o6 (some (.ref h0.length)) (some (.int i)),h0++[.lst acc]):=by simp[gNm]
   rw[g];have hcap:acc.length<cap:=zM (show acc.length<1000 by omega) (by decide);have b:(xT (xX ut (eVar 7) [xK G.az [eVar 0,eOp addW (eOp addW (eOp mulW (eVar 1) (eC (.int 3))) (eC (.int 7))) (eOp mulW (eC (.int 5)) (eVar 8)),eOp subW (eVar 2) (eC (.int 1)),eVar 3,eVar 4]])) (ρC ns a ((d:Int)+1) (kn N O H) rl o5 o6 (some (.ref h0.length)) (some (.int i))) (h0++[.lst acc])=some (.nx (ρC ns a ((d:Int)+1) (kn N O H) rl o5 o6 (some (.ref h0.length)) (some (.int i))),h0++[.lst (acc++[toW x])]):=by
    simp![xX,getL,at0,ut,set0,m3,m5,addW,addI,subW,ew,hcap]
   simp only[b];rw[e];simp
theorem zfj{H:List Str}:∀{l:List D},(∀x∈l,Wf rs k x N O H/\dpt x<=n)->Wfs rs k l N O H/\dpts l<=n
 | [],_=>by simp[Wfs,dpts]
 | x::l,h=>by
  have h1:=h x zZ;have h2:=zfj (l:=l) λy hy=>h y (zN _ hy)
  simp only[Wfs,dpts];exact⟨⟨h1.1,h2.1⟩,by omega⟩
def zei(n:Nat):upto n=((_root_.List.range n).map λ(i:Nat)=>(i:Int)).map W.int:=by simp[upto]
def zic{ns:List Int}(hl:ns.length<=63)(hrg:RG rs)(hne:rsW rs≠[])(HD:zbn (step (step F)) ns rs d):zim (step (step (step F))) ns rs d:=by
 intro a N O H hN hO hH lN lO lH;have e:=λ(k many:Int) (h:MH) (hm:0<many)=>zaK (F:=F) (k:=k) (many:=many) (h:=h) hl hm
 generalize step (step F)=G at e HD;have hp:(0:Int)<((rsW rs).length:Int):=by
  cases h:rsW rs with
  | nil=>exact absurd h hne
  | cons _ _=>simp only[zm]; omega
 have rg:=xW (ns:=ns) (k:=a+3) (many:=(rsW rs).length) hp;have er:=λh=>e (a+3) (rsW rs).length h hp
 obtain⟨j,hj⟩:=ql rg.1;rw[hj] at rg er;have hjr:(rsW rs).length=rs.length:=by unfold rsW; rw[zH]
 have hjl:j<rs.length:=by omega
 obtain⟨r,hr⟩:∃r,rs[j]?=some r:=⟨rs[j],zA hjl⟩;obtain⟨⟨b1,b2⟩,b3,b4,b5⟩:=hrg.b j r hr;have ei:∀h,ixW (.tup (rsW rs)) (.int (j:Int)) h=some (.tup [.tup (xN r.ns),.tup (xN r.hs),toW r.body],h):=λh=>ixn ∅ ∅ (by have:=ze4 hr; simpa[ruW] using this)
 obtain⟨xs,h1,h2,h3⟩:=zer (a:=a) HD hN hO hH lN lO lH ((_root_.List.range (r.ns.length+r.hs.length)).map λ(i:Nat)=>(i:Int));simp only[zH,qY] at h1 h3;have wt:=zfj (l:=xs.take r.ns.length) λx hx=>h2 x (List.mem_of_mem_take hx)
 have wd:=zfj (l:=xs.drop r.ns.length) λx hx=>h2 x (qG hx)
 have ww:Wf rs rs.length (.call j (xs.take r.ns.length) (xs.drop r.ns.length)) N O H:=by
  simp only[Wf];exact⟨hjl,⟨r,hr,by rw[qp]; omega,by rw[qL]; omega⟩,wt.1,wd.1⟩
 have dd:dpt (.call j (xs.take r.ns.length) (xs.drop r.ns.length))<=d+1:=by simp only[dpt]; omega
 refine⟨.call j (xs.take r.ns.length) (xs.drop r.ns.length),λh=>?_,ww,dd⟩
 .have pw:=hrg.dt1 ww hN hO hH dd
  simp only[toW,zah,List.map_take,List.map_drop] at pw ⊢;refine zoc (t:=[.lst (xs.map toW)]) ?_ pw;clear pw ww wt wd;generalize rsW rs=rl at er ei h3 ⊢;obtain⟨o,e3⟩:=h3 h [] (some (.int (j:Int))) (some (.int (r.ns.length:Int))) none (by simp; omega);rw[zY] at e3;suffices hs:cF G (ρC ns a ((d:Int)+1) (kn N O H) rl none none none none) h=some (.ret (th "call" [.int (j:Int),.tup ((xs.map toW).take r.ns.length),.tup ((xs.map toW).drop r.ns.length)]),h++[.lst (xs.map toW)]) by
   simp only[fnM,zm,zP,kI,zy,ji,List.replicate,jk,zY];simp only[ρC] at hs;simp only[hs]
  have c0:(0:Nat)<=cap:=by decide
  have c4:(4:Nat)<=cap:=by decide
  have s0:CL0 G (ρC ns a ((d:Int)+1) (kn N O H) rl none none none none) h=some (.nx (ρC ns a ((d:Int)+1) (kn N O H) rl (some (.int (j:Int))) none none none),h):=by
   simp![CL0,addW,addI,lenW,er]
  have s1:CL1 G (ρC ns a ((d:Int)+1) (kn N O H) rl (some (.int (j:Int))) none none none) h=some (.nx (ρC ns a ((d:Int)+1) (kn N O H) rl (some (.int (j:Int))) (some (.int (r.ns.length:Int))) none none),h):=by
   simp![CL1,ei,ix0,lenW,uK]
  have s2:CL2 G (ρC ns a ((d:Int)+1) (kn N O H) rl (some (.int (j:Int))) (some (.int (r.ns.length:Int))) none none) h=some (.nx (ρC ns a ((d:Int)+1) (kn N O H) rl (some (.int (j:Int))) (some (.int (r.ns.length:Int))) (some (.ref h.length)) none),h++[.lst []]):=by
   simp![CL2,lstW,c0]
  have s3:CL3 G (ρC ns a ((d:Int)+1) (kn N O H) rl (some (.int (j:Int))) (some (.int (r.ns.length:Int))) (some (.ref h.length)) none) (h++[.lst []])=some (.nx (ρC ns a ((d:Int)+1) (kn N O H) rl (some (.int (j:Int))) (some (.int (r.ns.length:Int))) (some (.ref h.length)) o),h++[.lst (xs.map toW)]):=by
   rw[<-e3];have ir:(iRng [eOp addW (eVar 6) (xK lenW [eOp ixW (eOp ixW (eVar 4) (eVar 5)) (eC (.int 1))])]) (ρC ns a ((d:Int)+1) (kn N O H) rl (some (.int (j:Int))) (some (.int (r.ns.length:Int))) (some (.ref h.length)) none) (h++[.lst []])=some (.items (upto (r.ns.length+r.hs.length)),h++[.lst []]):=by
    have q:-(2 ^ 62:Int)<=(r.ns.length:Int)+(r.hs.length:Int)/\(r.ns.length:Int)+(r.hs.length:Int)<2 ^ 62:=by omega
    have q2:((r.ns.length:Int)+(r.hs.length:Int)).toNat=r.ns.length+r.hs.length:=by omega
    have lw:∀h,lenW [.tup (xN r.hs)] h=some (.int (r.hs.length:Int),h):=λh=>by simp[lenW,uK]
    have ad:∀h,addW (.int (r.ns.length:Int)) (.int (r.hs.length:Int)) h=some (.int ((r.ns.length:Int)+(r.hs.length:Int)),h):=λh=>by simp[addW,addI]
    have rw1:∀h,rngW [.int ((r.ns.length:Int)+(r.hs.length:Int))] h=some (.items (upto (r.ns.length+r.hs.length)),h):=λh=>by
     unfold rngW;simp only;rw[zX q,q2]
    simp![iRng,ei,ix1,lw,ad,rw1]
   unfold CL3 sFor;rw[ir];simp only;rw[zei]
  have s4:CL4 G (ρC ns a ((d:Int)+1) (kn N O H) rl (some (.int (j:Int))) (some (.int (r.ns.length:Int))) (some (.ref h.length)) o) (h++[.lst (xs.map toW)])=some (.ret (th "call" [.int (j:Int),.tup ((xs.map toW).take r.ns.length),.tup ((xs.map toW).drop r.ns.length)]),h++[.lst (xs.map toW)]):=by
   have t1:=zfo (l:=xs.map toW) (k:=r.ns.length) (by rw[zH]; omega);have t2:=zcb (l:=xs.map toW) (k:=r.ns.length);simp![CL4,eSl,zaY,slW,getL,at0,zay,tupW,c4,t1,t2]
  rw[znr,xM s0,xM s1,xM s2,xM s3,s4]
theorem up4(m:Nat)(F:Fs):up (m+4) F=step (step (step (step (up m F)))):=rfl
theorem zbY{ns:List Int}(hl:ns.length<=63)(hrg:RG rs)(F:Fs):∀(d:Nat),d<=4->∀m,4+2*d<=m->zbn (up m F) ns rs d
 | 0,_,m,hm=>by
  obtain⟨m',rfl⟩:∃m',m=m'+4:=⟨m-4,by omega⟩;rw[up4];exact zja hrg hl
 | d+1,hd,m,hm=>by
  obtain⟨m',rfl⟩:∃m',m=m'+4:=⟨m-4,by omega⟩;rw[up4];exact zi0 hrg hl ∅ (zbY hl hrg F d ∅ (m'+3) ∅) λhne=>zic hl hrg hne (zbY hl hrg F d ∅ (m'+2) ∅)
mutual
theorem u0:∀(d:D) {N O H:List Str},Wf rs k d N O H->Wf (rs++[r]) k d N O H
 | .number i,N,O,H,w=>by simp only[Wf]
 | .name v,N,O,H,w | .read v,N,O,H,w | .doo v,N,O,H,w=>by simp only[Wf] at w ⊢; exact w
 | .ask,N,O,H,w=>by simp only[Wf]
 | .write v a,N,O,H,w=>by simp only[Wf] at w ⊢; exact⟨w.1,u0 a w.2⟩
 | .say a,N,O,H,w=>by simp only[Wf] at w ⊢; exact u0 a w
 | .lett v a b,N,O,H,w | .own v a b,N,O,H,w=>by simp only[Wf] at w ⊢; exact⟨w.1,u0 a w.2.1,u0 b w.2.2⟩
 | .add a b,N,O,H,w | .less a b,N,O,H,w | .thenn a b,N,O,H,w | .loop a b,N,O,H,w=>by simp only[Wf] at w ⊢; exact⟨u0 a w.1,u0 b w.2⟩
 | .iff a b c,N,O,H,w=>by simp only[Wf] at w ⊢; exact⟨u0 a w.1,u0 b w.2.1,u0 c w.2.2⟩
 | .call i as bs,N,O,H,w=>by
  simp only[Wf] at w ⊢;obtain⟨hi,⟨r',hr,la,lb⟩,wa,wb⟩:=w;exact⟨hi,⟨r',by rw[zu (xO hr)]; exact hr,la,lb⟩,zdi as wa,zdi bs wb⟩
theorem zdi:∀(l:List D) {N O H:List Str},Wfs rs k l N O H->Wfs (rs++[r]) k l N O H
 | [],N,O,H,w=>by simp only[Wfs]
 | d::l,N,O,H,w=>by simp only[Wfs] at w ⊢; exact⟨u0 d w.1,zdi l w.2⟩
end
def RG.snoc{rs:List Rule}(h:RG rs)(hl:rs.length<=1){r:Rule}(ln:r.ns.length<=2/\r.hs.length<=2)(w1:wn r.ns)(w2:wh r.hs)(w:Wf rs rs.length r.body r.ns [] r.hs)(hd:dpt r.body<=2):RG (rs++[r]):=by
 have get:∀(i:Nat) (r':Rule),(rs++[r])[i]?=some r'->(i=rs.length/\r'=r)\/rs[i]?=some r':=λi r' e=>by
  by_cases q:i<rs.length
  .rw[zu q] at e; exact .inr e
  .rw[zE ∅] at e
   have z:i-rs.length=0:=by have:=xO e; simp at this; omega
   rw[z] at e;injection e with e;exact .inl ⟨by omega,e.symm⟩
 refine⟨by simp; omega,⟨λi r' e=>?_,λi r' e=>?_,λi r' e=>?_⟩,λi r' e=>?_⟩
 .rcases get i r' e with ⟨rfl,rfl⟩ | z
  .exact u0 _ w
  .exact u0 _ (h.g.w i r' z)
 .rcases get i r' e with ⟨rfl,rfl⟩ | z
  .exact λv hv=>wn_h w2 (w1 v hv)
  .exact h.g.d i r' z
 .rcases get i r' e with ⟨rfl,rfl⟩ | z
  .omega
  .exact h.g.l i r' z
 .rcases get i r' e with ⟨rfl,rfl⟩ | z
  .exact⟨ln,w1,w2,hd⟩
  .exact h.b i r' z
noncomputable abbrev ρR(ns:List Int)(a:Int)(rl:List W)(o3 o4 o5 o6:Option W):En:=[some (scr ns),some (.int a),some (.tup rl),o3,o4,o5,o6]
noncomputable def RUb(F:Fs):MS:=(sSeq (sAsg (eOp ixW (xK flsW [xK tupW [],xK tupW [eC (.str "x")],xK tupW [eC (.str "y"),eC (.str "x")]]) (xK F.aa [eVar 0,eOp addW (eOp addW (eVar 1) (eC (.int 1))) (eOp mulW (eC (.int 5)) (eVar 3)),eC (.int 3)])) (gNm 4))
 (sSeq (sAsg (eOp ixW (xK flsW [xK tupW [],xK tupW [eC (.str "f")],xK tupW [eC (.str "f"),eC (.str "g1")]]) (xK F.aa [eVar 0,eOp addW (eOp addW (eVar 1) (eC (.int 2))) (eOp mulW (eC (.int 5)) (eVar 3)),eC (.int 3)])) (gNm 5))
 (sSeq (sAsg (xK F.az [eVar 0,eOp addW (eOp addW (eVar 1) (eC (.int 20))) (eOp mulW (eC (.int 7)) (eVar 3)),eC (.int 2),xK tupW [eVar 4,xK tupW [],eVar 5],eVar 2]) (gNm 6))
 (sAsg (eOp addW (eVar 2) (xK tupW [xK tupW [eVar 4,eVar 5,eVar 6]])) (gNm 2)))))
theorem zdS{G:Fs}(e:∀(k many:Int) (h:MH),0<many->G.aa [scr ns,.int k,.int many] h=some (.int (uJ ns k many),h))(HD:∀rs,RG rs->zbn G ns rs 2) :
  ∀(is:List Int) (rs:List Rule),RG rs->rs.length+is.length<=2->∃rs',RG rs'/\∀(h:MH) (o3 o4 o5 o6:Option W),∃p3 p4 p5 p6,forL (gNm 3) (RUb G) (is.map W.int) (ρR ns a (rsW rs) o3 o4 o5 o6) h=some (.nx (ρR ns a (rsW rs') p3 p4 p5 p6),h)
 | [],rs,hr,_=>⟨rs,hr,λh o3 o4 o5 o6=>⟨o3,o4,o5,o6,by simp[forL]⟩⟩
 | i::is,rs,hr,hl=>by
  simp only[zm] at hl;have c0:(0:Nat)<=cap:=by decide
  have c1:(1:Nat)<=cap:=by decide
  have c2:(2:Nat)<=cap:=by decide
  have c3:(3:Nat)<=cap:=by decide
  obtain⟨v1,hv1,ev1⟩:=zbQ (l:=[.tup [],.tup [.str "x"],.tup [.str "y",.str "x"]]) (xW (ns:=ns) (k:=a+1+5*i) (many:=3) ∅).1 (by simpa using (xW (ns:=ns) (k:=a+1+5*i) (many:=3) ∅).2);have:∃N:List Str,v1=.tup (xN N)/\N.length<=2/\wn N:=by
   simp only[zb,zc,zO] at hv1;rcases hv1 with rfl | rfl | rfl
   .exact⟨[],rfl,by simp,λv hv=>by simp at hv⟩
   .exact⟨["x"],rfl,by simp,λv hv=>by simp only[zb,zc,zO] at hv; exact .inl hv⟩
   .exact⟨["y","x"],rfl,by simp,λv hv=>by simp only[zb,zc,zO] at hv; rcases hv with hv | hv; exact .inr (.inl hv); exact .inl hv⟩
  obtain⟨N,rfl,lN,wN⟩:=this;obtain⟨v2,hv2,ev2⟩:=zbQ (l:=[.tup [],.tup [.str "f"],.tup [.str "f",.str "g1"]]) (xW (ns:=ns) (k:=a+2+5*i) (many:=3) ∅).1 (by simpa using (xW (ns:=ns) (k:=a+2+5*i) (many:=3) ∅).2);have:∃N:List Str,v2=.tup (xN N)/\N.length<=2/\wh N:=by
   simp only[zb,zc,zO] at hv2;rcases hv2 with rfl | rfl | rfl
   .exact⟨[],rfl,by simp,λv hv=>by simp at hv⟩
   .exact⟨["f"],rfl,by simp,λv hv=>by simp only[zb,zc,zO] at hv; exact .inl hv⟩
   .exact⟨["f","g1"],rfl,by simp,λv hv=>by simp only[zb,zc,zO] at hv; exact hv⟩
  obtain⟨H,rfl,lH,wH⟩:=this;obtain⟨x,ew,wx,dx⟩:=HD rs hr (a+20+7*i) N [] H wN (λv hv=>by simp at hv) wH ∅ (by simp) ∅;obtain⟨rs',hr',ih⟩:=zdS (a:=a) e HD is (rs++[⟨N,H,x⟩]) (hr.snoc ∅ ⟨lN,lH⟩ wN wH wx dx) (by simp; omega);refine⟨rs',hr',λh o3 o4 o5 o6=>?_⟩;obtain⟨p3,p4,p5,p6,e6⟩:=ih h (some (.int i)) (some (.tup (xN N))) (some (.tup (xN H))) (some (toW x));refine⟨p3,p4,p5,p6,?_⟩;have rw1:rsW (rs++[⟨N,H,x⟩])=rsW rs++[.tup [.tup (xN N),.tup (xN H),toW x]]:=by simp[rsW,ruW]
  have rl:(rsW rs).length=rs.length:=by unfold rsW; rw[zH]
  rw[rw1] at e6;simp only[zy];unfold forL;have g:gNm 3 (.int i) (ρR ns a (rsW rs) o3 o4 o5 o6) h=some (ρR ns a (rsW rs) (some (.int i)) o4 o5 o6,h):=by simp[gNm]
  rw[g];have cr:(rsW rs).length+1<=cap:=zQ (show(rsW rs).length+1<=10 by omega) (by decide);generalize rsW rs=rl at ew e6 cr ⊢;have a1:∀x y:Int,∀h,addW (.int x) (.int y) h=some (.int (x+y),h):=λx y h=>by simp[addW,addI]
  have a2:∀w h,addW (.tup rl) (.tup [w]) h=some (.tup (rl++[w]),h):=λw h=>by
   simp only[addW,addI,zm,zP];rw[zX (by simpa using cr)]
  have ew':∀h,G.az [scr ns,.int (a+20+7*i),.int 2,.tup [.tup (xN N),.tup [],.tup (xN H)],.tup rl] h=some (toW x,h):=λh=>ew h
  have b:RUb G (ρR ns a rl (some (.int i)) o4 o5 o6) h=some (.nx (ρR ns a (rl++[.tup [.tup (xN N),.tup (xN H),toW x]]) (some (.int i)) (some (.tup (xN N))) (some (.tup (xN H))) (some (toW x))),h):=by
   unfold RUb;rw[xM (ρ':=ρR ns a rl (some (.int i)) (some (.tup (xN N))) o5 o6) (h':=h) (by simp![tupW,flsW,c0,c1,c2,c3,a1,m5,e (a+1+5*i) 3 _ ∅,ev1])];rw[xM (ρ':=ρR ns a rl (some (.int i)) (some (.tup (xN N))) (some (.tup (xN H))) o6) (h':=h) (by simp![tupW,flsW,c0,c1,c2,c3,a1,m5,e (a+2+5*i) 3 _ ∅,ev2])];rw[xM (ρ':=ρR ns a rl (some (.int i)) (some (.tup (xN N))) (some (.tup (xN H))) (some (toW x))) (h':=h) (by simp![tupW,c0,c3,a1,m7,ew'])];simp![tupW,c1,c3,a2]
  simp only[b];rw[e6]
def zmY{ns:List Int}(hl:ns.length<=63)(hm:8<=m):∃rs,RG rs/\∀h,(step (up m F)).bI [scr ns,.int 1] h=some (.tup (rsW rs),h):=by
 have HD:=λrs (hr:RG rs)=>zbY hl hr F 2 ∅ m ∅
 have e:∀(k many:Int) (h:MH),0<many->(up m F).aa [scr ns,.int k,.int many] h=some (.int (uJ ns k many),h):=by
  obtain⟨m',rfl⟩:∃m',m=m'+2:=⟨m-2,by omega⟩;exactλk many h hm=>zaK (F:=up m' F) hl hm
 generalize up m F=G at e HD;have rg:=xW (ns:=ns) (k:=1) (many:=3) ∅;have e1:=λh=>e 1 3 h ∅
 obtain⟨j,hj⟩:=ql rg.1;rw[hj] at rg e1;obtain⟨rs',hr',ih⟩:=zdS (a:=1) e HD ((_root_.List.range j).map λ(i:Nat)=>(i:Int)) [] ⟨by simp,⟨λi r hi=>by simp at hi,λi r hi=>by simp at hi,λi r hi=>by simp at hi⟩,λi r hi=>by simp at hi⟩ (by simp; omega);refine⟨rs',hr',λh=>zbh (n:=8) ?_ hr'.dt⟩;obtain⟨p3,p4,p5,p6,e6⟩:=ih h none none none none;have e6:forL (gNm 3) (RUb G) (((_root_.List.range j).map λ(i:Nat)=>(i:Int)).map W.int) (ρR ns 1 [] none none none none) h=_:=e6;have c0:(0:Nat)<=cap:=by decide
 have s0:RU0 G [some (scr ns),some (.int 1),none,none,none,none,none] h=some (.nx (ρR ns 1 [] none none none none),h):=by
  simp![RU0,tupW,c0]
 have s1:RU1 G (ρR ns 1 [] none none none none) h=some (.nx (ρR ns 1 (rsW rs') p3 p4 p5 p6),h):=by
  rw[<-e6];have ir:(iRng [xK G.aa [eVar 0,eVar 1,eC (.int 3)]]) (ρR ns 1 [] none none none none) h=some (.items (upto j),h):=by
   have q:-(2 ^ 62:Int)<=(j:Int)/\(j:Int)<2 ^ 62:=by omega
   have rw1:∀h,rngW [.int (j:Int)] h=some (.items (upto j),h):=λh=>by
    unfold rngW;simp only;rw[zX q,j0]
   simp![iRng,e1,rw1]
  show(sFor _ _ (RUb G)) _ _=_
  unfold sFor;rw[ir];simp only;rw[zei]
 have hs:bQ G [some (scr ns),some (.int 1),none,none,none,none,none] h=some (.ret (.tup (rsW rs')),h):=by
  rw[znO,xM s0,xM s1];simp![RU2]
 simp only[fnM,zm,zP,kI,zy,ji,List.replicate,jk,zY];simp only[hs]
def RG.good(h:RG rs):RulesGood (rsW rs):=⟨λi hi=>by
 have hi':i<rs.length:=by unfold rsW at hi; rw[zH] at hi; exact hi
 have hr:rs[i]?=some rs[i]:=zA hi';obtain⟨⟨l1,l2⟩,w1,w2,d2⟩:=h.b i _ hr
 exact⟨xN rs[i].ns,rs[i].hs,toW rs[i].body,ze4 hr,um (uX (n:=2) h.g.l rs[i].body (h.g.w i _ hr) (wn_S w1) (λv hv=>by simp at hv) (wh_S w2) d2) ∅,zfY 2 (h.g.w i _ hr) d2,by omega⟩⟩
def zgN{ns:List Int}(hl:ns.length<=63)(hm:15<=m)(hr:RG rs):∃x:D,Cd rs x/\dpt x<=2/\∀h,(step (up m F)).aN [scr ns,.int a,.int 2,.tup (rsW rs)] h=some (toW x,h):=by
 have n0:wn []:=λv hv=>by simp at hv
 have o0:wo []:=λv hv=>by simp at hv
 have h0:wh []:=λv hv=>by simp at hv
 obtain⟨x,ew,p,o⟩:=zbY hl hr F 2 ∅ m ∅ a [] [] [] n0 o0 h0 (by simp) (by simp) (by simp);have rlen:(rsW rs).length=rs.length:=by unfold rsW; rw[zH]
 obtain⟨v,ev⟩:=zcc hr.good F m (rsW rs).length 3 (by have:=hr.l; omega) ∅ ∅ [] (toW x) [] (by rw[rlen]; exact zfY 2 p o) (um (hr.dt1 p n0 o0 h0 o) ∅) (λp hp=>by simp at hp);have e:∀(k many:Int) (h:MH),0<many->(up m F).aa [scr ns,.int k,.int many] h=some (.int (uJ ns k many),h):=by
  obtain⟨m',rfl⟩:∃m',m=m'+2:=⟨m-2,by omega⟩;exactλk many h hm=>zaK (F:=up m' F) hl hm
 generalize up m F=G at e ew ev;have c0:(0:Nat)<=cap:=by decide
 have c2:(2:Nat)<=cap:=by decide
 have c3:(3:Nat)<=cap:=by decide
 have ew':∀h,G.az [scr ns,.int a,.int 2,.tup [.tup [],.tup [],.tup []],.tup (rsW rs)] h=some (toW x,h):=λh=>ew h
 by_cases k:80<v
 .have rg:=xW (ns:=ns) (k:=a) (many:=4) ∅
  have e1:=λh=>e a 4 h ∅
  generalize uJ ns a 4=y at rg e1;have:∃c:Str,c∈SH/\∀h,ixW (.str "abcd") (.int y) h=some (.str c,h):=by
   have hy:y=0\/y=1\/y=2\/y=3:=by omega
   have hc:(("abcd":Str).length<=cap):=by decide +kernel
   have hx:("abcd":Str).cps.toList=[97,98,99,100]:=by decide +kernel
   rcases hy with rfl | rfl | rfl | rfl
   .exact⟨⟨#[97]⟩,by decide +kernel,λh=>by simp[ixW,hc,hx,atI,ixN]⟩
   .exact⟨⟨#[98]⟩,by decide +kernel,λh=>by simp[ixW,hc,hx,atI,ixN]⟩
   .exact⟨⟨#[99]⟩,by decide +kernel,λh=>by simp[ixW,hc,hx,atI,ixN]⟩
   .exact⟨⟨#[100]⟩,by decide +kernel,λh=>by simp[ixW,hc,hx,atI,ixN]⟩
  obtain⟨c,c6,ec⟩:=this;have wr:Cd rs (.read c):=by simp only[Wf]; exact .inl c6
  refine⟨.read c,wr,by simp only[dpt]; omega,λh=>zbh (n:=2) ?_ (hr.dt1 (n:=0) wr n0 o0 h0 (by simp only[dpt,zj]))⟩;simp![bU,tupW,c0,c2,c3,ew',ev,cmpI,k,e1,ec,toW]
 .refine⟨x,p,o,λh=>zbh (n:=6) ?_ (hr.dt1 p n0 o0 h0 o)⟩
  simp![bU,tupW,c0,c2,c3,ew',ev,cmpI,k]
noncomputable def FF(P Q h:Nat):Nat->Nat
 | 0=>1+h
 | n+1=>(P+2)*FF P Q h n+Q
theorem zk1:∀n,1+h<=FF P Q h n
 | 0=>zj _
 | n+1=>by
  have:=zk1 (P:=P) (Q:=Q) (h:=h) n;simp only[FF,v6];omega
section
variable{rs:List Rule}{B:Nat->Nat->Nat}{P Q h k:Nat}
def zbN(hP:2<=P)(hQ:9<=Q)(h1:y<=4*x+9):y<=(P+2)*x+Q:=by
 have:=wD x hP;rw[v6];omega
mutual
theorem uV(hr:∀(i:Nat) (r:Rule),rs[i]?=some r->r.ns.length<=2)(hP:2<=P)(hQ:9<=Q)(hB:∀i,i<k->∀m,B i m+2<=P*m+Q):∀(d:D) {N O H:List Str} {n:Nat},Wf rs k d N O H->dpt d<=n->cost B h d<=FF P Q h n
 | .number i,N,O,H,n,w,hd | .name v,N,O,H,n,w,hd | .read v,N,O,H,n,w,hd | .doo v,N,O,H,n,w,hd | .ask,N,O,H,n,w,hd=>by have:=zk1 (P:=P) (Q:=Q) (h:=h) n; simp only[cost]; omega
 | .write v a,N,O,H,n,w,hd=>by
  simp only[Wf] at w;simp only[dpt] at hd;obtain⟨m,rfl⟩:∃m,n=m+1:=⟨n-1,by omega⟩;have:=uV hr hP hQ hB a w.2 (show dpt a<=m by omega);exact zbN hP hQ (by simp only[cost]; omega)
 | .say a,N,O,H,n,w,hd=>by
  simp only[Wf] at w;simp only[dpt] at hd;obtain⟨m,rfl⟩:∃m,n=m+1:=⟨n-1,by omega⟩;have:=uV hr hP hQ hB a w (show dpt a<=m by omega);exact zbN hP hQ (by simp only[cost]; omega)
 | .lett v a b,N,O,H,n,w,hd | .own v a b,N,O,H,n,w,hd=>by
  simp only[Wf] at w;simp only[dpt] at hd;obtain⟨m,rfl⟩:∃m,n=m+1:=⟨n-1,by omega⟩;have:=uV hr hP hQ hB a w.2.1 (show dpt a<=m by omega);have:=uV hr hP hQ hB b w.2.2 (show dpt b<=m by omega);exact zbN hP hQ (by simp only[cost]; omega)
 | .add a b,N,O,H,n,w,hd | .less a b,N,O,H,n,w,hd | .thenn a b,N,O,H,n,w,hd | .loop a b,N,O,H,n,w,hd=>by
  simp only[Wf] at w;simp only[dpt] at hd;obtain⟨m,rfl⟩:∃m,n=m+1:=⟨n-1,by omega⟩;have:=uV hr hP hQ hB a w.1 (show dpt a<=m by omega);have:=uV hr hP hQ hB b w.2 (show dpt b<=m by omega);exact zbN hP hQ (by simp only[cost]; omega)
 | .iff a b c,N,O,H,n,w,hd=>by
  simp only[Wf] at w;simp only[dpt] at hd;obtain⟨m,rfl⟩:∃m,n=m+1:=⟨n-1,by omega⟩;have:=uV hr hP hQ hB a w.1 (show dpt a<=m by omega);have:=uV hr hP hQ hB b w.2.1 (show dpt b<=m by omega);have:=uV hr hP hQ hB c w.2.2 (show dpt c<=m by omega);exact zbN hP hQ (by simp only[cost]; omega)
 | .call i as bs,N,O,H,n,w,hd=>by
  simp only[Wf] at w;obtain⟨hi,⟨r,hri,la,lb⟩,wa,wb⟩:=w;simp only[dpt] at hd;obtain⟨m,rfl⟩:∃m,n=m+1:=⟨n-1,by omega⟩;have h1:=(zdb hr hP hQ hB as wa (show dpts as<=m by omega)).1;have h2:=(zdb hr hP hQ hB bs wb (show dpts bs<=m by omega)).2;have h3:=hB i hi (zat B h bs);have h4:=Nat.mul_le_mul_left P h2;have h5:=wD (FF P Q h m) (show as.length<=2 by have:=hr i r hri; omega);simp only[cost,FF,v6];omega
theorem zdb(hr:∀(i:Nat) (r:Rule),rs[i]?=some r->r.ns.length<=2)(hP:2<=P)(hQ:9<=Q)(hB:∀i,i<k->∀m,B i m+2<=P*m+Q):∀(l:List D) {N O H:List Str} {n:Nat},Wfs rs k l N O H->dpts l<=n->zaP B h l<=l.length*FF P Q h n/\zat B h l<=FF P Q h n
 | [],N,O,H,n,w,hd=>by simp[zaP,zat]
 | d::l,N,O,H,n,w,hd=>by
  simp only[Wfs] at w;simp only[dpts] at hd;have h1:=uV hr hP hQ hB d w.1 (show dpt d<=n by omega);have h2:=zdb hr hP hQ hB l w.2 (show dpts l<=n by omega);simp only[zaP,zat,zm,v6,Nat.one_mul];omega
end
end
theorem RG.cost(h:RG rs)(w:Cd rs d)(hd:dpt d<=2):cst rs d<=604297:=by
 have ln:∀(i:Nat) (r:Rule),rs[i]?=some r->r.ns.length<=2:=λi r e=>(h.b i r e).1.1
 have b0:∀K,∀r,rs[0]?=some r->0<K->∀m,zab rs K 0 m+2<=16*m+63:=λK r e hK m=>by
  rw[zb0 e hK];show K16.cost (zab rs 0) m r.body+2<=_
  have:=uV (B:=zab rs 0) (P:=2) (Q:=9) (h:=m) (k:=0) ln ∅ ∅ (λi hi=>by omega) r.body (n:=2) (h.g.w 0 r e) (h.b 0 r e).2.2.2;simp only[FF] at this;omega
 have b1:∀K,∀r,rs[1]?=some r->1<K->∀m,zab rs K 1 m+2<=324*m+1523:=λK r e hK m=>by
  rw[zb0 e hK];show K16.cost (zab rs 1) m r.body+2<=_
  have:=uV (B:=zab rs 1) (P:=16) (Q:=63) (h:=m) (k:=1) ln ∅ ∅ (λi hi m=>by
   have:i=0:=by omega
   subst this;have l0:0<rs.length:=by have:=xO e; omega
   exact b0 1 _ (zA l0) ∅ m) r.body (n:=2) (h.g.w 1 r e) (h.b 1 r e).2.2.2
  simp only[FF] at this;omega
 have:=uV (B:=zab rs rs.length) (P:=324) (Q:=1523) (h:=0) (k:=rs.length) ln ∅ ∅ (λi hi m=>by
  have hl:=h.l;have e:=zA hi;have:i=0\/i=1:=by omega
  rcases this with rfl | rfl
  .have:=b0 rs.length _ e hi m; omega
  .exact b1 rs.length _ e hi m) d (n:=2) w hd
 simp only[FF] at this;omega
noncomputable def gd:Nat->W->Bool
 | 0,_=>false
 | _+1,.int _=>true
 | n+1,.tup l=>l.all (gd n)
 | n+1,.fls l=>l.all (gd n)
 | _+1,_=>false
theorem zdY{f:W->Option PyData}:∀{l:List W},(∀w∈l,∃d,f w=some d/\PyData.eqv d d=true)->∃ds,mapO f l=some ds/\PyData.eqvAll ds ds=true
 | [],_=>⟨[],rfl,by simp[PyData.eqvAll]⟩
 | w::l,h=>by
  obtain⟨d,e1,e2⟩:=h w zZ;obtain⟨ds,e3,e4⟩:=zdY (l:=l) λw hw=>h w (zN _ hw)
  exact⟨d::ds,by unfold mapO; rw[e1,e3],by simp[PyData.eqvAll,e2,e4]⟩
theorem zd9:∀{n m:Nat} {w:W},gd n w=true->n<=m->∃d,ug m h w=some d/\PyData.eqv d d=true
 | 0,_,_,g,_=>by cases g
 | n+1,0,_,_,hm=>by omega
 | n+1,m+1,.int i,_,_=>⟨.int i,rfl,by simp[PyData.eqv]⟩
 | n+1,m+1,.tup l,g,hm=>by
  unfold gd at g;obtain⟨ds,e1,e2⟩:=zdY (f:=ug m h) (l:=l) λw hw=>zd9 (kW.mp g w hw) ∅
  exact⟨.tuple ds,by unfold ug; rw[e1]; rfl,by simp only[PyData.eqv]; exact e2⟩
 | n+1,m+1,.fls l,g,hm=>by
  unfold gd at g;obtain⟨ds,e1,e2⟩:=zdY (f:=ug m h) (l:=l) λw hw=>zd9 (kW.mp g w hw) ∅
  exact⟨.list ds,by unfold ug; rw[e1]; rfl,by simp only[PyData.eqv]; exact e2⟩
 | n+1,_,.non,g,_=>by cases g
 | n+1,_,.bl _,g,_=>by cases g
 | n+1,_,.str _,g,_=>by cases g
 | n+1,_,.ref _,g,_=>by cases g
 | n+1,_,.fdc _,g,_=>by cases g
 | n+1,_,.fn _,g,_=>by cases g
def zbP(g:gd n w=true)(hn:n<=60):eqB h w w=some true:=by
 obtain⟨d,e1,e2⟩:=zd9 (h:=h) g (show n<=deep from hn);unfold eqB;cases w with
 | int i=>simp[eqF]
 | tup l=>simp only[eqF,e1,e2]
 | fls l=>simp only[eqF,e1,e2]
 | _=>cases n<;>cases g
theorem zcV(l:List Int):gd (n+2) (.fls (l.map .int))=true:=by
 unfold gd;rw[List.all_map];exact kW.mpr λx _=>rfl
theorem zld(st:Str->Int):gd (n+2) (stW st)=true:=by
 unfold stW gd;rw[List.all_map];exact kW.mpr λx _=>rfl
theorem ziq:gd 3 (oneW v r)=true:=by
 unfold oneW gd;simp only[ju,List.all_nil,zld,zcV,Bool.true_and,Bool.and_true];rfl
noncomputable def stOf(a b c d:Int):Str->Int:=λv=>if v="a" then a else if v="b" then b else if v="c" then c else d
def zoU(a b c d:Int):stW (stOf a b c d)=.tup [.int a,.int b,.int c,.int d]:=by
 have n1:¬("b":Str)="a":=by decide +kernel
 have n2:¬("c":Str)="a":=by decide +kernel
 have n3:¬("c":Str)="b":=by decide +kernel
 have n4:¬("d":Str)="a":=by decide +kernel
 have n5:¬("d":Str)="b":=by decide +kernel
 have n6:¬("d":Str)="c":=by decide +kernel
 simp only[stW,SH,zy,ji,stOf,n1,n2,n3,n4,n5,n6,kI,jm]
section
variable{G F:Fs}{ns:List Int}
def zlO(e:∀(k many:Int) (h:MH),0<many->G.aa [scr ns,.int k,.int many] h=some (.int (uJ ns k many),h)):∃st,∀h,(step G).bK [scr ns,.int a] h=some (stW st,h):=by
 refine⟨stOf (uJ ns (a+0) 6) (uJ ns (a+1) 6) (uJ ns (a+2) 6) (uJ ns (a+3) 6),λh=>?_⟩;show gc (fnM 2 0 (bW G)) _ _=_
 refine u5 (h':=h) (zaf (ρ:=[some (scr ns),some (.int a)]) rfl rfl ?_) zcG (zR _);have rg:iRng [eC (.int 4)] [some (scr ns),some (.int a)] h=some (.items [.int 0,.int 1,.int 2,.int 3],h):=by
  simp only[iRng,xU,bnd,eC,rngW];rw[zX ∅];rfl
 have c:=zb5 (mi:=iRng [eC (.int 4)]) (ks:=[0,1]) (t:=ud) (m:=xK G.aa [eVar 1,eOp addW (eVar 2) (eVar 0),eC (.int 6)]) (ρ:=[some (scr ns),some (.int a)]) (h:=h) (l:=[.int 0,.int 1,.int 2,.int 3]) (λ_=>true) (λw=>match w with | .int i=>.int (uJ ns (a+i) 6) | w=>w)
  rg (λw _ H'=>rfl) (λw hw _ H'=>by
   have:∃i,w=.int i:=by
    simp only[zb,zc,zO] at hw;rcases hw with rfl | rfl | rfl | rfl<;>exact⟨_,rfl⟩
   obtain⟨i,rfl⟩:=this;simp only[xK,xU,bnd,eOp,eVar,eC,zy,ji,zG,zq,vg,addW,addI];exact e _ _ _ ∅) (λw hw _=>by
   simp only[zb,zc,zO] at hw
   rcases hw with rfl | rfl | rfl | rfl<;>exact uL) (by decide)
 rw[filter_true] at c;unfold bW;simp only[sRet,xK,xU,bnd,eOp,eVar,eC] at c ⊢;simp only[c,zay,getL,zoU,zy,ji]
theorem zmc(e:∀(k many:Int) (h:MH),0<many->G.aa [scr ns,.int k,.int many] h=some (.int (uJ ns k many),h)):∃ans:List Int,ans.length<=4/\∀h,(step G).bJ [scr ns,.int a] h=some (.fls (ans.map .int),h):=by
 have rgn:=xW (ns:=ns) (k:=a) (many:=4) ∅;obtain⟨j,hj⟩:=ql rgn.1;refine⟨(_root_.List.range j).map λ(i:Nat)=>uJ ns (a+1+(i:Int)) 9,by simp; omega,λh=>?_⟩;show gc (fnM 2 0 (bM G)) _ _=_
 refine u5 (h':=h) (zaf (ρ:=[some (scr ns),some (.int a)]) rfl rfl ?_) zb3 (zR _);have rg:iRng [xK G.aa [eVar 0,eVar 1,eC (.int 4)]] [some (scr ns),some (.int a)] h=some (.items (upto j),h):=by
  have q:-(2 ^ 62:Int)<=(j:Int)/\(j:Int)<2 ^ 62:=by omega
  simp only[iRng,xU,bnd,xK,eVar,eC,zG,zq,e a 4 h ∅,hj,rngW];rw[zX q,j0]
 have c:=zb5 (mi:=iRng [xK G.aa [eVar 0,eVar 1,eC (.int 4)]]) (ks:=[0,1]) (t:=ud) (m:=xK G.aa [eVar 1,eOp addW (eOp addW (eVar 2) (eC (.int 1))) (eVar 0),eC (.int 9)]) (ρ:=[some (scr ns),some (.int a)]) (h:=h) (l:=upto j) (λ_=>true) (λw=>match w with | .int i=>.int (uJ ns (a+1+i) 9) | w=>w)
  rg (λw _ H'=>rfl) (λw hw _ H'=>by
   obtain⟨i,_,rfl⟩:=kZ.mp hw;simp only[xK,xU,bnd,eOp,eVar,eC,zy,ji,zG,zq,vg,addW,addI];exact e _ _ _ ∅) (λw hw _=>by
   obtain⟨i,_,rfl⟩:=kZ.mp hw
   exact uL) (by unfold upto; rw[zH,qY]; exact zQ (show j<=4 by omega) (by decide))
 rw[filter_true] at c;unfold bM;unfold sRet;rw[c];simp only[upto,vf];rfl
end
noncomputable def askw:List (Tch×Int)->List Int
 | []=>[]
 | (.ask,x)::l=>x::askw l
 | _::l=>askw l
theorem zbp:∀l:List (Tch×Int),(askw l).length=asks l
 | []=>rfl
 | (t,x)::l=>by cases t<;>simp[askw,asks,zbp l]
theorem zbu:∀(T:Tr Int) (r q:Rm),r.st=q.st->(∀j,j<asks (runT T r).2.2->r.ans.getD (r.k+j) 0=q.ans.getD (q.k+j) 0)->(runT T r).1=(runT T q).1/\(runT T r).2.1.st=(runT T q).2.1.st/\(runT T r).2.2=(runT T q).2.2
 | .ret v,r,q,hs,_=>⟨rfl,hs,rfl⟩
 | .tch t k,r,q,hs,hj=>by
  simp only[runT] at hj ⊢;cases t with
  | read v=>
   simp only[doT] at hj ⊢;rw[hs] at hj ⊢;have:=zbu (k (q.st v)) r q hs λj h=>hj j (by simpa[asks] using h)
   exact⟨this.1,this.2.1,by rw[this.2.2]⟩
  | write v x=>
   simp only[doT] at hj ⊢;have:=zbu (k x) { r with st:=upS r.st v x } { q with st:=upS q.st v x } (by rw[hs]) λj h=>hj j (by simpa[asks] using h)
   exact⟨this.1,this.2.1,by rw[this.2.2]⟩
  | say x=>
   simp only[doT] at hj ⊢;have:=zbu (k x) { r with sp:=r.sp++[x] } { q with sp:=q.sp++[x] } hs λj h=>hj j (by simpa[asks] using h)
   exact⟨this.1,this.2.1,by rw[this.2.2]⟩
  | ask=>
   simp only[doT] at hj ⊢;have h0:=hj 0 (by simp[asks]);simp only[Nat.add_zero] at h0;rw[h0] at hj ⊢;have:=zbu (k (q.ans.getD q.k 0)) { r with k:=r.k+1 } { q with k:=q.k+1 } hs λj h=>by
    have:=hj (j+1) (by simpa[asks] using h);show r.ans.getD (r.k+1+j) 0=q.ans.getD (q.k+1+j) 0
    rw[show r.k+1+j=r.k+(j+1) by omega,show q.k+1+j=q.k+(j+1) by omega];exact this
   exact⟨this.1,this.2.1,by rw[this.2.2]⟩
theorem zha:∀(T:Tr Int) (r:Rm),(runT T r).2.1.ans=r.ans
 | .ret v,r=>rfl
 | .tch t k,r=>by
  simp only[runT];rw[zha];cases t<;>rfl
theorem zcw:∀(T:Tr Int) (r:Rm) (j:Nat),j<asks (runT T r).2.2->(askw (runT T r).2.2).getD j 0=r.ans.getD (r.k+j) 0
 | .ret v,r,j,h=>by simp[runT,asks] at h
 | .tch t k,r,j,h=>by
  simp only[runT] at h ⊢;have ih:=zcw (k (doT t r).1) (doT t r).2;cases t with
  | read v=>exact ih j (by simpa[asks] using h)
  | write v x=>exact ih j (by simpa[asks] using h)
  | say x=>exact ih j (by simpa[asks] using h)
  | ask=>
   cases j with
   | zero=>simp[askw,doT]
   | succ j=>
    have:=ih j (by simpa[asks] using h);simp only[doT] at this ⊢;simp only[askw,List.getD_cons_succ];rw[this,show r.k+(j+1)=r.k+1+j by omega]
theorem zhw(l:List Int)(n:Nat):∀j,j<n->((l++List.replicate n 0).take n).getD j 0=l.getD j 0:=λj h=>by
 simp only[jj,List.getElem?_take,h,kI];by_cases q:j<l.length
 .rw[zu q]
 .rw[zE ∅,jY,jB (l:=l) ∅]
  split<;>rfl
def brought(T:Tr Int)(st:Str->Int)(ans:List Int):askw (runT T ⟨st,ans,[],0⟩).2.2=(ans++List.replicate (asks (runT T ⟨st,ans,[],0⟩).2.2) 0).take (asks (runT T ⟨st,ans,[],0⟩).2.2):=by
 have hl:(askw (runT T ⟨st,ans,[],0⟩).2.2).length=((ans++List.replicate (asks (runT T ⟨st,ans,[],0⟩).2.2) 0).take (asks (runT T ⟨st,ans,[],0⟩).2.2)).length:=by
  rw[zbp,qp,zF,jK];omega
 apply List.ext_getElem hl
 intro j h1 h2;have a:=zcw T ⟨st,ans,[],0⟩ j (by rw[zbp] at h1; exact h1);have b:=zhw ans (asks (runT T ⟨st,ans,[],0⟩).2.2) j (by rw[zbp] at h1; exact h1);rw[jj,zA h1] at a;rw[jj,zA h2] at b;simp only[Option.getD_some,q9] at a b;rw[a,b]
theorem zpm(F:Fs):du F=sSeq (Q0 F) (sSeq (Q1 F) (sSeq (Q2 F) (sSeq (Q3 F) (sSeq (Q4 F) (sSeq (Q5 F) (sSeq (Q6 F) (sSeq (Q7 F) (sSeq (Q8 F) (sSeq (Q9 F) (sSeq (Q10 F) (sSeq (Q11 F) (sSeq (Q12 F) (sSeq (Q13 F) (sSeq (Q14 F) (Q15 F))))))))))))))):=rfl
noncomputable def hasW(x:Str):W->Bool
 | .tup (.str y::_)=>y==x
 | _=>false
noncomputable def sndW:W->W
 | .tup (_::y::_)=>y
 | w=>w
def wne:(("read":Str)=="ask")=false/\(("write":Str)=="ask")=false/\(("say":Str)=="ask")=false:=by decide +kernel
theorem zj7(t:Tch)(x:Int)(l:List (Tch×Int)):dWs ((t,x)::l)=dW t x::dWs l:=rfl
theorem zgG:∀l:List (Tch×Int),((dWs l).filter (hasW "ask")).map sndW=(askw l).map .int
 | []=>rfl
 | (t,x)::l=>by
  have ih:=zgG l;obtain⟨n1,n2,n3⟩:=wne;rw[zj7,vm];cases t with
  | read v=>rw[show hasW "ask" (dW (.read v) x)=false from n1]; exact ih
  | write v y=>rw[show hasW "ask" (dW (.write v y) x)=false from n2]; exact ih
  | say y=>rw[show hasW "ask" (dW (.say y) x)=false from n3]; exact ih
  | ask=>
   rw[show hasW "ask" (dW .ask x)=true from beq_self_eq_true _,zX rfl,zy,ih];rfl
def zn4{i:Int}(e:w=dW t i):tVal (eOp (eqW false) (eOp ixW (eVar 0) (eC (.int 0))) (eC (.str x))) (some w::ρ) h=some (hasW x w,h):=by
 subst e;cases t<;>simp![dW,ix0,uM,hasW]
def zkc{l:List (Tch×Int)}(hi:m ρ h=some (.fls (dWs l),h))(hl:l.length<=cap):uo (iSeq m) 1 [] (gNm 0) (tVal (eOp (eqW false) (eOp ixW (eVar 0) (eC (.int 0))) (eC (.str "ask")))) (eOp ixW (eVar 0) (eC (.int 1))) ρ h=some (.fls ((askw l).map .int),h):=by
 have c:=zb5 (mi:=iSeq m) (ks:=[]) (t:=tVal (eOp (eqW false) (eOp ixW (eVar 0) (eC (.int 0))) (eC (.str "ask")))) (m:=eOp ixW (eVar 0) (eC (.int 1))) (ρ:=ρ) (h:=h) (l:=dWs l) (hasW "ask") sndW
  (by simp only[iSeq,bnd,hi,srcOf]) (λw hw H'=>by
   obtain⟨p,_,rfl⟩:=kZ.mp hw;exact zn4 rfl) (λw hw hp H'=>by
   obtain⟨p,_,rfl⟩:=kZ.mp hw;obtain⟨t,x⟩:=p;obtain⟨n1,n2,n3⟩:=wne;cases t with
   | ask=>simp![dW,ix1,sndW]
   | read v=>simp only[dW,hasW,n1] at hp; cases hp
   | write v y=>simp only[dW,hasW,n2] at hp; cases hp
   | say y=>simp only[dW,hasW,n3] at hp; cases hp) (λw hw hp=>by
   obtain⟨p,_,rfl⟩:=kZ.mp hw;obtain⟨t,x⟩:=p
   cases t<;>simp[dW,sndW,low]) (by unfold dWs; rw[zH]; exact hl)
 rw[zgG] at c;exact c
structure LawF(G:Fs)(s R a0 a b S M1 S2 S3:W)(AL BL P1 P2 P3:List W)(n n2 n3:Nat)(v1 v2 v3:Int)(l:List (Tch×Int)):Prop where
 rules:∀h,G.bI [s,.int 1] h=some (R,h)
 la:∀h,G.aN [s,.int (90+31*0),.int 2,R] h=some (a0,h)
 lb:∀h,G.aN [s,.int (90+31*1),.int 2,R] h=some (b,h)
 wa:∀m,low m a0=true
 wb:∀m,low m b=true
 ea:a=th "add" [a0,th "ask" []]
 st:∀h,G.bK [s,.int 70] h=some (S,h)
 ak:∀h,G.bJ [s,.int 75] h=some (.fls AL,h)
 mine:∀h,G.aM [R,a,S,.fls AL] h=some (.tup [.int v1,M1,.fls P1,.int n],h)
 tr:∀h,G.bC [R,a,S,.fls AL] h=some (.fls (dWs l),h)
 ll:l.length<=cap
 lq:(askw l).map .int=BL
 bl:BL.length=n
 n1:1<=n
 mz:∀h,mulW (.fls [.int 0]) (.int n) h=some (.fls (List.replicate n (.int 0)),h)
 br:(AL++List.replicate n (W.int 0)).take n=BL
 eB:∀h,eqB h (.fls BL) (.fls BL)=some true
 r1:∀h,G.aM [R,a,S,.fls (BL++[.int 9,.int 8,.int 7])] h=some (.tup [.int v1,M1,.fls P1,.int n],h)
 r2:∀h,G.aM [R,a,S,.fls (AL++[.int 0,.int 0])] h=some (.tup [.int v1,M1,.fls P1,.int n],h)
 eM:∀h,eqB h (.tup [.int v1,M1,.fls P1,.int n]) (.tup [.int v1,M1,.fls P1,.int n])=some true
 al:∀h,G.aZ [R,.fls [a,b],S,.fls AL] h=some (.tup [.fls [.int v1,.int v2],S2,.fls (P1++P2),.int ((n:Int)+n2)],h)
 be:∀h,G.aM [R,b,M1,.fls (AL.drop n)] h=some (.tup [.int v2,S2,.fls P2,.int n2],h)
 e1:∀h,eqB h (.fls [.int v1,.int v2]) (.fls [.int v1,.int v2])=some true
 e2:∀h,eqB h S2 S2=some true
 e3:∀h,eqB h (.fls (P1++P2)) (.fls (P1++P2))=some true
 ba:∀h,G.aM [R,th "then" [th "say" [th "number" [.int 4]],b],S,.fls AL] h=some (.tup [.int v3,S3,.fls (.int 4::P3),.int n3],h)
 ot:∀h,G.aM [R,b,S,.fls AL] h=some (.tup [.int v3,S3,.fls P3,.int n3],h)
 e4:∀h,eqB h (.tup [.int v3,S3,.fls (.int 4::P3),.int n3]) (.tup [.int v3,S3,.fls (.int 4::P3),.int n3])=some true
 k1:AL.length+n+3<=cap
 k2:P1.length+P2.length<=cap
 k3:P3.length+1<=cap
section
variable{G:Fs}{s R a0 a b S M1 S2 S3:W}{AL BL P1 P2 P3:List W}{n n2 n3:Nat}{v1 v2 v3:Int}{l:List (Tch×Int)}
def m31{i:Int}:mulW (.int 31) (.int i) h=some (.int (31*i),h):=by
 have:(small 31||small i)=true:=by rw[show small 31=true by decide]; rfl
 simp only[mulW,this,kI]
def zna(L:LawF G s R a0 a b S M1 S2 S3 AL BL P1 P2 P3 n n2 n3 v1 v2 v3 l)(h:MH):uo (iRng [eC (.int 2)]) 1 [0,1] (gNm 0) ud (xK G.aN [eVar 1,eOp addW (eC (.int 90)) (eOp mulW (eC (.int 31)) (eVar 0)),eC (.int 2),eVar 2]) (some s::some R::List.replicate 13 none) h=some (.fls [a0,b],h):=by
 have rg:iRng [eC (.int 2)] (some s::some R::List.replicate 13 none) h=some (.items [.int 0,.int 1],h):=by
  simp only[iRng,xU,bnd,eC,rngW];rw[zX ∅];rfl
 have c:=zb5 (mi:=iRng [eC (.int 2)]) (ks:=[0,1]) (t:=ud) (m:=xK G.aN [eVar 1,eOp addW (eC (.int 90)) (eOp mulW (eC (.int 31)) (eVar 0)),eC (.int 2),eVar 2]) (ρ:=some s::some R::List.replicate 13 none) (h:=h) (l:=[.int 0,.int 1]) (λ_=>true) (λw=>match w with | .int 0=>a0 | _=>b)
  rg (λw _ H'=>rfl) (λw hw _ H'=>by
   simp only[zb,zc,zO] at hw;rcases hw with rfl | rfl
   .simp only[xK,xU,bnd,eOp,eVar,eC,zy,ji,zG,zq,vg,addW,addI,m31]
    exact L.la _
   .simp only[xK,xU,bnd,eOp,eVar,eC,zy,ji,zG,zq,vg,addW,addI,m31]
    exact L.lb _) (λw hw _=>by
   simp only[zb,zc,zO] at hw;rcases hw with rfl | rfl
   .exact L.wa _
   .exact L.wb _) (by decide)
 rw[filter_true] at c;exact c
def zbW{a b:MS}{ρ:En}(e:a ρ h=some (.nx ρ,h)):sSeq a b ρ h=b ρ h:=xM e
def zmg(L:LawF G s R a0 a b S M1 S2 S3 AL BL P1 P2 P3 n n2 n3 v1 v2 v3 l)(h:MH):du G (some s::List.replicate 14 none) h=some (.ret (.bl true),h):=by
 have c1:(1:Nat)<=cap:=by decide
 have c2:(2:Nat)<=cap:=by decide
 have c3:(3:Nat)<=cap:=by decide
 have c4:(4:Nat)<=cap:=by decide
 have k1:=L.k1;have ad:∀(x y:List W) h,x.length+y.length<=cap->addW (.fls x) (.fls y) h=some (.fls (x++y),h):=λx y h hc=>by
  simp[addW,addI,getL,hc]
 have a1:∀h,addW (.fls AL) (.fls (List.replicate n (.int 0))) h=some (.fls (AL++List.replicate n (.int 0)),h):=λh=>ad _ _ h (by rw[jK]; omega)
 have a2:∀h,addW (.fls BL) (.fls [.int 9,.int 8,.int 7]) h=some (.fls (BL++[.int 9,.int 8,.int 7]),h):=λh=>ad _ _ h (by rw[L.bl]; simp only[zm,zP]; omega)
 have a3:∀h,addW (.fls AL) (.fls [.int 0,.int 0]) h=some (.fls (AL++[.int 0,.int 0]),h):=λh=>ad _ _ h (by simp only[zm,zP]; omega)
 have a4:∀h,addW (.fls P1) (.fls P2) h=some (.fls (P1++P2),h):=λh=>ad _ _ h L.k2
 have a5:∀h,addW (.fls [.int 4]) (.fls P3) h=some (.fls (.int 4::P3),h):=λh=>ad [.int 4] P3 h (by have:=L.k3; simp only[zm,zP]; omega)
 have adI:∀(i j:Int) h,addW (.int i) (.int j) h=some (.int (i+j),h):=λi j h=>by simp[addW,addI]
 have cu:∀h,slW (.fls (AL++List.replicate n (.int 0))) none (some (n:Int)) h=some (.fls BL,h):=λh=>by
  simp only[slW,getL];rw[zfo (by rw[zF,jK]; omega),L.br]
 have cd:∀h,slW (.fls AL) (some (n:Int)) none h=some (.fls (AL.drop n),h):=λh=>by
  simp only[slW,getL];rw[zcb]
 have lb:∀h,lenW [.fls BL] h=some (.int n,h):=λh=>by simp only[lenW,getL,L.bl]
 have lt1:¬((n:Int)<1):=by have:=L.n1; omega
 have cq:∀h,uo (iSeq (xK G.bC [eVar 1,eVar 2,eVar 4,eVar 5])) 1 [] (gNm 0) (tVal (eOp (eqW false) (eOp ixW (eVar 0) (eC (.int 0))) (eC (.str "ask")))) (eOp ixW (eVar 0) (eC (.int 1))) [some s,some R,some a,some b,some S,some (.fls AL),some (.tup [.int v1,M1,.fls P1,.int n]),none,none,none,none,none,none,none,none] h=some (.fls BL,h):=λh=>by
  rw[<-L.lq];exact zkc (by simp![L.tr]) L.ll
 rw[zpm];rw[xM (ρ':=some s::some R::List.replicate 13 none) (h':=h) (by simp![Q0,L.rules])];rw[xM (ρ':=[some s,some R,some a0,some b,none,none,none,none,none,none,none,none,none,none,none]) (h':=h) (by unfold Q1; exact zbv (zna L h) rfl)];rw[xM (ρ':=[some s,some R,some a,some b,none,none,none,none,none,none,none,none,none,none,none]) (h':=h) (by rw[L.ea]; simp![Q2,tupW,c1,c3])];rw[xM (ρ':=[some s,some R,some a,some b,some S,none,none,none,none,none,none,none,none,none,none]) (h':=h) (by simp![Q3,L.st])];rw[xM (ρ':=[some s,some R,some a,some b,some S,some (.fls AL),none,none,none,none,none,none,none,none,none]) (h':=h) (by simp![Q4,L.ak])];rw[xM (ρ':=[some s,some R,some a,some b,some S,some (.fls AL),some (.tup [.int v1,M1,.fls P1,.int n]),none,none,none,none,none,none,none,none]) (h':=h) (by simp![Q5,L.mine])];rw[xM (ρ':=[some s,some R,some a,some b,some S,some (.fls AL),some (.tup [.int v1,M1,.fls P1,.int n]),some (.fls BL),none,none,none,none,none,none,none]) (h':=h) (by unfold Q6; exact zbv (cq h) rfl)];refine(zbW (by simp![Q7,ix3,flsW,c1,L.mz,a1,eSl,zaY,cu,L.eB,lb,uE,ltW,cmpI,lt1])).trans ?_;refine(zbW (by simp![Q8,flsW,c2,c3,a2,a3,L.r1,L.r2,L.eM])).trans ?_;rw[xM (ρ':=[some s,some R,some a,some b,some S,some (.fls AL),some (.tup [.int v1,M1,.fls P1,.int n]),some (.fls BL),some (.fls [.int v1,.int v2]),some S2,some (.fls (P1++P2)),some (.int ((n:Int)+n2)),none,none,none]) (h':=h) (by simp![Q9,flsW,c2,L.al])];rw[xM (ρ':=[some s,some R,some a,some b,some S,some (.fls AL),some (.tup [.int v1,M1,.fls P1,.int n]),some (.fls BL),some (.fls [.int v1,.int v2]),some S2,some (.fls (P1++P2)),some (.int ((n:Int)+n2)),some (.tup [.int v2,S2,.fls P2,.int n2]),none,none]) (h':=h) (by simp![Q10,ix1,ix3,eSl,zaY,cd,L.be])];refine(zbW (by simp![Q11,flsW,c2,ix0,ix1,ix2,L.e1,L.e2,a4,L.e3])).trans ?_;refine(zbW (by simp![Q12,ix3,adI,uE])).trans ?_;rw[xM (ρ':=[some s,some R,some a,some b,some S,some (.fls AL),some (.tup [.int v1,M1,.fls P1,.int n]),some (.fls BL),some (.fls [.int v1,.int v2]),some S2,some (.fls (P1++P2)),some (.int ((n:Int)+n2)),some (.tup [.int v2,S2,.fls P2,.int n2]),some (.tup [.int v3,S3,.fls (.int 4::P3),.int n3]),none]) (h':=h) (by simp![Q13,tupW,c2,c3,L.ba])];rw[xM (ρ':=[some s,some R,some a,some b,some S,some (.fls AL),some (.tup [.int v1,M1,.fls P1,.int n]),some (.fls BL),some (.fls [.int v1,.int v2]),some S2,some (.fls (P1++P2)),some (.int ((n:Int)+n2)),some (.tup [.int v2,S2,.fls P2,.int n2]),some (.tup [.int v3,S3,.fls (.int 4::P3),.int n3]),some (.tup [.int v3,S3,.fls P3,.int n3])]) (h':=h) (by simp![Q14,L.ot])];simp![Q15,tupW,flsW,c1,c4,ix0,ix1,ix2,ix3,a5,L.e4]
end
theorem zlh:∀n,lv n=up n Fs.bot
 | 0=>rfl
 | n+1=>by show step (lv n)=step (up n Fs.bot); rw[zlh n]
theorem zgC:∀l:List (Tch×Int),asks l<=l.length
 | []=>zj _
 | (t,x)::l=>by have:=zgC l; cases t<;>simp[asks]<;>omega
theorem zcI:∀l:List (Tch×Int),(says l).length<=l.length
 | []=>zj _
 | (t,x)::l=>by have:=zcI l; cases t<;>simp[says]<;>omega
def Dp.len{T:Tr Int}{c:Nat}(h:Dp T c):∀r,(runT T r).2.2.length<=c:=by
 induction h with
 | ret=>intro r; simp[runT]
 | @tch t k c h ih=>
  intro r;have:=ih (doT t r).1 (doT t r).2;simp only[runT,zm];omega
def zcL(T:Tr Int)(r q:Rm)(hs:r.st=q.st)(hj:∀j,j<asks (runT T r).2.2->r.ans.getD (r.k+j) 0=q.ans.getD (q.k+j) 0):(runT T q).1=(runT T r).1/\(runT T q).2.1.st=(runT T r).2.1.st/\(runT T q).2.1.sp=q.sp++says (runT T r).2.2/\(runT T q).2.1.k=q.k+asks (runT T r).2.2:=by
 have a:=zbu T r q hs hj;have b:=zbk T q;rw[<-a.2.2] at b;exact⟨a.1.symm,a.2.1.symm,b⟩
def zo9:treeOf rs .ask=.tch .ask λx=>.ret x:=by
 unfold treeOf;simp only[den,Tr.bind]
def zoS:treeOf rs (.say (.number 4))=.tch (.say 4) λx=>.ret x:=by
 unfold treeOf;simp only[den,Tr.bind]
def zpa{n:Nat}(hn:n<=1000000)(h:MH):mulW (.fls [.int 0]) (.int n) h=some (.fls (List.replicate n (.int 0)),h):=by
 have e:(List.replicate n [W.int 0]).flatten=List.replicate n (.int 0):=by
  induction n with
  | zero=>rfl
  | succ n ih=>rw[jH,qi,ih ∅,jH]; rfl
 simp only[mulW,zm,zP];rw[zX ⟨by omega,by omega,by omega⟩,j0,e]
def zpF{F:Fs}{ns:List Int}(hl:ns.length<=63)(h:MH):(step (up 30 F)).fY [scr ns] h=some (.bl true,h):=by
 obtain⟨rs,hr,eR⟩:=zmY (F:=F) (m:=29) hl ∅;obtain⟨x1,w1,d1,l1⟩:=zgN (F:=F) (m:=29) (a:=90+31*0) hl ∅ hr;obtain⟨x2,w2,d2,l2⟩:=zgN (F:=F) (m:=29) (a:=90+31*1) hl ∅ hr;obtain⟨st,eS⟩:=zlO (G:=up 29 F) (ns:=ns) (a:=70) λk many h hm=>zaK (F:=up 27 F) hl hm
 obtain⟨ans,la,eA⟩:=zmc (G:=up 29 F) (ns:=ns) (a:=75) λk many h hm=>zaK (F:=up 27 F) hl hm
 have c1:cost (zab rs rs.length) 0 x1<=604297:=hr.cost w1 d1;have c2:cost (zab rs rs.length) 0 x2<=604297:=hr.cost w2 d2;have cz:(5*604310+210:Nat)<=cap:=by decide
 have cz2:(1300000:Nat)<cap:=by decide
 have run:∀(st:Str->Int) (ans:List Int),ans.length<=700000->∀d,Cd rs d->cst rs d<=604310->∀T,treeOf rs d=T->∀h,(up 30 F).aM [.tup (rsW rs),toW d,stW st,.fls (ans.map .int)] h=some (oneW (runT T ⟨st,ans,[],0⟩).1 (runT T ⟨st,ans,[],0⟩).2.1,h):=λst ans ha d w c T e h=>by
  subst e;exact zpv (F:=up 21 F) hr.g cz ((zc8 hr.g w).mono c) ∅ ∅ h
 have wA:Cd rs (.add x1 .ask):=by simp only[Wf]; exact⟨w1,trivial⟩
 have cA:cst rs (.add x1 .ask)<=604310:=by simp only[cost]; omega
 have RA:=(zc8 hr.g wA).mono cA;have R2:=(zc8 hr.g w2).mono (zQ c2 (show 604297<=604310 by omega));have tA:=zph hr.g w1 (show Cd rs .ask by simp only[Wf]);have k1:1<=(runT (treeOf rs (.add x1 .ask)) ⟨st,ans,[],0⟩).2.1.k:=by
  rw[tA];simp only[zcl,zo9,Tr.bind,runT,doT];omega
 have eN:=zbk (treeOf rs (.add x1 .ask)) ⟨st,ans,[],0⟩;have lens:=RA.dp.len ⟨st,ans,[],0⟩;have an:=zha (treeOf rs (.add x1 .ask)) ⟨st,ans,[],0⟩;have tr:=λh=>zll (F:=up 23 F) (st:=st) (ans:=ans) hr.g cz RA ∅ ∅ h
 have rM:=run st ans ∅ _ wA cA _ rfl;have br:=brought (treeOf rs (.add x1 .ask)) st ans;have qa:=zcw (treeOf rs (.add x1 .ask)) ⟨st,ans,[],0⟩
 have al:=λh=>zet (F:=up 22 F) (st:=st) (ans:=ans) (tr:=treeOf rs) (ds:=[.add x1 .ask,x2]) (C:=604310) hr.g cz (λd hd=>by
  simp only[zb,zc,zO] at hd;rcases hd with rfl | rfl
  .exact RA
  .exact R2) (show 2*604310<cap by decide) (by simp) ∅ h
 simp only[zy,ji,endT] at al;have rS:=run st ans ∅ (.thenn (.say (.number 4)) x2) (by simp only[Wf]; exact⟨trivial,w2⟩) (by simp only[cost]; omega) _ (znI hr.g (by simp only[Wf]) w2);rw[zoS] at rS;simp only[zcl,Tr.bind,runT,doT] at rS;have rO:=run st ans ∅ x2 w2 (zQ c2 ∅) _ rfl;obtain⟨T1,eT⟩:∃T,treeOf rs (.add x1 .ask)=T:=⟨_,rfl⟩;rw[eT] at k1 eN lens an br;simp only[eT] at tr rM qa al;have aL:=zbp (runT T1 ⟨st,ans,[],0⟩).2.2;have nL:=zgC (runT T1 ⟨st,ans,[],0⟩).2.2;have sL:=zcI (runT T1 ⟨st,ans,[],0⟩).2.2;have g1:=zcL T1 ⟨st,ans,[],0⟩ ⟨st,askw (runT T1 ⟨st,ans,[],0⟩).2.2++[9,8,7],[],0⟩ rfl λj hj=>by
  rw[<-qa j hj];simp only[q9,jj];rw[zu (by rw[aL]; exact hj)]
 have g2:=zcL T1 ⟨st,ans,[],0⟩ ⟨st,ans++[0,0],[],0⟩ rfl λj hj=>by
  simp only[q9,jj];by_cases q:j<ans.length
  .rw[zu q]
  .rw[zE ∅,jB (l:=ans) ∅]
   have:∀i:Nat,([0,0]:List Int)[i]?.getD 0=0:=λi=>by rcases i with _ | _ | i<;>simp
   rw[this];rfl
 have s2:=zbk (treeOf rs x2) (runT T1 ⟨st,ans,[],0⟩).2.1;have g3:=zcL (treeOf rs x2) (runT T1 ⟨st,ans,[],0⟩).2.1 ⟨(runT T1 ⟨st,ans,[],0⟩).2.1.st,ans.drop (runT T1 ⟨st,ans,[],0⟩).2.1.k,[],0⟩ rfl λj _=>by
  rw[an];simp only[q9,jj,xG]
 have s3:=zbk (treeOf rs x2) ⟨st,ans,[],0⟩;have g4:=zcL (treeOf rs x2) ⟨st,ans,[],0⟩ ⟨st,ans,[4],0⟩ rfl λj _=>rfl
 have l2':=R2.dp.len (runT T1 ⟨st,ans,[],0⟩).2.1;have l3':=R2.dp.len ⟨st,ans,[],0⟩;have sL2:=zcI (runT (treeOf rs x2) (runT T1 ⟨st,ans,[],0⟩).2.1).2.2;have sL3:=zcI (runT (treeOf rs x2) ⟨st,ans,[],0⟩).2.2;have rB:=run (runT T1 ⟨st,ans,[],0⟩).2.1.st (ans.drop (runT T1 ⟨st,ans,[],0⟩).2.1.k) (by rw[qL]; omega) x2 w2 (zQ c2 ∅) _ rfl;have q1:=run st (askw (runT T1 ⟨st,ans,[],0⟩).2.2++[9,8,7]) (by rw[zF,aL]; simp only[zm,zP]; omega) _ wA cA _ eT;have q2:=run st (ans++[0,0]) (by rw[zF]; simp only[zm,zP]; omega) _ wA cA _ eT;simp only[zY,q9] at eN g1 g2 g3 g4 s3;unfold oneW at rM rB q1 q2 rS rO;unfold outW at al;simp only[zY] at rS;rw[g1.1,g1.2.1,g1.2.2.1,g1.2.2.2,jU] at q1;rw[g2.1,g2.2.1,g2.2.2.1,g2.2.2.2,jU] at q2;rw[g3.1,g3.2.1,g3.2.2.1,g3.2.2.2,List.map_drop] at rB;rw[g4.1,g4.2.1,g4.2.2.1,g4.2.2.2] at rS;rw[s3.1,s3.2] at rO;simp only[s2.1,s2.2,jU] at al;simp only[eN.1,eN.2] at rM rB al k1 br;simp only[toW] at rS;have hL:asks (runT T1 ⟨st,ans,[],0⟩).2.2<=604310:=zQ nL lens;have bq:=jW (List.map W.int) br;rw[List.map_take,jU,List.map_replicate] at bq;have bq:=bq.symm;have L:LawF (up 30 F) (scr ns) (.tup (rsW rs)) (toW x1) (toW (.add x1 .ask)) (toW x2) (stW st) (stW (runT T1 ⟨st,ans,[],0⟩).2.1.st) (stW (runT (treeOf rs x2) (runT T1 ⟨st,ans,[],0⟩).2.1).2.1.st) (stW (runT (treeOf rs x2) ⟨st,ans,[],0⟩).2.1.st) (ans.map .int) ((askw (runT T1 ⟨st,ans,[],0⟩).2.2).map .int) ((says (runT T1 ⟨st,ans,[],0⟩).2.2).map .int) ((says (runT (treeOf rs x2) (runT T1 ⟨st,ans,[],0⟩).2.1).2.2).map .int) ((says (runT (treeOf rs x2) ⟨st,ans,[],0⟩).2.2).map .int) (asks (runT T1 ⟨st,ans,[],0⟩).2.2) (asks (runT (treeOf rs x2) (runT T1 ⟨st,ans,[],0⟩).2.1).2.2) (asks (runT (treeOf rs x2) ⟨st,ans,[],0⟩).2.2) (runT T1 ⟨st,ans,[],0⟩).1 (runT (treeOf rs x2) (runT T1 ⟨st,ans,[],0⟩).2.1).1 (runT (treeOf rs x2) ⟨st,ans,[],0⟩).1 (runT T1 ⟨st,ans,[],0⟩).2.2:=
  { rules:=eR,la:=l1,lb:=l2,wa:=λm=>ul m x1,wb:=λm=>ul m x2,ea:=by simp only[toW],st:=eS,ak:=eA,mine:=rM,tr:=tr,ll:=by omega,lq:=rfl,bl:=by rw[zH,aL],n1:=k1,mz:=λh=>zpa ∅ h,br:=bq,eB:=λh=>zbP (zcV (n:=0) _) ∅,r1:=q1,r2:=q2,eM:=λh=>zbP (ziq (v:=(runT T1 ⟨st,ans,[],0⟩).1) (r:=⟨(runT T1 ⟨st,ans,[],0⟩).2.1.st,[],says (runT T1 ⟨st,ans,[],0⟩).2.2,asks (runT T1 ⟨st,ans,[],0⟩).2.2⟩)) ∅,al:=al,be:=rB,e1:=λh=>zbP (zcV (n:=0) [(runT T1 ⟨st,ans,[],0⟩).1,(runT (treeOf rs x2) (runT T1 ⟨st,ans,[],0⟩).2.1).1]) ∅,e2:=λh=>zbP (zld (n:=0) _) ∅,e3:=λh=>(by rw[<-jU]; exact zbP (zcV (n:=0) _) ∅),ba:=rS,ot:=rO,e4:=λh=>zbP (ziq (v:=(runT (treeOf rs x2) ⟨st,ans,[],0⟩).1) (r:=⟨(runT (treeOf rs x2) ⟨st,ans,[],0⟩).2.1.st,[],4::says (runT (treeOf rs x2) ⟨st,ans,[],0⟩).2.2,asks (runT (treeOf rs x2) ⟨st,ans,[],0⟩).2.2⟩)) ∅,k1:=(by rw[zH]; omega),k2:=(by rw[zH,zH]; omega),k3:=by rw[zH]; omega }
 show gc (fnM 1 14 (du (up 30 F))) _ _=_
 exact zbd (zaf (ρ:=some (scr ns)::List.replicate 14 none) rfl rfl (zmg L h)) (by unfold low; rfl)
def main(ns:List Int)(hl:ns.length<=63):∃h',(lv 200).fY [.fls (ns.map W.int)] []=some (.bl true,h'):=by
 refine⟨[],?_⟩;rw[zlh];exact zpF (F:=up 169 Fs.bot) hl []
end K16
namespace K16
open PySem PySem.W PyProof.Rows ML
set_option maxHeartbeats 0 in
def txt {XP : (Str -> Option Value) -> Heap -> Prop} {w : World} {s₀ : Shared} {mg mb : Str -> Option Value} {h : Heap} (G : Ground q ["FORMS", "WAYS"] [] XP w s₀ mg mb h) : AllD (zcD (Kw h) mg) defs :=
  ⟨txtG G (d := eZ) (by kernel_rfl) rfl (ML.hb1 λ_ _ _ _ _ _ _ => by kernel_rfl) rfl,
   txtG G (d := eO) (by kernel_rfl) rfl (ML.hb2 λ_ _ _ _ _ _ _ _ => by kernel_rfl) rfl,
   txtG G (d := cJ) (by kernel_rfl) rfl (ML.hb1 λ_ _ _ _ _ _ _ => by kernel_rfl) rfl,
   txtG G (d := dU) (by kernel_rfl) rfl (ML.hb3 λ_ _ _ _ _ _ _ _ _ => by kernel_rfl) rfl,
   txtG G (d := d9) (by kernel_rfl) rfl (ML.hb4 λ_ _ _ _ _ _ _ _ _ _ => by kernel_rfl) rfl,
   txtG G (d := fQ) (by kernel_rfl) rfl (ML.hb4 λ_ _ _ _ _ _ _ _ _ _ => by kernel_rfl) rfl,
   txtG G (d := fJ) (by kernel_rfl) rfl (ML.hb4 λ_ _ _ _ _ _ _ _ _ _ => by kernel_rfl) rfl,
   txtG G (d := fB) (by kernel_rfl) rfl (ML.hb4 λ_ _ _ _ _ _ _ _ _ _ => by kernel_rfl) rfl,
   txtG G (d := gr) (by kernel_rfl) rfl (ML.hb4 λ_ _ _ _ _ _ _ _ _ _ => by kernel_rfl) rfl,
   txtG G (d := fG) (by kernel_rfl) rfl (ML.hb4 λ_ _ _ _ _ _ _ _ _ _ => by kernel_rfl) rfl,
   txtG G (d := fD) (by kernel_rfl) rfl (ML.hb4 λ_ _ _ _ _ _ _ _ _ _ => by kernel_rfl) rfl,
   txtG G (d := gB) (by kernel_rfl) rfl (ML.hb4 λ_ _ _ _ _ _ _ _ _ _ => by kernel_rfl) rfl,
   txtG G (d := fM) (by kernel_rfl) rfl (ML.hb4 λ_ _ _ _ _ _ _ _ _ _ => by kernel_rfl) rfl,
   txtG G (d := gj) (by kernel_rfl) rfl (ML.hb4 λ_ _ _ _ _ _ _ _ _ _ => by kernel_rfl) rfl,
   txtG G (d := fZ) (by kernel_rfl) rfl (ML.hb4 λ_ _ _ _ _ _ _ _ _ _ => by kernel_rfl) rfl,
   txtG G (d := gh) (by kernel_rfl) rfl (ML.hb4 λ_ _ _ _ _ _ _ _ _ _ => by kernel_rfl) rfl,
   txtG G (d := gn) (by kernel_rfl) rfl (ML.hb4 λ_ _ _ _ _ _ _ _ _ _ => by kernel_rfl) rfl,
   txtG G (d := d7) (by kernel_rfl) rfl (ML.hb4 λ_ _ _ _ _ _ _ _ _ _ => by kernel_rfl) rfl,
   txtG G (d := fH) (by kernel_rfl) rfl (ML.hb4 λ_ _ _ _ _ _ _ _ _ _ => by kernel_rfl) rfl,
   txtG G (d := fu) (by kernel_rfl) rfl (ML.hb2 λ_ _ _ _ _ _ _ _ => by kernel_rfl) rfl,
   txtG G (d := cW) (by kernel_rfl) rfl (ML.hb2 λ_ _ _ _ _ _ _ _ => by kernel_rfl) rfl,
   txtG G (d := gD) (by kernel_rfl) rfl (ML.hb4 λ_ _ _ _ _ _ _ _ _ _ => by kernel_rfl) rfl,
   txtG G (d := gA) (by kernel_rfl) rfl (ML.hb4 λ_ _ _ _ _ _ _ _ _ _ => by kernel_rfl) rfl,
   txtG G (d := fL) (by kernel_rfl) rfl (ML.hb4 λ_ _ _ _ _ _ _ _ _ _ => by kernel_rfl) rfl,
   txtG G (d := gm) (by kernel_rfl) rfl (ML.hb5 λ_ _ _ _ _ _ _ _ _ _ _ => by kernel_rfl) rfl,
   txtG G (d := fj) (by kernel_rfl) rfl (ML.hb2 λ_ _ _ _ _ _ _ _ => by kernel_rfl) rfl,
   txtG G (d := d8) (by kernel_rfl) rfl (ML.hb3 λ_ _ _ _ _ _ _ _ _ => by kernel_rfl) rfl,
   txtG G (d := eY) (by kernel_rfl) rfl (ML.hb3 λ_ _ _ _ _ _ _ _ _ => by kernel_rfl) rfl,
   txtG G (d := eX) (by kernel_rfl) rfl (ML.hb5 λ_ _ _ _ _ _ _ _ _ _ _ => by kernel_rfl) rfl,
   txtG G (d := fc) (by kernel_rfl) rfl (ML.hb5 λ_ _ _ _ _ _ _ _ _ _ _ => by kernel_rfl) rfl,
   txtG G (d := eF) (by kernel_rfl) rfl (ML.hb2 λ_ _ _ _ _ _ _ _ => by kernel_rfl) rfl,
   txtG G (d := eU) (by kernel_rfl) rfl (ML.hb2 λ_ _ _ _ _ _ _ _ => by kernel_rfl) rfl,
   txtG G (d := eV) (by kernel_rfl) rfl (ML.hb2 λ_ _ _ _ _ _ _ _ => by kernel_rfl) rfl,
   txtG G (d := dY) (by kernel_rfl) rfl (ML.hb3 λ_ _ _ _ _ _ _ _ _ => by kernel_rfl) rfl,
   txtG G (d := dZ) (by kernel_rfl) rfl (ML.hb4 λ_ _ _ _ _ _ _ _ _ _ => by kernel_rfl) rfl,
   txtG G (d := gw) (by kernel_rfl) rfl (ML.hb1 λ_ _ _ _ _ _ _ => by kernel_rfl) rfl, trivial⟩
set_option maxHeartbeats 0 in
def seen {XP : (Str -> Option Value) -> Heap -> Prop} {w : World} {s₀ : Shared} {mg mb : Str -> Option Value} {h : Heap} (G : Ground q ["FORMS", "WAYS"] [] XP w s₀ mg mb h) (Y : H.says w h) : ∃ cl, T pw (Kw h) w mg cl := by
  obtain ⟨c0, C0, e0, g0⟩ := ziD (x := "Doing") G (by kernel_rfl);obtain ⟨c1, C1, e1, g1⟩ := ziD (x := "Room") G (by kernel_rfl);obtain ⟨h2, h3, h4, h5⟩ := zlx Y G.T.g
  refine ⟨⟨λn => if n = 0 then C0 else if n = 1 then C1 else 0, pw, w⟩, txt G, ?_, ?_, h4, ⟨rfl, rfl⟩, ?_, ⟨zaN (q := q) (loose := ["FORMS", "WAYS"]) (x := "Doing") (d := dJ) g0 e0 (by kernel_rfl) ⋯ (ML.hb3 λ_ _ _ _ _ _ _ _ _ => by kernel_rfl),
   zaN (q := q) (loose := ["FORMS", "WAYS"]) (x := "Doing") (d := dI) g0 e0 (by kernel_rfl) ⋯ (ML.hb2 λ_ _ _ _ _ _ _ _ => by kernel_rfl),
   zaN (q := q) (loose := ["FORMS", "WAYS"]) (x := "Doing") (d := bD) g0 e0 (by kernel_rfl) ⋯ (ML.hb2 λ_ _ _ _ _ _ _ _ => by kernel_rfl),
   zaN (q := q) (loose := ["FORMS", "WAYS"]) (x := "Doing") (d := dM) g0 e0 (by kernel_rfl) ⋯ (ML.hb1 λ_ _ _ _ _ _ _ => by kernel_rfl),
   zaN (q := q) (loose := ["FORMS", "WAYS"]) (x := "Doing") (d := cL) g0 e0 (by kernel_rfl) ⋯ (ML.hb4 λ_ _ _ _ _ _ _ _ _ _ => by kernel_rfl),
   zaN (q := q) (loose := ["FORMS", "WAYS"]) (x := "Doing") (d := cY) g0 e0 (by kernel_rfl) ⋯ (ML.hb2 λ_ _ _ _ _ _ _ _ => by kernel_rfl),
   zaN (q := q) (loose := ["FORMS", "WAYS"]) (x := "Doing") (d := dg) g0 e0 (by kernel_rfl) ⋯ (ML.hb1 λ_ _ _ _ _ _ _ => by kernel_rfl),
   zaN (q := q) (loose := ["FORMS", "WAYS"]) (x := "Room") (d := fX) g1 e1 (by kernel_rfl) ⋯ (ML.hb2 λ_ _ _ _ _ _ _ _ => by kernel_rfl),
   zaN (q := q) (loose := ["FORMS", "WAYS"]) (x := "Room") (d := cj) g1 e1 (by kernel_rfl) ⋯ (ML.hb1 λ_ _ _ _ _ _ _ => by kernel_rfl),
   zaN (q := q) (loose := ["FORMS", "WAYS"]) (x := "Room") (d := dR) g1 e1 (by kernel_rfl) ⋯ (ML.hb1 λ_ _ _ _ _ _ _ => by kernel_rfl),
   zaN (q := q) (loose := ["FORMS", "WAYS"]) (x := "Room") (d := eQ) g1 e1 (by kernel_rfl) ⋯ (ML.hb1 λ_ _ _ _ _ _ _ => by kernel_rfl),
   trivial⟩, ⟨zkV (q := q) (loose := ["FORMS", "WAYS"]) (x := "Doing") (d := dX) g0 e0 (by kernel_rfl) ⋯ (ML.hb3 λ_ _ _ _ _ _ _ _ _ => by kernel_rfl) rfl,
   zkV (q := q) (loose := ["FORMS", "WAYS"]) (x := "Room") (d := eE) g1 e1 (by kernel_rfl) ⋯ (ML.hb3 λ_ _ _ _ _ _ _ _ _ => by kernel_rfl) rfl,
   trivial⟩, h5⟩
  · have e : toT zlf = cons := by kernel_rfl
    rw [<- e]; exact h2
  · have e : (tabsC.map λp => (p.1, toT p.2)) = tabs := by kernel_rfl
    rw [<- e]; exact h3
  · refine zkv λp hp f hf => ?_
    simp only [flds, zb, zc, zO] at hp;rcases hp with rfl | rfl
    · exact zg9 (q := q) (loose := ["FORMS", "WAYS"]) (x := "Doing") (fs := ["rules", "steps", "worths", "touch_ahead"]) g0 e0 (by kernel_rfl) f hf
    · exact zg9 (q := q) (loose := ["FORMS", "WAYS"]) (x := "Room") (fs := ["shelves", "answers", "spoken", "asks"]) g1 e1 (by kernel_rfl) f hf
end K16
open PySem PySem.W PyProof.Rows ML
set_option maxRecDepth 100000 in
set_option maxHeartbeats 0 in
theorem PySem.Challenge.cw_shelfwork_k16_whole_asked_holds : PySem.Challenge.rw_shelfwork_k16_whole_asked.Holds := by
 refine holds_law K16.said λsaid=>?_
 refine holds_open (q:=K16.q) (loose:=["FORMS","WAYS"]) (Xt:=λs=>xlAt K16.q [] s&&recOk [] s) (XP:=XL K16.q []) (Yf:=K16.H.obs) (Ya:=K16.H.val) (YP:=K16.H.says) (N:=8000) K16.left (Hook.of K16.H) (Hook.keeps K16.H) (λs e=>xl_of s (jw.mp e).1) XL.keeps rfl rfl rfl (λs e=>recFacts_of (jw.mp e).2) rfl said ⋯ ⟨rfl,rfl,rfl,rfl,rfl,by decide +kernel⟩ ?hw ?hc
 case hw=>w_witness2
 case hc=>
  exact ML.walk_lawD (l:=PySem.Challenge.rw_shelfwork_k16_whole_asked) (D:=K16.gw) (g:=(K16.lv 200).fY) (b:=K16.du (K16.lv 199)) (Γ:=K16.rc (K16.lv 199)) (y:="_law_script") (room:=199) (K16.T K16.pw) rfl rfl ⟨rfl,by decide,by decide⟩ rfl rfl (ML.hb1 λ_ _ _ _ _ _ _=>by kernel_rfl) (by kernel_rfl) rfl (by kernel_rfl) rfl K16.main (λw K mg base cl t=>(K16.lvl t 199).1) λw s₀ mg mb h G Y=>(let ⟨cl,t⟩:=K16.seen G Y; ⟨cl,(K16.txt G).2.2.2.2.2.2.2.2.2.2.2.2.2.2.2.2.2.2.2.2.2.2.2.2.2.2.2.2.2.2.2.2.2.2.2.1,t⟩)

import PyProof.Rows.All
import PySem.Challenge.RW_shelfwork_k15_whole_turns
import KE.KDictOf
import KE.KIsAll
import KE.KItem
import KE.KRevIter
set_option compiler.extract_closed false
set_option Elab.async false
set_option linter.all false
set_option maxRecDepth 100000
set_option maxHeartbeats 1000000
def aRf(h:0=0:=by rfl):=h
def aDc(h:0=0:=by decide):=h
local macro_rules|`(↥$t)=>`(autoParam $t aRf._auto_1)
local macro_rules|`(⇑$t)=>`(autoParam $t aDc._auto_1)
def za:=@PySem.wpAny_bind
def zb:=@List.mem_cons
def zc:=@List.not_mem_nil
def zf:=@PySem.Heap.get?_push_of_some
def zg:=@Nat.le_refl
def zj:=@Option.map_eq_some_iff
def zm:=@List.length_cons
def zp:=@List.getElem?_cons_zero
def zq:=@List.map_cons
def zu:=@PySem.wpAny_pure
def zx:=@Bool.and_eq_true
def zy:=@Option.bind_eq_some_iff
def zA:=@List.getElem?_append_left
def zB:=@List.length_map
def zE:=@List.getElem?_eq_getElem
def zF:=@PySem.Heap.lt_size
def zG:=@List.getElem?_cons_succ
def zH:=@List.getElem?_append_right
def zJ:=@List.getElem?_set_ne
def zK:=@List.length_append
def zL:=@List.getElem?_set_self
def zM:=@List.size_toArray
def zN:=@Nat.lt_of_lt_of_le
def zO:=@PySem.Heap.get?_push_size
def zP:=@List.mem_cons_of_mem
def zQ:=@or_false
def zR:=@List.prefix_refl
def zT:=@Nat.le_trans
def zU:=@List.getElem?_eq_some_iff
def zV:=@List.length_nil
def zW:=@List.mem_append
def zX:=@Nat.ne_of_lt
def zY:=@if_pos
def zZ:=@Option.some.inj
def z9:=@List.mem_cons_self
def kh:=@Bool.false_ne_true
def kj:=@List.append_nil
def kE:=@List.nil_append
def kI:=@List.lookup_cons
def kJ:=@List.all_eq_true
def kO:=@List.mem_map
def kW:=@if_true
def kY:=@Ne.symm
def kZ:=@List.append_assoc
def jb:=@List.getElem?_map
def jc:=@if_neg
def jd:=@List.map_nil
def je:=@List.length_set
def jf:=@PySem.wpAny_holding
def jh:=@List.mem_append_right
def ji:=@PySem.W.kia_one
def jj:=@List.prefix_append
def jk:=@List.cons_append
def jl:=@PySem.wpAny_field
def jm:=@PySem.wpAny_newObj_type
def jn:=@PySem.wpAny_callSpecial?_slot
def jo:=@PyProof.Rows.callWith_type1
def jq:=@if_false
def jr:=@beq_eq_false_iff_ne
def jt:=@List.replicate_succ
def ju:=@List.all_cons
def jw:=@Int.toNat_natCast
def jx:=@Bool.and_eq_true_iff
def jy:=@PySem.wpAny_call_entry
def jz:=@PySem.wpAny_Call_Name_kw
def jA:=@List.nodup_cons
def jB:=@List.mem_iff_getElem?
def jC:=@List.find?_cons
def jD:=@PyProof.Rows.slot_tuple_getitem
def jE:=@Nat.lt_irrefl
def jF:=@List.length_range
def jG:=@Int.eq_ofNat_of_zero_le
def jH:=@List.mem_of_getElem?
def jJ:=@Bool.false_eq_true
def jK:=@List.getElem?_eq_none_iff
def jL:=@PySem.wpAny_seqItems
def jM:=@decide_eq_false
def jN:=@PySem.builtinLookup_eq_fast
def jO:=@List.zip_cons_cons
def jP:=@List.length_eq_zero_iff
def jQ:=@List.foldl_cons
def jR:=@List.cons.injEq
def jT:=@PySem.Heap.get?_update_self
def jU:=@List.set_append_right
def jV:=@List.getElem?_eq_none
def jW:=@PySem.wpAny_of_eq
def jX:=@congrArg
def jY:=@Nat.lt_succ_self
def jZ:=@List.mem_append_left
def j0:=@List.map_map
def j4:=@PySem.wpAny_isInstance
def j5:=@List.length_reverse
def j6:=@PySem.wpAny_attempt
def j7:=@PySem.wpAny_typeOf
def j8:=@not_or
def j9:=@PySem.Heap.size_push
def qb:=@PySem.wpAny_setField_rec
def qd:=@beq_iff_eq
def qe:=@Option.isSome_iff_exists
def qg:=@List.map_append
def qi:=@List.flatten_cons
def qj:=@Nat.sub_self
def ql:=@Nat.ne_of_gt
def qm:=@List.getElem?_replicate
def qp:=@PySem.typeLookup_type
def qt:=@List.any_eq_true
def qu:=@PySem.F.slot_zip_next
def qw:=@decide_eq_true
def qx:=@PySem.Heap.SameBut.update
def qy:=@Nat.zero_le
def qz:=@List.length_zip
def qC:=@List.length_replicate
def qD:=@PySem.wpAny_rule
def qF:=@of_decide_eq_true
def qG:=@PySem.Heap.get?_update_other
def qH:=@PySem.Obj.data_mapFields
def qI:=@PySem.Calls.spliced_cons
def qJ:=@Nat.mul_le_mul_right
def qK:=@List.mem_of_mem_drop
def qL:=@PySem.wpAny_passesOwn
def qM:=@Option.isNone_iff_eq_none
def qN:=@List.drop_eq_getElem_cons
def qO:=@Option.join_some
def qP:=@Option.bind_some
def qQ:=@List.length_take
def qR:=@PySem.wpAny_mono
def qT:=@PySem.mem_of_lookup
def qU:=@PySem.F.slot_tuple_iterator_next
def qW:=@PySem.Around.under_plainId
def qX:=@List.forIn_cons
def qY:=@Int.emod_lt_of_pos
def qZ:=@List.reverse_cons
def q8:=@Bool.not_eq_true'
def q9:=@PySem.plainId_quiet
def vd:=@Nat.add_comm
def vf:=@Array.getElem?_toList
def vg:=@List.length_drop
def vh:=@List.getElem_inj
def vm:=@PySem.wpAny_truthy_bool
def vo:=@PySem.wpAny_pyIter_list
def vp:=@PySem.sizeLine_eq
def vq:=@PySem.call_meets
def vA:=@PySem.Calls.spliced_nil
def vB:=@Nat.le_succ
def vC:=@List.of_mem_zip
def vD:=@List.mem_filter
def vG:=@Int.emod_nonneg
def vH:=@Bool.eq_iff_iff
def vI:=@Array.length_toList
def vJ:=@PySem.F.slot_tuple_mul
def vK:=@PySem.AutoSeq1.idx_int
def vL:=@PySem.W.callWith_K
def vM:=@Option.isSome_some
def vN:=@PySem.Heap.get?_none_of_le
def vO:=@List.nodup_nil
def vP:=@List.mem_of_find?_eq_some
def vQ:=@PySem.wpAny_updateSeq
def vR:=@PySem.wpAny_specialOf
def vU:=@decide_eq_true_eq
def vV:=@PySem.codeAny_builtin
def vW:=@PySem.W.kitx_list
def vX:=@PySem.F.args_tuple_add_2
def vY:=@Nat.lt_succ_of_lt
def vZ:=@PySem.F.plainAttrs_list
def v6:=@PySem.F.entry_tuple_add
def v7:=@Nat.add_mul
def v8:=@List.any_cons
def v9:=@List.filter_cons
def wg:=@PySem.wpAny_setField
def wj:=@PySem.isSubtype_type
def wu:=@PySem.F.slot_tuple_add
def wz:=@PySem.F.slot_dict_get
def wA:=@Nat.le_of_lt
def wB:=@PySem.F.slot_list_getattribute
def wC:=@PySem.F.args_zip_next_1
def wD:=@PySem.wpAny_throw
def wF:=@PySem.F.slot_zip_getattribute
def wG:=@List.forIn_nil
def wI:=@List.drop_zero
def wJ:=@PySem.F.entry_zip_next
def wK:=@PySem.W.plainGet_of
def wL:=@List.filterMap_cons
def wM:=@PySem.Calls.callWith_builtin
def wO:=@PySem.wpAny_execs_nil
def wQ:=@Prod.mk.injEq
def wR:=@PySem.PassesOwn.never
def wU:=@PySem.Obj.isFreed_of_fields
def wV:=@List.mem_singleton
def wW:=@PySem.F.slot_int_rmul
def wX:=@Array.find?_toList
def wY:=@PySem.wpAny_updateSeq_pair
def wZ:=@PySem.W.kitx_dict
def yc:=@List.nodup_append
def yd:=@PySem.F.plain_reversed_new
def ye:=@PyProof.Rows.tupleItemsOf_
def yf:=@PySem.callType_codes
def yg:=@List.take_length
def yh:=@List.drop_length
def yj:=@PySem.wpAny_standAt
def ym:=@PySem.wpAny_pyIter_tuple
def yo:=@PySem.wpAny_onRaise
def yp:=@PySem.tupleKind_room_in1
def yq:=@Sum.inr.inj
def yr:=@Prod.mk.inj
def yt:=@Option.map_some
def yu:=@List.lookup_nil
def yw:=@PySem.F.args_tuple_mul_2
def yx:=@List.getD_eq_getElem?_getD
def yz:=@Array.getElem?_eq_some_iff
def yC:=@PySem.typeIs_int
def yD:=@PySem.F.plain_extend_loop
def yE:=@List.mem_range
def yF:=@PySem.F.entry_tuple_mul
def yG:=@PySem.concat_meets
def yH:=@PySem.codeAny_mono
def yI:=@PySem.wpAny_pyIter_zip
def yJ:=@PySem.noFill_tuple_add
def yK:=@PySem.F.args_dict_get_3
def yL:=@List.sum_cons
def yM:=@PySem.W.cellsFrom_some
def yN:=@PySem.F.entry_dict_get
def yO:=@List.take_of_length_le
def yP:=@List.drop_of_length_le
def yQ:=@PySem.F.args_tuple_iterator_next_1
def yR:=@PySem.wpAny_letGo
def yS:=@PySem.W.methodCall_KW
def yU:=@Nat.mul_comm
def yV:=@List.set_set
def yW:=@PySem.Heap.DictOf.new
def yX:=@PySem.F.entry_tuple_iterator_next
def yZ:=@List.set_append_left
def xf:=@PySem.Calls.Name_function_global
def xg:=@Array.mem_toList_iff
def xj:=@PySem.wpAny_dictSetHashed_pairs
def xm:=@PySem.wpAny_binaryOp_repeat_ref
def xn:=@PySem.isSubtype_stop
def xq:=@PySem.W.callWith_K0
def xr:=@Int.toNat_of_nonneg
def xu:=@Bool.or_eq_true_iff
def xx:=@PySem.Walks.list
def xF:=@PySem.W.kitx_tuple
def xG:=@Option.isNone_none
def xH:=@Nat.lt_of_le_of_lt
def xJ:=@List.mem_filterMap
def xK:=@PySem.AutoSeq1.sub_tuple_tuple
def xM:=@Array.forIn_toList
local macro_rules|`(⋯)=>`(by decide +kernel)
local macro_rules|`(∅)=>`(by omega)
namespace ML
open PySem PySem.W PyProof.Rows
inductive Cn where
 | int (i:Int) | str (x:Str) | tup (l:List Cn)
noncomputable def oM(h:Heap)(v:Value):Option (Array Value):=match v with
 | .ref a=>(h.get? a).bind λo=>match o.cls with
  | .type t=>if t="tuple" then (match o.data with | .seq its _=>if o.dict.isNone then some its else none | _=>none) else none
  | _=>none
 | _=>none
noncomputable def isI(i:Int)(v:Value):Bool:=match v with | .int j _=>i==j | _=>false
noncomputable def K1(x:Str)(v:Value):Bool:=match v with | .str y _=>x==y | _=>false
noncomputable def u9{α β:Type}(p:α->β->Bool):List α->List β->Bool
 | [],[]=>true
 | a::l,b::r=>p a b&&u9 p l r
 | _,_=>false
noncomputable def eM(h:Heap):Nat->Cn->Value->Bool
 | 0,_,_=>false
 | n+1,w,v=>match w with
  | .int i=>isI i v
  | .str x=>K1 x v
  | .tup l=>(oM h v).any λits=>decide (its.size<=sizeLine)&&u9 (eM h n) l its.toList
noncomputable def dictAt(h:Heap)(v:Value):Option (Array DictEntry):=match v with
 | .ref a=>(h.get? a).bind λo=>match o.cls with
  | .type t=>if t="dict" then (match o.data with | .dict es _=>if o.dict.isNone&&o.slots.isEmpty&&a != sysModules then some es else none | _=>none) else none
  | _=>none
 | _=>none
noncomputable def Wz(h:Heap)(l:List (Str×Cn))(v:Option Value):Bool×List Int:=match v.bind (dictAt h) with
 | some es=>(u9 (λp (e:DictEntry)=>K1 p.1 e.key&&eM h 9 p.2 e.val) l es.toList,es.toList.map (·.hash))
 | none=>(false,[])
noncomputable def m6(cons:List (Str×Cn))(bins:List Str)(h:Heap):Bool:=h.isNs mainGlobals&&cons.all (λp=>(h.nsMap mainGlobals p.1).any λv=>eM h 9 p.2 v)&&bins.all λx=>(h.nsMap mainGlobals x).isNone
noncomputable def sg(tabs:List (Str×List (Str×Cn)))(h:Heap):List (Bool×List Int):=tabs.map λp=>Wz h p.2 (h.nsMap mainGlobals p.1)
noncomputable def lT(tabs:List (Str×List (Str×Cn)))(w:World):List (Bool×List Int):=tabs.map λp=>(true,p.2.map λk=>PyData.keyHash w.params k.1)
noncomputable def DA(cons:List (Str×Cn))(tabs:List (Str×List (Str×Cn)))(bins:List Str):PySem.W.Hook:=
 ⟨Bool×List (Bool×List Int),λs=>(m6 cons bins s.heap,sg tabs s.heap),λw=>(true,lT tabs w),
  λw h=>∃h₀:Heap,(∀b o,h₀.get? b=some o->h.get? b=some o)/\m6 cons bins h₀=true/\sg tabs h₀=lT tabs w,
  λw s e=>⟨s.heap,λ_ _ z=>z,jX Prod.fst e,jX Prod.snd e⟩,λw h h' ⟨h₀,a,b⟩ k=>⟨h₀,λ_ _ z=>k _ _ (a _ _ z),b⟩⟩
def Ud{p q:Program}{loose:List Str}{Xt:Shared->Bool}{α:Type}{Yf:Shared->α}{Ya:World->α}{N:Nat}{g0:Bool}(row:String)
  (hf:∀w:World,(openEnds treeTable p (w.withFollow row false) N).map (λs=>(openSeen q loose (importedModules p.main.body) Xt g0 s,Yf s))=some (openGood q loose,Ya (w.withFollow row false)))
  (ht:∀w:World,(openEnds treeTable p (w.withFollow row true) N).map (λs=>(openSeen q loose (importedModules p.main.body) Xt g0 s,Yf s))=some (openGood q loose,Ya (w.withFollow row true))):LeftO p q loose Xt Yf Ya N g0:=
 byRow2 row (P:=λw=>(openEnds treeTable p w N).map (λs=>(openSeen q loose (importedModules p.main.body) Xt g0 s,Yf s))=some (openGood q loose,Ya w)) hf ht
noncomputable def Vh(h:Heap)(x:Str)(v:Value):Bool:=match v,h.nsMap mainGlobals x with
 | .ref a,some (.ref b)=>a==b
 | _,_=>false
noncomputable def VW(h:Heap)(l:List (Str×Str))(v:Option Value):Bool×List Int:=match v.bind (dictAt h) with
 | some es=>(u9 (λp (e:DictEntry)=>K1 p.1 e.key&&Vh h p.2 e.val) l es.toList,es.toList.map (·.hash))
 | none=>(false,[])
noncomputable def Wl(ways:List (Str×List (Str×Str)))(h:Heap):List (Bool×List Int):=ways.map λp=>VW h p.2 (h.nsMap mainGlobals p.1)
noncomputable def goodW(ways:List (Str×List (Str×Str)))(w:World):List (Bool×List Int):=ways.map λp=>(true,p.2.map λk=>PyData.keyHash w.params k.1)
noncomputable def WM(cons:List (Str×Cn))(tabs:List (Str×List (Str×Cn)))(bins:List Str)(ways:List (Str×List (Str×Str))):PySem.W.Hook:=
 ⟨(Bool×List (Bool×List Int))×List (Bool×List Int),λs=>((m6 cons bins s.heap,sg tabs s.heap),Wl ways s.heap),λw=>((true,lT tabs w),goodW ways w),
  λw h=>∃h₀:Heap,(∀b o,h₀.get? b=some o->h.get? b=some o)/\m6 cons bins h₀=true/\sg tabs h₀=lT tabs w/\Wl ways h₀=goodW ways w,
  λw s e=>⟨s.heap,λ_ _ z=>z,jX (·.1.1) e,jX (·.1.2) e,jX (·.2) e⟩,λw h h' ⟨h₀,a,b⟩ k=>⟨h₀,λ_ _ z=>k _ _ (a _ _ z),b⟩⟩
end ML
namespace K15
open PySem PySem.W PyProof.Rows ML
def pw:Program:=PySem.Challenge.pw_shelfwork_k15_whole_turns
def isNm(x:String):Expr->Bool | .Name y ..=>y==x | _=>false
def drops:Stmt->Bool
 | .Assign [t] ..=>isNm "FORMS" t||isNm "WAYS" t||isNm "__name__" t
 | _=>false
def q:Program:={ pw with main:={ pw.main with body:=pw.main.body.filter λs=>!drops s } }
def Yn:List (Str×Cn):=[("SHELVES",(.tup [.str "a",.str "b",.str "c",.str "d"])),("MODULUS",(.int 1009)),("LOOP_MODULUS",(.int 4))]
def tabsC:List (Str×List (Str×Cn)):=[("FORMS",[("number",(.tup [.int 2,.int 2])),("name",(.tup [.int 2,.int 2])),("read",(.tup [.int 2,.int 2])),("write",(.tup [.int 3,.int 2])),("add",(.tup [.int 3,.int 1])),("less",(.tup [.int 3,.int 1])),("then",(.tup [.int 3,.int 1])),("if",(.tup [.int 4,.int 1])),("loop",(.tup [.int 3,.int 1])),("let",(.tup [.int 4,.int 2])),("own",(.tup [.int 4,.int 2])),("say",(.tup [.int 2,.int 1])),("ask",(.tup [.int 1,.int 1])),("do",(.tup [.int 2,.int 2])),("call",(.tup [.int 4,.int 2]))])]
def DC:List Str:=["dict","isinstance","len","list","max","min","range","reversed","sum","tuple","zip"]
def Dt:List (Str×List (Str×Str)):=[("WAYS",[("number","do_number"),("name","do_name"),("read","do_read"),("write","do_write"),("add","do_add"),("less","do_less"),("then","do_then"),("if","do_if"),("loop","do_loop"),("let","do_let"),("own","do_own"),("say","do_say"),("ask","do_ask"),("do","do_handed"),("call","do_call")])]
noncomputable def H:Hook:=WM Yn tabsC DC Dt
set_option maxHeartbeats 0 in
theorem said:PySem.Challenge.rw_shelfwork_k15_whole_turns.wellSaid=true:=by kernel_rfl
set_option maxHeartbeats 0 in
theorem leftF(w:World):(openEnds treeTable pw (w.withFollow "special-get-raises" false) 8000).map (λs=>(openSeen q ["FORMS","WAYS"] (importedModules pw.main.body) (λs=>xlAt q [] s&&recOk [] s) true s,H.obs s))=some (openGood q ["FORMS","WAYS"],H.val (w.withFollow "special-get-raises" false)):=by kernel_rfl
set_option maxHeartbeats 0 in
theorem leftT(w:World):(openEnds treeTable pw (w.withFollow "special-get-raises" true) 8000).map (λs=>(openSeen q ["FORMS","WAYS"] (importedModules pw.main.body) (λs=>xlAt q [] s&&recOk [] s) true s,H.obs s))=some (openGood q ["FORMS","WAYS"],H.val (w.withFollow "special-get-raises" true)):=by kernel_rfl
def left:LeftO pw q ["FORMS","WAYS"] (λs=>xlAt q [] s&&recOk [] s) H.obs H.val 8000:=Ud "special-get-raises" leftF leftT
end K15
section
namespace L2
open PySem PySem.Spec PyProof.Rows
abbrev Key:=Sum Int Str
def iK:Key->Value->Bool
 | .inl k,v=>Value.isInt k v
 | .inr x,v=>Value.isStrOf x v
def Ft(w:World):Key->Int
 | .inl k=>hashInt k
 | .inr x=>hashStr w x
def wc:∀{k:Key} {v:Value},iK k v=true->(∃i t,k=Sum.inl i/\v=Value.int i t)\/(∃x t,k=Sum.inr x/\v=Value.str x t)
 | .inl i,v,h=>by
  obtain⟨t,e⟩:=Value.isInt_shape (k:=i) (v:=v) h;exact .inl ⟨i,t,rfl,e⟩
 | .inr x,v,h=>by
  obtain⟨t,e⟩:=Value.isStrOf_shape (x:=x) (v:=v) h;exact .inr ⟨x,t,rfl,e⟩
def Qh(i:Int)(t:Tok):iK (.inl i) (.int i t)=true:=by simp[iK,Value.isInt]
def Jn(x:Str)(t:Tok):iK (.inr x) (.str x t)=true:=by simp[iK,Value.isStrOf]
def B0(a b:Int):decide ((Sum.inl a:Key)=Sum.inl b)=(a==b):=by
 by_cases e:a=b
 .subst e;simp
 .have h:¬(Sum.inl a:Key)=Sum.inl b:=λq=>e (Sum.inl.inj q)
  rw[jM h];exact(jr.mpr e).symm
def B8(a b:Str):decide ((Sum.inr a:Key)=Sum.inr b)=decide (a=b):=by
 by_cases e:a=b
 .subst e;simp
 .have h:¬(Sum.inr a:Key)=Sum.inr b:=λq=>e (yq q)
  rw[jM h,jM e]
def B3(a:Int)(b:Str):decide ((Sum.inl a:Key)=Sum.inr b)=false:=jM (λq=>nomatch q)
def B1(a:Str)(b:Int):decide ((Sum.inr a:Key)=Sum.inl b)=false:=jM (λq=>nomatch q)
def qA(prog:Program)(w:World):PySem.KeyKind prog w Key where
 is:=iK
 hash:=Ft w
 inj:=λv a b ha hb=>by
  rcases wc ha with ⟨i,t,rfl,rfl⟩ | ⟨x,t,rfl,rfl⟩
  .rcases wc hb with ⟨j,u,rfl,e⟩ | ⟨y,u,rfl,e⟩
   .injection e with e1 _;rw[e1]
   .exact nomatch e
  .rcases wc hb with ⟨j,u,rfl,e⟩ | ⟨y,u,rfl,e⟩
   .exact nomatch e
   .injection e with e1 _;rw[e1]
 byValue:=λk v h=>by
  rcases wc h with ⟨i,t,rfl,rfl⟩ | ⟨x,t,rfl,rfl⟩<;>rfl
 pyHash:=λhv h=>by
  rcases wc hv with ⟨i,t,rfl,rfl⟩ | ⟨x,t,rfl,rfl⟩
  .exact wpAny_pyHash_int h
  .exact wpAny_pyHash_str h
 eqBool:=λhu hv h=>by
  rcases wc hu with ⟨i,t,rfl,rfl⟩ | ⟨x,t,rfl,rfl⟩
  .rcases wc hv with ⟨j,u,rfl,rfl⟩ | ⟨y,u,rfl,rfl⟩
   .rw[B0] at h;exact wpAny_eqBool_int h
   .rw[B3] at h;exact SeqAt.EqAt.int_str i t y u _ _ _ _ h
  .rcases wc hv with ⟨j,u,rfl,rfl⟩ | ⟨y,u,rfl,rfl⟩
   .rw[B1] at h;exact SeqAt.EqAt.str_int x t j u _ _ _ _ h
   .rw[B8] at h;exact wpAny_eqBool_str h
 «strs»:=λk x t v h=>by
  rcases wc h with ⟨i,u,rfl,e⟩ | ⟨y,u,rfl,e⟩
  .exact nomatch e
  .injection e with e1 _
   subst e1;cases v<;>rfl
def tf(prog:Program)(w:World)(i:Int)(t:Tok):(qA prog w).is (.inl i) (.int i t)=true:=Qh i t
def tm(prog:Program)(w:World)(x:Str)(t:Tok):(qA prog w).is (.inr x) (.str x t)=true:=Jn x t
end L2
namespace L2
open PySem PySem.Spec PyProof.Rows
inductive V where
 | non | bl (b:Bool) | int (i:Int) | str (x:Str) | byt (b:Array UInt8) | flt (b:UInt64) | ref (a:Addr) | ty (n:String)
 deriving DecidableEq
def RelV:V->Value->Prop
 | .non,u=>u=Value.none
 | .bl b,u=>u=Value.bool b
 | .int i,u=>∃t,u=Value.int i t
 | .str x,u=>∃t,u=Value.str x t
 | .byt b,u=>∃t,u=Value.bytes b t
 | .flt b,u=>∃t,u=Value.float b t
 | .ref a,u=>u=Value.ref a
 | .ty n,u=>u=Value.type n
abbrev Vals:List V->List Value->Prop:=Paired RelV
theorem Vals.length{xs:List V}{us:List Value}(r:Vals xs us):xs.length=us.length:=Paired.length r
theorem Vals.get:∀{xs:List V} {us:List Value} {i:Nat} {x:V},Vals xs us->xs[i]?=some x->∃u,us[i]?=some u/\RelV x u
 | _,_,_,_,.nil,e=>by simp at e
 | _,_,0,_,.cons r _,e=>by simp at e;subst e;exact⟨_,rfl,r⟩
 | _,_,i+1,x,.cons _ t,e=>by
  obtain⟨u,h1,h2⟩:=Vals.get (i:=i) (x:=x) t (by simpa using e);exact⟨u,by simpa using h1,h2⟩
theorem Vals.set{x:V}{u:Value}(r:RelV x u):∀{xs:List V} {us:List Value} (i:Nat),Vals xs us->Vals (xs.set i x) (us.set i u)
 | _,_,_,.nil=>.nil
 | _,_,0,.cons _ t=>.cons r t
 | _,_,i+1,.cons q t=>.cons q (Vals.set r i t)
theorem Vals.append:∀{xs ys:List V} {us ws:List Value},Vals xs us->Vals ys ws->Vals (xs++ys) (us++ws)
 | _,_,_,_,.nil,s=>s
 | _,_,_,_,.cons r t,s=>.cons r (Vals.append t s)
theorem Vals.take:∀{xs:List V} {us:List Value} (n:Nat),Vals xs us->Vals (xs.take n) (us.take n)
 | _,_,0,_=>.nil
 | _,_,_+1,.nil=>.nil
 | _,_,n+1,.cons r t=>.cons r (Vals.take n t)
theorem Vals.drop:∀{xs:List V} {us:List Value} (n:Nat),Vals xs us->Vals (xs.drop n) (us.drop n)
 | _,_,0,r=>r
 | _,_,_+1,.nil=>.nil
 | _,_,n+1,.cons _ t=>Vals.drop n t
def RelO:Option V->Option Value->Prop
 | some v,some u=>RelV v u
 | none,none=>True
 | _,_=>False
def KV{κ:Type}:List (κ×V)->List (κ×Value)->Prop:=Paired λ(p:κ×V) (q:κ×Value)=>p.1=q.1/\RelV p.2 q.2
def kV:Key->V
 | .inl i=>.int i
 | .inr x=>.str x
inductive HO where
 | lst (xs:List V)
 | tup (xs:List V)
 | dK (kvs:List (Key×V)) | dT (kvs:List (List Key×V))
 | set (S:Int->Bool) (n:Nat)
 | ins (C dx:Addr) (fs:List (Str×V))
 | own (x:Addr)
 | xd (fs:List (Str×V))
 | met (f x:Addr)
 | rng (lo hi:Int)
 | frz (o:Obj) (u:HO)
 | tbl (ps:Array Value)
 | ext (φ:Heap->Prop)
abbrev Hp:=Addr->Option HO
def upd(H:Hp)(a:Addr)(o:HO):Hp:=λb=>if b=a then some o else H b
def qc{H:Hp}{a:Addr}{o:HO}:upd H a o a=some o:=by unfold upd;rw[zY rfl]
def kQ{H:Hp}{a b:Addr}{o:HO}(h:b≠a):upd H a o b=H b:=by unfold upd;rw[jc h]
def Dv{H:Hp}{a b:Addr}{o u:HO}(h:H a=some o)(h':H b=some u)(d:o≠u):a≠b:=by
 intro e;subst e;rw[h] at h';exact d (zZ h')
def qr{H:Hp}{a b:Addr}{o:HO}(h:H a=some o)(h':H b=none):a≠b:=by
 intro e;subst e;rw[h] at h';cases h'
def NoDi(h:Heap)(a:Addr):Prop:=∃o,h.get? a=some o/\o.dict=none
def NoDi.new(h:Heap)(o:Obj)(n:↥(o.dict=none))(f:↥(o.isFreed=false)):NoDi (h.push o) h.objs.size:=⟨o,zO _ f,n⟩
section
variable(P:Program)(w:World)
def ObjOk(H:Hp)(h:Heap)(a:Addr):HO->Prop
 | .lst xs=>xs.length<=sizeLine/\∃(its:List Value) (n:Nat),Vals xs its/\h.get? a=some { cls:=.type "list",data:=.seq its.toArray n }
 | .tup xs=>xs.length<=sizeLine/\∃its:List Value,Vals xs its/\IsTup h a its.toArray/\NoDi h a
 | .dK kvs=>kvs.length<=sizeLine/\(a==sysModules)=false/\∃vs,KV kvs vs/\h.DictOf (qA P w) a vs
 | .dT kvs=>kvs.length<=sizeLine/\(a==sysModules)=false/\∃xs:List (List Key×Addr×Value),
   Paired (λ(p:List Key×V) (q:List Key×Addr×Value)=>p.1=q.1/\H q.2.1=some (.tup (p.1.map kV))/\RelV p.2 q.2.2) kvs xs /\
   ∃o es ep,h.get? a=some o/\o.ExactDict/\o.data=.dict es ep/\es.toList=xs.map (entryOfKey (tupleKind (qA P w)))/\(xs.map (·.1)).Nodup
 | .set S n=>h.SetOf (intKind P w) a S n
 | .ins C dx fs=>H dx=some (.own a)/\fs.length<=1000/\dx≠a/\h.get? a=some (PySem.W.instObj C dx) /\
   ∃mA,h.Ns1 dx mA/\(∀f,RelO (fs.lookup f) (mA f))/\PySem.Within mA (fs.map (·.1))
 | .own _=>∃o,h.get? a=some o
 | .xd fs=>∃mA,h.Ns1 a mA/\∀f,RelO (fs.lookup f) (mA f)
 | .rng lo hi=>∃t u v,h.get? a=some { cls:=.type "range",data:=.fields #[.int lo t,.int hi u,.int 1 v] }
 | .frz o u=>h.get? a=some o/\ObjOk H h a u
 | .tbl ps=>h.get? a=some { cls:=.none,data:=.fields ps }
 | .met f x=>h.get? a=some (PySem.W.methodObj (.ref f) (.ref x))
 | .ext φ=>φ h/\(∃o,h.get? a=some o)/\∀h1 h2:Heap,φ h1->(∀o,h1.get? a=some o->h2.get? a=some o)->φ h2
def HOk(H:Hp)(h:Heap):Prop:=∀a o,H a=some o->ObjOk P w H h a o
end
section
variable{P:Program}{w:World}{H H':Hp}{h h':Heap}{a:Addr}{o:HO}
theorem ObjOk.lt(x:ObjOk P w H h a o):a<h.objs.size:=by
 cases o with
 | lst xs=>obtain⟨_,_,_,_,e⟩:=x;exact zF e
 | tup xs=>obtain⟨_,_,_,p,_⟩:=x;exact p.lt
 | dK kvs=>obtain⟨_,_,_,_,o,_,_,e,_⟩:=x;exact zF e
 | dT kvs=>obtain⟨_,_,_,_,o,_,_,e,_⟩:=x;exact zF e
 | set S n=>obtain⟨o,_,_,_,e,_⟩:=x;exact zF e
 | ins C dx fs=>obtain⟨_,_,_,e,_⟩:=x;exact zF e
 | own y=>obtain⟨_,e⟩:=x;exact zF e
 | xd fs=>obtain⟨_,⟨_,_,_,e,_⟩,_⟩:=x;exact zF e
 | rng lo hi=>obtain⟨_,_,_,e⟩:=x;exact zF e
 | frz ob u=>obtain⟨e,_⟩:=x;exact zF e
 | tbl ps=>exact zF (show h.get? a=some _ from x)
 | met f y=>exact zF (show h.get? a=some _ from x)
 | ext φ=>obtain⟨_,⟨_,e⟩,_⟩:=x;exact zF e
theorem Paired.mapP{α β:Type}{F G:α->β->Prop}:∀{l₁:List α} {l₂:List β},Paired F l₁ l₂->(∀a b,F a b->G a b)->Paired G l₁ l₂
 | _,_,.nil,_=>.nil
 | _,_,.cons r t,f=>.cons (f _ _ r) (Paired.mapP t f)
def ObjOk.stay(x:ObjOk P w H h a o)(k:∀b u,(b=a\/H b=some (.own a))->h.get? b=some u->h'.get? b=some u)
  (ho:∀b,H b=some (.own a)->H' b=some (.own a)) (ht:∀b xs,H b=some (.tup xs)->H' b=some (.tup xs)):ObjOk P w H' h' a o:=by
 induction o with
 | lst xs=>obtain⟨z,its,n,r,e⟩:=x;exact⟨z,its,n,r,k _ _ (.inl rfl) e⟩
 | tup xs=>obtain⟨z,its,r,⟨ob,e,c⟩,o2,e2,d2⟩:=x;exact⟨z,its,r,⟨ob,k _ _ (.inl rfl) e,c⟩,o2,k _ _ (.inl rfl) e2,d2⟩
 | dK kvs=>obtain⟨z,y,vs,r,ob,es,ep,e,c⟩:=x;exact⟨z,y,vs,r,ob,es,ep,k _ _ (.inl rfl) e,c⟩
 | dT kvs=>
  obtain⟨z,y,xs,r,ob,es,ep,e,c⟩:=x;exact⟨z,y,xs,Paired.mapP r λp q z=>⟨z.1,ht _ _ z.2.1,z.2.2⟩,ob,es,ep,k _ _ (.inl rfl) e,c⟩
 | set S n=>obtain⟨ob,es,ep,t,e,c⟩:=x;exact⟨ob,es,ep,t,k _ _ (.inl rfl) e,c⟩
 | ins C dx fs=>
  obtain⟨d,z,ne,e,mA,⟨od,es,ep,e2,c⟩,r⟩:=x;exact⟨ho _ d,z,ne,k _ _ (.inl rfl) e,mA,⟨od,es,ep,k _ _ (.inr d) e2,c⟩,r⟩
 | own y=>obtain⟨ob,e⟩:=x;exact⟨ob,k _ _ (.inl rfl) e⟩
 | xd fs=>obtain⟨mA,⟨od,es,ep,e,c⟩,r⟩:=x;exact⟨mA,⟨od,es,ep,k _ _ (.inl rfl) e,c⟩,r⟩
 | rng lo hi=>obtain⟨t,u,v,e⟩:=x;exact⟨t,u,v,k _ _ (.inl rfl) e⟩
 | frz ob u ih=>obtain⟨e,q⟩:=x;exact⟨k _ _ (.inl rfl) e,ih q⟩
 | tbl ps=>
  have e:h.get? a=some { cls:=.none,data:=.fields ps }:=x;show h'.get? a=some { cls:=.none,data:=.fields ps }
  exact k a _ (.inl rfl) e
 | met f y=>
  have e:h.get? a=some (PySem.W.methodObj (.ref f) (.ref y)):=x;show h'.get? a=some (PySem.W.methodObj (.ref f) (.ref y))
  exact k a _ (.inl rfl) e
 | ext φ=>obtain⟨p,⟨o,e⟩,st⟩:=x;exact⟨st _ _ p λo q=>k _ _ (.inl rfl) q,⟨o,k _ _ (.inl rfl) e⟩,st⟩
theorem HOk.lt(x:HOk P w H h)(e:H a=some o):a<h.objs.size:=(x a o e).lt
def HOk.fresh(x:HOk P w H h)(e:h.objs.size<=a):H a=none:=by
 cases q:H a with
 | none=>rfl
 | some u=>exact absurd (zN (x.lt q) e) (jE _)
def HOk.kept(x:HOk P w H h)(k:∀b u,h.get? b=some u->h'.get? b=some u):HOk P w H h':=λa o e=>
 (x a o e).stay (λb u _ q=>k b u q) (λ_ q=>q) λ_ _ q=>q
def HOk.laid(x:HOk P w H h)(k:∀b u,h.get? b=some u->h'.get? b=some u)(hp:h.objs.size<=a)(new:ObjOk P w (upd H a o) h' a o):HOk P w (upd H a o) h':=λb u e=>by
 have hn:=x.fresh hp;by_cases hb:b=a
 .subst hb;rw[qc] at e;cases e;exact new
 .rw[kQ hb] at e
  exact(x b u e).stay (λc v _ q=>k c v q) (λc q=>by rw[kQ (qr q hn)];exact q) λc xs q=>by rw[kQ (qr q hn)];exact q
end
def Rd(H:Hp)(a:Addr)(u:HO):Prop:=H a=some u\/∃o,H a=some (.frz o u)
def Rd.ok{P:Program}{w:World}{H:Hp}{h:Heap}{a:Addr}{u:HO}(r:Rd H a u)(x:HOk P w H h):ObjOk P w H h a u:=by
 rcases r with r | ⟨o,r⟩
 .exact x a u r
 .obtain⟨_,q⟩:=x a _ r
  exact q
def nR:Option HO->Prop
 | some (.lst _)=>True
 | some (.dK _)=>True
 | some (.dT _)=>True
 | some (.set _ _)=>True
 | some (.ins _ _ _)=>True
 | some (.ext _)=>True
 | _=>False
section
variable{P:Program}{w:World}{H:Hp}{h h':Heap}{x e:Addr}{o':HO}
theorem HOk.write(ok:HOk P w H h)(mu:nR (H x))(he:e=x\/H e=some (.own x))(k:∀b u,b≠e->h.get? b=some u->h'.get? b=some u)(heo:∃u,h'.get? e=some u)
  (new:ObjOk P w (upd H x o') h' x o'):HOk P w (upd H x o') h':=λb u q=>by
 have nown:∀c y,H c=some (.own y)->c≠x:=λc y r z=>by subst z;rw[r] at mu;exact mu
 have ntup:∀c xs,H c=some (.tup xs)->c≠x:=λc xs r z=>by subst z;rw[r] at mu;exact mu
 by_cases hb:b=x
 .subst hb;rw[qc] at q;cases q;exact new
 .rw[kQ hb] at q
  by_cases hbe:b=e
  .have q':H b=some (.own x):=by
    rcases he with z | z
    .exact absurd (hbe.trans z) hb
    .rw[hbe];exact z
   rw[q] at q';cases q';obtain⟨v,hv⟩:=heo;exact⟨v,by rw[hbe];exact hv⟩
  .refine(ok b u q).stay (λc v hc r=>k c v ?_ r) (λc r=>by rw[kQ (nown c b r)];exact r) λc xs r=>by rw[kQ (ntup c xs r)];exact r
   rcases hc with rfl | hc
   .exact hbe
   .rintro rfl
    rcases he with z | z
    .exact nown c b hc z
    .rw[hc] at z;cases z;exact hb rfl
end
structure Un(fs ex:List Addr)(H H':Hp)(h h':Heap):Prop where
 keep:∀b o,h.get? b=some o->H b=none->b∉fs->b∉ex->h'.get? b=some o
 slot:∀b o,h.get? b=some o->H b=none->b∈fs->b∉ex->∃sl,h'.get? b=some { o with slots:=sl }
 free:∀b o,h.get? b=some o->H b=none->b∉ex->H' b=none
 there:∀b o,h.get? b=some o->b∉ex->∃o',h'.get? b=some o'
 tups:∀b xs,H b=some (.tup xs)->H' b=some (.tup xs)
 frzs:∀b o u,H b=some (.frz o u)->H' b=some (.frz o u)
 tbls:∀b ps,H b=some (.tbl ps)->∃more,H' b=some (.tbl (ps++more))
section
variable{fs fs' ex ex':List Addr}{H H1 H2:Hp}{h h1 h2 h':Heap}{a x e:Addr}{o:HO}
def Un.any(u:Un fs ex H H1 h h1){b:Addr}{ob:Obj}(q:h.get? b=some ob)(n:H b=none)(hx:b∉ex):∃sl,h1.get? b=some { ob with slots:=sl }:=by
 by_cases hb:b∈fs
 .exact u.slot b ob q n hb hx
 .exact⟨ob.slots,u.keep b ob q n hb hx⟩
def Un.kept(k:∀b u,h.get? b=some u->h'.get? b=some u):Un fs ex H H h h':=
 ⟨λb ob q _ _ _=>k b ob q,λb ob q _ _ _=>⟨ob.slots,k b ob q⟩,λ_ _ _ n _=>n,λb ob q _=>⟨ob,k b ob q⟩,λ_ _ q=>q,λ_ _ _ q=>q,λ_ ps q=>⟨#[],by rw[q];simp⟩⟩
def Un.refl:Un fs ex H H h h:=Un.kept λ_ _ q=>q
def Un.laid(k:∀b u,h.get? b=some u->h'.get? b=some u)(hp:h.objs.size<=a)(hn:H a=none):Un fs ex H (upd H a o) h h' where
 keep:=λb u q _ _ _=>k b u q
 slot:=λb u q _ _ _=>⟨u.slots,k b u q⟩
 free:=λb u q n _=>by rw[kQ (zX (zN (zF q) hp))];exact n
 there:=λb u q _=>⟨u,k b u q⟩
 tups:=λb xs q=>by rw[kQ (qr q hn)];exact q
 frzs:=λb u xs q=>by rw[kQ (qr q hn)];exact q
 tbls:=λb ps q=>⟨#[],by rw[kQ (qr q hn),q];simp⟩
def Un.write(mu:nR (H x))(he:e=x\/H e=some (.own x))(k:∀b u,b≠e->h.get? b=some u->h'.get? b=some u)(heo:∃u,h'.get? e=some u):Un fs ex H (upd H x o) h h':=by
 have hx:∀b,H b=none->b≠x:=λb n z=>by subst z;rw[n] at mu;exact mu
 have hb:∀b,H b=none->b≠e:=λb n z=>by
  subst z;rcases he with r | r
  .exact hx b n r
  .rw[n] at r;cases r
 have hm:∀b u,H b=some u->¬nR (some u)->b≠x:=λb u q nm z=>by subst z;rw[q] at mu;exact nm mu
 refine⟨λb u q n _ _=>k b u (hb b n) q,λb u q n _ _=>⟨u.slots,k b u (hb b n) q⟩,λb u q n _=>by rw[kQ (hx b n)];exact n,λb u q _=>?_,
  λb xs q=>by rw[kQ (hm b _ q λz=>z)];exact q,λb u xs q=>by rw[kQ (hm b _ q λz=>z)];exact q,λb ps q=>⟨#[],by rw[kQ (hm b _ q λz=>z),q];simp⟩⟩
 by_cases hbe:b=e
 .subst hbe;exact heo
 .exact⟨u,k b u hbe q⟩
end
def Yo(h:Heap)(H:Hp):List Addr:=(List.range h.objs.size).filter λa=>(H a).isSome
def gp(h:Heap)(H:Hp):Heap:=PySem.W.hideAll h (Yo h H)
def K0(h:Heap)(H:Hp):(gp h H).objs.size=h.objs.size:=PySem.W.hideAll_size _ _
def Vm{h:Heap}{H:Hp}{b:Addr}{o:Obj}(e:h.get? b=some o)(n:H b=none):(gp h H).get? b=some o:=
 PySem.W.hideAll_get _ e λhm=>by
  have q:(H b).isSome=true:=(vD.mp hm).2;rw[n] at q;simp at q
def Ua{h:Heap}{H:Hp}{b:Addr}{o:Obj}(e:(gp h H).get? b=some o):h.get? b=some o/\H b=none:=by
 have e':h.get? b=some o:=PySem.W.of_hideAll (Yo h H) e;refine⟨e',?_⟩;cases q:H b with
 | none=>rfl
 | some x=>
  have hm:b∈Yo h H:=vD.mpr ⟨yE.mpr (zF e'),by simp[q]⟩;have z:(gp h H).get? b=none:=PySem.W.hideAll_none (Yo h H) hm;rw[z] at e;cases e
end L2
namespace L2
open PySem PySem.Spec PyProof.Rows
structure Mod(K:PySem.W.Frag)(mg:Str->Option Value)(base:Heap):Prop where
 kin:K.In base
 glob:base.Ns mainGlobals mg
 blt:∃mb,base.Ns builtinsNs mb/\∀x:Str,x≠"__name__"->mb x=bootBuiltins x
 nolimit:base.NoLimit
structure Cx where
 prog:Program
 w:World
 K:PySem.W.Frag
 mg:Str->Option Value
 base:Heap
 A:Around
 N:List Str
 s₀:Shared
 H₀:Hp
 env:Env
 outer:List Env
 stack:List Env
 ex:List Addr
 fn:Str->Bool
 calm:Bool
 pn:List (Addr×Obj)
 xe:Value->Shared->Prop
def frs(l:List Env):List Addr:=l.filterMap (·.frame)
abbrev Cx.fs(X:Cx):List Addr:=frs X.outer
def Jq(sc:Scope)(x:Str):Prop:=sc.names.lookup x=some .local\/sc.names.lookup x=some .cell\/sc.names.lookup x=some .free
def Loc(sc:Scope)(x:Str):Prop:=sc.names.lookup x=some .local\/sc.names.lookup x=some .cell
def Look(env:Env)(h:Heap)(m:Str->Option Value)(x:Str)(u:Value):Prop:=
 (env.kindOf x=some .local/\m x=some u)\/((env.kindOf x=some .cell\/env.kindOf x=some .free)/\∃c,env.cells.lookup x=some c/\h.IsCell c (some u))
structure Cx.Ok(X:Cx):Prop where
 mod:Mod X.K X.mg X.base
 kind:X.env.scope.kind=.function
 glob:X.env.globals=mainGlobals
 blt:X.env.builtins=builtinsNs
 above:X.s₀.heap.objs.size<=X.env.locals
 inj:∀x y c,X.env.cells.lookup x=some c->X.env.cells.lookup y=some c->x=y
 has:∀x,(X.env.kindOf x=some .cell\/X.env.kindOf x=some .free)->∃c,X.env.cells.lookup x=some c
 cab:∀x c,X.fn x=true->X.env.cells.lookup x=some c->X.s₀.heap.objs.size<=c
 hd:X.calm=true->X.A.handled=none
 frames:X.A.frames=some X.stack
 stk:X.stack=X.outer\/(X.stack=X.env::X.outer/\X.env.frame=some X.env.locals)
 exf:∀b∈X.ex,b≠X.env.locals/\∀x c,X.env.cells.lookup x=some c->c≠b
 bs:∀b o,X.base.get? b=some o->X.s₀.heap.get? b=some o/\X.H₀ b=none
 bsz:X.base.objs.size<=X.s₀.heap.objs.size
 noex:∀b o,X.base.get? b=some o->b∉X.ex
 exfs:∀b∈X.ex,b∉X.fs
 funs:X.s₀.heap.FunFrames X.base X.outer
 frf:∀b∈X.fs,X.H₀ b=none
structure Inv(X:Cx)(pins:List (Addr×Obj))(σ:List (Option V))(H:Hp)(s:Shared):Prop where
 ok:X.Ok
 os:s.os=X.s₀.os
 bare:AllBare s.gens
 base:Un X.fs X.ex X.H₀ H X.s₀.heap s.heap
 loc:∃m,s.heap.Ns X.env.locals m/\∀(i:Nat) (x:Str) (v:V),X.N[i]?=some x->σ[i]?=some (some v)->Jq X.env.scope x->∃u,RelV v u/\Look X.env s.heap m x u
 cell:∀x c,X.env.cells.lookup x=some c->∃v,s.heap.IsCell c v
 free:H X.env.locals=none
 freeC:∀x c,X.env.cells.lookup x=some c->H c=none
 pin:∀p∈X.pn++pins,s.heap.get? p.1=some p.2/\H p.1=none/\p.1≠X.env.locals/\p.1∉X.fs/\∀v,p.2.data≠.cell v
 hok:HOk X.prog X.w H s.heap
 len:σ.length=X.N.length
section
variable{X:Cx}{pins:List (Addr×Obj)}{σ:List (Option V)}{H H':Hp}{s:Shared}{h':Heap}
def Cx.Ok.nofr(ok:X.Ok){b:Addr}{o:Obj}(e:X.base.get? b=some o):b∉X.fs:=λhb=>by
 have:=(ok.funs.mem hb).1;rw[e] at this;cases this
theorem Inv.bs(I:Inv X pins σ H s):∀b o,X.base.get? b=some o->s.heap.get? b=some o/\H b=none:=λb o e=>
 ⟨I.base.keep b o (I.ok.bs b o e).1 (I.ok.bs b o e).2 (I.ok.nofr e) (I.ok.noex b o e),I.base.free b o (I.ok.bs b o e).1 (I.ok.bs b o e).2 (I.ok.noex b o e)⟩
def Inv.bk(I:Inv X pins σ H s):∀b o,X.base.get? b=some o->s.heap.get? b=some o:=λb o e=>(I.bs b o e).1
theorem Inv.mod(I:Inv X pins σ H s):Mod X.K X.mg X.base:=I.ok.mod
def Inv.kIn(I:Inv X pins σ H s):X.K.In s.heap:=I.ok.mod.kin.keeps I.bk
theorem Inv.lt(I:Inv X pins σ H s):X.env.locals<s.heap.objs.size:=let ⟨_,hn,_⟩:=I.loc;hn.lt
def Inv.sz(I:Inv X pins σ H s):X.s₀.heap.objs.size<=s.heap.objs.size:=zT I.ok.above (wA I.lt)
def Inv.nofs(I:Inv X pins σ H s){a:Addr}(h:s.heap.objs.size<=a):a∉X.fs:=λhb=>by
 obtain⟨_,o,ho,_⟩:=I.ok.funs.mem hb;exact absurd (zN (zF ho) (zT I.sz h)) (jE _)
def Inv.cne(I:Inv X pins σ H s):∀x c,X.env.cells.lookup x=some c->c≠X.env.locals:=λx c e z=>by
 obtain⟨v,o,ho,hd⟩:=I.cell x c e;obtain⟨m,⟨o',es,ep,ho',hd',_⟩,_⟩:=I.loc;rw[z,ho'] at ho;cases ho;rw[hd'] at hd;cases hd
theorem Inv.funs(I:Inv X pins σ H s):s.heap.FunFrames X.base X.outer:=by
 have all:∀(l:List Env),(∀b∈frs l,b∈X.fs)->X.s₀.heap.FunFrames X.base l->s.heap.FunFrames X.base l:=by
  intro l;induction l with
  | nil=>intro _ _;trivial
  | cons env r ih=>
   intro hs hl;obtain⟨hk,⟨L,o,hf,hn,ho,hd⟩,hr⟩:=hl;have hL:L∈X.fs:=hs L (by unfold frs;rw[wL,hf];exact z9);obtain⟨sl,e⟩:=I.base.slot L o ho (I.ok.frf L hL) hL λz=>I.ok.exfs L z hL
   exact⟨hk,⟨L,_,hf,hn,e,hd⟩,ih (λb hb=>hs b (by unfold frs;rw[wL,hf];exact zP _ hb)) hr⟩
 exact all X.outer (λ_ hb=>hb) I.ok.funs
theorem Inv.stack(I:Inv X pins σ H s):s.heap.FunFrames X.base X.stack:=by
 rcases I.ok.stk with e | ⟨e,hf⟩
 .rw[e];exact I.funs
 .rw[e]
  obtain⟨m,hn,_⟩:=I.loc;refine .cons (by rw[I.ok.kind];decide) hf hn ?_ I.funs;exact vN (zT I.ok.bsz I.ok.above)
def Inv.stkSub(I:Inv X pins σ H s):∀b∈frs X.stack,b∈X.env.locals::X.fs:=λb hb=>by
 rcases I.ok.stk with e | ⟨e,hf⟩
 .rw[e] at hb;exact zP _ hb
 .rw[e] at hb
  unfold frs at hb;rw[wL,hf] at hb;exact hb
def Inv.stkFree(I:Inv X pins σ H s):∀b∈frs X.stack,H b=none:=λb hb=>by
 rcases zb.mp (I.stkSub b hb) with e | hb
 .rw[e];exact I.free
 .obtain⟨_,o,ho,_⟩:=I.ok.funs.mem hb
  exact I.base.free b o ho (I.ok.frf b hb) λz=>I.ok.exfs b z hb
def Inv.step{g':Array GenState}{t':Nat}{d':Drawn}{ch:List Addr}(I:Inv X pins σ H s)
  (hch:∀b∈ch,(b∈X.ex\/X.s₀.heap.objs.size<=b)/\b≠X.env.locals/\(∀x c,X.env.cells.lookup x=some c->c≠b)/\∀p∈X.pn++pins,p.1≠b)
  (keep:∀b o,b≠X.env.locals->b∉X.fs->b∉ch->s.heap.get? b=some o->H b=none->h'.get? b=some o)
  (slot:∀b o,b≠X.env.locals->b∈X.fs->b∉ch->s.heap.get? b=some o->H b=none->∃sl,h'.get? b=some { o with slots:=sl }) (free:∀b o,b∉ch->s.heap.get? b=some o->H b=none->H' b=none)
  (there:∀b o,b∉ch->s.heap.get? b=some o->∃o',h'.get? b=some o')
  (tups:∀b xs,H b=some (.tup xs)->H' b=some (.tup xs)) (frzs:∀b o u,H b=some (.frz o u)->H' b=some (.frz o u)) (tbls:∀b ps,H b=some (.tbl ps)->∃more,H' b=some (.tbl (ps++more)))
  (ns:∀m,s.heap.Ns X.env.locals m->h'.Ns X.env.locals m) (hok:HOk X.prog X.w H' h') (hg:AllBare g') :
  Inv X pins σ H' { s with heap:=h',gens:=g',drawn:=d',toks:=t' }:=by
 have neL:∀b o,X.s₀.heap.get? b=some o->b≠X.env.locals:=λb o e=>zX (zN (zF e) I.ok.above)
 have neC:∀b o,X.s₀.heap.get? b=some o->b∉X.ex->b∉ch:=λb o e hx hb=>by
  rcases(hch b hb).1 with z | z
  .exact hx z
  .exact absurd (zN (zF e) z) (jE _)
 have cellK:∀x c,X.env.cells.lookup x=some c->∀v,s.heap.IsCell c v->h'.IsCell c v:=λx c e v ⟨o,ho,hd⟩=>by
  have nch:c∉ch:=λz=>(hch c z).2.2.1 x c e rfl
  by_cases hc:c∈X.fs
  .obtain⟨sl,q⟩:=slot c o (I.cne x c e) hc nch ho (I.freeC x c e)
   exact⟨_,q,hd⟩
  .exact⟨o,keep c o (I.cne x c e) hc nch ho (I.freeC x c e),hd⟩
 refine⟨I.ok,I.os,hg,⟨λb o e n hb hx=>?_,λb o e n hb hx=>?_,λb o e n hx=>?_,λb o e hx=>?_,λb xs e=>tups b xs (I.base.tups b xs e),λb o xs e=>frzs b o xs (I.base.frzs b o xs e),λb ps e=>?_⟩,?_,λx c e=>?_,?_,λx c e=>?_,λp hp=>?_,hok,I.len⟩
 .exact keep b o (neL b o e) hb (neC b o e hx) (I.base.keep b o e n hb hx) (I.base.free b o e n hx)
 .obtain⟨sl,e1⟩:=I.base.slot b o e n hb hx
  obtain⟨sl',e2⟩:=slot b _ (neL b o e) hb (neC b o e hx) e1 (I.base.free b o e n hx);exact⟨sl',e2⟩
 .obtain⟨o',e1⟩:=I.base.there b o e hx
  exact free b o' (neC b o e hx) e1 (I.base.free b o e n hx)
 .obtain⟨o',e1⟩:=I.base.there b o e hx
  exact there b o' (neC b o e hx) e1
 .obtain⟨m1,e1⟩:=I.base.tbls b ps e
  obtain⟨m2,e2⟩:=tbls b _ e1;exact⟨m1++m2,by rw[e2,Array.append_assoc]⟩
 .obtain⟨m,hn,hl⟩:=I.loc
  refine⟨m,ns m hn,λi x v e1 e2 e3=>?_⟩;obtain⟨u,r,l⟩:=hl i x v e1 e2 e3;refine⟨u,r,?_⟩;rcases l with l | ⟨k,c,e,z⟩
  .exact .inl l
  .exact .inr ⟨k,c,e,cellK x c e _ z⟩
 .obtain⟨v,z⟩:=I.cell x c e
  exact⟨v,cellK x c e v z⟩
 .obtain⟨m,⟨o,_,_,ho,_⟩,_⟩:=I.loc
  exact free _ o (λz=>(hch _ z).2.1 rfl) ho I.free
 .obtain⟨v,o,ho,hd⟩:=I.cell x c e
  exact free c o (λz=>(hch c z).2.2.1 x c e rfl) ho (I.freeC x c e)
 .obtain⟨e,n,ne,nf,d⟩:=I.pin p hp
  have nch:p.1∉ch:=λz=>(hch p.1 z).2.2.2 p hp rfl
  exact⟨keep p.1 p.2 ne nf nch e n,free p.1 p.2 nch e n,ne,nf,d⟩
def Inv.un{t':Nat}(I:Inv X pins σ H s)(u:Un X.fs [] H H' s.heap h')(hok:HOk X.prog X.w H' h'):Inv X pins σ H' { s with heap:=h',toks:=t' }:=by
 obtain⟨m,⟨o,es,ep,ho,r⟩,_⟩:=id I.loc;obtain⟨sl,hL⟩:=u.any ho I.free (by simp)
 exact I.step (g':=s.gens) (d':=s.drawn) (ch:=[]) (λ_ z=>nomatch z) (λb o _ hb _ e n=>u.keep b o e n hb (by simp)) (λb o _ hb _ e n=>u.slot b o e n hb (by simp)) (λb o _ e n=>u.free b o e n (by simp)) (λb o _ e=>u.there b o e (by simp)) u.tups u.frzs u.tbls (λm' hm=>by
  obtain⟨o',es',ep',ho',r'⟩:=hm;rw[ho] at ho';cases ho'
  exact⟨_,es',ep',hL,r'⟩) hok I.bare
def Inv.call{g':Array GenState}{t':Nat}{d':Drawn}{ch:List Addr}(I:Inv X pins σ H s)(u:Un (frs X.stack) ch H H' s.heap h')(hok:HOk X.prog X.w H' h')(hg:AllBare g')
  (hch:∀b∈ch,(b∈X.ex\/X.s₀.heap.objs.size<=b)/\b≠X.env.locals/\(∀x c,X.env.cells.lookup x=some c->c≠b)/\∀p∈X.pn++pins,p.1≠b) :
  Inv X pins σ H' { s with heap:=h',gens:=g',drawn:=d',toks:=t' }:=by
 obtain⟨m,⟨o,es,ep,ho,r⟩,_⟩:=id I.loc;obtain⟨sl,hL⟩:=u.any ho I.free λz=>(hch _ z).2.1 rfl
 exact I.step (ch:=ch) hch (λb o hL hb hc e n=>u.keep b o e n (λz=>(zb.mp (I.stkSub b z)).elim hL hb) hc) (λb o _ _ hc e n=>u.any e n hc) (λb o hc e n=>u.free b o e n hc) (λb o hc e=>u.there b o e hc) u.tups u.frzs u.tbls (λm' hm=>by
  obtain⟨o',es',ep',ho',r'⟩:=hm;rw[ho] at ho';cases ho'
  exact⟨_,es',ep',hL,r'⟩) hok hg
def Inv.turned{t':Nat}{it:Addr}(I:Inv X pins σ H s)(k:∀b o,b≠it->s.heap.get? b=some o->h'.get? b=some o)(hn:H it=none)(hL:it≠X.env.locals)
  (h1:it∈X.ex\/X.s₀.heap.objs.size<=it) (h2:∀x c,X.env.cells.lookup x=some c->c≠it) (h3:∀p∈X.pn++pins,p.1≠it):Inv X pins σ H { s with heap:=h',toks:=t' }:=by
 have nit:∀b u,H b=some u->b≠it:=λb u e z=>by rw[z,hn] at e;cases e
 refine I.step (g':=s.gens) (d':=s.drawn) (ch:=[it]) (λb hb=>?_) (λb o _ _ hc e _=>k b o (λz=>hc (by simp[z])) e) (λb o _ _ hc e _=>⟨o.slots,k b o (λz=>hc (by simp[z])) e⟩) (λ_ _ _ _ n=>n)
  (λb o hc e=>⟨o,k b o (λz=>hc (by simp[z])) e⟩) (λ_ _ e=>e) (λ_ _ _ e=>e) (λb ps e=>⟨#[],by rw[e];simp⟩) (λm hm=>?_) (λb u e=>?_) I.bare
 .have e:b=it:=by simpa using hb
  subst e;exact⟨h1,hL,h2,h3⟩
 .obtain⟨o,es,ep,ho,r⟩:=hm
  exact⟨o,es,ep,k _ o (kY hL) ho,r⟩
 .refine(I.hok b u e).stay (λc v hc q=>k c v ?_ q) (λ_ q=>q) λ_ _ q=>q
  rcases hc with z | z
  .rw[z];exact nit b u e
  .exact nit c _ z
def Inv.tok(I:Inv X pins σ H s)(t:Nat):Inv X pins σ H { s with toks:=t }:=I.un (h':=s.heap) (t':=t) Un.refl I.hok
theorem Inv.kept{t':Nat}(I:Inv X pins σ H s)(k:∀b u,s.heap.get? b=some u->h'.get? b=some u):Inv X pins σ H { s with heap:=h',toks:=t' }:=I.un (Un.kept k) (I.hok.kept k)
theorem Inv.laid{a:Addr}{o:HO}{t':Nat}(I:Inv X pins σ H s)(k:∀b u,s.heap.get? b=some u->h'.get? b=some u)(hp:s.heap.objs.size<=a)(new:ObjOk X.prog X.w (upd H a o) h' a o) :
  Inv X pins σ (upd H a o) { s with heap:=h',toks:=t' }:=I.un (Un.laid k hp (I.hok.fresh hp)) (I.hok.laid k hp new)
theorem Inv.write{x e:Addr}{o:HO}{t':Nat}(I:Inv X pins σ H s)(mu:nR (H x))(he:e=x\/H e=some (.own x))(k:∀b u,b≠e->s.heap.get? b=some u->h'.get? b=some u)(heo:∃u,h'.get? e=some u)
  (new:ObjOk X.prog X.w (upd H x o) h' x o):Inv X pins σ (upd H x o) { s with heap:=h',toks:=t' }:=I.un (Un.write mu he k heo) (I.hok.write mu he k heo new)
def Inv.pins_of{pins':List (Addr×Obj)}(I:Inv X pins σ H s)(h:∀p∈pins',s.heap.get? p.1=some p.2/\H p.1=none/\p.1≠X.env.locals/\p.1∉X.fs/\∀v,p.2.data≠.cell v):Inv X pins' σ H s:=
 ⟨I.ok,I.os,I.bare,I.base,I.loc,I.cell,I.free,I.freeC,λp hp=>(zW.mp hp).elim (λz=>I.pin p (jZ _ z)) (h p),I.hok,I.len⟩
def rC{N:List Str}(hN:N.Nodup){i j:Nat}{x:Str}(a:N[i]?=some x)(b:N[j]?=some x):i=j:=by
 obtain⟨h1,e1⟩:=zU.mp a;obtain⟨h2,e2⟩:=zU.mp b;exact(vh hN).mp (e1.trans e2.symm)
def nY{M:Model}{A:Around}{E:Value->Shared->Prop}{i:Nat}{x:Str}{v:V}{u:Value}{Q:Unit->Shared->Prop}(I:Inv X pins σ H s)(hN:X.N.Nodup)(hi:X.N[i]?=some x)(hx:Loc X.env.scope x)(r:RelV v u)
  (h:∀s',Inv X pins (σ.set i (some v)) H s'->(∃a,Heap.SameBut a s.heap s'.heap/\(a=X.env.locals\/X.env.cells.lookup x=some a))->Q () s') (hf:X.fn x=true\/X.env.scope.names.lookup x=some .local:=by first | exact .inl rfl | exact .inr rfl | assumption):wpAny M A (storeName X.env x u) Q E s:=by
 obtain⟨m,hn,hl⟩:=id I.loc;have hcls:(X.env.scope.kind==.class||(X.env.scope.kind==.module&&X.env.locals != X.env.globals))=false:=by rw[I.ok.kind];rfl
 have hiσ:i<σ.length:=by rw[I.len];exact(zU.mp hi).1
 have cne:=I.cne;have tracked:∀{a:Addr} {h':Heap},(∃o,s.heap.get? a=some o/\H a=none)->Heap.SameBut a s.heap h'->HOk X.prog X.w H h':=λ{a h'} ha hs b ob e=>by
  obtain⟨_,_,hfree⟩:=ha;refine(I.hok b ob e).stay (λc w' hc q=>(hs.2 c ?_).trans q) (λ_ q=>q) λ_ _ q=>q
  rintro rfl;rcases hc with rfl | hc
  .rw[hfree] at e;cases e
  .rw[hfree] at hc;cases hc
 rcases hx with hk | hk
 .refine wpAny_storeName_local hk hn (λh' hn' hs=>?_) hcls
  obtain⟨oL,_,_,hoL,_⟩:=id hn;refine h _ ⟨I.ok,I.os,I.bare,⟨λb o e n hb hx=>?_,λb o e n hb hx=>?_,I.base.free,λb o e hx=>?_,I.base.tups,I.base.frzs,I.base.tbls⟩,⟨_,hn',λj y v' e1 e2 e3=>?_⟩,λy c e=>?_,I.free,I.freeC,λp hp=>?_,tracked ⟨oL,hoL,I.free⟩ hs,by simpa using I.len⟩ ⟨_,hs,.inl rfl⟩
  .exact(hs.2 b (zX (zN (zF e) I.ok.above))).trans (I.base.keep b o e n hb hx)
  .obtain⟨sl,e1⟩:=I.base.slot b o e n hb hx
   exact⟨sl,(hs.2 b (zX (zN (zF e) I.ok.above))).trans e1⟩
  .obtain⟨o',e1⟩:=I.base.there b o e hx
   exact⟨o',(hs.2 b (zX (zN (zF e) I.ok.above))).trans e1⟩
  .by_cases hj:j=i
   .subst hj
    rw[hi] at e1;cases e1;rw[zL hiσ] at e2;cases e2;exact⟨u,r,.inl ⟨hk,by simp⟩⟩
   .rw[zJ (kY hj)] at e2
    obtain⟨u',r',q⟩:=hl j y v' e1 e2 e3;refine⟨u',r',?_⟩;rcases q with ⟨k,e⟩ | ⟨k,c,e,z⟩
    .refine .inl ⟨k,?_⟩
     have:y≠x:=λe=>hj (rC hN e1 (e▸hi))
     simp[this,e]
    .exact .inr ⟨k,c,e,z.sameBut hs (cne y c e)⟩
  .obtain⟨w',z⟩:=I.cell y c e
   exact⟨w',z.sameBut hs (cne y c e)⟩
  .obtain⟨e,n,ne,nf,d⟩:=I.pin p hp
   exact⟨(hs.2 p.1 ne).trans e,n,ne,nf,d⟩
 .have hfn:X.fn x=true:=by
   rcases hf with z | z
   .exact z
   .rw[z] at hk;cases hk
  obtain⟨c,hc⟩:=I.ok.has x (.inl hk);obtain⟨w',z⟩:=I.cell x c hc;refine wpAny_storeName_cell I.ok.kind hk hc z (λh' hc' hs=>?_);obtain⟨oc,hoc,hocd⟩:=id z;refine h { s with heap:=h' } ⟨I.ok,I.os,I.bare,⟨λb o e n hb hx=>?_,λb o e n hb hx=>?_,I.base.free,λb o e hx=>?_,I.base.tups,I.base.frzs,I.base.tbls⟩,⟨m,hn.sameBut hs (kY (cne x c hc)),λj y v' e1 e2 e3=>?_⟩,λy c' e=>?_,I.free,I.freeC,λp hp=>?_,tracked ⟨oc,hoc,I.freeC x c hc⟩ hs,by simpa using I.len⟩ ⟨c,hs,.inr hc⟩
  .exact(hs.2 b (zX (zN (zF e) (I.ok.cab x c hfn hc)))).trans (I.base.keep b o e n hb hx)
  .obtain⟨sl,e1⟩:=I.base.slot b o e n hb hx
   exact⟨sl,(hs.2 b (zX (zN (zF e) (I.ok.cab x c hfn hc)))).trans e1⟩
  .obtain⟨o',e1⟩:=I.base.there b o e hx
   exact⟨o',(hs.2 b (zX (zN (zF e) (I.ok.cab x c hfn hc)))).trans e1⟩
  .by_cases hj:j=i
   .subst hj
    rw[hi] at e1;cases e1;rw[zL hiσ] at e2;cases e2;exact⟨u,r,.inr ⟨.inl hk,c,hc,hc'⟩⟩
   .rw[zJ (kY hj)] at e2
    obtain⟨u',r',q⟩:=hl j y v' e1 e2 e3;refine⟨u',r',?_⟩;rcases q with q | ⟨k,c',e,z'⟩
    .exact .inl q
    .refine .inr ⟨k,c',e,z'.sameBut hs ?_⟩
     rintro rfl;exact hj (rC hN e1 (I.ok.inj _ _ _ e hc▸hi))
  .by_cases hcc:c'=c
   .subst hcc;exact⟨_,hc'⟩
   .obtain⟨w2,z2⟩:=I.cell y c' e
    exact⟨w2,z2.sameBut hs hcc⟩
  .obtain⟨e,n,ne,nf,d⟩:=I.pin p hp
   refine⟨(hs.2 p.1 ?_).trans e,n,ne,nf,d⟩;intro q;rw[q,hoc] at e;have q':oc=p.2:=zZ e;exact d w' (by rw[<-q'];exact hocd)
def rX{M:Model}{A:Around}{E:Value->Shared->Prop}{i:Nat}{x:Str}{v:V}{u:Value}{Q:Unit->Shared->Prop}(I:Inv X pins σ H s)(hN:X.N.Nodup)(hi:X.N[i]?=some x)(hx:Loc X.env.scope x)(r:RelV v u)
  (h:∀s',Inv X pins (σ.set i (some v)) H s'->Q () s') (hf:X.fn x=true\/X.env.scope.names.lookup x=some .local:=by first | exact .inl rfl | exact .inr rfl | assumption):wpAny M A (storeName X.env x u) Q E s:=
 nY I hN hi hx r (λs' I' _=>h s' I') hf
def Inv.call'{s':Shared}{ch:List Addr}(I:Inv X pins σ H s)(ho:s'.os=s.os)(u:Un (frs X.stack) ch H H' s.heap s'.heap)(hok:HOk X.prog X.w H' s'.heap)(hg:AllBare s'.gens)
  (hch:∀b∈ch,(b∈X.ex\/X.s₀.heap.objs.size<=b)/\b≠X.env.locals/\(∀x c,X.env.cells.lookup x=some c->c≠b)/\∀p∈X.pn++pins,p.1≠b):Inv X pins σ H' s':=by
 obtain⟨h',g',d',t',o'⟩:=s';have e:o'=s.os:=ho;subst e;exact I.call (g':=g') (t':=t') (d':=d') u hok hg hch
end
abbrev XK:=Value->Option Addr->Hp->Prop
abbrev St:=List (Option V)
abbrev VK:=V->Hp->Prop
abbrev TE:=St->Hp->VK->Prop
abbrev TT:=St->Hp->(Bool->Hp->Prop)->Prop
abbrev TA:=St->Hp->(List V->Hp->Prop)->Prop
structure Ends where
 nx:St->Hp->Prop
 rt:VK
 bk:St->Hp->Prop:=λ_ _=>False
 ct:St->Hp->Prop:=λ_ _=>False
abbrev TS:=Ends->St->Hp->Prop
def EP(X:Cx)(pins:List (Addr×Obj))(σ:St)(Q:VK)(u:Value)(s':Shared):Prop:=∃v H',Inv X pins σ H' s'/\RelV v u/\Q v H'
def TP(X:Cx)(pins:List (Addr×Obj))(σ:St)(Q:Bool->Hp->Prop)(b:Bool)(s':Shared):Prop:=∃H',Inv X pins σ H' s'/\Q b H'
def AP(X:Cx)(pins:List (Addr×Obj))(σ:St)(Q:List V->Hp->Prop)(us:List Value)(s':Shared):Prop:=∃vs H',Inv X pins σ H' s'/\Vals vs us/\Q vs H'
def SP(X:Cx)(pins:List (Addr×Obj))(D:Ends)(f:Flow)(s':Shared):Prop:=
 match f with
 | .next=>∃σ' H',Inv X pins σ' H' s'/\D.nx σ' H'
 | .brk=>∃σ' H',Inv X pins σ' H' s'/\D.bk σ' H'
 | .cont=>∃σ' H',Inv X pins σ' H' s'/\D.ct σ' H'
 | .ret u=>∃v σ' H',Inv X pins σ' H' s'/\RelV v u/\D.rt v H'
def PE(X:Cx)(e:Expr)(t:TE):Prop:=
 ∀(pins:List (Addr×Obj)) (s:Shared) (σ:St) (H:Hp) (Q:VK),Inv X pins σ H s->t σ H Q->wpAny (model X.prog X.w) X.A (eval e X.env) (EP X pins σ Q) X.xe s
def PT(X:Cx)(e:Expr)(t:TT):Prop:=
 ∀(pins:List (Addr×Obj)) (s:Shared) (σ:St) (H:Hp) (Q:Bool->Hp->Prop),Inv X pins σ H s->t σ H Q->wpAny (model X.prog X.w) X.A (isTrue e X.env (eval e X.env)) (TP X pins σ Q) X.xe s
def PW(X:Cx)(e:Expr)(t:TT):Prop:=
 ∀(whole:Sem Value) (pins:List (Addr×Obj)) (s:Shared) (σ:St) (H:Hp) (Q:Bool->Hp->Prop),Inv X pins σ H s->t σ H Q->wpAny (model X.prog X.w) X.A (isTrue e X.env whole) (TP X pins σ Q) X.xe s
def PW.pt{X:Cx}{e:Expr}{t:TT}(h:PW X e t):PT X e t:=h _
def PA(X:Cx)(es:List Expr)(t:TA):Prop:=
 ∀(pos:Pos) (pins:List (Addr×Obj)) (s:Shared) (σ:St) (H:Hp) (Q:List V->Hp->Prop),Inv X pins σ H s->t σ H Q->wpAny (model X.prog X.w) X.A (spliced (backTo pos (starEach es X.env))) (AP X pins σ Q) X.xe s
def PS(X:Cx)(st:Stmt)(t:TS):Prop:=
 ∀(pins:List (Addr×Obj)) (s:Shared) (σ:St) (H:Hp) (D:Ends),Inv X pins σ H s->t D σ H->wpAny (model X.prog X.w) X.A (exec st X.env) (SP X pins D) X.xe s
def PSs(X:Cx)(st:List Stmt)(t:TS):Prop:=
 ∀(pins:List (Addr×Obj)) (s:Shared) (σ:St) (H:Hp) (D:Ends),Inv X pins σ H s->t D σ H->wpAny (model X.prog X.w) X.A (execs st X.env) (SP X pins D) X.xe s
def kC{α:Type}{t:Sem α}{Q Q':α->Shared->Prop}{M:Model}{A:Around}{E:Value->Shared->Prop}{s:Shared}(h:wpAny M A t Q E s)(hQ:∀a s,Q a s->Q' a s):wpAny M A t Q' E s:=qR h hQ λ_ _ x=>x
end L2
namespace L2
open PySem PySem.Spec PyProof.Rows
section
variable{X:Cx}
def DY(i:Nat):TE:=λσ H Q=>∃v,σ[i]?=some (some v)/\Q v H
def tC(v:V):TE:=λ_ H Q=>Q v H
def UI{i:Nat}{x:Str}{pos:Pos}(hN:X.N[i]?=some x)(hv:Jq X.env.scope x)(hd:⇑((x==("__debug__":Str))=false))(hcd:⇑((x==("__classdict__":Str))=false)):PE X (.Name x pos) (DY i):=by
 intro pins s σ H Q I h;obtain⟨v,e,h⟩:=h;obtain⟨m,hn,hl⟩:=I.loc;obtain⟨u,r,l⟩:=hl i x v hN e hv;have fin:EP X pins σ Q u s:=⟨v,H,I,r,h⟩;rcases l with ⟨hk,hm⟩ | ⟨hk,c,hc,hcell⟩
 .exact wpAny_Name (wpAny_loadName_local I.ok.kind hk hn hm fin) hd
 .rcases hk with hk | hk
  .exact wpAny_Name (wpAny_loadName_cell I.ok.kind hk hc hcell fin) hd
  .exact wpAny_Name (wpAny_loadName_free I.ok.kind hk hc hcell fin hcd) hd
def Cw{i j pos}:PE X (.Constant (.int i) j pos) (tC (.int i)):=λ_ _ _ H _ I h=>wpAny_Constant_int ⟨.int i,H,I.tok _,⟨_,rfl⟩,h⟩
def DG{b j pos}:PE X (.Constant (.bool b) j pos) (tC (.bl b)):=λ_ _ _ H _ I h=>Constant_bool ⟨.bl b,H,I,rfl,h⟩
def Ul{j pos}:PE X (.Constant .none j pos) (tC .non):=λ_ _ _ H _ I h=>Constant_none ⟨.non,H,I,rfl,h⟩
def B4{x j pos}:PE X (.Constant (.str x) j pos) (tC (.str x)):=λ_ _ _ H _ I h=>Calls.Constant_str ⟨.str x,H,I.tok _,⟨_,rfl⟩,h⟩
def Gl(X:Cx)(x:Str):Prop:=X.env.kindOf x=some .globalImplicit
def iw{E:Value->Shared->Prop}{pins:List (Addr×Obj)}{s:Shared}{σ:St}{H:Hp}{x:Str}{u:Value}{pos:Pos}{Q:Value->Shared->Prop}(I:Inv X pins σ H s)(hg:Gl X x)(hm:X.mg x=some u)(h:Q u s)
  (hd:⇑((x==("__debug__":Str))=false)):wpAny (model X.prog X.w) X.A (eval (.Name x pos) X.env) Q E s:=
 xf I.ok.kind hg (Calls.loadGlobal_global (by rw[I.ok.glob];exact I.mod.glob.keeps I.bk) hm h) hd
def ug{E:Value->Shared->Prop}{pins:List (Addr×Obj)}{s:Shared}{σ:St}{H:Hp}{x:Str}{u:Value}{pos:Pos}{Q:Value->Shared->Prop}(I:Inv X pins σ H s)(hg:Gl X x)(hm:X.mg x=none)(hv:bootBuiltins x=some u)(h:Q u s)
  (hn:⇑(x≠"__name__")) (hd:⇑((x==("__debug__":Str))=false)):wpAny (model X.prog X.w) X.A (eval (.Name x pos) X.env) Q E s:=by
 obtain⟨mb,h1,h2⟩:=I.mod.blt;exact xf I.ok.kind hg (Calls.loadGlobal_builtin (by rw[I.ok.glob];exact I.mod.glob.keeps I.bk) hm (by rw[I.ok.blt];exact h1.keeps I.bk) ((h2 x hn).trans hv) h) hd
def t6{x:Str}{v:V}{u:Value}{pos:Pos}(hg:Gl X x)(hm:X.mg x=some u)(r:RelV v u)(hd:⇑((x==("__debug__":Str))=false)):PE X (.Name x pos) (tC v):=
 λ_ _ _ H _ I h=>iw I hg hm ⟨v,H,I,r,h⟩ hd
def X9{x:Str}{v:V}{u:Value}{pos:Pos}(hg:Gl X x)(hm:X.mg x=none)(hv:bootBuiltins x=some u)(r:RelV v u)(hn:⇑(x≠"__name__"))(hd:⇑((x==("__debug__":Str))=false)):PE X (.Name x pos) (tC v):=
 λ_ _ _ H _ I h=>ug I hg hm hv ⟨v,H,I,r,h⟩ hn hd
variable{a b:Expr}{ta tb:TE}{pos:Pos}
def tB(t:TE):TT:=λσ H Q=>t σ H λx H1=>∃c,x=.bl c/\Q c H1
def Um{e:Expr}{t:TE}(h:PE X e t)(he:∀whole,isTrue e X.env whole=(do let v <-whole;standAt e.pos;holding [v] (truthy v)):=by intro _;rfl):PT X e (tB t):=by
 intro pins s σ H Q I hw;refine isTrue_plain (kC (h pins s σ H _ I hw) λv s1 ⟨x,H1,I1,r1,q1⟩=>?_) (he _);obtain⟨d,rfl,q⟩:=q1;cases r1;exact vm ⟨H1,I1,q⟩
variable{tA tB':TT}{rest:List Expr}
def Fp(t u:TT):TT:=λσ H Q=>t σ H λc H1=>if c=true then u σ H1 Q else Q false H1
def FL(t u:TT):TT:=λσ H Q=>t σ H λc H1=>if c=true then Q true H1 else u σ H1 Q
def pw_and1(ha:PT X a tA):PW X (.BoolOp .And [a] pos) tA:=by
 intro wh pins s σ H Q I h;refine isTrue_and (kC (ha pins s σ H Q I h) λc s1 e=>?_);cases c with
 | true=>exact isTrue_and_nil e
 | false=>exact e
def pw_or1(ha:PT X a tA):PW X (.BoolOp .Or [a] pos) tA:=by
 intro wh pins s σ H Q I h;refine isTrue_or (kC (ha pins s σ H Q I h) λc s1 e=>?_);cases c with
 | false=>exact isTrue_or_nil e
 | true=>exact e
def pw_and(ha:PT X a tA)(hb:PW X (.BoolOp .And (b::rest) pos) tB'):PW X (.BoolOp .And (a::b::rest) pos) (Fp tA tB'):=by
 intro wh pins s σ H Q I h;refine isTrue_and (kC (ha pins s σ H _ I h) λc s1 ⟨H1,I1,q1⟩=>?_);cases c with
 | true=>exact hb wh pins s1 σ H1 Q I1 q1
 | false=>exact⟨H1,I1,q1⟩
def pw_or(ha:PT X a tA)(hb:PW X (.BoolOp .Or (b::rest) pos) tB'):PW X (.BoolOp .Or (a::b::rest) pos) (FL tA tB'):=by
 intro wh pins s σ H Q I h;refine isTrue_or (kC (ha pins s σ H _ I h) λc s1 ⟨H1,I1,q1⟩=>?_);cases c with
 | true=>exact⟨H1,I1,q1⟩
 | false=>exact hb wh pins s1 σ H1 Q I1 q1
def FI(t:TT)(ta tb:TE):TE:=λσ H Q=>t σ H λc H1=>if c=true then ta σ H1 Q else tb σ H1 Q
def VA{c:Expr}(hc:PT X c tA)(ha:PE X a ta)(hb:PE X b tb):PE X (.IfExp c a b pos) (FI tA ta tb):=by
 intro pins s σ H Q I h;refine wpAny_IfExp (kC (hc pins s σ H _ I h) λd s1 ⟨H1,I1,q1⟩=>?_);cases d with
 | true=>exact ha pins s1 σ H1 Q I1 q1
 | false=>exact hb pins s1 σ H1 Q I1 q1
end
end L2
namespace L2
open PySem PySem.Spec PyProof.Rows
def SqL(K:PySem.W.Frag)(H:Hp)(a:Addr)(xs:List V):Prop:=
 Rd H a (.lst xs) \/
  ∃(o:Obj) (its:Array Value) (n:Nat),K.lookup a=some o/\o.cls=.type "list" /\ o.dict=none/\o.data=.seq its n/\its.size<=sizeLine/\Vals xs its.toList
def SqT(K:PySem.W.Frag)(H:Hp)(a:Addr)(xs:List V):Prop:=
 Rd H a (.tup xs) \/
  ∃(o:Obj) (its:Array Value) (n:Nat),K.lookup a=some o/\(o.cls=.type "tuple" /\ o.dict=none)/\o.data=.seq its n/\its.size<=sizeLine/\Vals xs its.toList
def D7:Value->Option V
 | .none=>some .non
 | .bool b=>some (.bl b)
 | .int i _=>some (.int i)
 | .str x _=>some (.str x)
 | .bytes b _=>some (.byt b)
 | .float b _=>some (.flt b)
 | .ref a=>some (.ref a)
 | .type n=>some (.ty n)
 | _=>none
theorem RelV.abs{x:V}{u:Value}(r:RelV x u):D7 u=some x:=by
 cases x with
 | non=>cases r;rfl
 | bl _=>cases r;rfl
 | int _=>obtain⟨t,rfl⟩:=r;rfl
 | str _=>obtain⟨t,rfl⟩:=r;rfl
 | byt _=>obtain⟨t,rfl⟩:=r;rfl
 | flt _=>obtain⟨t,rfl⟩:=r;rfl
 | ref _=>cases r;rfl
 | ty _=>cases r;rfl
theorem RelV.inj{x y:V}{u:Value}(r:RelV x u)(q:RelV y u):x=y:=zZ (r.abs.symm.trans q.abs)
theorem Vals.inj:∀{xs ys:List V} {us:List Value},Vals xs us->Vals ys us->xs=ys
 | _,_,_,.nil,.nil=>rfl
 | _,_,_,.cons r t,.cons r' t'=>by rw[r.inj r',Vals.inj t t']
section
variable{X:Cx}{pins:List (Addr×Obj)}{σ:St}{H:Hp}{s:Shared}{a:Addr}{xs ys:List V}
def SqL.of{K:PySem.W.Frag}(h:H a=some (.lst xs)):SqL K H a xs:=.inl (.inl h)
def SqT.of{K:PySem.W.Frag}(h:H a=some (.tup xs)):SqT K H a xs:=.inl (.inl h)
def Inv.list(I:Inv X pins σ H s)(h:SqL X.K H a xs):∃its:List Value,Vals xs its/\PlainL s.heap a its.toArray/\xs.length<=sizeLine:=by
 rcases h with h | ⟨o,its,n,hk,hc,hd,hs,hz,r⟩
 .obtain⟨z,its,n,r,e⟩:=h.ok I.hok
  exact⟨its,r,⟨_,n,e,rfl,rfl,rfl⟩,z⟩
 .refine⟨its.toList,r,⟨o,n,I.kIn a o hk,hc,hd,by simpa using hs⟩,?_⟩
  have e:=r.length;simp only[vI] at e;omega
def Inv.tuple(I:Inv X pins σ H s)(h:SqT X.K H a xs):∃its:List Value,Vals xs its/\IsTup s.heap a its.toArray/\xs.length<=sizeLine:=by
 rcases h with h | ⟨o,its,n,hk,⟨hc,_⟩,hs,hz,r⟩
 .obtain⟨z,its,r,p,_⟩:=h.ok I.hok
  exact⟨its,r,p,z⟩
 .refine⟨its.toList,r,⟨o,I.kIn a o hk,hc,n,by simpa using hs⟩,?_⟩
  have e:=r.length;simp only[vI] at e;omega
def Inv.list_inj(I:Inv X pins σ H s)(h:SqL X.K H a xs)(h':SqL X.K H a ys):xs=ys:=by
 obtain⟨its,r,⟨o,n,e,_,_,d⟩,_⟩:=I.list h;obtain⟨its',r',⟨o',n',e',_,_,d'⟩,_⟩:=I.list h';rw[e] at e';cases e';rw[d] at d';injection d' with d1 _;have:its=its':=by simpa using jX Array.toList d1
 subst this;exact r.inj r'
def Inv.tuple_inj(I:Inv X pins σ H s)(h:SqT X.K H a xs)(h':SqT X.K H a ys):xs=ys:=by
 obtain⟨its,r,⟨o,e,_,n,d⟩,_⟩:=I.tuple h;obtain⟨its',r',⟨o',e',_,n',d'⟩,_⟩:=I.tuple h';rw[e] at e';cases e';rw[d] at d';injection d' with d1 _;have:its=its':=by simpa using jX Array.toList d1
 subst this;exact r.inj r'
end
abbrev Cx.wish(X:Cx)(E:Value->Shared->Prop):Cx:={ X with xe:=E }
abbrev Cx.nox(X:Cx):Cx:=X.wish λ_ _=>False
theorem Cx.Ok.wish{X:Cx}(ok:X.Ok)(E:Value->Shared->Prop):(X.wish E).Ok:=
 ⟨ok.mod,ok.kind,ok.glob,ok.blt,ok.above,ok.inj,ok.has,ok.cab,ok.hd,ok.frames,ok.stk,ok.exf,ok.bs,ok.bsz,ok.noex,ok.exfs,ok.funs,ok.frf⟩
def Cx.Ok.unwish{X:Cx}{E:Value->Shared->Prop}(ok:(X.wish E).Ok):X.Ok:=
 ⟨ok.mod,ok.kind,ok.glob,ok.blt,ok.above,ok.inj,ok.has,ok.cab,ok.hd,ok.frames,ok.stk,ok.exf,ok.bs,ok.bsz,ok.noex,ok.exfs,ok.funs,ok.frf⟩
section
variable{X:Cx}{pins:List (Addr×Obj)}{σ:St}{H:Hp}{s:Shared}{E:Value->Shared->Prop}
theorem Inv.wish(I:Inv X pins σ H s)(E:Value->Shared->Prop):Inv (X.wish E) pins σ H s:=⟨I.ok.wish E,I.os,I.bare,I.base,I.loc,I.cell,I.free,I.freeC,I.pin,I.hok,I.len⟩
theorem Inv.unwish(I:Inv (X.wish E) pins σ H s):Inv X pins σ H s:=⟨I.ok.unwish,I.os,I.bare,I.base,I.loc,I.cell,I.free,I.freeC,I.pin,I.hok,I.len⟩
theorem SP.unwish{D:Ends}{f:Flow}{s':Shared}(h:SP (X.wish E) pins D f s'):SP X pins D f s':=by
 cases f with
 | next=>obtain⟨σ',H',I,q⟩:=h;exact⟨σ',H',I.unwish,q⟩
 | brk=>obtain⟨σ',H',I,q⟩:=h;exact⟨σ',H',I.unwish,q⟩
 | cont=>obtain⟨σ',H',I,q⟩:=h;exact⟨σ',H',I.unwish,q⟩
 | ret u=>obtain⟨v,σ',H',I,r,q⟩:=h;exact⟨v,σ',H',I.unwish,r,q⟩
theorem PSs.nox{st:List Stmt}{t:TS}(h:PSs X.nox st t):PSs X st t:=λpins s σ H D I hw=>
 qR (h pins s σ H D (I.wish _) hw) (λ_ _ q=>q.unwish) λ_ _ z=>False.elim z
end
section
variable{X:Cx}{st:Stmt}{rest:List Stmt}{t u:TS}{e:Expr}{te:TE}{pos:Pos}
def WV:TS:=λD σ H=>D.nx σ H
def FA(t u:TS):TS:=λD σ H=>t { D with nx:=u D } σ H
def XT:PSs X [] WV:=λ_ _ σ H _ I h=>wO ⟨σ,H,I,h⟩
def VP(h1:PS X st t)(h2:PSs X rest u):PSs X (st::rest) (FA t u):=by
 intro pins s σ H D I h;refine wpAny_execs_cons (kC (h1 pins s σ H { D with nx:=u D } I h) λf s1 q=>?_);cases f with
 | next=>
  obtain⟨σ',H',I',q⟩:=q;exact h2 pins s1 σ' H' D I' q
 | ret v=>exact q
 | brk=>exact q
 | cont=>exact q
def XN(h1:PS X st t):PSs X [st] t:=by
 intro pins s σ H D I h;refine wpAny_execs_cons (kC (h1 pins s σ H D I h) λf s1 q=>?_);cases f with
 | next=>exact wO q
 | ret v=>exact q
 | brk=>exact q
 | cont=>exact q
def YI:PS X (.Pass pos) WV:=λ_ _ σ H _ I h=>wpAny_Pass ⟨σ,H,I,h⟩
def Inv.quiet{pins:List (Addr×Obj)}{σ:St}{H:Hp}{s:Shared}(I:Inv X pins σ H s):interactive X.env=false:=by simp[interactive,I.ok.kind]
def Dq(te:TE):TS:=λD σ H=>te σ H λ_ H1=>D.nx σ H1
def Y6(he:PE X e te)(hs:↥(swapsWith e none pos.line X.env=pure false)):PS X (.Expr e pos) (Dq te):=by
 intro pins s σ H D I h;exact wpAny_Expr_any (kC (he pins s σ H _ I h) λv s1 ⟨x,H1,I1,r1,q1⟩=>⟨σ,H1,I1,q1⟩) I.quiet hs
def DX(te:TE):TS:=λD σ H=>te σ H D.rt
def BE(he:PE X e te):PS X (.Return (some e) pos) (DX te):=by
 intro pins s σ H D I h;exact wpAny_Return_some (kC (he pins s σ H _ I h) λv s1 ⟨x,H1,I1,r1,q1⟩=>⟨x,σ,H1,I1,r1,q1⟩)
def Fz(c:TT)(t u:TS):TS:=λD σ H=>c σ H λb H1=>if b=true then t D σ H1 else u D σ H1
def DH{c:Expr}{a b:List Stmt}{tc:TT}(hc:PT X c tc)(ha:PSs X a t)(hb:PSs X b u):PS X (.If c a b pos) (Fz tc t u):=by
 intro pins s σ H D I h;refine wpAny_If (kC (hc pins s σ H _ I h) λd s1 ⟨H1,I1,q1⟩=>?_);cases d with
 | true=>exact ha pins s1 σ H1 D I1 q1
 | false=>exact hb pins s1 σ H1 D I1 q1
end
abbrev TG:=V->St->Hp->(St->Hp->Prop)->Prop
abbrev iT:=List V->St->Hp->(St->Hp->Prop)->Prop
def PG(X:Cx)(target:Expr)(t:TG):Prop:=
 ∀(pins:List (Addr×Obj)) (s:Shared) (σ:St) (H:Hp) (v:V) (u:Value) (Q:St->Hp->Prop),Inv X pins σ H s->RelV v u->t v σ H Q->
  wpAny (model X.prog X.w) X.A (assign target X.env u) (λ_ s'=>∃σ' H',Inv X pins σ' H' s'/\Q σ' H') X.xe s
def PGs(X:Cx)(ts:List Expr)(t:iT):Prop:=
 ∀(pins:List (Addr×Obj)) (s:Shared) (σ:St) (H:Hp) (vs:List V) (us:List Value) (Q:St->Hp->Prop),Inv X pins σ H s->Vals vs us->t vs σ H Q->
  wpAny (model X.prog X.w) X.A (assignInOrder ((assignEach ts X.env).map (·.2)) us) (λ_ s'=>∃σ' H',Inv X pins σ' H' s'/\Q σ' H') X.xe s
abbrev QL:=V->V->V->Hp->(Hp->Prop)->Prop
def QM(X:Cx)(t:QL):Prop:=
 ∀(pins:List (Addr×Obj)) (s:Shared) (σ:St) (H:Hp) (o i v:V) (ov iv u:Value) (Q:Hp->Prop),Inv X pins σ H s->RelV o ov->RelV i iv->RelV v u->t o i v H Q->
  wpAny (model X.prog X.w) X.A (setItem ov iv u) (λ_ s'=>∃H',Inv X pins σ H' s'/\Q H') X.xe s
section
variable{X:Cx}{pos:Pos}
def W3(i:Nat):TG:=λv σ H Q=>Q (σ.set i (some v)) H
def Xp{i:Nat}{x:Str}(hN:X.N.Nodup)(hi:X.N[i]?=some x)(hx:Loc X.env.scope x)(hf:X.fn x=true\/X.env.scope.names.lookup x=some .local:=by first | exact .inl rfl | exact .inr rfl | assumption):PG X (.Name x pos) (W3 i):=by
 intro pins s σ H v u Q I r h;exact wpAny_assign_Name (rX I hN hi hx r (λs' I'=>⟨_,H,I',h⟩) hf)
def FD:iT:=λvs σ H Q=>vs=[]/\Q σ H
def Dc(t:TG)(u:iT):iT:=λvs σ H Q=>∃v r,vs=v::r/\t v σ H λσ' H'=>u r σ' H' Q
def Xc:PGs X [] FD:=by
 intro pins s σ H vs us Q I r h;obtain⟨e,h⟩:=h;subst e;cases r;exact assignInOrder_nil ⟨σ,H,I,h⟩
def VR{e:Expr}{es:List Expr}{t:TG}{u:iT}(h1:PG X e t)(h2:PGs X es u)
  (hs:↥((assignEach (e::es) X.env).map (·.2)=assign e X.env::(assignEach es X.env).map (·.2))):PGs X (e::es) (Dc t u):=by
 intro pins s σ H vs us Q I r h;obtain⟨v,vr,e1,h⟩:=h;subst e1;cases r with
 | cons r rr=>
  rw[hs];refine assignInOrder_cons (kC (h1 pins s σ H _ _ _ I r h) λ_ s1 ⟨σ1,H1,I1,q1⟩=>?_);exact h2 pins s1 σ1 H1 _ _ Q I1 rr q1
def Fh(K:PySem.W.Frag)(n:Nat)(t:iT):TG:=λv σ H Q=>∃a xs,v=.ref a/\SqT K H a xs/\xs.length=n/\t xs σ H Q
def Bq{es:List Expr}{k:Nat}{t:iT}{n:Nat}(hc:X.calm=true)(h:PGs X es t)
  (hn:↥((assignEach es X.env).length=n)) (hst:↥((assignEach es X.env).findIdx? (·.1)=none)):PG X (.Tuple es k pos) (Fh X.K n t):=by
 intro pins s σ H v u Q I r hw;obtain⟨a,xs,e1,hq,hl,hw⟩:=hw;subst e1;cases r;obtain⟨its,rv,ht,hz⟩:=I.tuple hq;refine assign_Tuple_tuple (I.ok.hd hc) ht (by simp[hn,<-hl,rv.length]) hst λh' hx=>?_
 have I1:Inv X pins σ H { s with heap:=h' }:=I.kept (t':=s.toks) λb o e=>hx b o (zX (zF e)) e
 exact h pins _ σ H xs _ Q I1 (by simpa using rv) hw
def Fg(to ti:TE)(t:QL):TG:=λv σ H Q=>to σ H λo H1=>ti σ H1 λi H2=>t o i v H2 λH3=>Q σ H3
def US{o i:Expr}{to ti:TE}{t:QL}(ho:PE X o to)(hi:PE X i ti)(hs:QM X t)
  (ha:∀v,assign (.Subscript o i pos) X.env v=(do
   let ov <-holding [v] (eval o X.env)
   let iv <-holding [v,ov] (eval i X.env)
   standAt pos
   holding [v,ov,iv] (setItem ov iv v)
   release [v,ov,iv] []):=by intro _;rfl):PG X (.Subscript o i pos) (Fg to ti t):=by
 intro pins s σ H v u Q I r h;rw[ha];refine za (jf (kC (ho pins s σ H _ I h) λov s1 ⟨x,H1,I1,r1,q1⟩=>?_));refine za (jf (kC (hi pins s1 σ H1 _ I1 q1) λiv s2 ⟨y,H2,I2,r2,q2⟩=>?_));refine za (yj (za (jf (kC (hs pins s2 σ H2 x y v ov iv u _ I2 r1 r2 r q2) λ_ s3 ⟨H3,I3,q3⟩=>?_))));exact wpAny_release ⟨σ,H3,I3,q3⟩
def UR(te:TE)(g:TG):TS:=λD σ H=>te σ H λx H1=>g x σ H1 D.nx
def Bu{tg e:Expr}{te:TE}{g:TG}(he:PE X e te)(hg:PG X tg g)(hs:↥(swapsWithSole [tg] e pos.line X.env=pure false))(hw:↥(swappedStores [tg] e X.env=pure none))
  (h1:↥((assignEach [tg] X.env).map (·.2)=[assign tg X.env])):PS X (.Assign [tg] e pos) (UR te g):=by
 intro pins s σ H D I h;refine wpAny_Assign_stores (kC (he pins s σ H _ I h) λv s1 ⟨x,H1,I1,r1,q1⟩=>?_) hs hw;rw[h1];exact kC (hg pins s1 σ H1 x v _ I1 r1 q1) λ_ s2 q=>q
def Cs{i:Nat}{x:Str}{e:Expr}{te:TE}{pos':Pos}(hN:X.N.Nodup)(hi:X.N[i]?=some x)(hx:Loc X.env.scope x)(he:PE X e te)(hs:↥(swapsWith e (some (.Name x pos')) pos.line X.env=pure false))(hf:X.fn x=true\/X.env.scope.names.lookup x=some .local:=by first | exact .inl rfl | exact .inr rfl | assumption) :
  PS X (.Assign [.Name x pos'] e pos) (UR te (W3 i)):=by
 intro pins s σ H D I h;refine wpAny_Assign_Name (kC (he pins s σ H _ I h) λv s1 ⟨y,H1,I1,r1,q1⟩=>?_) hs;exact rX I1 hN hi hx r1 (λs2 I2=>⟨_,H1,I2,q1⟩) hf
end
section
variable{X:Cx}{pos:Pos}
def Up(c:TT)(tb:TS):TS:=λD σ H=>∃W:Nat->St->Hp->Prop,(∃m,W m σ H)/\∀m σ H,W m σ H->
 c σ H λb H1=>if b=true then ∃N:St->Hp->Prop,(∀σ' H',N σ' H'->∃m',m'<m/\W m' σ' H')/\tb { D with nx:=N,ct:=N,bk:=D.nx } σ H1 else D.nx σ H1
def Vv{c:Expr}{body:List Stmt}{tc:TT}{tb:TS}(hp:PassesOwn (model X.prog X.w) X.A X.env X.xe)(hc:PT X c tc)(hb:PSs X body tb):PS X (.While c body [] pos) (Up tc tb):=by
 intro pins s σ H D I h;obtain⟨W,⟨m0,w0⟩,turn⟩:=h;refine wpAny_While (codeAny_whileLoop (λn s'=>∃σ' H',Inv X pins σ' H' s'/\W n σ' H') ?_ m0 ⟨σ,H,I,w0⟩);rintro n s1 ⟨σ1,H1,I1,w1⟩;refine qL hp (kC (hc pins s1 σ1 H1 _ I1 (turn n σ1 H1 w1)) λb s2 ⟨H2,I2,q2⟩=>?_);cases b with
 | true=>
  obtain⟨N,hN,q2⟩:=q2;rw[zY rfl];refine qL hp (kC (hb pins s2 σ1 H2 _ I2 q2) λf s3 q3=>?_);cases f with
  | next=>
   obtain⟨σ3,H3,I3,n3⟩:=q3;obtain⟨m',hm,w3⟩:=hN σ3 H3 n3;exact⟨m',hm,σ3,H3,I3,w3⟩
  | cont=>
   obtain⟨σ3,H3,I3,n3⟩:=q3;obtain⟨m',hm,w3⟩:=hN σ3 H3 n3;exact⟨m',hm,σ3,H3,I3,w3⟩
  | brk=>exact q3
  | ret v=>exact q3
 | false=>
  rw[jc kh];exact wO ⟨σ1,H2,I2,q2⟩
end
structure It where
 go:Nat->Hp->Prop
 yld:Nat->Hp->V->Hp->Prop
 stop:Nat->Hp->Prop
def uN(X:Cx)(pins:List (Addr×Obj))(H:Hp)(b:Addr):Prop:=
 H b=none/\b≠X.env.locals/\b∉X.fs/\(b∈X.ex\/X.s₀.heap.objs.size<=b)/\(∀x c,X.env.cells.lookup x=some c->c≠b)/\∀p∈X.pn++pins,p.1≠b
def Inv.fpOk{X:Cx}{pins:List (Addr×Obj)}{σ:St}{H H':Hp}{s:Shared}{b:Addr}(I:Inv X pins σ H s)(hb:s.heap.objs.size<=b)(hn:H' b=none):uN X pins H' b:=by
 refine⟨hn,ql (zN I.lt hb),I.nofs hb,.inr (zT I.sz hb),λx c e z=>?_,λp hp z=>?_⟩
 .obtain⟨v,q⟩:=I.cell x c e
  exact absurd (zN q.lt (by rw[z];exact hb)) (jE _)
 .exact absurd (zN (zF (I.pin p hp).1) (by rw[z];exact hb)) (jE _)
structure Turn(P:Program)(w:World)(K:PySem.W.Frag)(tg:Expr)(J:It)(fp:List Addr)(it:Addr)(tn:Nat->Heap->Prop):Prop where
 mem:it∈fp
 obj:∀i h,tn i h->∀b∈fp,∃o,h.get? b=some o/\∀v,o.data≠.cell v
 keep:∀i h h',tn i h->(∀b∈fp,∀o,h.get? b=some o->h'.get? b=some o)->tn i h'
 item:∀(X:Cx),X.prog=P->X.w=w->X.K=K->X.calm=true->∀(i:Nat) (pins:List (Addr×Obj)) (s:Shared) (σ:St) (H:Hp) (E:Value->Shared->Prop),Inv X pins σ H s->(∀b∈fp,uN X pins H b)->tn i s.heap->J.go i H->
  wpAny (model P w) X.A (pyNext (.ref it)) (λr s1=>∃u,r=some u /\
   wpAny (model P w) X.A (letOwnedTupleGo tg (.ref it) u) (λ_ s2=>∃x H',Inv X pins σ H' s2/\RelV x u/\J.yld i H x H'/\tn (i+1) s2.heap/\∀b∈fp,H' b=none) E s1) E s
 done:∀(X:Cx),X.prog=P->X.w=w->X.K=K->X.calm=true->∀(i:Nat) (pins:List (Addr×Obj)) (s:Shared) (σ:St) (H:Hp) (E:Value->Shared->Prop),Inv X pins σ H s->(∀b∈fp,uN X pins H b)->tn i s.heap->J.stop i H->
  wpAny (model P w) X.A (pyNext (.ref it)) (λr s1=>r=none/\Inv X pins σ H s1) E s
 self:∀(A:Around) (i:Nat) (s:Shared) (Q:Value->Shared->Prop) (E:Value->Shared->Prop),tn i s.heap->Q (.ref it) s->wpAny (model P w) A (pyIter (.ref it)) Q E s
abbrev TI:=St->Hp->(It->Hp->Prop)->Prop
def PIE(X:Cx)(pins:List (Addr×Obj))(σ:St)(tg:Expr)(R:It->Hp->Prop)(itv:Value)(s2:Shared):Prop:=
 ∃(it:Addr) (fp:List Addr) (tn:Nat->Heap->Prop) (J:It) (H':Hp),itv=.ref it/\Inv X pins σ H' s2/\Turn X.prog X.w X.K tg J fp it tn/\tn 0 s2.heap/\(∀b∈fp,uN X pins H' b)/\R J H'
def PI(X:Cx)(tg iter:Expr)(wi:TI):Prop:=
 ∀(pins:List (Addr×Obj)) (s:Shared) (σ:St) (H:Hp) (R:It->Hp->Prop),Inv X pins σ H s->wi σ H R->
  wpAny (model X.prog X.w) X.A (eval iter X.env) (λv s1=>wpAny (model X.prog X.w) X.A (pyIter v) (PIE X pins σ tg R) X.xe s1) X.xe s
def l3 {M : Model} {A : Around} {E : Value -> Shared -> Prop} {s : Shared} {tg : Expr} {it : Addr} {u : Value} {o : Obj} {n : String} {vs : Array Value} {Q : Unit -> Shared -> Prop} (ho : s.heap.get? it = some o) (hc : o.cls = .type n) (hd : o.data = .fields vs)
    (hn : ["enumerate", "zip", "dict_itemiterator", "dict_reverseitemiterator", "odict_iterator", "itertools.zip_longest", "itertools.pairwise"].contains n = false) (hQ : Q () s) : wpAny M A (letOwnedTupleGo tg (.ref it) u) Q E s := by
  unfold letOwnedTupleGo;cases tg <;> first
    | exact zu hQ
    | (cases u <;> first
        | exact zu hQ
        | (refine za (wpAny_load ho ?_)
           rw [hc, hd];show wpAny M A (if (["enumerate", "zip", "dict_itemiterator", "dict_reverseitemiterator", "odict_iterator", "itertools.zip_longest", "itertools.pairwise"].contains n && vs[0]? == some (rawInt _)) = true then _ else _) Q E s
           rw [jc (by intro h;rw [hn, Bool.false_and] at h;cases h)]
           exact zu hQ))
def Yr(K:PySem.W.Frag)(a:Addr):It:=
 ⟨λi H=>∃xs x,SqL K H a xs/\xs[i]?=some x,λi H x H'=>H'=H/\∀xs,SqL K H a xs->xs[i]?=some x,λi H=>∃xs,SqL K H a xs/\xs.length<=i⟩
def CC(K:PySem.W.Frag)(a:Addr):It:=
 ⟨λi H=>∃xs x,SqT K H a xs/\xs[i]?=some x,λi H x H'=>H'=H/\∀xs,SqT K H a xs->xs[i]?=some x,λi H=>∃xs,SqT K H a xs/\xs.length<=i⟩
def Ye(lo:Int)(n:Nat):It:=⟨λi _=>i<n,λi H x H'=>H'=H/\x=.int (lo+i),λi _=>n<=i⟩
def Ju{P:Program}{w:World}{K:PySem.W.Frag}{tg:Expr}(a it:Addr):Turn P w K tg (Yr K a) [it] it (λi h=>h.IsListIter it a i) where
 mem:=by simp
 obj:=λi h st b hb=>by
  have e:b=it:=by simpa using hb
  subst e;obtain⟨o,e,c,d⟩:=st;exact⟨o,e,λv z=>by rw[d] at z;cases z⟩
 keep:=λi h h' st k=>st.at λo e=>k it (by simp) o e
 item:=by
  intro X hP hw hK hc i pins s σ H E I hf st hg;subst hP hw hK;obtain⟨xs,x,hq,hx⟩:=hg;obtain⟨its,rv,p,hz⟩:=I.list hq;obtain⟨u,hu,ru⟩:=rv.get hx;obtain⟨f0,f1,f2,f3,f4,f5⟩:=hf it (by simp);refine wpAny_pyNext_list_item st p.isList (x:=u) (by simpa using hu) λh' st' sb=>?_
  have I1:Inv X pins σ H { s with heap:=h' }:=I.turned (t':=s.toks) (λb o hb e=>(sb.2 b hb).trans e) f0 f1 f3 f4 f5;obtain⟨o,e,c,d⟩:=id st';exact⟨u,rfl,l3 (s:={ s with heap:=h' }) e c d (by decide) ⟨x,H,I1,ru,⟨rfl,λys hy=>by rw[I.list_inj hy hq];exact hx⟩,st',λb hb=>(hf b hb).1⟩⟩
 done:=by
  intro X hP hw hK hc i pins s σ H E I hf st hg;subst hP hw hK;obtain⟨xs,hq,hx⟩:=hg;obtain⟨its,rv,p,hz⟩:=I.list hq;obtain⟨f0,f1,f2,f3,f4,f5⟩:=hf it (by simp);have hl:=rv.length;exact wpAny_pyNext_list_end (I.ok.hd hc) st p.isList (by simp;omega) λh' eb=>⟨rfl,I.turned (t':=s.toks) (λb o hb e=>eb b o hb e) f0 f1 f3 f4 f5⟩
 self:=λ_ _ _ _ _ st h=>wpAny_pyIter_listiter st h
def Kd{P:Program}{w:World}{K:PySem.W.Frag}{tg:Expr}(a it:Addr):Turn P w K tg (CC K a) [it] it (λi h=>h.IsTupleIter it a i) where
 mem:=by simp
 obj:=λi h st b hb=>by
  have e:b=it:=by simpa using hb
  subst e;obtain⟨o,e,c,d⟩:=st;exact⟨o,e,λv z=>by rw[d] at z;cases z⟩
 keep:=λi h h' st k=>st.at λo e=>k it (by simp) o e
 item:=by
  intro X hP hw hK hc i pins s σ H E I hf st hg;subst hP hw hK;obtain⟨xs,x,hq,hx⟩:=hg;obtain⟨its,rv,p,hz⟩:=I.tuple hq;obtain⟨u,hu,ru⟩:=rv.get hx;obtain⟨f0,f1,f2,f3,f4,f5⟩:=hf it (by simp);refine wpAny_pyNext_tuple_item st (show s.heap.IsTuple a its.toArray from p) (x:=u) (by simpa using hu) λh' st' sb=>?_
  have I1:Inv X pins σ H { s with heap:=h' }:=I.turned (t':=s.toks) (λb o hb e=>(sb.2 b hb).trans e) f0 f1 f3 f4 f5;obtain⟨o,e,c,d⟩:=id st';exact⟨u,rfl,l3 (s:={ s with heap:=h' }) e c d (by decide) ⟨x,H,I1,ru,⟨rfl,λys hy=>by rw[I.tuple_inj hy hq];exact hx⟩,st',λb hb=>(hf b hb).1⟩⟩
 done:=by
  intro X hP hw hK hc i pins s σ H E I hf st hg;subst hP hw hK;obtain⟨xs,hq,hx⟩:=hg;obtain⟨its,rv,p,hz⟩:=I.tuple hq;obtain⟨f0,f1,f2,f3,f4,f5⟩:=hf it (by simp);have hl:=rv.length;exact wpAny_pyNext_tuple_end (I.ok.hd hc) st (show s.heap.IsTuple a its.toArray from p) (by simp;omega) λh' eb=>⟨rfl,I.turned (t':=s.toks) (λb o hb e=>eb b o hb e) f0 f1 f3 f4 f5⟩
 self:=λ_ _ _ _ _ st h=>wpAny_pyIter_tupleiter st h
def ZZ{P:Program}{w:World}{K:PySem.W.Frag}{tg:Expr}(it:Addr)(lo:Int)(n:Nat):Turn P w K tg (Ye lo n) [it] it (λi h=>IsRangeIter h it (lo+(i:Nat)*1) ((n:Int)-(i:Nat)) 1) where
 mem:=by simp
 obj:=λi h st b hb=>by
  have e:b=it:=by simpa using hb
  subst e
  exact⟨_,st,λv z=>by
   have z':Data.fields _=Data.cell v:=z
   cases z'⟩
 keep:=λi h h' st k=>k it (by simp) _ st
 item:=by
  intro X hP hw hK hc i pins s σ H E I hf st hg;subst hP hw hK;obtain⟨f0,f1,f2,f3,f4,f5⟩:=hf it (by simp);have W:=Walks.range (prog:=X.prog) (w:=X.w) (I.ok.hd hc) it lo 1 n;refine W.item i s _ _ hg st λv h' tk hv st' kk=>?_
  obtain⟨t,rfl⟩:=hv;have I1:Inv X pins σ H { s with heap:=h',toks:=tk }:=I.turned (λb o hb e=>kk b o (by simpa using hb) e) f0 f1 f3 f4 f5;refine⟨_,rfl,l3 (s:={ s with heap:=h',toks:=tk }) (n:="range_iterator") st' rfl rfl (by decide) ⟨.int (lo+i),H,I1,⟨t,?_⟩,⟨rfl,rfl⟩,st',λb hb=>(hf b hb).1⟩⟩;rw[Int.mul_one]
 done:=by
  intro X hP hw hK hc i pins s σ H E I hf st hg;subst hP hw hK;obtain⟨f0,f1,f2,f3,f4,f5⟩:=hf it (by simp);exact wpAny_pyNext_range_end (I.ok.hd hc) st (by have:n<=i:=hg;omega) λh' eb=>⟨rfl,I.turned (t':=s.toks) (λb o hb e=>eb b o hb e) f0 f1 f3 f4 f5⟩
 self:=λ_ _ _ _ _ st h=>wpAny_pyIter_rangeiter st h
end L2
namespace L2
open PySem PySem.Spec PyProof.Rows
section
variable{X:Cx}{tg:Expr}
def Wt{pins:List (Addr×Obj)}{σ:St}{H:Hp}{s:Shared}{R:It->Hp->Prop}{E:Value->Shared->Prop}{lo hi:Int}{t u v:Tok}{tk:Nat}(I:Inv X pins σ H s)(h1:-(2 ^ 62)<=lo)(h2:lo<2 ^ 62)(h3:-(2 ^ 62)<=hi)(h4:hi<2 ^ 62)
  (q:R (Ye lo (hi-lo).toNat) H):wpAny (model X.prog X.w) X.A (pyIter (.ref s.heap.objs.size)) (PIE X pins σ tg R) E { s with heap:=s.heap.push { cls:=.type "range",data:=.fields #[.int lo t,.int hi u,.int 1 v] },toks:=tk }:=by
 refine wpAny_pyIter_range (IsRange.new ..) (small_one h1 h2 h3 h4) ?_;have I1:Inv X pins σ H { s with heap:=s.heap.push { cls:=.type "range",data:=.fields #[.int lo t,.int hi u,.int 1 v] },toks:=tk }:=I.kept λb o e=>zf _ e
 refine⟨(s.heap.push { cls:=.type "range",data:=.fields #[.int lo t,.int hi u,.int 1 v] }).objs.size,[(s.heap.push { cls:=.type "range",data:=.fields #[.int lo t,.int hi u,.int 1 v] }).objs.size],_,_,H,rfl,
  I1.kept (t':=tk) λb o e=>zf _ e,ZZ _ lo (hi-lo).toNat,?_,λb hb=>?_,q⟩
 .have e1:lo+((0:Nat):Int)*1=lo:=by simp
  have e2:(((hi-lo).toNat:Nat):Int)-((0:Nat):Int)=Builtin.Range.rangeSize lo hi 1:=by rw[rangeSize_one];split<;>omega
  show IsRangeIter _ _ (lo+((0:Nat):Int)*1) ((((hi-lo).toNat:Nat):Int)-((0:Nat):Int)) 1
  rw[e1,e2];exact zO _ rfl
 .have e:b=(s.heap.push { cls:=.type "range",data:=.fields #[.int lo t,.int hi u,.int 1 v] }).objs.size:=by simpa using hb
  subst e;exact I1.fpOk (zg _) (I1.hok.fresh (zg _))
def DI(ta:TA):TI:=λσ H R=>ta σ H λvs H1=>∃j:Int,vs=[.int j]/\-(2 ^ 62)<=j/\j<2 ^ 62/\R (Ye 0 j.toNat) H1
def Qn{a:Expr}{ta:TA}{p pos:Pos}(hg:Gl X "range")(hm:X.mg "range" = none)(ha:PA X [a] ta)(hs:↥(starEach [a] X.env=[(false,eval a X.env)])):PI X tg (.Call (.Name "range" p) [a] [] pos) (DI ta):=by
 intro pins s σ H R I h;refine Call_ (ug I hg hm boot_range (jo (kC (ha pos pins s σ H _ I h) λus s1 ⟨vs,H1,I1,r1,q1⟩=>?_) hs rfl));obtain⟨j,e,q1,q2,q⟩:=q1;subst e;cases r1 with
 | cons r rr=>
  cases rr;obtain⟨t,rfl⟩:=r;exact call_range_1 (Wt I1 ∅ ∅ q1 q2 (by simpa using q))
def D0(wi:TI)(g:TG)(tb:TS):TS:=λD σ H=>wi σ H λJ H1=>∃W:Nat->Nat->St->Hp->Prop,(∃m,W 0 m σ H1)/\∀i m σ H,W i m σ H->
 (J.stop i H/\D.nx σ H)\/(J.go i H/\∃N:St->Hp->Prop,(∀σ' H',N σ' H'->∃m',m'<m/\W (i+1) m' σ' H')/\∀x H',J.yld i H x H'->g x σ H' λσ2 H2=>tb { D with nx:=N,ct:=N,bk:=D.nx } σ2 H2)
def ie(fp:List Addr)(h:Heap):List (Addr×Obj):=fp.filterMap λb=>(h.get? b).map λo=>(b,o)
def ar{fp:List Addr}{h:Heap}{b:Addr}{o:Obj}(hb:b∈fp)(e:h.get? b=some o):(b,o)∈ie fp h:=xJ.mpr ⟨b,hb,by rw[e];rfl⟩
def Qo{fp:List Addr}{h:Heap}{p:Addr×Obj}(hp:p∈ie fp h):p.1∈fp/\h.get? p.1=some p.2:=by
 obtain⟨b,hb,e⟩:=xJ.mp hp;cases q:h.get? b with
 | none=>rw[q] at e;cases e
 | some o=>
  rw[q] at e;have e':(b,o)=p:=zZ e;subst e';exact⟨hb,q⟩
def Inv.pinned{pins:List (Addr×Obj)}{σ:St}{H:Hp}{s:Shared}{fp:List Addr}(I:Inv X pins σ H s)(hf:∀b∈fp,uN X pins H b)(ho:∀b∈fp,∃o,s.heap.get? b=some o/\∀v,o.data≠.cell v):Inv X (pins++ie fp s.heap) σ H s:=
 I.pins_of λp hp=>(zW.mp hp).elim (λz=>I.pin p (jh _ z)) λz=>by
  obtain⟨hb,e⟩:=Qo z;obtain⟨f0,f1,f2,_⟩:=hf p.1 hb;obtain⟨o,e',d⟩:=ho p.1 hb;rw[e] at e';cases e';exact⟨e,f0,f1,f2,d⟩
def Inv.unpinned{pins pl:List (Addr×Obj)}{σ:St}{H:Hp}{s:Shared}(I:Inv X (pins++pl) σ H s):Inv X pins σ H s:=I.pins_of λp hp=>I.pin p (jh _ (jZ _ hp))
def BI{iter:Expr}{body:List Stmt}{wi:TI}{g:TG}{tb:TS}{pos:Pos}(hp:PassesOwn (model X.prog X.w) X.A X.env X.xe)(hc:X.calm=true)(hi:PI X tg iter wi)(hg:PG X tg g)(hb:PSs X body tb)
  (hs:∀x,foldedSetIterable iter X.env x=pure x:=by intro _;rfl):PS X (.For tg iter body [] pos) (D0 wi g tb):=by
 intro pins s σ H D I h;refine wpAny_For (kC (hi pins s σ H _ I h) λv s1 h1=>kC h1 λitv s2 h2=>?_) hs;obtain⟨it,fp,tn,J,H2,e,I2,T,st2,f2,W,⟨m0,w0⟩,turn⟩:=h2;subst e;have stat:∀{H':Hp},(∀b∈fp,H' b=none)->∀b∈fp,uN X pins H' b:=λhn b hb=>⟨hn b hb,(f2 b hb).2⟩
 refine codeAny_forLoop_any (λn s'=>∃i σ' H',Inv X pins σ' H' s'/\tn i s'.heap/\(∀b∈fp,H' b=none)/\W i n σ' H') ?_ m0 ⟨0,σ,H2,I2,st2,λb hb=>(f2 b hb).1,w0⟩;rintro n s3 ⟨i,σ3,H3,I3,st3,fr3,w3⟩;rcases turn i n σ3 H3 w3 with ⟨stop,qn⟩ | ⟨go,N,hN,step⟩
 .refine qL hp (kC (T.done X rfl rfl rfl hc i pins s3 σ3 H3 X.xe I3 (stat fr3) st3 stop) λr s4 ⟨hr,I4⟩=>?_)
  subst hr;exact wO ⟨σ3,H3,I4,qn⟩
 .refine qL hp (kC (T.item X rfl rfl rfl hc i pins s3 σ3 H3 X.xe I3 (stat fr3) st3 go) λr s4 ⟨u,hr,h4⟩=>?_)
  subst hr;refine qL hp (kC h4 λ_ s5 ⟨x,H5,I5,r5,y5,st5,fr5⟩=>?_);have I5':=I5.pinned (stat fr5) (T.obj _ _ st5);refine qL hp (kC (hg _ s5 σ3 H5 x u _ I5' r5 (step x H5 y5)) λ_ s6 ⟨σ6,H6,I6,q6⟩=>?_);refine qL hp (kC (hb _ s6 σ6 H6 _ I6 q6) λf s7 q7=>?_);have again:∀{σ7:St} {H7:Hp},Inv X (pins++ie fp s5.heap) σ7 H7 s7->N σ7 H7->∃m,m<n/\∃i σ' H',Inv X pins σ' H' s7/\tn i s7.heap/\(∀b∈fp,H' b=none)/\W i m σ' H':=λ{σ7 H7} I7 n7=>by
   obtain⟨m',hm,w7⟩:=hN σ7 H7 n7;refine⟨m',hm,i+1,σ7,H7,I7.unpinned,T.keep _ _ _ st5 λb hb o e=>(I7.pin (b,o) (jh _ (jh _ (ar hb e)))).1,λb hb=>?_,w7⟩;obtain⟨o,e,d⟩:=T.obj _ _ st5 b hb;exact(I7.pin (b,o) (jh _ (jh _ (ar hb e)))).2.1
  cases f with
  | next=>obtain⟨σ7,H7,I7,n7⟩:=q7;exact again I7 n7
  | cont=>obtain⟨σ7,H7,I7,n7⟩:=q7;exact again I7 n7
  | brk=>obtain⟨σ7,H7,I7,q7⟩:=q7;exact⟨σ7,H7,I7.unpinned,q7⟩
  | ret v=>obtain⟨x7,σ7,H7,I7,r7,q7⟩:=q7;exact⟨x7,σ7,H7,I7.unpinned,r7,q7⟩
end
end L2
namespace L2
open PySem PySem.Spec PyProof.Rows
abbrev R2:=V->V->Hp->VK->Prop
def qo(X:Cx)(f:Value->Value->Sem Value)(r:R2):Prop:=
 ∀(pins:List (Addr×Obj)) (s:Shared) (σ:St) (H:Hp) (x y:V) (v u:Value) (Q:VK),Inv X pins σ H s->RelV x v->RelV y u->r x y H Q->
  wpAny (model X.prog X.w) X.A (f v u) (EP X pins σ Q) X.xe s
def Jc(X:Cx)(f:Value->Sem Value)(r:V->Hp->VK->Prop):Prop:=
 ∀(pins:List (Addr×Obj)) (s:Shared) (σ:St) (H:Hp) (x:V) (v:Value) (Q:VK),Inv X pins σ H s->RelV x v->r x H Q->
  wpAny (model X.prog X.w) X.A (f v) (EP X pins σ Q) X.xe s
def yB(X:Cx)(f:Value)(r:List V->Hp->VK->Prop):Prop:=
 ∀(pins:List (Addr×Obj)) (s:Shared) (σ:St) (H:Hp) (xs:List V) (us:List Value) (Q:VK),Inv X pins σ H s->Vals xs us->r xs H Q->
  wpAny (model X.prog X.w) X.A (call f us) (EP X pins σ Q) X.xe s
def J3(r:R2)(ta tb:TE):TE:=λσ H Q=>ta σ H λx H1=>tb σ H1 λy H2=>r x y H2 Q
def FQ(r:V->Hp->VK->Prop)(ta:TE):TE:=λσ H Q=>ta σ H λx H1=>r x H1 Q
def rI(C:Int->Int->Prop)(g:Int->Int->V):R2:=λx y H Q=>∃i j,x=.int i/\y=.int j/\C i j/\Q (g i j) H
def oq(g:Int->Int->V):R2:=λx y H Q=>∃i j,x=.int i/\y=.int j/\Q (g i j) H
def rU(g:Int->V):V->Hp->VK->Prop:=λx H Q=>∃i,x=.int i/\Q (g i) H
section
variable{X:Cx}{a b c:Expr}{ta tb tc:TE}{pos:Pos}
def We(ha:PE X a ta)(hb:PE X b tb){pins:List (Addr×Obj)}{s:Shared}{σ:St}{H:Hp}{R:V->V->Hp->Prop}(I:Inv X pins σ H s)
  (h:ta σ H λx H1=>tb σ H1 λy H2=>R x y H2) {Q:Value->Shared->Prop} {f:Value->Value->Sem Value}
  (hf:∀v u s2 x y H2,Inv X pins σ H2 s2->RelV x v->RelV y u->R x y H2->wpAny (model X.prog X.w) X.A (f v u) Q X.xe s2) :
  wpAny (model X.prog X.w) X.A (eval a X.env) (λv s₁=>wpAny (model X.prog X.w) X.A (eval b X.env) (λu s₂=>wpAny (model X.prog X.w) X.A (f v u) Q X.xe s₂) X.xe s₁) X.xe s:=by
 refine kC (ha pins s σ H _ I h) λv s1 ⟨x,H1,I1,r1,q1⟩=>?_
 refine kC (hb pins s1 σ H1 _ I1 q1) λu s2 ⟨y,H2,I2,r2,q2⟩=>?_
 exact hf v u s2 x y H2 I2 r1 r2 q2
def De{op:Operator}{r:R2}(ho:qo X (binaryOp op) r)(ha:PE X a ta)(hb:PE X b tb):PE X (.BinOp a op b pos) (J3 r ta tb):=by
 intro pins s σ H Q I h;exact wpAny_BinOp (We ha hb I h λv u s2 x y H2 I2 rx ry q=>ho pins s2 σ H2 x y v u Q I2 rx ry q)
def DJ{op:UnaryOp}{r:V->Hp->VK->Prop}(ho:Jc X (unaryOp op) r)(ha:PE X a ta):PE X (.UnaryOp op a pos) (FQ r ta):=by
 intro pins s σ H Q I h;exact UnaryOp_ (kC (ha pins s σ H _ I h) λv s1 ⟨x,H1,I1,r1,q1⟩=>ho pins s1 σ H1 x v Q I1 r1 q1)
def Ca{f:Value->Value->Sem Value}{C:Int->Int->Prop}{g:Int->Int->Int}
  (rule:∀(i j:Int) (t u:Tok) (s:Shared) (Q:Value->Shared->Prop) (E:Value->Shared->Prop),C i j->Q (.int (g i j) s.toks) { s with toks:=s.toks+1 }->wpAny (model X.prog X.w) X.A (f (.int i t) (.int j u)) Q E s) :
  qo X f (rI C λi j=>.int (g i j)):=by
 intro pins s σ H x y v u Q I rx ry h;obtain⟨i,j,rfl,rfl,hc,q⟩:=h;obtain⟨t,rfl⟩:=rx;obtain⟨t',rfl⟩:=ry;exact rule i j t t' s _ _ hc ⟨.int (g i j),H,I.tok _,⟨_,rfl⟩,q⟩
def Co{f:Value->Value->Sem Value}{g:Int->Int->Int}
  (rule:∀(i j:Int) (t u:Tok) (s:Shared) (Q:Value->Shared->Prop) (E:Value->Shared->Prop),Q (.int (g i j) s.toks) { s with toks:=s.toks+1 }->wpAny (model X.prog X.w) X.A (f (.int i t) (.int j u)) Q E s) :
  qo X f (oq λi j=>.int (g i j)):=by
 intro pins s σ H x y v u Q I rx ry h;obtain⟨i,j,rfl,rfl,q⟩:=h;obtain⟨t,rfl⟩:=rx;obtain⟨t',rfl⟩:=ry;exact rule i j t t' s _ _ ⟨.int (g i j),H,I.tok _,⟨_,rfl⟩,q⟩
def VF{f:Value->Value->Sem Value}{g:Int->Int->Bool}
  (rule:∀(i j:Int) (t u:Tok) (s:Shared) (Q:Value->Shared->Prop) (E:Value->Shared->Prop),Q (.bool (g i j)) s->wpAny (model X.prog X.w) X.A (f (.int i t) (.int j u)) Q E s) :
  qo X f (oq λi j=>.bl (g i j)):=by
 intro pins s σ H x y v u Q I rx ry h;obtain⟨i,j,rfl,rfl,q⟩:=h;obtain⟨t,rfl⟩:=rx;obtain⟨t',rfl⟩:=ry;exact rule i j t t' s _ _ ⟨.bl (g i j),H,I,rfl,q⟩
def D4(i j:Int):Prop:=0<j/\j<1073741824
def CMul(i j:Int):Prop:=(-(2 ^ 64)<i/\i<2 ^ 64)\/(-(2 ^ 64)<j/\j<2 ^ 64)
def CMul.ok{i j:Int}(h:CMul i j):IntMulOk i j:=by
 rcases h with ⟨h1,h2⟩ | ⟨h1,h2⟩
 .exact .of_left (intBits_le_64 h1 h2)
 .exact .of_right (intBits_le_64 h1 h2)
def Uu:qo X (binaryOp .Add) (oq λi j=>.int (i+j)):=Co λ_ _ _ _ _ _ _ q=>add_int q
def Cf:qo X (binaryOp .Sub) (oq λi j=>.int (i-j)):=Co λ_ _ _ _ _ _ _ q=>sub_int q
def Cy:qo X (binaryOp .Mult) (rI CMul λi j=>.int (i*j)):=Ca λ_ _ _ _ _ _ _ hc q=>mul_int q hc.ok
def Xy:qo X (binaryOp .FloorDiv) (rI D4 λi j=>.int (i/j)):=Ca λi j _ _ _ _ _ hc q=>by
 have h1:(0:Int)<j:=hc.1;have h2:j<1073741824:=hc.2;exact floordiv_int ∅ (by rw[Int.fdiv_eq_ediv_of_nonneg i ∅];exact q) (.inl (PyProof.noPylong_small ∅))
def Bd:qo X (binaryOp .Mod) (rI (λ_ j=>0<j) λi j=>.int (i%j)):=Ca λi j _ _ _ _ _ hc q=>by
 have h1:(0:Int)<j:=hc;exact mod_int' ∅ (by rw[Int.fmod_eq_emod_of_nonneg i ∅];exact q)
def FO{f:Value->Sem Value}{g:Int->Int}
  (rule:∀(i:Int) (t:Tok) (s:Shared) (Q:Value->Shared->Prop) (E:Value->Shared->Prop),Q (.int (g i) s.toks) { s with toks:=s.toks+1 }->wpAny (model X.prog X.w) X.A (f (.int i t)) Q E s) :
  Jc X f (rU λi=>.int (g i)):=by
 intro pins s σ H x v Q I rx h;obtain⟨i,rfl,q⟩:=h;obtain⟨t,rfl⟩:=rx;exact rule i t s _ _ ⟨.int (g i),H,I.tok _,⟨_,rfl⟩,q⟩
def B5:Jc X (unaryOp .USub) (rU λi=>.int (-i)):=FO λ_ _ _ _ _ q=>neg_int q
end
def Cg:V->V->Bool
 | .non,.non=>true | .non,.int _=>true | .int _,.non=>true | .non,.bl _=>true | .bl _,.non=>true | .non,.str _=>true | .str _,.non=>true
 | .int _,.int _=>true | .bl _,.bl _=>true | .str _,.str _=>true | .byt _,.byt _=>true
 | .int _,.str _=>true | .str _,.int _=>true | .bl _,.str _=>true | .str _,.bl _=>true
 | _,_=>false
def FX:R2:=λx y H Q=>Cg x y=true/\Q (.bl (decide (x=y))) H
def FJ:R2:=λx y H Q=>Cg x y=true/\Q (.bl (!decide (x=y))) H
def iD{i j:Int}:decide (V.int i=V.int j)=(i==j):=by
 rw[vH];simp
def mx{i j:Bool}:decide (V.bl i=V.bl j)=(i==j):=by
 rw[vH];simp
def iJ{i j:Str}:decide (V.str i=V.str j)=(i==j):=by
 rw[vH];simp
def Zz{i j:Array UInt8}:decide (V.byt i=V.byt j)=(i.toList==j.toList):=by
 rw[vH];cases i;cases j;simp
section
variable{X:Cx}{a b c:Expr}{ta tb tc:TE}{pos:Pos}
def kR{pins:List (Addr×Obj)}{σ:St}{H:Hp}{s:Shared}{Q:VK}{k k':Bool}(I:Inv X pins σ H s)(q:Q (.bl k) H)(e:k=k'):EP X pins σ Q (.bool k') s:=by
 subst e;exact⟨.bl k,H,I,rfl,q⟩
def ZR:qo X (compareOp .Eq) FX:=by
 intro pins s σ H x y v u Q I rx ry h;obtain⟨hs,q⟩:=h;cases x with
 | non=>
  cases rx;cases y with
  | non=>cases ry;exact PySem.EqNone.eq_none_none (kR I q (by simp))
  | bl j=>cases ry;exact PySem.EqNone.eq_none_bool (kR I q (by simp))
  | int j=>obtain⟨t',rfl⟩:=ry;exact PySem.EqNone.eq_none_int (kR I q (by simp))
  | str j=>obtain⟨t',rfl⟩:=ry;exact PySem.EqNone.eq_none_str (kR I q (by simp))
  | _=>exact absurd (show false=true from hs) kh
 | bl i=>
  cases rx;cases y with
  | non=>cases ry;exact PySem.EqNone.eq_bool_none (kR I q (by simp))
  | bl j=>cases ry;exact eq_bool (kR I q mx)
  | str j=>obtain⟨t',rfl⟩:=ry;exact PySem.EqMixed.eq_bool_str (kR I q (by simp))
  | _=>exact absurd (show false=true from hs) kh
 | int i=>
  obtain⟨t,rfl⟩:=rx;cases y with
  | non=>cases ry;exact PySem.EqNone.eq_int_none (kR I q (by simp))
  | int j=>obtain⟨t',rfl⟩:=ry;exact eq_int (kR I q iD)
  | str j=>obtain⟨t',rfl⟩:=ry;exact PySem.EqMixed.eq_int_str (kR I q (by simp))
  | _=>exact absurd (show false=true from hs) kh
 | str i=>
  obtain⟨t,rfl⟩:=rx;cases y with
  | non=>cases ry;exact PySem.EqNone.eq_str_none (kR I q (by simp))
  | bl j=>cases ry;exact PySem.EqMixed.eq_str_bool (kR I q (by simp))
  | int j=>obtain⟨t',rfl⟩:=ry;exact PySem.EqMixed.eq_str_int (kR I q (by simp))
  | str j=>obtain⟨t',rfl⟩:=ry;exact eq_str (kR I q iJ)
  | _=>exact absurd (show false=true from hs) kh
 | byt i=>
  obtain⟨t,rfl⟩:=rx;cases y with
  | byt j=>obtain⟨t',rfl⟩:=ry;exact PySem.W.eq_bytes (kR I q Zz)
  | _=>exact absurd (show false=true from hs) kh
 | _=>cases y<;>exact absurd (show false=true from hs) kh
def KG:qo X (compareOp .NotEq) FJ:=by
 intro pins s σ H x y v u Q I rx ry h;obtain⟨hs,q⟩:=h;cases x with
 | non=>
  cases rx;cases y with
  | non=>cases ry;exact PySem.EqNone.ne_none_none (kR I q (by simp))
  | bl j=>cases ry;exact PySem.EqNone.ne_none_bool (kR I q (by simp))
  | int j=>obtain⟨t',rfl⟩:=ry;exact PySem.EqNone.ne_none_int (kR I q (by simp))
  | str j=>obtain⟨t',rfl⟩:=ry;exact PySem.EqNone.ne_none_str (kR I q (by simp))
  | _=>exact absurd (show false=true from hs) kh
 | bl i=>
  cases rx;cases y with
  | non=>cases ry;exact PySem.EqNone.ne_bool_none (kR I q (by simp))
  | bl j=>cases ry;exact ne_bool (kR I q (jX not mx))
  | str j=>obtain⟨t',rfl⟩:=ry;exact PySem.EqMixed.ne_bool_str (kR I q (by simp))
  | _=>exact absurd (show false=true from hs) kh
 | int i=>
  obtain⟨t,rfl⟩:=rx;cases y with
  | non=>cases ry;exact PySem.EqNone.ne_int_none (kR I q (by simp))
  | int j=>obtain⟨t',rfl⟩:=ry;exact ne_int (kR I q (jX not iD))
  | str j=>obtain⟨t',rfl⟩:=ry;exact PySem.EqMixed.ne_int_str (kR I q (by simp))
  | _=>exact absurd (show false=true from hs) kh
 | str i=>
  obtain⟨t,rfl⟩:=rx;cases y with
  | non=>cases ry;exact PySem.EqNone.ne_str_none (kR I q (by simp))
  | bl j=>cases ry;exact PySem.EqMixed.ne_str_bool (kR I q (by simp))
  | int j=>obtain⟨t',rfl⟩:=ry;exact PySem.EqMixed.ne_str_int (kR I q (by simp))
  | str j=>obtain⟨t',rfl⟩:=ry;exact ne_str (kR I q (jX not iJ))
  | _=>exact absurd (show false=true from hs) kh
 | byt i=>
  obtain⟨t,rfl⟩:=rx;cases y with
  | byt j=>obtain⟨t',rfl⟩:=ry;exact PySem.W.ne_bytes (kR I q (jX not Zz))
  | _=>exact absurd (show false=true from hs) kh
 | _=>cases y<;>exact absurd (show false=true from hs) kh
def Dd:qo X (compareOp .Lt) (oq λi j=>.bl (decide (i<j))):=VF λ_ _ _ _ _ _ _ q=>lt_int q
def C3:qo X (compareOp .LtE) (oq λi j=>.bl (decide (i<=j))):=VF λ_ _ _ _ _ _ _ q=>le_int q
def C8:qo X (compareOp .Gt) (oq λi j=>.bl (decide (j<i))):=VF λ_ _ _ _ _ _ _ q=>gt_int q
def B9:qo X (compareOp .Is) (λx y H Q=>y=.non/\Q (.bl (decide (x=.non))) H):=by
 intro pins s σ H x y v u Q I rx ry h;obtain⟨rfl,q⟩:=h;cases ry;refine is_none_gen (kR I q ?_);cases x<;>first
  | (cases rx;rfl)
  | (obtain⟨t,rfl⟩:=rx;rfl)
def Y4:qo X (compareOp .IsNot) (λx y H Q=>y=.non/\Q (.bl (!decide (x=.non))) H):=by
 intro pins s σ H x y v u Q I rx ry h;obtain⟨rfl,q⟩:=h;cases ry;refine isnot_none_gen (kR I q ?_);cases x<;>first
  | (cases rx;rfl)
  | (obtain⟨t,rfl⟩:=rx;rfl)
def X7{op:CmpOp}{r:R2}(ho:qo X (compareOp op) r)(ha:PE X a ta)(hb:PE X b tb)(hm:behindInMarks op b=false):PE X (.Compare a [op] [b] pos) (J3 r ta tb):=by
 intro pins s σ H Q I h;exact wpAny_Compare1 (We ha hb I h λv u s2 x y H2 I2 rx ry q=>ho pins s2 σ H2 x y v u Q I2 rx ry q) hm
def Yj(t:TE):TT:=λσ H Q=>t σ H λx H'=>∃k,x=.bl k/\Q k H'
def Xi{op:CmpOp}{r:R2}(ho:qo X (compareOp op) r)(ha:PE X a ta)(hb:PE X b tb)(hm:behindInMarks op b=false):PT X (.Compare a [op] [b] pos) (Yj (J3 r ta tb)):=by
 intro pins s σ H Q I h
 refine wpAny_isTrue_Compare1 (kC (ha pins s σ H _ I h) λv s1 ⟨x,H1,I1,r1,q1⟩=>kC (hb pins s1 σ H1 _ I1 q1) λu s2 ⟨y,H2,I2,r2,q2⟩=>
  kC (ho pins s2 σ H2 x y v u _ I2 r1 r2 q2) λc s3 ⟨z,H3,I3,r3,k,e,q3⟩=>?_) hm
 subst e;cases r3;exact vm ⟨H3,I3,q3⟩
def pR(r r':R2)(ta tb tc:TE):TE:=λσ H Q=>ta σ H λx H1=>tb σ H1 λy H2=>r x y H2 λz H3=>∃k,z=.bl k /\
 (if k=true then tc σ H3 λw' H4=>r' y w' H4 Q else Q (.bl false) H3)
def QJ{op op':CmpOp}{r r':R2}(ho:qo X (compareOp op) r)(ho':qo X (compareOp op') r')(ha:PE X a ta)(hb:PE X b tb)(hc:PE X c tc)
  (hm:lastMarks [op,op'] [b,c]=false:=by with_unfolding_all rfl):PE X (.Compare a [op,op'] [b,c] pos) (pR r r' ta tb tc):=by
 intro pins s σ H Q I h
 refine Compare_chain (kC (ha pins s σ H _ I h) λv s1 ⟨x,H1,I1,r1,q1⟩=>chain_link (kC (hb pins s1 σ H1 _ I1 q1) λu s2 ⟨y,H2,I2,r2,q2⟩=>
  kC (ho pins s2 σ H2 x y v u _ I2 r1 r2 q2) λd s3 ⟨z,H3,I3,r3,k,e,q3⟩=>?_)) hm
 subst e;cases r3;refine vm ?_;cases k with
 | false=>exact ite_ff ⟨.bl false,H3,I3,rfl,q3⟩
 | true=>exact ite_tt (chain_last (kC (hc pins s3 σ H3 _ I3 q3) λw' s4 ⟨z',H4,I4,r4,q4⟩=>ho' pins s4 σ H4 y z' u w' Q I4 r2 r4 q4))
def Wo{op op':CmpOp}{r r':R2}(ho:qo X (compareOp op) r)(ho':qo X (compareOp op') r')(ha:PE X a ta)(hb:PE X b tb)(hc:PE X c tc)
  (hm:lastMarks [op,op'] [b,c]=false:=by with_unfolding_all rfl):PT X (.Compare a [op,op'] [b,c] pos) (Yj (pR r r' ta tb tc)):=by
 intro pins s σ H Q I h
 refine isTrue_chain (kC (ha pins s σ H _ I h) λv s1 ⟨x,H1,I1,r1,q1⟩=>test_link (kC (hb pins s1 σ H1 _ I1 q1) λu s2 ⟨y,H2,I2,r2,q2⟩=>
  kC (ho pins s2 σ H2 x y v u _ I2 r1 r2 q2) λd s3 ⟨z,H3,I3,r3,k,e,q3⟩=>?_)) hm
 subst e;cases r3;refine vm ?_;cases k with
 | false=>
  obtain⟨k',e',q'⟩:=q3;cases e';exact ite_ff ⟨H3,I3,q'⟩
 | true=>
  refine ite_tt (test_last (kC (hc pins s3 σ H3 _ I3 q3) λw' s4 ⟨z',H4,I4,r4,q4⟩=>kC (ho' pins s4 σ H4 y z' u w' _ I4 r2 r4 q4) λd' s5 ⟨z2,H5,I5,r5,k2,e2,q5⟩=>?_));subst e2;cases r5;exact vm ⟨H5,I5,q5⟩
def gW:(sizeLine:Nat)<2 ^ 63:=by rw[vp];decide
def vals1{x:V}{us:List Value}(r:Vals [x] us):∃u,us=[u]/\RelV x u:=by
 cases r with
 | cons r1 r2=>cases r2;exact⟨_,rfl,r1⟩
def vals2{x y:V}{us:List Value}(r:Vals [x,y] us):∃u w',us=[u,w']/\RelV x u/\RelV y w':=by
 cases r with
 | cons r1 r2=>
  cases r2 with
  | cons r3 r4=>cases r4;exact⟨_,_,rfl,r1,r3⟩
end
end L2
namespace L2
open PySem PySem.Spec PyProof.Rows
structure ObjM(h:Heap)(x dx C:Addr)(mA:Str->Option Value):Prop where
 obj:h.get? x=some (PySem.W.instObj C dx)
 ns:h.Ns1 dx mA
 ne:dx≠x
def Qk{h:Heap}{dx:Addr}{mA:Str->Option Value}(n:h.Ns1 dx mA):∃od,h.get? dx=some od/\∀name,PySem.W.lookIn name od=some (mA name):=by
 obtain⟨o,es,ep,ho,hd,hk,_,hm⟩:=n;refine⟨o,ho,λname=>?_⟩;have e:=hm name;unfold nsFind findBy at e;rw[<-wX] at e;unfold PySem.W.lookIn;rw[hd];dsimp only;split
 .rename_i y q
  rw[q] at e;exact jX some e
 .rename_i q
  rw[q] at e;have a:es.toList.any (·.refKey)=false:=by
   rw[List.any_eq_false];intro y hy;obtain⟨z,t,hkey⟩:=hk y (xg.mp hy);simp[DictEntry.refKey,hkey]
  have a':¬es.toList.any (·.refKey)=true:=by rw[a];exact kh
  rw[jc a'];exact jX some e
def ObjM.look{h:Heap}{x dx C:Addr}{mA:Str->Option Value}(I:ObjM h x dx C mA):∃od,PySem.W.InstAt h x (PySem.W.instObj C dx) C (some od)/\∀name,PySem.W.lookIn name od=some (mA name):=
 let ⟨od,ho,hl⟩:=Qk I.ns
 ⟨od,⟨I.obj,rfl,rfl,ho⟩,hl⟩
section
variable{prog:Program}{w:World}{A:Around}{E:Value->Shared->Prop}{s:Shared}{K:PySem.W.Frag}{x dx C f:Addr}{mA:Str->Option Value}{name:Str}{v:Value}
def XE{expr:Bool}{Q:Value->Shared->Prop}(X:K.In s.heap)(I:ObjM s.heap x dx C mA)(hg:PySem.W.plainGet K C name=true)(hh:PySem.W.hasDictIn K C=true)
  (ha:PySem.W.findIn K (.ref C) name=some none) (hv:mA name=some v) (hv':PySem.W.handedIn v=true) (h:Q v { s with toks:=s.toks+1 }) :
  wpAny (model prog w) A (getAttr (.ref x) name expr) Q E s:=by
 obtain⟨od,J,hl⟩:=I.look;exact PySem.W.get_value X J (wK hg).1 (PySem.W.findObj_own hh ha rfl (by rw[hl,hv])) hv' h
def QU{pl:Sem Bool}{Q:Value×List Value->Shared->Prop}(X:K.In s.heap)(I:ObjM s.heap x dx C mA)(hg:PySem.W.plainGet K C name=true)
  (hf:PySem.W.findIn K (.ref C) name=some (some (.ref f))) (ht:PySem.W.isFn K (.ref f)=true) (hv:mA name=none) (h:Q (.ref f,[.ref x]) s) :
  wpAny (model prog w) A (getMethod (.ref x) name pl) Q E s:=by
 obtain⟨od,J,hl⟩:=I.look;exact PySem.W.method_fn X J (wK hg).1 (wK hg).2 hf (qd.mp ht) (by show(PySem.W.lookIn name od).map (·.isSome)=some false;rw[hl,hv];rfl) h
def Xg{ns:List Str}{Q:Unit->Shared->Prop}(X:K.In s.heap)(I:ObjM s.heap x dx C mA)
  (hs:PySem.W.findIn K (.ref C) "__setattr__" = some (some (.builtin "object.__setattr__"))) (hp:PySem.W.plainOver K C=true) (ht:PySem.W.takerIn K C name=some none) (hh:PySem.W.hasDictIn K C=true)
  (hw:PySem.Within mA ns) (hsz:ns.length<=sizeLine)
  (h:∀h',ObjM h' x dx C (λy=>if y=name then some v else mA y)->Heap.SameBut dx s.heap h'->Q () { s with heap:=h',toks:=s.toks+2 }) :
  wpAny (model prog w) A (setAttr (.ref x) name v) Q E s:=by
 obtain⟨od,J,hl⟩:=I.look;refine PySem.W.set_plain X J hs (PySem.W.osa_open (s:={ s with toks:=s.toks+1 }) (r:=none) X J hp ht λb=>?_);obtain⟨cd,hc,hd'⟩:=PySem.W.any_some hh;have hx:s.heap.get? x=some ⟨.ref C,some dx,.plain,#[]⟩:=I.obj;refine za (zu (za (za (wpAny_loadPart hx (za (PySem.W.Looks.here (s:={ s with toks:=s.toks+1 }) (PySem.W.looks_clsIn X hc) ?_))))));rw[hd'];refine zu (a:=some dx) (za (zu (za ?_)));refine wpAny_nsSet1 (s:={ s with toks:=s.toks+1 }) I.ns λh' hn2 hs2=>?_
 obtain⟨oD,esD,epD,hoD,hdD,hcD⟩:=hn2.count (PySem.Within.cons name v hw);refine za (wpAny_lookBehind hoD (by rw[hdD];exact pastItsLine_dict (zT hcD (by rw[zm];omega))) ?_);exact zu (h _ ⟨(hs2.2 _ (kY I.ne)).trans I.obj,hn2,I.ne⟩ hs2)
def Vp{R:Result->Shared->Prop}{vs:List Value}{kw:List (Str×Value)}(X:K.In s.heap)(hm:PySem.W.makesIn K C=true)
  (hi:PySem.W.findIn K (.ref C) "__init__" = some (some (.ref f))) (hf:PySem.W.typeIn K (.ref f)=some (.type "function"))
  (h:codeAny (model prog w) (A.under (.builtin "type.__call__" ⟨.ref C::vs,kw⟩)) (.call (.ref f) ⟨.ref (s.heap.objs.size+1)::vs,kw⟩) (PySem.W.InitBack (s.heap.objs.size+1) R)
   { s with heap:=(s.heap.push PySem.W.emptyDict).push (PySem.W.instObj C s.heap.objs.size) }) :
  codeAny (model prog w) A (.call (.ref C) ⟨vs,kw⟩) R s:=by
 obtain⟨hh,g,d,t,os⟩:=s;exact PySem.W.make_core (PySem.W.makes_of X hm) (PySem.W.looks_findIn X hi) (λself=>PySem.W.bind_fn X self hf) (.inl rfl) h
end
def putF(f:Str)(v:V):List (Str×V)->List (Str×V)
 | []=>[(f,v)]
 | (g,x)::r=>if g=f then (g,v)::r else (g,x)::putF f v r
theorem iW(f g:Str)(v:V):∀fs:List (Str×V),(putF f v fs).lookup g=if g=f then some v else fs.lookup g
 | []=>by
  show List.lookup g [(f,v)]=_
  by_cases h:g=f
  .have hb:(g==f)=true:=qd.mpr h
   simp only[List.lookup,hb,zY h]
  .have hb:(g==f)=false:=jr.mpr h
   simp only[List.lookup,hb,jc h]
 | (k,x)::r=>by
  have ih:=iW f g v r;rw[show putF f v ((k,x)::r)=(if k=f then (k,v)::r else (k,x)::putF f v r) from rfl];by_cases hk:k=f
  .rw[zY hk]
   by_cases h:g=k
   .have hb:(g==k)=true:=qd.mpr h
    simp only[List.lookup,hb,zY (h.trans hk)]
   .have hb:(g==k)=false:=jr.mpr h
    simp only[List.lookup,hb,jc (λe:g=f=>h (e.trans hk.symm))]
  .rw[jc hk]
   by_cases h:g=k
   .have hb:(g==k)=true:=qd.mpr h
    simp only[List.lookup,hb,jc (λe:g=f=>hk (h.symm.trans e))]
   .have hb:(g==k)=false:=jr.mpr h
    simp only[List.lookup,hb];exact ih
theorem ig(f:Str)(v:V):∀fs:List (Str×V),f∈(putF f v fs).map (·.1)/\∀g,g∈fs.map (·.1)->g∈(putF f v fs).map (·.1)
 | []=>⟨by simp[putF],λg h=>by simp at h⟩
 | (k,x)::r=>by
  obtain⟨i1,i2⟩:=ig f v r;rw[show putF f v ((k,x)::r)=(if k=f then (k,v)::r else (k,x)::putF f v r) from rfl];by_cases hk:k=f
  .rw[zY hk]
   subst hk;exact⟨by simp,λg h=>by simpa using h⟩
  .rw[jc hk]
   refine⟨?_,λg h=>?_⟩
   .rw[zq]
    exact zP _ i1
   .rw[zq] at h ⊢
    rcases zb.mp h with e | e
    .exact zb.mpr (.inl e)
    .exact zP _ (i2 g e)
theorem iX(f:Str)(v:V):∀fs:List (Str×V),(putF f v fs).length<=fs.length+1
 | []=>by simp[putF]
 | (k,x)::r=>by
  have ih:=iX f v r;rw[show putF f v ((k,x)::r)=(if k=f then (k,v)::r else (k,x)::putF f v r) from rfl];by_cases hk:k=f
  .rw[zY hk,zm,zm];omega
  .rw[jc hk,zm,zm];omega
def RelO.some_of{v:V}{o:Option Value}(r:RelO (some v) o):∃u,o=some u/\RelV v u:=by
 cases o with
 | none=>exact(show False from r).elim
 | some u=>exact⟨u,rfl,r⟩
def RelO.none_of{o:Option Value}(r:RelO none o):o=none:=by
 cases o with
 | none=>rfl
 | some u=>exact(show False from r).elim
theorem JV{v:V}{u:Value}(r:RelV v u):PySem.W.handedIn u=true:=by
 cases v with
 | non=>cases (show u=Value.none from r);rfl
 | bl b=>cases (show u=Value.bool b from r);rfl
 | int i=>obtain⟨t,e⟩:=(show ∃t,u=Value.int i t from r);cases e;rfl
 | str x=>obtain⟨t,e⟩:=(show ∃t,u=Value.str x t from r);cases e;rfl
 | byt b=>obtain⟨t,e⟩:=(show ∃t,u=Value.bytes b t from r);cases e;rfl
 | flt b=>obtain⟨t,e⟩:=(show ∃t,u=Value.float b t from r);cases e;rfl
 | ref a=>cases (show u=Value.ref a from r);rfl
 | ty n=>cases (show u=Value.type n from r);rfl
section
variable{P:Program}{w:World}{H H':Hp}{h h':Heap}{a C dx:Addr}{fs fs':List (Str×V)}
def iz(hok:HOk P w H h)(e:H a=some (.ins C dx fs)):∃mA,ObjM h a dx C mA/\(∀f,RelO (fs.lookup f) (mA f))/\PySem.Within mA (fs.map (·.1))/\fs.length<=1000/\H dx=some (.own a):=by
 obtain⟨d,z,ne,ob,mA,n,r,q⟩:=(show ObjOk P w H h a (.ins C dx fs) from hok a _ e);exact⟨mA,⟨ob,n,ne⟩,r,q,z,d⟩
end
structure Cls(K:PySem.W.Frag)(C:Addr):Prop where
 pg:PySem.W.plainGet K C Str.empty=true
 hd:PySem.W.hasDictIn K C=true
 po:PySem.W.plainOver K C=true
 sa:PySem.W.findIn K (.ref C) "__setattr__" = some (some (.builtin "object.__setattr__"))
def Cls.get{K:PySem.W.Frag}{C:Addr}(c:Cls K C)(f:Str):PySem.W.plainGet K C f=true:=c.pg
def NoAttr(K:PySem.W.Frag)(C:Addr)(f:Str):Prop:=PySem.W.findIn K (.ref C) f=some none
theorem NoAttr.taker{K:PySem.W.Frag}{C:Addr}{f:Str}(n:NoAttr K C f):PySem.W.takerIn K C f=some none:=by
 unfold PySem.W.takerIn;rw[show PySem.W.findIn K (.ref C) f=some none from n];rfl
structure Meth(K:PySem.W.Frag)(C:Addr)(m:Str)(f:Addr):Prop where
 at_:PySem.W.findIn K (.ref C) m=some (some (.ref f))
 fn:PySem.W.isFn K (.ref f)=true
 kp:PySem.W.keepIn K (.ref f)=true
section
variable{X:Cx}{pins:List (Addr×Obj)}{σ:St}{H:Hp}{s:Shared}{a C dx:Addr}{fs:List (Str×V)}{f:Str}{v:V}{A:Around}{E:Value->Shared->Prop}
def lY{b:Bool}{Q:Value->Shared->Prop}(I:Inv X pins σ H s)(e:H a=some (.ins C dx fs))(c:Cls X.K C)(n:NoAttr X.K C f)(l:fs.lookup f=some v)
  (h:∀u s',Inv X pins σ H s'->RelV v u->Q u s'):wpAny (model X.prog X.w) A (getAttr (.ref a) f b) Q E s:=by
 obtain⟨mA,O,r,_,_,_⟩:=iz I.hok e;obtain⟨u,hu,ru⟩:=RelO.some_of (v:=v) (o:=mA f) (by rw[<-l];exact r f);exact XE I.kIn O (c.get f) c.hd n hu (JV ru) (h u _ (I.tok _) ru)
def lL{m:Str}{g:Addr}{pl:Sem Bool}{Q:Value×List Value->Shared->Prop}(I:Inv X pins σ H s)(e:H a=some (.ins C dx fs))(c:Cls X.K C)(k:Meth X.K C m g)(l:fs.lookup m=none)
  (h:Q (.ref g,[.ref a]) s):wpAny (model X.prog X.w) A (getMethod (.ref a) m pl) Q E s:=by
 obtain⟨mA,O,r,_,_,_⟩:=iz I.hok e;have hn:mA m=none:=RelO.none_of (by rw[<-l];exact r m);exact QU I.kIn O (c.get m) k.at_ k.fn hn h
def lR{y:V}{u:Value}{Q:Unit->Shared->Prop}(I:Inv X pins σ H s)(e:H a=some (.ins C dx fs))(c:Cls X.K C)(n:NoAttr X.K C f)(hl:fs.length<1000)(ry:RelV y u)
  (h:∀s',Inv X pins σ (upd H a (.ins C dx (putF f y fs))) s'->Q () s'):wpAny (model X.prog X.w) A (setAttr (.ref a) f u) Q E s:=by
 obtain⟨mA,O,r,wi,_,ho⟩:=iz I.hok e;have hz:(fs.map (·.1)).length<=sizeLine:=by rw[zB,vp];omega
 refine Xg I.kIn O c.sa c.po n.taker c.hd wi hz λh' O' sb=>h _ ?_
 have hd:∃o,h'.get? dx=some o:=let ⟨o,_,_,e',_⟩:=O'.ns;⟨o,e'⟩;refine I.write (x:=a) (e:=dx) (by rw[e];exact True.intro) (.inr ho) (λb q hb z=>(sb.2 b hb).trans z) hd ?_;refine⟨by rw[kQ O.ne];exact ho,?_,O.ne,O'.obj,_,O'.ns,λg=>?_,λg hg=>?_⟩
 .have:=iX f y fs;omega
 .show RelO ((putF f y fs).lookup g) (if g=f then some u else mA g)
  rw[iW];by_cases q:g=f
  .rw[zY q,zY q];exact ry
  .rw[jc q,jc q];exact r g
 .by_cases q:g=f
  .rw[q];exact(ig f y fs).1
  .refine(ig f y fs).2 g (wi g λz=>hg ?_)
   show(if g=f then some u else mA g)=none
   rw[jc q];exact z
def Inv.made(I:Inv X pins σ H s):Inv X pins σ (upd (upd H s.heap.objs.size (.own (s.heap.objs.size+1))) (s.heap.objs.size+1) (.ins C s.heap.objs.size []))
  { s with heap:=(s.heap.push PySem.W.emptyDict).push (PySem.W.instObj C s.heap.objs.size) }:=by
 have e1:(s.heap.push PySem.W.emptyDict).get? s.heap.objs.size=some PySem.W.emptyDict:=zO s.heap rfl;have e2:((s.heap.push PySem.W.emptyDict).push (PySem.W.instObj C s.heap.objs.size)).get? (s.heap.objs.size+1)=some (PySem.W.instObj C s.heap.objs.size):=by
  have:=zO (s.heap.push PySem.W.emptyDict) (o:=PySem.W.instObj C s.heap.objs.size) rfl;rwa [j9] at this
 have e3:(s.heap.push PySem.W.emptyDict).Ns s.heap.objs.size (λ_=>none):=⟨PySem.W.emptyDict,#[],_,e1,rfl,(λe he=>absurd he (by simp)),λ_=>rfl⟩;have I1:=I.laid (a:=s.heap.objs.size) (o:=.own (s.heap.objs.size+1)) (h':=s.heap.push PySem.W.emptyDict) (t':=s.toks) (λb u q=>zf _ q) (zg _) ⟨_,e1⟩;refine I1.laid (a:=s.heap.objs.size+1) (o:=.ins C s.heap.objs.size []) (t':=s.toks) (λb u q=>zf _ q) (Nat.le_of_eq (j9 _ _)) ?_;have ne:s.heap.objs.size≠s.heap.objs.size+1:=zX (jY _);refine⟨by rw[kQ ne,qc],qy _,ne,e2,λ_=>none,(Heap.Ns1.of_empty e3).at λo q=>zf _ q,λ_=>True.intro,λy hy=>absurd rfl hy⟩
def YM{prog:Program}{w:World}{env:Env}{e:Expr}{f:Str}{pos:Pos}{s:Shared}{Q:Value->Shared->Prop}(hb:attributeBase e f env (eval e env)=eval e env)
  (h:wpAny (model prog w) A (eval e env) (λo s₁=>wpAny (model prog w) A (getAttr o f true) Q E s₁) E s):wpAny (model prog w) A (eval (.Attribute e f pos) env) Q E s:=
 Attribute_any_ h (by rw[arm_eval_Attribute,hb])
end
def Fj(K:PySem.W.Frag)(ta:TE)(f:Str):TE:=λσ H Q=>ta σ H λx H1=>∃a C dx fs v,x=.ref a/\H1 a=some (.ins C dx fs)/\Cls K C/\NoAttr K C f/\fs.lookup f=some v/\Q v H1
def Ff(K:PySem.W.Frag)(ta tv:TE)(f:Str):TS:=λD σ H=>tv σ H λy H1=>ta σ H1 λx H2=>∃a C dx fs,x=.ref a/\H2 a=some (.ins C dx fs)/\Cls K C/\NoAttr K C f/\fs.length<1000 /\
 D.nx σ (upd H2 a (.ins C dx (putF f y fs)))
def Bh(X:Cx)(op:Operator)(rd:V->V->Hp->VK->Prop):Prop:=
 ∀(pins:List (Addr×Obj)) (s:Shared) (σ:St) (H:Hp) (x y:V) (u v:Value) (Q:VK),Inv X pins σ H s->RelV x u->RelV y v->rd x y H Q->wpAny (model X.prog X.w) X.A (inplaceOp op u v) (EP X pins σ Q) X.xe s
def Y9(K:PySem.W.Frag)(ta tv:TE)(rd:V->V->Hp->VK->Prop)(f:Str):TS:=λD σ H=>ta σ H λx H1=>∃a C dx fs v,x=.ref a/\H1 a=some (.ins C dx fs)/\Cls K C/\NoAttr K C f/\fs.lookup f=some v /\
 tv σ H1 λy H2=>rd v y H2 λz H3=>∃dx' fs',H3 a=some (.ins C dx' fs')/\fs'.length<1000/\D.nx σ (upd H3 a (.ins C dx' (putF f z fs')))
section
variable{X:Cx}{o e value:Expr}{f:Str}{pos pos' tpos:Pos}{ta tv:TE}
def CJ(he:PE X e ta)(hb:attributeBase e f X.env (eval e X.env)=eval e X.env):PE X (.Attribute e f pos) (Fj X.K ta f):=by
 intro pins s σ H Q I h;refine YM hb (kC (he pins s σ H _ I h) λu s1 ⟨x,H1,I1,rx,a,C,dx,fs,v,ex,ea,c,n,l,q⟩=>?_);subst ex;obtain rfl:u=Value.ref a:=rx;exact lY I1 ea c n l λu' s2 I2 ru=>⟨v,H1,I2,ru,q⟩
def CD(ha:PE X o ta)(hv:PE X value tv)(hs:swapsWith value (some (.Attribute o f pos')) pos.line X.env=pure false):PS X (.Assign [.Attribute o f pos'] value pos) (Ff X.K ta tv f):=by
 intro pins s σ H D I h;refine plainObj_wpAny_Assign_Attribute (kC (hv pins s σ H _ I h) λu s1 ⟨y,H1,I1,ry,q⟩=>kC (ha pins s1 σ H1 _ I1 q) λov s2 ⟨x,H2,I2,rx,a,C,dx,fs,ex,ea,c,n,l,q2⟩=>?_) hs;subst ex;obtain rfl:ov=Value.ref a:=rx;exact lR I2 ea c n l ry λs3 I3=>⟨σ,_,I3,q2⟩
def J4{op:Operator}{rd:V->V->Hp->VK->Prop}(ha:PE X o ta)(hv:PE X value tv)(hop:Bh X op rd):PS X (.AugAssign (.Attribute o f tpos) op value pos) (Y9 X.K ta tv rd f):=by
 intro pins s σ H D I h;refine wpAny_AugAssign_AttributeAny (kC (ha pins s σ H _ I h) λov s1 ⟨x,H1,I1,rx,a,C,dx,fs,v,ex,ea,c,n,l,q⟩=>?_);subst ex;obtain rfl:ov=Value.ref a:=rx;refine lY I1 ea c n l λu s2 I2 ru=>kC (hv pins s2 σ H1 _ I2 q) λw3 s3 ⟨y,H2,I3,ry,q3⟩=>kC (hop pins s3 σ H2 v y u w3 _ I3 ru ry q3) λw4 s4 ⟨z,H3,I4,rz,dx',fs',ea',l',q4⟩=>?_
 exact lR I4 ea' c n l' rz λs5 I5=>⟨σ,_,I5,q4⟩
def Fd:V->V->Hp->VK->Prop:=λx y H Q=>∃i j,x=.int i/\y=.int j/\Q (.int (i+j)) H
def UN:Bh X .Add Fd:=by
 rintro pins s σ H x y u v Q I rx ry ⟨i,j,rfl,rfl,q⟩;obtain⟨t,rfl⟩:=(show ∃t,u=Value.int i t from rx);obtain⟨t',rfl⟩:=(show ∃t',v=Value.int j t' from ry);exact PyProof.Rows.iadd_int ⟨.int (i+j),H,I.tok _,⟨_,rfl⟩,q⟩
end
section
variable{X:Cx}{pins:List (Addr×Obj)}{σ:St}{H:Hp}{s:Shared}{A:Around}{E:Value->Shared->Prop}{Q:Value->Shared->Prop}{c:Value}{b:Bool}
inductive TyOf(K:PySem.W.Frag)(H:Hp):V->Value->Prop where
 | non:TyOf K H .non (.type "NoneType")
 | bl (x:Bool):TyOf K H (.bl x) (.type "bool")
 | int (i:Int):TyOf K H (.int i) (.type "int")
 | str (x:Str):TyOf K H (.str x) (.type "str")
 | flt (x:UInt64):TyOf K H (.flt x) (.type "float")
 | lst {a:Addr} {xs:List V} (e:H a=some (.lst xs)):TyOf K H (.ref a) (.type "list")
 | frz {a:Addr} {o:Obj} {xs:List V} (e:H a=some (.frz o (.lst xs))):TyOf K H (.ref a) (.type "list")
 | tup {a:Addr} {xs:List V} (e:H a=some (.tup xs)):TyOf K H (.ref a) (.type "tuple")
 | dK {a:Addr} {kvs:List (Key×V)} (e:H a=some (.dK kvs)):TyOf K H (.ref a) (.type "dict")
 | dT {a:Addr} {kvs:List (List Key×V)} (e:H a=some (.dT kvs)):TyOf K H (.ref a) (.type "dict")
 | ins {a C dx:Addr} {fs:List (Str×V)} (e:H a=some (.ins C dx fs)) (cl:Cls K C) (ha:PySem.W.findIn K (.ref C) "__class__" = some (some (.builtin "object.__class__")))
   (hn:PySem.W.specialIn K (.builtin "object.__class__") "__get__" = some (some (.builtin "getset_descriptor.__get__"))) (htk:PySem.W.takesIn K (.builtin "object.__class__")=some true)
   (hm:PySem.W.mroIn K C (.type "object")=some true):TyOf K H (.ref a) (.ref C)
def QD{x:V}{u t:Value}(I:Inv X pins σ H s)(rx:RelV x u)(ty:TyOf X.K H x t)(e:PySem.W.kitOne X.K t c=some b)(h:∀tk,Q (.bool b) { s with toks:=tk }) :
  wpAny (model X.prog X.w) A (call (.builtin "isinstance") [u,c]) Q E s:=by
 cases ty with
 | non=>cases (show u=Value.none from rx);exact ji PySem.W.kitx_none I.kIn True.intro e (λz=>nomatch z) h
 | bl y=>cases (show u=Value.bool y from rx);exact ji PySem.W.kitx_bool I.kIn True.intro e (λz=>nomatch z) h
 | int i=>obtain⟨t,q⟩:=(show ∃t,u=Value.int i t from rx);cases q;exact ji PySem.W.kitx_int I.kIn True.intro e (λz=>nomatch z) h
 | str y=>obtain⟨t,q⟩:=(show ∃t,u=Value.str y t from rx);cases q;exact ji PySem.W.kitx_str I.kIn True.intro e (λz=>nomatch z) h
 | flt y=>obtain⟨t,q⟩:=(show ∃t,u=Value.float y t from rx);cases q;exact ji PySem.W.kitx_float I.kIn True.intro e (λz=>nomatch z) h
 | @lst a xs ea=>
  cases (show u=Value.ref a from rx);obtain⟨_,_,n,_,h1⟩:=(show ObjOk X.prog X.w H s.heap a (.lst xs) from I.hok a _ ea);exact ji vW I.kIn ⟨_,h1,rfl⟩ e (λz=>nomatch z) h
 | @frz a ob xs ea=>
  cases (show u=Value.ref a from rx);obtain⟨_,_,_,n,_,h1⟩:=(show ObjOk X.prog X.w H s.heap a (.frz ob (.lst xs)) from I.hok a _ ea);exact ji vW I.kIn ⟨_,h1,rfl⟩ e (λz=>nomatch z) h
 | @tup a xs ea=>
  cases (show u=Value.ref a from rx);obtain⟨_,_,_,p,_⟩:=(show ObjOk X.prog X.w H s.heap a (.tup xs) from I.hok a _ ea);obtain⟨o,h1,h2,_⟩:=p;exact ji xF I.kIn ⟨o,h1,h2⟩ e (λz=>nomatch z) h
 | @dK a kvs ea=>
  cases (show u=Value.ref a from rx);obtain⟨_,_,vs,_,p⟩:=(show ObjOk X.prog X.w H s.heap a (.dK kvs) from I.hok a _ ea);obtain⟨o,es,ep,h1,h2,_⟩:=p;exact ji wZ I.kIn ⟨o,h1,h2.1⟩ e (λz=>nomatch z) h
 | @dT a kvs ea=>
  cases (show u=Value.ref a from rx);obtain⟨_,_,xs,_,o,es,ep,h1,h2,_⟩:=(show ObjOk X.prog X.w H s.heap a (.dT kvs) from I.hok a _ ea);exact ji wZ I.kIn ⟨o,h1,h2.1⟩ e (λz=>nomatch z) h
 | @ins a C dx fs ea cl ha hn htk hm=>
  cases (show u=Value.ref a from rx);obtain⟨mA,O,_⟩:=iz I.hok ea;obtain⟨od,J,_⟩:=O.look;exact ji (PySem.W.kitx_own (cl.get _) cl.hd ha hn htk hm) I.kIn J e (λz=>nomatch z) h
end
end L2
namespace L2
open PySem PySem.Spec PyProof.Rows
structure Room(k:Nat)(A:Around):Prop where
 hd:A.handled=none
 dp:A.depth+3*k+5<recursionLimit
 un:A.units+16*k+200<cLine
def Room.mono{j k:Nat}{A:Around}(r:Room k A)(h:j<=k):Room j A:=⟨r.hd,by have:=r.dp;omega,by have:=r.un;omega⟩
theorem Room.deeper{k:Nat}{A:Around}(r:Room (k+1) A)(env:Env):Room k (A.deeper env):=
 ⟨r.hd,by have:=r.dp;show A.depth+1+3*k+5<_;omega,by have:=r.un;show A.units+3+16*k+200<_;omega⟩
def ZW{A:Around}{C:Addr}{us:List Value}{kw:List (Str×Value)}:(A.under (.builtin "type.__call__" ⟨.ref C::us,kw⟩)).depth=A.depth+1:=by
 first | rfl | simp[Around.under,Code.weight,Code.isCreation,Code.isGuard,Code.isCaller,Code.frames,Code.isFrame,guardIds]
def Z0{A:Around}{C:Addr}{us:List Value}{kw:List (Str×Value)}:(A.under (.builtin "type.__call__" ⟨.ref C::us,kw⟩)).units=A.units+1:=by
 first | rfl | simp[Around.under,Code.cUnits,Code.frames,Code.isFrame]
def Room.make{k:Nat}{A:Around}(r:Room (k+1) A)(C:Addr)(us:List Value)(kw:List (Str×Value)):Room k (A.under (.builtin "type.__call__" ⟨.ref C::us,kw⟩)):=
 ⟨r.hd,by have:=r.dp;rw[ZW];omega,by have:=r.un;rw[Z0];omega⟩
theorem Room.depth{k:Nat}{A:Around}(r:Room k A):A.depth<recursionLimit:=by have:=r.dp;omega
theorem Room.units{k:Nat}{A:Around}(r:Room k A):A.units+64<cLine:=by have:=r.un;omega
def QN:TA:=λ_ H Q=>Q [] H
def Dw(ta:TE)(tr:TA):TA:=λσ H Q=>ta σ H λx H1=>tr σ H1 λxs H2=>Q (x::xs) H2
section
variable{X:Cx}{e:Expr}{es:List Expr}{te:TE}{t:TA}{pos:Pos}
def J1:PA X [] QN:=λ_ _ _ _ H Q I h=>vA ⟨[],H,I,.nil,h⟩
def ni(ha:PE X e te)(hr:PA X es t)(hs:↥(starEach (e::es) X.env=(false,eval e X.env)::starEach es X.env)):PA X (e::es) (Dw te t):=by
 intro pos pins s σ H Q I h;rw[hs];show wpAny _ _ (spliced ((false,eval e X.env)::backTo pos (starEach es X.env))) _ _ s
 refine qI (kC (ha pins s σ H _ I h) λu s1 ⟨x,H1,I1,r1,q1⟩=>?_);exact kC (hr pos pins s1 σ H1 _ I1 q1) λus s2 ⟨xs,H2,I2,r2,q2⟩=>⟨x::xs,H2,I2,.cons r1 r2,q2⟩
def D6(t:TA):TE:=λσ H Q=>t σ H λxs H1=>xs.length<=sizeLine/\∀p,H1 p=none->Q (.ref p) (upd H1 p (.tup xs))
def FG(t:TA):TE:=λσ H Q=>t σ H λxs H1=>xs.length<=sizeLine/\∀p,H1 p=none->Q (.ref p) (upd H1 p (.lst xs))
def Bi{x1}(h:PA X es t):PE X (.Tuple es x1 pos) (D6 t):=by
 intro pins s σ H Q I hq;refine wpAny_Tuple_spliced (kC (h pos pins s σ H _ I hq) λus s1 ⟨xs,H1,I1,r,z,q⟩=>⟨by rw[<-r.length];exact z,?_⟩);have hf:H1 s1.heap.objs.size=none:=I1.hok.fresh (zg _);refine⟨.ref s1.heap.objs.size,upd H1 s1.heap.objs.size (.tup xs),I1.laid (t':=s1.toks) (λb u e=>zf _ e) (zg _) ?_,rfl,q _ hf⟩;exact⟨z,us,r,⟨_,zO _ rfl,rfl,_,rfl⟩,.new _ _⟩
def Jy(h:PA X es t):PE X (.List es pos) (FG t):=by
 intro pins s σ H Q I hq;refine wpAny_List_spliced (kC (h pos pins s σ H _ I hq) λus s1 ⟨xs,H1,I1,r,z,q⟩=>⟨by rw[<-r.length];exact z,?_⟩);have hf:H1 s1.heap.objs.size=none:=I1.hok.fresh (zg _);refine⟨.ref s1.heap.objs.size,upd H1 s1.heap.objs.size (.lst xs),I1.laid (t':=s1.toks) (λb u e=>zf _ e) (zg _) ?_,rfl,q _ hf⟩;exact⟨z,us,0,r,zO _ rfl⟩
end
abbrev Sp:=List V->Hp->VK->XK->Prop
abbrev g7:=List Env->Hp->Shared->XK->Value->Shared->Prop
structure Env0(P:Program)(w:World)(K:PySem.W.Frag)(mg:Str->Option Value)(base:Heap)(A:Around)(outer:List Env)(s:Shared)(H:Hp):Prop where
 frames:A.frames=some outer
 mod:Mod K mg base
 bs:∀b o,base.get? b=some o->s.heap.get? b=some o/\H b=none
 bsz:base.objs.size<=s.heap.objs.size
 funs:s.heap.FunFrames base outer
 frf:∀b∈frs outer,H b=none
 hok:HOk P w H s.heap
 bare:AllBare s.gens
def CE(outer:List Env)(P:Program)(w:World)(H:Hp)(s:Shared)(Q:VK)(u:Value)(s':Shared):Prop:=
 ∃v H',s'.os=s.os/\AllBare s'.gens/\Un (frs outer) [] H H' s.heap s'.heap/\HOk P w H' s'.heap/\RelV v u/\Q v H'
def CR(CX:g7)(outer:List Env)(P:Program)(w:World)(H:Hp)(s:Shared)(Q:VK)(E:XK)(r:Result)(s':Shared):Prop:=
 match r with
 | .ok (.ret u)=>CE outer P w H s Q u s'
 | .ok _=>False
 | .error e=>CX outer H s E e s'
structure FnOk(P:Program)(w:World)(K:PySem.W.Frag)(mg:Str->Option Value)(base:Heap)(CX:g7)(k:Nat)(f:Addr)(fd:FuncData)(ps:List Str)(sp:Sp):Prop where
 len:∀vs H Q E,sp vs H Q E->vs.length=ps.length
 run:∀(A:Around) (outer:List Env) (s:Shared) (H:Hp) (args:Args) (us:List Value) (vs:List V) (Q:VK) (E:XK),Room k A->Env0 P w K mg base A outer s H->BindsTo s fd args (ps.zip us)->Vals vs us->sp vs H Q E->
  codeAny (model P w) A (.call (.ref f) args) (CR CX outer P w H s Q E) s
def FnOk.imp{P:Program}{w:World}{K:PySem.W.Frag}{mg:Str->Option Value}{base:Heap}{CX:g7}{k:Nat}{f:Addr}{fd:FuncData}{ps:List Str}{sp sp':Sp}(F:FnOk P w K mg base CX k f fd ps sp)
  (h:∀vs H Q E,sp' vs H Q E->sp vs H Q E):FnOk P w K mg base CX k f fd ps sp':=
 ⟨λvs H Q E q=>F.len vs H Q E (h _ _ _ _ q),λA outer s H args us vs Q E hr he hb hv hs=>F.run A outer s H args us vs Q E hr he hb hv (h _ _ _ _ hs)⟩
def Env0.make{P:Program}{w:World}{K:PySem.W.Frag}{mg:Str->Option Value}{base:Heap}{A:Around}{outer:List Env}{s:Shared}{H:Hp}(e:Env0 P w K mg base A outer s H)(C:Addr)(us:List Value)(kw:List (Str×Value)) :
  Env0 P w K mg base (A.under (.builtin "type.__call__" ⟨.ref C::us,kw⟩)) outer s H:=⟨by first | exact e.frames | (simpa[Around.under,Code.envs,Code.isFrame,pushEnvs] using e.frames),e.mod,e.bs,e.bsz,e.funs,e.frf,e.hok,e.bare⟩
section
variable{X:Cx}{pins:List (Addr×Obj)}{σ:St}{H:Hp}{s s':Shared}
def Inv.env0(I:Inv X pins σ H s):Env0 X.prog X.w X.K X.mg X.base X.A X.stack s H:=
 ⟨I.ok.frames,I.ok.mod,I.bs,zT I.ok.bsz I.sz,I.stack,I.stkFree,I.hok,I.bare⟩
def Inv.after{Q:VK}{u:Value}(I:Inv X pins σ H s)(h:CE X.stack X.prog X.w H s Q u s'):EP X pins σ Q u s':=by
 obtain⟨v,H',os,bare,un,hok,r,q⟩:=h;obtain⟨hh,g,d,t,os'⟩:=s';obtain rfl:os'=s.os:=os;exact⟨v,H',I.call (h':=hh) (g':=g) (d':=d) (t':=t) (ch:=[]) un hok bare (λb z=>absurd z (by simp)),r,q⟩
end
def WS(sp:Sp)(dvs:List V)(E:XK)(t:TA):TE:=λσ H Q=>t σ H λvs H1=>sp (vs++dvs) H1 Q E
def Ke(C:Addr)(m:Str)(sp:Sp)(dvs:List V)(E:XK)(ta:TE)(t:TA):TE:=λσ H Q=>ta σ H λx H1=>∃a dx fs,x=.ref a/\H1 a=some (.ins C dx fs)/\fs.lookup m=none /\
 t σ H1 λvs H2=>sp (x::(vs++dvs)) H2 Q E
def WI(C:Addr)(sp:Sp)(dvs:List V)(E:XK)(t:TA):TE:=λσ H Q=>t σ H λvs H1=>∀x dx,H1 x=none->H1 dx=none->dx≠x->
 sp (.ref x::(vs++dvs)) (upd (upd H1 dx (.own x)) x (.ins C dx [])) (λv H2=>v=.non/\Q (.ref x) H2) E
def Binds(K:PySem.W.Frag)(fd:FuncData)(ps:List Str)(ds:List Value):Prop:=
 ∀(s:Shared) (us:List Value),K.In s.heap->(us++ds).length=ps.length->BindsTo s fd ⟨us,[]⟩ (ps.zip (us++ds))
def Binds.all{K:PySem.W.Frag}{fd:FuncData}{ps:List Str}(h:∀us:List Value,us.length=ps.length->bindArgs fd ⟨us,[]⟩=pure (ps.zip us)):Binds K fd ps []:=λs us _ hl=>by
 rw[kj] at hl ⊢;exact .of_eq (h us hl)
def uX(CX:g7)(X:Cx)(E:XK):Prop:=∀(pins:List (Addr×Obj)) (σ:St) (H:Hp) (s:Shared) (e:Value) (s':Shared),Inv X pins σ H s->CX X.stack H s E e s'->X.xe e s'
section
variable{X:Cx}{CX:g7}{k:Nat}{f C:Addr}{fd:FuncData}{ps:List Str}{sp:Sp}{dvs:List V}{ds:List Value}{E:XK}{x m:Str}{p pos apos:Pos}{e o:Expr}{es:List Expr}{ta:TE}{t:TA}
def gT{pins:List (Addr×Obj)}{σ:St}{H:Hp}{s:Shared}{Q:VK}{us:List Value}{vs:List V}(F:FnOk X.prog X.w X.K X.mg X.base CX k f fd ps sp)(hr:Room k X.A)(hb:Binds X.K fd ps ds)(hd:Vals dvs ds)(hx:uX CX X E)
  (I:Inv X pins σ H s) (r:Vals vs us) (h:sp (vs++dvs) H Q E):wpAny (model X.prog X.w) X.A (call (.ref f) us) (EP X pins σ Q) X.xe s:=by
 have r2:Vals (vs++dvs) (us++ds):=r.append hd;have hl:(us++ds).length=ps.length:=by rw[<-r2.length];exact F.len _ _ _ _ h
 refine wpAny_call (yH (F.run X.A X.stack s H ⟨us,[]⟩ (us++ds) (vs++dvs) Q E hr I.env0 (hb s us I.kIn hl) r2 h) λr s' hq=>?_);cases r with
 | error e=>exact hx pins σ H s e s' I hq
 | ok fl=>
  cases fl with
  | ret u=>exact I.after hq
  | next=>exact False.elim hq
  | brk=>exact False.elim hq
  | cont=>exact False.elim hq
def X3(F:FnOk X.prog X.w X.K X.mg X.base CX k f fd ps sp)(hr:Room k X.A)(hg:Gl X x)(hm:X.mg x=some (.ref f))(hk:PySem.W.keepIn X.K (.ref f)=true)(hb:Binds X.K fd ps ds)(hd:Vals dvs ds)(hx:uX CX X E)
  (ha:PA X (e::es) t) (hdb:⇑((x==("__debug__":Str))=false)) (he:↥(starEach (e::es) X.env=(false,eval e X.env)::starEach es X.env)) (hpl:↥((backTo pos (starEach es X.env)).any (·.1)=false)) :
  PE X (.Call (.Name x p) (e::es) [] pos) (WS sp dvs E t):=by
 intro pins s σ H Q I h;refine jz (iw I hg hm ?_ hdb);refine vL (h₀:=X.base) I.ok.mod.kin hk (kC (ha pos pins s σ H _ I h) λus s1 ⟨vs,H1,I1,r,q⟩=>⟨I1.kIn,?_⟩) he hpl;exact gT F hr hb hd hx I1 r q
def Wc(F:FnOk X.prog X.w X.K X.mg X.base CX k f fd ps sp)(hr:Room k X.A)(hg:Gl X x)(hm:X.mg x=some (.ref f))(hk:PySem.W.keepIn X.K (.ref f)=true)(hb:Binds X.K fd ps ds)(hd:Vals dvs ds)(hx:uX CX X E)
  (hdb:⇑((x==("__debug__":Str))=false)):PE X (.Call (.Name x p) [] [] pos) (WS sp dvs E QN):=by
 intro pins s σ H Q I h;refine jz (iw I hg hm ?_ hdb);exact xq I.kIn hk (gT (us:=[]) F hr hb hd hx I .nil h)
def X4{pl:Sem Bool}(he:PE X o ta)(c:Cls X.K C)(hm:Meth X.K C m f)(F:FnOk X.prog X.w X.K X.mg X.base CX k f fd ps sp)(hr:Room k X.A)(hb:Binds X.K fd ps ds)(hd:Vals dvs ds)(hx:uX CX X E)(ha:PA X (e::es) t)
  (hst:↥(starEach (e::es) X.env=(false,eval e X.env)::starEach es X.env)) (hpl:↥((backTo pos (starEach es X.env)).any (·.1)=false))
  (ht:eval (.Call (.Attribute o m apos) (e::es) [] pos) X.env=(do
   let ov <-eval o X.env
   standAt apos.atName
   let (f,first) <-holding [ov] (getMethod ov m pl)
   callWith pos f first (backTo pos (starEach (e::es) X.env)) (backToKw pos (keywordEach [] X.env))):=by rfl) :
  PE X (.Call (.Attribute o m apos) (e::es) [] pos) (Ke C m sp dvs E ta t):=by
 intro pins s σ H Q I h;refine yS (pl:=pl) (kC (he pins s σ H _ I h) λu s1 ⟨x,H1,I1,rx,a,dx,fs,ex,ea,l,q⟩=>?_) ht;subst ex;obtain rfl:u=Value.ref a:=rx;refine lL I1 ea c hm l ?_;refine vL (first:=[.ref a]) (h₀:=X.base) I.ok.mod.kin hm.kp (kC (ha pos pins s1 σ H1 _ I1 q) λus s2 ⟨vs,H2,I2,r,q2⟩=>⟨I2.kIn,?_⟩) hst hpl;exact gT (us:=.ref a::us) (vs:=.ref a::vs) F hr hb hd hx I2 (.cons rfl r) q2
def Wg{pl:Sem Bool}(he:PE X o ta)(c:Cls X.K C)(hm:Meth X.K C m f)(F:FnOk X.prog X.w X.K X.mg X.base CX k f fd ps sp)(hr:Room k X.A)(hb:Binds X.K fd ps ds)(hd:Vals dvs ds)(hx:uX CX X E)
  (ht:eval (.Call (.Attribute o m apos) [] [] pos) X.env=(do
   let ov <-eval o X.env
   standAt apos.atName
   let (f,first) <-holding [ov] (getMethod ov m pl)
   callWith pos f first (backTo pos (starEach [] X.env)) (backToKw pos (keywordEach [] X.env))):=by rfl) :
  PE X (.Call (.Attribute o m apos) [] [] pos) (Ke C m sp dvs E ta QN):=by
 intro pins s σ H Q I h;refine yS (pl:=pl) (kC (he pins s σ H _ I h) λu s1 ⟨x,H1,I1,rx,a,dx,fs,ex,ea,l,q⟩=>?_) ht;subst ex;obtain rfl:u=Value.ref a:=rx;refine lL I1 ea c hm l ?_;exact xq (first:=[.ref a]) I1.kIn hm.kp (gT (us:=[.ref a]) (vs:=[.ref a]) F hr hb hd hx I1 (.cons rfl .nil) q)
structure Mk(K:PySem.W.Frag)(C f:Addr):Prop where
 makes:PySem.W.makesIn K C=true
 init:PySem.W.findIn K (.ref C) "__init__" = some (some (.ref f))
 fn:PySem.W.isFn K (.ref f)=true
 kp:PySem.W.keepIn K (.ref C)=true
def V2{pins:List (Addr×Obj)}{σ:St}{H:Hp}{s:Shared}{Q:VK}{us:List Value}{vs:List V}(M:Mk X.K C f)(F:FnOk X.prog X.w X.K X.mg X.base CX k f fd ps sp)(hr:Room (k+1) X.A)(hb:Binds X.K fd ps ds)(hd:Vals dvs ds)
  (hx:uX CX X E) (I:Inv X pins σ H s) (r:Vals vs us)
  (h:∀x dx,H x=none->H dx=none->dx≠x->sp (.ref x::(vs++dvs)) (upd (upd H dx (.own x)) x (.ins C dx [])) (λv H2=>v=.non/\Q (.ref x) H2) E) :
  wpAny (model X.prog X.w) X.A (call (.ref C) us) (EP X pins σ Q) X.xe s:=by
 have hq:=h (s.heap.objs.size+1) s.heap.objs.size (I.hok.fresh (vB _)) (I.hok.fresh (zg _)) (zX (jY _));have I2:=Inv.made (C:=C) I;have r2:Vals (V.ref (s.heap.objs.size+1)::(vs++dvs)) (Value.ref (s.heap.objs.size+1)::(us++ds)):=.cons rfl (r.append hd);have hl:(Value.ref (s.heap.objs.size+1)::us++ds).length=ps.length:=by
  have e:=r2.length;rw[F.len _ _ _ _ hq] at e;exact e.symm
 refine wpAny_call (Vp (f:=f) I.kIn M.makes M.init (qd.mp M.fn) (yH (F.run _ X.stack _ _ ⟨Value.ref (s.heap.objs.size+1)::us,[]⟩ (Value.ref (s.heap.objs.size+1)::(us++ds)) _ _ E (hr.make C us [])
  (I2.env0.make C us []) (hb _ (Value.ref (s.heap.objs.size+1)::us) I2.kIn hl) r2 hq) λr s' hq'=>?_))
 cases r with
 | error e=>exact hx pins σ _ _ e s' I2 hq'
 | ok fl=>
  cases fl with
  | ret u=>
   obtain⟨v,H',I3,rv,ev,q3⟩:=I2.after hq';subst ev;exact⟨rv,⟨V.ref (s.heap.objs.size+1),H',I3,rfl,q3⟩⟩
  | next=>exact False.elim hq'
  | brk=>exact False.elim hq'
  | cont=>exact False.elim hq'
def Yw(M:Mk X.K C f)(F:FnOk X.prog X.w X.K X.mg X.base CX k f fd ps sp)(hr:Room (k+1) X.A)(hg:Gl X x)(hm:X.mg x=some (.ref C))(hb:Binds X.K fd ps ds)(hd:Vals dvs ds)(hx:uX CX X E)
  (ha:PA X (e::es) t) (hdb:⇑((x==("__debug__":Str))=false)) (he:↥(starEach (e::es) X.env=(false,eval e X.env)::starEach es X.env)) (hpl:↥((backTo pos (starEach es X.env)).any (·.1)=false)) :
  PE X (.Call (.Name x p) (e::es) [] pos) (WI C sp dvs E t):=by
 intro pins s σ H Q I h;refine jz (iw I hg hm ?_ hdb);refine vL (h₀:=X.base) I.ok.mod.kin M.kp (kC (ha pos pins s σ H _ I h) λus s1 ⟨vs,H1,I1,r,q⟩=>⟨I1.kIn,?_⟩) he hpl;exact V2 M F hr hb hd hx I1 r q
end
section
variable{X:Cx}{CX:g7}{k:Nat}{f C:Addr}{fd:FuncData}{ps ks:List Str}{sp:Sp}{E:XK}{x m:Str}{p pos apos kpos:Pos}{e o:Expr}{es:List Expr}{kws:List Keyword}{te ta:TE}{t tk:TA}{nm:Option Str}
variable{g:List Value->List Value->List Value}{gV:List V->List V->List V}
end
structure FnScope(N P:List Str)(sc:Scope):Prop where
 kind:sc.kind=.function
 co:sc.isCoroutine=false
 gen:sc.isGenerator=false
 nd:N.Nodup
 pre:N.take P.length=P
 par:∀x∈P,sc.names.lookup x=some .local\/sc.names.lookup x=some .cell
 nofree:∀y∈sc.names,y.2≠.free
theorem nI{kindOf:Str->Option NameKind}{x:Str}:∀{binds:List (Str×Value)} {m:Str->Option Value},(∀v,(x,v)∉binds)->bindL kindOf binds m x=m x
 | [],_,_=>rfl
 | (n,v)::r,m,h=>by
  unfold bindL;rw[nI λw hw=>h w (zP _ hw)];split
  .have:x≠n:=by rintro rfl;exact h v z9
   simp[this]
  .rfl
theorem nW{kindOf:Str->Option NameKind}{x:Str}:∀{binds:List (Str×Value)} {m:Str->Option Value},(∀v,(x,v)∉binds)->bindC kindOf binds m x=m x
 | [],_,_=>rfl
 | (n,v)::r,m,h=>by
  unfold bindC;rw[nW λw hw=>h w (zP _ hw)];split
  .rfl
  .have:x≠n:=by rintro rfl;exact h v z9
   simp[this]
theorem nu{kindOf:Str->Option NameKind}{x:Str}{v:Value}:∀{P:List Str} {vs:List Value} {i:Nat} {m:Str->Option Value},P.Nodup->P[i]?=some x->vs[i]?=some v->kindOf x=some .local->
  bindL kindOf (P.zip vs) m x=some v
 | [],_,_,_,_,h,_,_=>by simp at h
 | _::_,[],_,_,_,_,h,_=>by simp at h
 | p::P,w::vs,0,m,nd,h1,h2,hk=>by
  simp at h1 h2;subst h1;subst h2;show bindL kindOf ((p,w)::P.zip vs) m p=_
  unfold bindL;rw[nI λv hv=>(jA.mp nd).1 (vC hv).1,zY hk];simp
 | p::P,w::vs,i+1,m,nd,h1,h2,hk=>by
  show bindL kindOf ((p,w)::P.zip vs) m x=_
  unfold bindL;exact nu (i:=i) (jA.mp nd).2 (by simpa using h1) (by simpa using h2) hk
theorem nA{kindOf:Str->Option NameKind}{x:Str}{v:Value}:∀{P:List Str} {vs:List Value} {i:Nat} {m:Str->Option Value},P.Nodup->P[i]?=some x->vs[i]?=some v->kindOf x≠some .local->
  bindC kindOf (P.zip vs) m x=some v
 | [],_,_,_,_,h,_,_=>by simp at h
 | _::_,[],_,_,_,_,h,_=>by simp at h
 | p::P,w::vs,0,m,nd,h1,h2,hk=>by
  simp at h1 h2;subst h1;subst h2;show bindC kindOf ((p,w)::P.zip vs) m p=_
  unfold bindC;rw[nW λv hv=>(jA.mp nd).1 (vC hv).1,jc hk];simp
 | p::P,w::vs,i+1,m,nd,h1,h2,hk=>by
  show bindC kindOf ((p,w)::P.zip vs) m x=_
  unfold bindC;exact nA (i:=i) (jA.mp nd).2 (by simpa using h1) (by simpa using h2) hk
def start(N:List Str)(vs:List V):St:=vs.map some++List.replicate (N.length-vs.length) none
def hW(CX:g7)(P:Program)(w:World)(K:PySem.W.Frag)(mg:Str->Option Value)(base:Heap)(N:List Str)(qual:Str)(scope:Scope)(f:Addr)(cd:Value)(A:Around)(outer:List Env)(s:Shared)(H:Hp)(E:XK):Cx where
 prog:=P
 w:=w
 K:=K
 mg:=mg
 base:=base
 A:=A.deeper (envOfC qual scope s.heap.objs.size f cd)
 N:=N
 s₀:=s
 H₀:=H
 env:=envOfC qual scope s.heap.objs.size f cd
 outer:=outer
 stack:=envOfC qual scope s.heap.objs.size f cd::outer
 ex:=[]
 calm:=true
 fn:=λ_=>true
 pn:=[]
 xe:=λe s'=>wpAny (model P w) (A.deeper (envOfC qual scope s.heap.objs.size f cd)) (leaving (envOfC qual scope s.heap.objs.size f cd) e) (λ_ s''=>CX outer H s E e s'') (λe' s''=>CX outer H s E e' s'') s'
def rZ{sc:Scope}{n:Nat}{x:Str}(h:sc.names.lookup x=some .cell):∃c,(cellsFrom n sc.names []).lookup x=some c:=by
 have q:=yM sc.names n [] (.inl h);exact qe.mp q
def JK{CX:g7}{P:Program}{w:World}{K:PySem.W.Frag}{mg:Str->Option Value}{base:Heap}{N ps:List Str}{qual:Str}{scope:Scope}{f:Addr}{cd:Value}{A:Around}{outer:List Env}{s s1:Shared}{H:Hp}{E:XK}{us:List Value}{vs:List V}
  (S:FnScope N ps scope) (hd:A.handled=none) (e0:Env0 P w K mg base A outer s H) (hl:vs.length=ps.length) (r:Vals vs us)
  (x:InCallC s s.heap.objs.size (bindL (envOfC qual scope s.heap.objs.size f cd).kindOf (ps.zip us) λ_=>none) (cellsFrom (s.heap.objs.size+1) scope.names []) (bindC (envOfC qual scope s.heap.objs.size f cd).kindOf (ps.zip us) λ_=>none) s1) :
  Inv (hW CX P w K mg base N qual scope f cd A outer s H E) [] (start N vs) H s1:=by
 have hpl:ps.length<=N.length:=by have:=jX List.length S.pre;rw[qQ] at this;omega
 obtain⟨h1,tk,rfl,hk⟩:=x.done;have noA:∀b:Addr,b∉(hW CX P w K mg base N qual scope f cd A outer s H E).ex:=λb z=>absurd (show b∈([]:List Addr) from z) (by simp)
 refine⟨⟨e0.mod,S.kind,rfl,rfl,zg _,λy z c h1 h2=>?_,λy hy=>?_,λy c _ h=>?_,λ_=>hd,Around.frames_deeper e0.frames,.inr ⟨rfl,rfl⟩,λb z=>absurd z (noA b),e0.bs,e0.bsz,λb _ _=>noA b,λb z=>absurd z (noA b),e0.funs,e0.frf⟩,
  rfl,e0.bare,Un.kept hk,⟨_,x.toInCall.ns,λi y v h1 h2 h3=>?_⟩,λy c h=>⟨_,x.cell y c h⟩,e0.hok.fresh (zg _),λy c h=>?_,λp hp=>absurd (show p∈([]:List (Addr×Obj)) from hp) (by simp),e0.hok.kept hk,?_⟩
 .exact name_of_addr x.apart (qT h1) (qT h2)
 .have hy:scope.names.lookup y=some .cell\/scope.names.lookup y=some .free:=hy
  rcases hy with hy | hy
  .exact rZ hy
  .exact absurd rfl (S.nofree _ (qT hy))
 .exact wA (x.above y c (qT h))
 .have hi:i<vs.length:=by
   unfold start at h2;by_cases hi:i<vs.length
   .exact hi
   .rw[zH (by simpa using hi)] at h2
    rw[qm] at h2;split at h2<;>cases h2
  have ha:vs[i]?=some v:=by
   unfold start at h2;rw[zA (by simpa using hi),jb] at h2;cases e:vs[i]? with
   | none=>rw[e] at h2;cases h2
   | some a=>rw[e] at h2;cases h2;rfl
  obtain⟨u,hu,rv⟩:=r.get ha;have hp:ps[i]?=some y:=by
   rw[<-S.pre,List.getElem?_take_of_lt ∅];exact h1
  have ndP:ps.Nodup:=by rw[<-S.pre];exact S.nd.sublist (List.take_sublist _ _)
  refine⟨u,rv,?_⟩;rcases S.par y (jH hp) with k | k
  .exact .inl ⟨k,nu ndP hp hu k⟩
  .obtain⟨c,e⟩:=rZ (n:=s.heap.objs.size+1) k
   refine .inr ⟨.inl k,c,e,?_⟩;have q:=x.cell y c e;rw[nA ndP hp hu (by show scope.names.lookup y≠_;rw[k];decide)] at q;exact q
 .exact e0.hok.fresh (wA (x.above y c (qT h)))
 .unfold start
  show _=N.length
  rw[zK,zB,qC];omega
def DK{CX:g7}{P:Program}{w:World}{K:PySem.W.Frag}{mg:Str->Option Value}{base:Heap}{k:Nat}{f:Addr}{name qual:Str}{params:Arguments}{body:List Stmt}{scope:Scope}{dV kV doc pm cdv ct oc:Value}{an od:Option Addr}
  {osl:Array (Option Value)} {N ps:List Str} {sp:Sp} (lk:K.lookup f=some ⟨oc,od,.func (PySem.W.fnOf name qual params body scope dV kV doc pm an cdv ct),osl⟩) (hcd:PySem.W.codeIn K cdv qual=true) (S:FnScope N ps scope)
  (len:∀vs H Q E,sp vs H Q E->vs.length=ps.length)
  (hbody:∀(A:Around) (outer:List Env) (s:Shared) (H:Hp) (vs:List V) (Q:VK) (E:XK),Room k (A.deeper (envOfC qual scope s.heap.objs.size f cdv))->sp vs H Q E->
   ∃t,PSs (hW CX P w K mg base N qual scope f cdv A outer s H E) body t/\t { nx:=λ_ H'=>Q .non H',rt:=Q } (start N vs) H) :
  FnOk P w K mg base CX (k+1) f (PySem.W.fnOf name qual params body scope dV kV doc pm an cdv ct) ps sp:=by
 refine⟨len,λA outer s H args us vs Q E hr e0 hb r hsp=>?_⟩;have hl:=len _ _ _ _ hsp;have KX:K.In s.heap:=e0.mod.kin.keeps λb o e=>(e0.bs b o e).1
 have lim:s.heap.NoLimit:=e0.mod.nolimit.keeps λb o e=>(e0.bs b o e).1
 have hkind:∀y∈ps.zip us,scope.names.lookup y.1=some .local\/(scope.names.lookup y.1=some .cell/\((cellsFrom (s.heap.objs.size+1) scope.names []).lookup y.1).isSome=true):=λ⟨n,v⟩ hy=>by
  rcases S.par n (vC hy).1 with q | q
  .exact .inl q
  .exact .inr ⟨q,yM _ _ _ (.inl q)⟩
 refine codeAny_call_function hr.depth (KX _ _ lk) rfl S.co S.gen rfl (PySem.W.codeRec_of KX hcd) (hb _ _ _ _ ?_);refine wpAny_newFunctionEnv_cells S.kind hkind λenv he s1 x=>?_
 subst he;refine⟨lim.keeps x.toInCall.keep,codeAny_func ?_⟩;obtain⟨t,ht,hq⟩:=hbody A outer s H vs Q E (hr.deeper _) hsp;have I:Inv (hW CX P w K mg base N qual scope f cdv A outer s H E) [] (start N vs) H s1:=JK S hr.hd e0 hl r x;refine qR (ht [] s1 (start N vs) H _ I hq) (λfl s' hs=>?_) λe s' hs=>hs
 have fin:∀{σ':St} {H':Hp} {v:V} {u:Value},Inv (hW CX P w K mg base N qual scope f cdv A outer s H E) [] σ' H' s'->RelV v u->Q v H'->CE outer P w H s Q u s':=
  λ{σ' H' v u} J rv q=>⟨v,H',J.os,J.bare,J.base,J.hok,rv,q⟩
 cases fl with
 | ret u=>
  obtain⟨v,σ',H',J,rv,q⟩:=hs;exact fin J rv q
 | next=>
  obtain⟨σ',H',J,q⟩:=hs;exact fin (v:=V.non) (u:=Value.none) J rfl q
 | brk=>
  obtain⟨_,_,_,q⟩:=hs;exact False.elim q
 | cont=>
  obtain⟨_,_,_,q⟩:=hs;exact False.elim q
end L2
namespace L2
open PySem PySem.Spec PyProof.Rows
section
variable{X:Cx}{x:Str}{p pos:Pos}{e:Expr}{es:List Expr}{t:TA}{id T:String}{r:List V->Hp->VK->Prop}
def DO(r:List V->Hp->VK->Prop)(t:TA):TE:=λσ H Q=>t σ H λvs H1=>r vs H1 Q
def pD(hc:yB X (.builtin id) r)(hg:Gl X x)(hm:X.mg x=none)(hv:bootBuiltins x=some (.builtin id))(ha:PA X (e::es) t)(hn:⇑(x≠"__name__"))(hdb:⇑((x==("__debug__":Str))=false))
  (he:↥(starEach (e::es) X.env=(false,eval e X.env)::starEach es X.env)) (hpl:↥((backTo pos (starEach es X.env)).any (·.1)=false)):PE X (.Call (.Name x p) (e::es) [] pos) (DO r t):=by
 intro pins s σ H Q I h;refine jz (ug I hg hm hv ?_ hn hdb);exact PyProof.Rows.callWith_builtin1 (kC (ha pos pins s σ H _ I h) λus s1 ⟨vs,H1,I1,r1,q1⟩=>hc pins s1 σ H1 vs us Q I1 r1 q1) he hpl
def JU(hc:yB X (.type T) r)(hg:Gl X x)(hm:X.mg x=none)(hv:bootBuiltins x=some (.type T))(ha:PA X (e::es) t)(hn:⇑(x≠"__name__"))(hdb:⇑((x==("__debug__":Str))=false))
  (he:↥(starEach (e::es) X.env=(false,eval e X.env)::starEach es X.env)) (hpl:↥((backTo pos (starEach es X.env)).any (·.1)=false)):PE X (.Call (.Name x p) (e::es) [] pos) (DO r t):=by
 intro pins s σ H Q I h;refine jz (ug I hg hm hv ?_ hn hdb);exact jo (kC (ha pos pins s σ H _ I h) λus s1 ⟨vs,H1,I1,r1,q1⟩=>hc pins s1 σ H1 vs us Q I1 r1 q1) he hpl
end
end L2
namespace HT
open PySem PyProof.Rows
section
open PySem.SeqAt
open PySem.AutoSeq1 (wpAny_loadPart')
open PySem.MeetsSeq PySem.MeetsSeq2 PySem.MeetsSeq3
end
section
variable{prog:Program}{w:World}{A:Around}{E:Value->Shared->Prop}{s:Shared}
def cat_tup{t b:Addr}{vs ws:List Value}{Q:Value->Shared->Prop}(ht:IsTup s.heap t vs.toArray)(hb:IsTup s.heap b ws.toArray)(hv:vs≠[])
  (h1:ws=[]->Q (.ref t) s) (h2:ws≠[]->Q (.ref s.heap.objs.size) { s with heap:=s.heap.push { cls:=.type "tuple",data:=.seq (vs++ws).toArray } })
  (hsz:vs.length+ws.length<=sizeLine):wpAny (model prog w) A (binaryOp .Add (.ref t) (.ref b)) Q E s:=by
 obtain⟨⟨cls,dd,data,sl⟩,ho,hc,n,hd⟩:=id ht;obtain⟨⟨cls2,dd2,data2,sl2⟩,ho2,hc2,n2,hd2⟩:=id hb;simp only at hc hd hc2 hd2;subst hc hd hc2 hd2;have e:vs.toArray++ws.toArray=(vs++ws).toArray:=by simp
 by_cases hw:ws=[]
 .exact yG ⟨_,ho,rfl⟩ ⟨_,ho2,rfl⟩ yJ seq_tuple_add wu v6 (vX _ _)
   (tuple_addW1 t b vs.toArray ws.toArray n n2 dd dd2 sl sl2 (by simpa using hv) (by simp[hw])) ⟨ho,ho2,h1 hw⟩
 .refine yG ⟨_,ho,rfl⟩ ⟨_,ho2,rfl⟩ yJ seq_tuple_add wu v6 (vX _ _)
   (tuple_addW2 t b vs.toArray ws.toArray n n2 dd dd2 sl sl2 (by simpa using hv) (by simpa using hw) (by rw[zM,zM];exact hsz)) ⟨ho,ho2,?_⟩
  rw[e];exact h2 hw
def sIx(n d:Nat):Option Int->Nat
 | none=>d
 | some v=>if v<0 then (v+(n:Int)).toNat else min v.toNat n
def BL(n d:Nat)(hd:d<=n)(o:Option Int):sIx n d o<=n:=by
 cases o with
 | none=>exact hd
 | some v=>
  show(if v<0 then (v+(n:Int)).toNat else min v.toNat n)<=n
  by_cases hv:v<0
  .rw[zY hv];omega
  .rw[jc hv];exact Nat.min_le_right _ _
def tQ(v:Int)(n d:Nat):(if v<0 then max (v+(n:Int)) 0 else min v (n:Int))=((sIx n d (some v):Nat):Int):=by
 show(if v<0 then max (v+(n:Int)) 0 else min v (n:Int))=(((if v<0 then (v+(n:Int)).toNat else min v.toNat n):Nat):Int)
 by_cases hv:v<0
 .simp only[zY hv];omega
 .simp only[jc hv];omega
def Kp(lo hi:Option Int)(n:Nat):Builtin.Slice.sliceAdjust lo hi 1 (n:Int)=(((sIx n 0 lo:Nat):Int),((sIx n n hi:Nat):Int)):=by
 have h1:¬((1:Int)<0):=by omega
 unfold Builtin.Slice.sliceAdjust;simp only[h1,jq];refine Prod.ext ?_ ?_
 .cases lo with
  | none=>rfl
  | some v=>exact tQ v n 0
 .cases hi with
  | none=>rfl
  | some v=>exact tQ v n n
def Ks(i j:Nat):Builtin.Slice.slicePlaces (i:Int) (j:Int) 1=j-i:=by
 unfold Builtin.Slice.slicePlaces;have h1:(1:Int)>0:=by omega
 simp only[h1,kW,Int.ediv_one];split<;>omega
def l9{v:Value}{o:Option Int}{Q:Option Int->Shared->Prop}(p:IsPart v o)(h:Q o s):wpAny (model prog w) A (Builtin.Slice.slicePartIndex v) Q E s:=by
 cases p with
 | none=>exact slicePart_none h
 | int i t=>exact slicePart_int h
def bS{sl:Addr}{vl vu:Value}{lo hi:Option Int}{n:Nat}{Q:Int×Int×Nat->Shared->Prop}(hs:s.heap.IsSliceOf sl vl vu .none)(pl:IsPart vl lo)(pu:IsPart vu hi)
  (h:Q (((sIx n 0 lo:Nat):Int),1,sIx n n hi-sIx n 0 lo) s):wpAny (model prog w) A (Builtin.Slice.sliceApplied (.ref sl) (pure (n:Int))) Q E s:=by
 obtain⟨os,hos,hcs,hds⟩:=id hs;unfold Builtin.Slice.sliceApplied Builtin.Slice.sliceFields;refine za (za (jl hos hds (x:=vl) rfl (za (jl hos hds (x:=vu) rfl (za (jl hos hds (x:=.none) rfl (zu ?_)))))));refine za (slicePart_none ?_);show wpAny _ _ (if ((1:Int)==0)=true then _ else _) _ _ s
 rw[jc (by decide)];refine za (l9 pl (za (l9 pu (za (zu ?_)))));show wpAny _ _ (match Builtin.Slice.sliceAdjust lo hi 1 (n:Int) with | (lo,hi)=>pure (lo,(1:Int),Builtin.Slice.slicePlaces lo hi 1)) _ _ s
 rw[Kp lo hi n];show wpAny _ _ (pure (((sIx n 0 lo:Nat):Int),(1:Int),Builtin.Slice.slicePlaces ((sIx n 0 lo:Nat):Int) ((sIx n n hi:Nat):Int) 1)) _ _ s
 rw[Ks];exact zu h
def VQ(xs:Array Value)(i k:Nat):((List.range k).filterMap λ(m:Nat)=>xs[((i:Int)+(m:Int)*1).toNat]?).toArray=((xs.toList.drop i).take k).toArray:=by
 have e:(λ(m:Nat)=>xs[((i:Int)+(m:Int)*1).toNat]?)=λm=>xs[i+m]?:=by
  funext m
  have:((i:Int)+(m:Int)*1).toNat=i+m:=by omega
  rw[this]
 rw[e];have:=pick_run xs i k;rw[List.filterMap_map] at this;have e2:((λx=>xs[x]?)∘λx=>i+x)=λm=>xs[i+m]?:=rfl
 rw[e2] at this;rw[this]
def getItem_tuple_cut{t sl:Addr}{items:Array Value}{vl vu:Value}{lo hi:Option Int}{Q:Value->Shared->Prop}(ht:IsTup s.heap t items)(hs:s.heap.IsSliceOf sl vl vu .none)(pl:IsPart vl lo)(pu:IsPart vu hi)
  (hw:¬(sIx items.size 0 lo=0/\sIx items.size items.size hi=items.size))
  (h:Q (.ref s.heap.objs.size) { s with heap:=s.heap.push { cls:=.type "tuple",data:=.seq ((items.toList.drop (sIx items.size 0 lo)).take (sIx items.size items.size hi-sIx items.size 0 lo)).toArray } })
  (hsz:items.size<=sizeLine):wpAny (model prog w) A (getItem (.ref t) (.ref sl)) Q E s:=by
 have htake:sizeOk (.seq ((items.toList.drop (sIx items.size 0 lo)).take (sIx items.size items.size hi-sIx items.size 0 lo)).toArray):=by
  show((items.toList.drop (sIx items.size 0 lo)).take (sIx items.size items.size hi-sIx items.size 0 lo)).toArray.size<=sizeLine
  rw[zM,qQ,vg,vI];omega
 have hj:sIx items.size items.size hi<=items.size:=BL _ _ (zg _) hi;obtain⟨os,hos,hcs,hds⟩:=id hs;have hTs:s.TypeIs (.ref sl) "slice":=⟨os,hos,hcs⟩;unfold getItem;try with_reducible refine jf ?_
 first | refine za (zu ?_) | skip
 refine za (wpAny_sequenceKey ht.typeIs (by decide) ?_)
 refine za (jn (name:=Str.ofString "__getitem__") ht.typeIs jD
  (jy jD ht.typeIs entry_tuple_getitem ?_ (args_tuple_getitem _ _)))
 show wpAny _ _ (Builtin.Tuple.tupleItemsOf (.ref t) >>= _) _ _ s
 refine za (ye ht ?_);refine za (j7 hTs ?_);rw[zY (by decide)];refine za (bS hs pl pu ?_);have hno:¬((((sIx items.size 0 lo:Nat):Int)==0&&(1:Int)==1&&(sIx items.size items.size hi-sIx items.size 0 lo)==items.size)=true):=by
  intro q;rw[zx,zx] at q;have q1:((sIx items.size 0 lo:Nat):Int)=0:=eq_of_beq q.1.1;have q2:sIx items.size items.size hi-sIx items.size 0 lo=items.size:=eq_of_beq q.2;exact hw ⟨by omega,by omega⟩
 show wpAny _ _ (if (((sIx items.size 0 lo:Nat):Int)==0&&(1:Int)==1&&(sIx items.size items.size hi-sIx items.size 0 lo)==items.size)=true then _ else _) _ _ s
 rw[jc hno,VQ];first
  | exact za (m:=Builtin.Tuple.tupleExact _) (jm (zu ⟨_,rfl,zu h⟩) htake)
  | exact za (m:=Builtin.Tuple.tupleExact _) (jm (za (zu (zu ⟨_,rfl,zu h⟩))) htake)
  | exact za (za (m:=Builtin.Tuple.tupleExact _) (jm (zu (zu ⟨_,rfl,zu h⟩)) htake))
  | exact za (za (m:=Builtin.Tuple.tupleExact _) (jm (zu ⟨_,rfl,zu h⟩) htake))
end
end HT
namespace L2
open PySem PySem.Spec PyProof.Rows
abbrev TO:=St->Hp->(Option Int->Hp->Prop)->Prop
def PO(X:Cx)(e:Option Expr)(t:TO):Prop:=
 ∀(pins:List (Addr×Obj)) (s:Shared) (σ:St) (H:Hp) (Q:Option Int->Hp->Prop),Inv X pins σ H s->t σ H Q->
  wpAny (model X.prog X.w) X.A (evalPart e X.env) (λu s'=>∃o H',Inv X pins σ H' s'/\IsPart u o/\Q o H') X.xe s
def XQ:TO:=λ_ H Q=>Q none H
def C4(t:TE):TO:=λσ H Q=>t σ H λx H1=>∃i,x=.int i/\Q (some i) H1
section
variable{X:Cx}{e:Expr}{te:TE}{lo hi:Option Expr}{tl th:TO}{pos p2:Pos}
def YU:PO X none XQ:=by
 intro pins s σ H Q I h;rw[evalPart_none];exact zu ⟨none,H,I,.none,h⟩
def Xh(h:PE X e te):PO X (some e) (C4 te):=by
 intro pins s σ H Q I hw;rw[evalPart_some];refine kC (h pins s σ H _ I hw) λu s1 ⟨x,H1,I1,r1,q1⟩=>?_
 obtain⟨i,rfl,q⟩:=q1;obtain⟨t,rfl⟩:=r1;exact⟨some i,H1,I1,.int i t,q⟩
def WX(X:Cx)(r:V->Option Int->Option Int->Hp->VK->Prop):Prop:=
 ∀(pins:List (Addr×Obj)) (s:Shared) (σ:St) (H:Hp) (x:V) (v vl vu:Value) (lo hi:Option Int) (sl:Addr) (Q:VK),Inv X pins σ H s->RelV x v->s.heap.IsSliceOf sl vl vu .none->IsPart vl lo->IsPart vu hi->r x lo hi H Q->
  ∃T id,typeLookup (.type T) "__getitem__" = pure (some (.builtin id))/\s.TypeIs v T/\wpAny (model X.prog X.w) X.A (getItem v (.ref sl)) (EP X pins σ Q) X.xe s
def FT(r:V->Option Int->Option Int->Hp->VK->Prop)(te:TE)(tl th:TO):TE:=λσ H Q=>te σ H λx H1=>tl σ H1 λl H2=>th σ H2 λu H3=>r x l u H3 Q
def VH{r:V->Option Int->Option Int->Hp->VK->Prop}(hr:WX X r)(he:PE X e te)(hl:PO X lo tl)(hu:PO X hi th):PE X (.Subscript e (.Slice lo hi none p2) pos) (FT r te tl th):=by
 intro pins s σ H Q I h;refine Subscript_ (kC (he pins s σ H _ I h) λv s1 ⟨x,H1,I1,r1,q1⟩=>?_);refine wpAny_Slice (kC (hl pins s1 σ H1 _ I1 q1) λvl s2 ⟨l,H2,I2,pl,q2⟩=>kC (hu pins s2 σ H2 _ I2 q2) λvu s3 ⟨u,H3,I3,pu,q3⟩=>?_);rw[evalPart_none];refine zu ?_;have I4:Inv X pins σ H3 { s3 with heap:=s3.heap.push { cls:=.type "slice",data:=.fields #[vl,vu,.none] } }:=I3.kept (t':=s3.toks) λb ob q=>zf _ q
 obtain⟨T,id,hT,ht,hg⟩:=hr pins { s3 with heap:=s3.heap.push { cls:=.type "slice",data:=.fields #[vl,vu,.none] } } σ H3 x v vl vu l u s3.heap.objs.size Q I4 r1 (Heap.IsSliceOf.new ..) pl pu q3;show wpAny (model X.prog X.w) X.A (subscriptTail e (.Slice lo hi none p2) v (.ref s3.heap.objs.size)) (EP X pins σ Q) X.xe { s3 with heap:=s3.heap.push { cls:=.type "slice",data:=.fields #[vl,vu,.none] } }
 exact tail_any (ops:=[.ref s3.heap.objs.size,v]) ht hT hg (by with_unfolding_all rfl)
def cf(xs:List V)(lo hi:Option Int):List V:=(xs.drop (HT.sIx xs.length 0 lo)).take (HT.sIx xs.length xs.length hi-HT.sIx xs.length 0 lo)
def iU(xs:List V)(lo hi:Option Int):(cf xs lo hi).length<=xs.length:=by
 unfold cf;rw[qQ,vg];omega
def Fw(K:PySem.W.Frag):V->Option Int->Option Int->Hp->VK->Prop:=λx lo hi H Q=>∃a xs,x=.ref a/\SqT K H a xs /\
 ¬(HT.sIx xs.length 0 lo=0/\HT.sIx xs.length xs.length hi=xs.length)/\∀p,H p=none->Q (.ref p) (upd H p (.tup (cf xs lo hi)))
def U7:WX X (Fw X.K):=by
 intro pins s σ H x v vl vu lo hi sl Q I rx hs pl pu h;obtain⟨a,xs,rfl,hx,hw,q⟩:=h;cases rx;obtain⟨its,r,ht,hz⟩:=I.tuple hx;have hlen:its.toArray.size=xs.length:=by rw[zM];exact r.length.symm
 refine⟨"tuple",_,jD.lookup,ht.typeIs,?_⟩;refine HT.getItem_tuple_cut ht hs pl pu (by rw[hlen];exact hw) ?_ (by rw[hlen];exact hz);rw[hlen];refine⟨.ref s.heap.objs.size,_,I.laid (t':=s.toks) (o:=.tup (cf xs lo hi)) (λb ob q=>zf _ q) (zg _) ?_,rfl,q _ (I.hok.fresh (zg _))⟩;exact⟨zT (iU xs lo hi) hz,_,(r.drop (HT.sIx xs.length 0 lo)).take (HT.sIx xs.length xs.length hi-HT.sIx xs.length 0 lo),IsTup.new _ _,.new _ _⟩
def CY(K:PySem.W.Frag):R2:=λx y H Q=>∃a b xs ys,x=.ref a/\y=.ref b/\SqT K H a xs/\SqT K H b ys/\xs≠[]/\xs.length+ys.length<=sizeLine /\
 (ys=[]->Q (.ref a) H)/\(ys≠[]->∀p,H p=none->Q (.ref p) (upd H p (.tup (xs++ys))))
def Vals.nil_iff{xs:List V}{us:List Value}(r:Vals xs us):us=[]↔xs=[]:=by
 cases r with
 | nil=>simp
 | cons _ _=>simp
def Y1:qo X (binaryOp .Add) (CY X.K):=by
 intro pins s σ H x y v u Q I rx ry h;obtain⟨a,b,xs,ys,rfl,rfl,ha,hb,hx,hz,q1,q2⟩:=h;cases rx;cases ry;obtain⟨its,r1,p1,_⟩:=I.tuple ha;obtain⟨its2,r2,p2,_⟩:=I.tuple hb;refine HT.cat_tup p1 p2 (λz=>hx (r1.nil_iff.mp z)) (λz=>⟨.ref a,H,I,rfl,q1 (r2.nil_iff.mp z)⟩) (λz=>?_) (by rw[<-r1.length,<-r2.length];exact hz);refine⟨.ref s.heap.objs.size,_,I.laid (t':=s.toks) (o:=.tup (xs++ys)) (λb ob q=>zf _ q) (zg _) ?_,rfl,q2 (λw=>z (r2.nil_iff.mpr w)) _ (I.hok.fresh (zg _))⟩;exact⟨by rw[zK];exact hz,_,r1.append r2,IsTup.new _ _,.new _ _⟩
end
end L2
namespace L2
open PySem PySem.Spec PyProof.Rows
def xl(n:Nat)(i:Int):Option Nat:=if 0<=i then (if i<n then some i.toNat else none) else if -(n:Int)<=i then some (i+n).toNat else none
def atI{α:Type}(xs:List α)(i:Int):Option α:=(xl xs.length i).bind λj=>xs[j]?
def Zn{n:Nat}{i:Int}{j:Nat}(h:xl n i=some j):seqIndex? i n=some j/\j<n/\-(n:Int)<=i/\i<n:=by
 unfold xl at h;by_cases h0:0<=i
 .rw[zY h0] at h
  by_cases h1:i<n
  .rw[zY h1] at h
   have e:i.toNat=j:=zZ h;exact⟨by rw[seqIndex_of h0 h1,e],by omega,by omega,h1⟩
  .rw[jc h1] at h;cases h
 .rw[jc h0] at h
  by_cases h1:-(n:Int)<=i
  .rw[zY h1] at h
   have e:(i+n).toNat=j:=zZ h;exact⟨by rw[seqIndex_neg ∅ h1,e],by omega,h1,by omega⟩
  .rw[jc h1] at h;cases h
def mQ{α:Type}{xs:List α}{i:Int}{v:α}(h:atI xs i=some v):∃j,seqIndex? i xs.length=some j/\xs[j]?=some v/\j<xs.length/\-(xs.length:Int)<=i/\i<xs.length:=by
 unfold atI at h;cases e:xl xs.length i with
 | none=>rw[e] at h;cases h
 | some j=>
  rw[e] at h;obtain⟨h1,h2,h3,h4⟩:=Zn e;exact⟨j,h1,h,h2,h3,h4⟩
def ZC{α:Type}{xs:List α}{j:Nat}{v:α}(h:xs[j]?=some v):atI xs (j:Int)=some v:=by
 have hj:j<xs.length:=(zU.mp h).1;have e:xl xs.length (j:Int)=some j:=by
  unfold xl;rw[zY ∅,zY ∅];simp
 unfold atI;rw[e];exact h
def VX{α:Type}(xs:List α)(v:α):atI (xs++[v]) (-1)=some v:=by
 have hl:(xs++[v]).length=xs.length+1:=by simp
 have e:xl (xs++[v]).length (-1)=some xs.length:=by
  unfold xl;rw[hl,jc (by decide),zY ∅];congr 1
  omega
 unfold atI;rw[e];show(xs++[v])[xs.length]?=some v
 simp
def uI(b:Expr):Prop:=∀o i,subscripted b false o i=operate [o,i] (getItem o i)
def rR(X:Cx)(r:R2):Prop:=
 ∀(value slice:Expr) (pins:List (Addr×Obj)) (s:Shared) (σ:St) (H:Hp) (x y:V) (v u:Value) (Q:VK),Inv X pins σ H s->RelV x v->RelV y u->r x y H Q->
  subscripted slice false v u=operate [v,u] (getItem v u)->wpAny (model X.prog X.w) X.A (subscriptTail value slice v u) (EP X pins σ Q) X.xe s
def DM(X:Cx)(id:String)(r:V->List V->Hp->VK->Prop):Prop:=
 ∀(pins:List (Addr×Obj)) (s:Shared) (σ:St) (H:Hp) (x:V) (xs:List V) (v:Value) (us:List Value) (Q:VK),Inv X pins σ H s->RelV x v->Vals xs us->r x xs H Q->
  wpAny (model X.prog X.w) X.A (call (.builtin id) (v::us)) (EP X pins σ Q) X.xe s
section
variable{X:Cx}{a b:Expr}{ta tb:TE}{pos:Pos}
def ZO{r:R2}(hr:rR X r)(ha:PE X a ta)(hb:PE X b tb)(hs:uI b):PE X (.Subscript a b pos) (J3 r ta tb):=by
 intro pins s σ H Q I h;exact Subscript_ (We ha hb I h λv u s2 x y H2 I2 rx ry q=>hr a b pins s2 σ H2 x y v u Q I2 rx ry q (hs _ _))
def Fb(K:PySem.W.Frag):R2:=λx y H Q=>∃p xs i v,x=.ref p/\y=.int i/\SqL K H p xs/\atI xs i=some v/\Q v H
def Fo(K:PySem.W.Frag):R2:=λx y H Q=>∃p xs i v,x=.ref p/\y=.int i/\SqT K H p xs/\atI xs i=some v/\Q v H
def DW:R2:=λx y H Q=>∃z i c,x=.str z/\y=.int i/\z.length<=sizeLine/\atI z.cps.toList i=some c/\Q (.str ⟨#[c]⟩) H
def Xs:rR X (Fb X.K):=by
 intro value slice pins s σ H x y v u Q I rx ry h hs;obtain⟨p,xs,i,z,rfl,rfl,hq,he,q⟩:=h;cases rx;obtain⟨t,rfl⟩:=ry;obtain⟨its,r,pl,hz⟩:=I.list hq;obtain⟨j,h1,h2,h3,h4,h5⟩:=mQ he;obtain⟨w,ew,rw'⟩:=r.get h2;have hl:=r.length;have hn:=gW;have fin:EP X pins σ Q w s:=⟨z,H,I,rw',q⟩;by_cases h0:0<=i
 .have hj:i.toNat=j:=by
   rw[seqIndex_of h0 h5] at h1;exact zZ h1
  exact item_listR pl.isList h0 ∅ (by rw[hj];simpa using ew) fin hs
 .have hj:(i+(its.toArray.size:Int)).toNat=j:=by
   rw[seqIndex_neg ∅ h4] at h1;rw[zM,<-hl];exact zZ h1
  exact subscriptTail_builtinR (x:=w) pl.isList.typeIs slot_list_getitem.lookup
   (wpAny_getItem_list_neg (Q:=λr s'=>r=w/\EP X pins σ Q r s') pl.isList ∅ (by rw[zM]<;>omega) ∅ (by rw[hj];simpa using ew) ⟨rfl,fin⟩) hs
def pb:rR X (Fo X.K):=by
 intro value slice pins s σ H x y v u Q I rx ry h hs;obtain⟨p,xs,i,z,rfl,rfl,hq,he,q⟩:=h;cases rx;obtain⟨t,rfl⟩:=ry;obtain⟨its,r,pl,hz⟩:=I.tuple hq;obtain⟨j,h1,h2,h3,h4,h5⟩:=mQ he;obtain⟨w,ew,rw'⟩:=r.get h2;have hl:=r.length;have hn:=gW;have fin:EP X pins σ Q w s:=⟨z,H,I,rw',q⟩;exact subscriptTail_builtinR (x:=w) pl.typeIs jD.lookup
  (getItem_tuple (j:=j) (Q:=λr s'=>r=w/\EP X pins σ Q r s') pl ∅ ∅ (by rw[zM,<-hl];exact h1) (by simpa using ew) ⟨rfl,fin⟩) hs
def Uk:rR X DW:=by
 intro value slice pins s σ H x y v u Q I rx ry h hs;obtain⟨z,i,c,rfl,rfl,hz,he,q⟩:=h;obtain⟨t,rfl⟩:=rx;obtain⟨t',rfl⟩:=ry;obtain⟨j,h1,h2,h3,h4,h5⟩:=mQ he;have hl:z.cps.toList.length=z.length:=by simp[Str.length]
 rw[hl] at h1 h4 h5;have hn:=gW
 exact tail_any (typeIs_str s z t) slot_str_getitem.lookup (getItem_str (c:=c) (by
  have e1:decide (i < -(2 ^ 63:Int))=false:=jM ∅;have e2:decide (i>=2 ^ 63)=false:=jM ∅
  rw[e1,e2,Bool.or_false]) (by rw[h1];simpa using h2) ⟨.str ⟨#[c]⟩,H,I.tok _,⟨_,rfl⟩,q⟩) hs
def Kc(its:List Value)(n j:Nat)(u:Value):Obj.mapSeq (·.setIfInBounds j u) { cls:=.type "list",data:=.seq its.toArray n }={ cls:=.type "list",data:=.seq (its.set j u).toArray n }:=by
 simp[Obj.mapSeq]
theorem Inv.lst{pins:List (Addr×Obj)}{σ:St}{H:Hp}{s:Shared}{p:Addr}{xs:List V}(I:Inv X pins σ H s)(h:H p=some (.lst xs)) :
  ∃(its:List Value) (n:Nat),Vals xs its/\s.heap.get? p=some { cls:=.type "list",data:=.seq its.toArray n }/\xs.length<=sizeLine:=by
 obtain⟨z,its,n,r,e⟩:=I.hok p _ h;exact⟨its,n,r,e,z⟩
def Inv.lstUpd{pins:List (Addr×Obj)}{σ:St}{H:Hp}{s:Shared}{p:Addr}{xs ys:List V}{its its':List Value}{n n':Nat}{f:Obj->Obj}(I:Inv X pins σ H s)(h:H p=some (.lst xs))
  (ho:s.heap.get? p=some { cls:=.type "list",data:=.seq its.toArray n }) (hf:f { cls:=.type "list",data:=.seq its.toArray n }={ cls:=.type "list",data:=.seq its'.toArray n' }) (r:Vals ys its') (hz:ys.length<=sizeLine) (t:Nat) :
  Inv X pins σ (upd H p (.lst ys)) { s with heap:=s.heap.update p f,toks:=t }:=by
 have e:(s.heap.update p f).get? p=some { cls:=.type "list",data:=.seq its'.toArray n' }:=by
  rw[jT f ho (by rw[hf]<;>rfl),hf]
 refine I.write (x:=p) (e:=p) (by rw[h];trivial) (.inl rfl) (λb u hb q=>(qG _ _ (kY hb)).trans q) ⟨_,e⟩ ?_;exact⟨hz,its',n',r,e⟩
def Df:V->V->V->Hp->(Hp->Prop)->Prop:=λo i v H Q=>∃p xs k j,o=.ref p/\i=.int k/\H p=some (.lst xs)/\xl xs.length k=some j/\Q (upd H p (.lst (xs.set j v)))
def set_list:QM X Df:=by
 intro pins s σ H o i v ov iv u Q I ro ri rv h;obtain⟨p,xs,k,j,rfl,rfl,hp,hj,q⟩:=h;cases ro;obtain⟨t,rfl⟩:=ri;obtain⟨its,n,r,ho,hz⟩:=I.lst hp;obtain⟨h1,h2,h3,h4⟩:=Zn hj;have hl:=r.length;have hn:=gW;have I':Inv X pins σ (upd H p (.lst (xs.set j v))) { s with heap:=s.heap.update p (Obj.mapSeq (·.setIfInBounds j u)) }:=
  I.lstUpd hp ho (Kc its n j u) (r.set rv j) (by rw[je];exact hz) s.toks
 by_cases h0:0<=k
 .have hk:k.toNat=j:=by
   rw[seqIndex_of h0 h4] at h1;exact zZ h1
  exact PySem.W.ki_setAt ho h0 ∅ (by rw[zM,<-hl];exact h4) (by rw[hk];exact⟨_,I',q⟩)
 .have hk:(k+(its.toArray.size:Int)).toNat=j:=by
   rw[seqIndex_neg ∅ h3] at h1;rw[zM,<-hl];exact zZ h1
  exact PySem.W.ki_setBack ho ∅ (by rw[zM,<-hl];exact h3) ∅ (by rw[hk];exact⟨_,I',q⟩)
def sH(lo hi:Option Int)(n:Nat):(sliceBounds lo hi none n).1=((HT.sIx n 0 lo:Nat):Int)/\(sliceBounds lo hi none n).2.1=((HT.sIx n n hi:Nat):Int)/\(sliceBounds lo hi none n).2.2=1:=by
 refine⟨?_,?_,rfl⟩
 .cases lo with
  | none=>simp[sliceBounds,HT.sIx]
  | some i=>
   simp only[sliceBounds,HT.sIx,Option.getD_none,show(1:Int)>0 by decide,kW];by_cases h:i<0
   .simp only[h,kW]<;>omega
   .simp only[h,jq]<;>omega
 .cases hi with
  | none=>simp[sliceBounds,HT.sIx]
  | some i=>
   simp only[sliceBounds,HT.sIx,Option.getD_none,show(1:Int)>0 by decide,kW];by_cases h:i<0
   .simp only[h,kW]<;>omega
   .simp only[h,jq]<;>omega
theorem oA(its:List Value)(lo hi:Option Int):slicePick its.toArray lo hi none=((its.drop (HT.sIx its.length 0 lo)).take (HT.sIx its.length its.length hi-HT.sIx its.length 0 lo)).toArray:=by
 obtain⟨h1,h2,h3⟩:=sH lo hi its.toArray.size;unfold slicePick;rw[h1,h2,h3];simp only[sliceRange_one,pick_run,zM]<;>rfl
def FE(K:PySem.W.Frag):V->Option Int->Option Int->Hp->VK->Prop:=λx lo hi H Q=>∃a xs,x=.ref a/\SqL K H a xs/\∀p,H p=none->Q (.ref p) (upd H p (.lst (cf xs lo hi)))
def XZ:WX X (FE X.K):=by
 intro pins s σ H x v vl vu lo hi sl Q I rx hs pl pu h;obtain⟨a,xs,rfl,hx,q⟩:=h;cases rx;obtain⟨its,r,ht,hz⟩:=I.list hx;have hlen:=r.length;refine⟨"list",_,slot_list_getitem.lookup,ht.isList.typeIs,?_⟩;refine wpAny_getItem_list_slice ht.isList hs pl pu .none (by simp) ?_ (by rw[zM]<;>omega);rw[oA,<-hlen];refine⟨.ref s.heap.objs.size,_,I.laid (t':=s.toks) (o:=.lst (cf xs lo hi)) (λb ob q=>zf _ q) (zg _) ?_,rfl,q _ (I.hok.fresh (zg _))⟩;exact⟨zT (iU xs lo hi) hz,_,0,(r.drop (HT.sIx xs.length 0 lo)).take (HT.sIx xs.length xs.length hi-HT.sIx xs.length 0 lo),zO _ rfl⟩
def ib:yB X (.builtin "len") (λxs H Q=>∃p ys,xs=[.ref p]/\(SqL X.K H p ys\/SqT X.K H p ys)/\Q (.int ys.length) H):=by
 intro pins s σ H xs us Q I r h;obtain⟨p,ys,rfl,hq,q⟩:=h;obtain⟨u,rfl,rx⟩:=vals1 r;cases rx;have hn:=gW;rcases hq with hq | hq
 .obtain⟨its,r',pl,hz⟩:=I.list hq
  have hlen:=r'.length;exact Calls.call_len_list pl.isList (by simp only[zM]<;>omega) ⟨.int ys.length,H,I.tok _,⟨s.toks+1,by rw[zM,hlen]⟩,q⟩
 .obtain⟨its,r',pl,hz⟩:=I.tuple hq
  have hlen:=r'.length;exact len_tuple pl (by simp only[zM]<;>omega) ⟨.int ys.length,H,I.tok _,⟨s.toks+1,by rw[zM,hlen]⟩,q⟩
def oZ:yB X (.type "list") (λxs H Q=>∃p ys,xs=[.ref p]/\(SqL X.K H p ys\/SqT X.K H p ys)/\∀l,H l=none->Q (.ref l) (upd H l (.lst ys))):=by
 intro pins s σ H xs us Q I r h;obtain⟨p,ys,rfl,hq,q⟩:=h;obtain⟨u,rfl,rx⟩:=vals1 r;cases rx;have fin:∀(its:List Value),Vals ys its->ys.length<=sizeLine->∀(h':Heap) (c':Nat),(∀b o',s.heap.get? b=some o'->h'.get? b=some o')->
   h'.get? s.heap.objs.size=some { cls:=.type "list",dict:=none,data:=.seq its.toArray c',slots:=#[] }->EP X pins σ Q (.ref s.heap.objs.size) { s with heap:=h' }:=λits r' hz h' c' kp e=>
  ⟨.ref s.heap.objs.size,_,I.laid (t':=s.toks) kp (zg _) (show ObjOk X.prog X.w _ h' _ (.lst ys) from ⟨hz,its,c',r',e⟩),rfl,q _ (I.hok.fresh (zg _))⟩
 rcases hq with hq | hq
 .obtain⟨its,r',pl,hz⟩:=I.list hq
  have hlen:=r'.length;obtain⟨o,ho,hc,n,hd⟩:=pl.isList;exact call_list_seq p (.inl rfl) ho hc hd (λh' c' kp e=>fin its r' hz h' c' kp e) (by simp only[zM]<;>omega)
 .obtain⟨its,r',pl,hz⟩:=I.tuple hq
  have hlen:=r'.length;obtain⟨o,ho,hc,n,hd⟩:=pl;exact call_list_seq p (.inr rfl) ho hc hd (λh' c' kp e=>fin its r' hz h' c' kp e) (by simp only[zM]<;>omega)
def gF:yB X (.type "tuple") (λxs H Q=>∃p ys,xs=[.ref p]/\((SqL X.K H p ys/\∀l,H l=none->Q (.ref l) (upd H l (.tup ys)))\/(SqT X.K H p ys/\Q (.ref p) H))):=by
 intro pins s σ H xs us Q I r h;obtain⟨p,ys,rfl,h⟩:=h;obtain⟨u,rfl,rx⟩:=vals1 r;cases rx;rcases h with ⟨hq,q⟩ | ⟨hq,q⟩
 .obtain⟨its,r',pl,hz⟩:=I.list hq
  have hlen:=r'.length;refine call_tuple_list pl.isList (λh' kp=>?_) (by simp only[zM]<;>omega);have I1:Inv X pins σ H { s with heap:=h' }:=I.kept (t':=s.toks) kp;have I2:Inv X pins σ (upd H h'.objs.size (.tup ys)) { s with heap:=h'.push { cls:=.type "tuple",data:=.seq its.toArray } }:=
   I1.laid (t':=s.toks) (λb o e=>zf _ e) (zg _) (show ObjOk X.prog X.w _ _ _ (.tup ys) from ⟨hz,its,r',IsTup.new _ _,.new _ _⟩)
  exact⟨.ref h'.objs.size,_,I2,rfl,q _ (I1.hok.fresh (zg _))⟩
 .obtain⟨its,r',pl,hz⟩:=I.tuple hq
  exact call_tuple_same pl ⟨.ref p,H,I,rfl,q⟩
def Bk(K:PySem.W.Frag)(T:String)(x:V)(H:Hp):Prop:=match x with
 | .str _=>T="str"
 | .int _=>T="int"
 | .ref p=>(T="list" /\ ∃xs,SqL K H p xs)\/(T="tuple" /\ ∃o,K.lookup p=some o/\o.cls=.type "tuple" /\ o.dict=none) \/
   (T="dict" /\ ((∃kvs,H p=some (.dK kvs))\/∃kvs,H p=some (.dT kvs)))\/(T="set" /\ ∃S n,H p=some (.set S n))
 | _=>False
def Jz{pins:List (Addr×Obj)}{σ:St}{H:Hp}{s:Shared}{T:String}{x:V}{v:Value}(I:Inv X pins σ H s)(r:RelV x v)(ty:Bk X.K T x H) :
  s.TypeIs v T/\∀a,v=.ref a->∃ob,s.heap.get? a=some ob/\ob.dict=none:=by
 cases x with
 | str z=>
  obtain⟨t,rfl⟩:=r;cases (show T="str" from ty);exact⟨typeIs_str s z t,λ_ e=>nomatch e⟩
 | int i=>
  obtain⟨t,rfl⟩:=r;cases (show T="int" from ty);exact⟨yC s i t,λ_ e=>nomatch e⟩
 | ref p=>
  cases r;rcases ty with ⟨rfl,xs,hq⟩ | ⟨rfl,o,hk,hc,hd⟩ | ⟨rfl,hk⟩ | ⟨rfl,S,n,hk⟩
  .obtain⟨its,_,pl,_⟩:=I.list hq
   refine⟨pl.isList.typeIs,λa e=>?_⟩;cases e;obtain⟨o,n,e,c,hd,_⟩:=pl;exact⟨o,e,hd⟩
  .refine⟨⟨o,I.kIn p o hk,hc⟩,λa e=>?_⟩
   cases e;exact⟨o,I.kIn _ o hk,hd⟩
  .have z:∃o,s.heap.get? p=some o/\o.ExactDict:=by
    rcases hk with ⟨kvs,hk⟩ | ⟨kvs,hk⟩
    .obtain⟨_,_,_,_,o,_,_,e,ex,_⟩:=I.hok p _ hk
     exact⟨o,e,ex⟩
    .obtain⟨_,_,_,_,o,_,_,e,ex,_⟩:=I.hok p _ hk
     exact⟨o,e,ex⟩
   obtain⟨o,e,ex⟩:=z;refine⟨⟨o,e,ex.1⟩,λa e2=>?_⟩;cases e2;exact⟨o,e,ex.2.1⟩
  .obtain⟨o,_,_,_,e,ex,_⟩:=I.hok p _ hk
   refine⟨⟨o,e,ex.1⟩,λa e2=>?_⟩;cases e2;exact⟨o,e,ex.2.1⟩
 | _=>exact False.elim ty
def Ci(K:PySem.W.Frag)(T:String)(r:V->List V->Hp->VK->Prop)(to:TE):TE:=λσ H Q=>to σ H λx H1=>Bk K T x H1/\r x [] H1 Q
def DR(K:PySem.W.Frag)(T:String)(r:V->List V->Hp->VK->Prop)(to:TE)(t:TA):TE:=λσ H Q=>to σ H λx H1=>Bk K T x H1/\t σ H1 λxs H2=>r x xs H2 Q
variable{o e:Expr}{es:List Expr}{to:TE}{t:TA}{name:Str}{apos cpos:Pos}{T id:String}{r:V->List V->Hp->VK->Prop}
def BV(pa:PlainAttrs T)(slot:Slot T name id)(hty:typeOf (.builtin id)=pure (.type "method_descriptor"))(hm:DM X id r)(ho:PE X o to)
  (hbase:↥(attributeBase o name X.env (eval o X.env)=eval o X.env)) (hline:↥((apos.endLine==cpos.line)=true)):PE X (.Call (.Attribute o name apos) [] [] cpos) (Ci X.K T r to):=by
 intro pins s σ H Q I h;refine wpAny_Call_method0_late hbase hline (kC (ho pins s σ H _ I h) λv s1 ⟨x,H1,I1,r1,ty,q1⟩=>?_);obtain⟨h1,h2⟩:=Jz I1 r1 ty;exact⟨T,id,pa,slot,hty,h1,h2,wM rfl (PySem.evalArgs_none (hm pins s1 σ H1 x [] v [] Q I1 r1 .nil q1))⟩
def Yd(pa:PlainAttrs T)(slot:Slot T name id)(hty:typeOf (.builtin id)=pure (.type "method_descriptor"))(hm:DM X id r)(ho:PE X o to)(ha:PA X (e::es) t)
  (hbase:↥(attributeBase o name X.env (eval o X.env)=eval o X.env))
  (hfew:((backTo cpos (starEach (e::es) X.env)).all (λx=>!x.1)&&(backToKw cpos (keywordEach [] X.env)).all (λx=>x.1.isSome)
   && decide ((e::es).length+([]:List Keyword).length+(if ([]:List Keyword).isEmpty then 0 else 1)<30))=true:=by rfl)
  (hline:↥((apos.endLine==cpos.line)=true)) (hs:↥(starEach (e::es) X.env=(false,eval e X.env)::starEach es X.env)) (hplain:↥((backTo cpos (starEach es X.env)).any (·.1)=false)) :
  PE X (.Call (.Attribute o name apos) (e::es) [] cpos) (DR X.K T r to t):=by
 intro pins s σ H Q I h;refine wpAny_Call_method_late hbase hfew hline rfl (kC (ho pins s σ H _ I h) λv s1 ⟨x,H1,I1,r1,ty,q1⟩=>?_);obtain⟨h1,h2⟩:=Jz I1 r1 ty;refine⟨T,id,pa,slot,hty,h1,h2,?_⟩;have hA:=ha cpos pins s1 σ H1 _ I1 q1;rw[hs] at hA ⊢;refine wM (by show(false||(backTo cpos (starEach es X.env)).any (·.1))=false;rw[hplain]<;>rfl) (Calls.evalArgs_plain ?_);exact kC hA λus s2 ⟨vs,H2,I2,r2,q2⟩=>hm pins s2 σ H2 x vs v us Q I2 r1 r2 q2
end
end L2
namespace L2
open PySem PySem.Spec PyProof.Rows
def JD(X:Cx)(id:String)(r:V->List V->Hp->VK->Prop):Prop:=
 ∀(pins:List (Addr×Obj)) (s:Shared) (σ:St) (H:Hp) (x:V) (xs:List V) (v:Value) (us:List Value) (Q:VK),Inv X pins σ H s->RelV x v->Vals xs us->r x xs H Q->
  wpAny (model X.prog X.w) X.A (call (.builtin id) (v::us)) (EP X pins σ Q) X.xe s
def Vals.one:∀{x:V} {us:List Value},Vals [x] us->∃u,us=[u]/\RelV x u
 | _,_,.cons r .nil=>⟨_,rfl,r⟩
def Vals.two:∀{x y:V} {us:List Value},Vals [x,y] us->∃u v,us=[u,v]/\RelV x u/\RelV y v
 | _,_,_,.cons r (.cons q .nil)=>⟨_,_,rfl,r,q⟩
theorem Vals.zero:∀{us:List Value},Vals [] us->us=[]
 | _,.nil=>rfl
theorem Vals.dropLast{xs:List V}{us:List Value}(h:Vals xs us):Vals xs.dropLast us.dropLast:=by
 induction h with
 | nil=>exact .nil
 | cons r t ih=>
  cases t with
  | nil=>exact .nil
  | cons q t'=>exact .cons r ih
theorem Vals.rep{xs:List V}{us:List Value}(h:Vals xs us):∀k:Nat,Vals (List.replicate k xs).flatten (List.replicate k us).flatten
 | 0=>.nil
 | k+1=>by
  rw[jt,jt,qi,qi];exact Vals.append h (Vals.rep h k)
theorem Z7{α:Type}(l:List α):l.eraseIdx (l.length-1)=l.dropLast:=by
 induction l with
 | nil=>rfl
 | cons a r ih=>
  cases r with
  | nil=>rfl
  | cons b r=>
   have e:(a::b::r).length-1=((b::r).length-1)+1:=by
    have h1:(a::b::r).length=r.length+2:=rfl;have h2:(b::r).length=r.length+1:=rfl;omega
   rw[e,List.eraseIdx_cons_succ,ih];all_goals rfl
theorem foldl_rep(its:List Value):∀(k:Nat) (acc:List Value),
  List.foldl (λx1 x2=>x1++x2) acc.toArray (List.replicate k its.toArray)=(acc++(List.replicate k its).flatten).toArray
 | 0,acc=>by simp
 | k+1,acc=>by
  have e:acc.toArray++its.toArray=(acc++its).toArray:=by simp
  have e2:(acc++its)++(List.replicate k its).flatten=acc++(List.replicate (k+1) its).flatten:=by
   rw[jt,qi,kZ]
  rw[<-e2,<-foldl_rep its k (acc++its),<-e,jt,jQ]
section
variable{X:Cx}{pins:List (Addr×Obj)}{σ:St}{H:Hp}{s:Shared}{l b:Addr}{xs ys zs:List V}
def Inv.lset{its its':List Value}{n:Nat}{f:Array Value->Array Value}{t':Nat}(I:Inv X pins σ H s)(hH:H l=some (.lst xs))
  (e:s.heap.get? l=some { cls:=.type "list",data:=.seq its.toArray n }) (hf:f its.toArray=its'.toArray) (hv:Vals ys its') (hz:ys.length<=sizeLine) :
  Inv X pins σ (upd H l (.lst ys)) { s with heap:=s.heap.update l (Obj.mapSeq f),toks:=t' }:=by
 have q:=PySem.IsL.update e f;rw[hf] at q;refine I.write (x:=l) (e:=l) (by rw[hH];exact trivial) (.inl rfl) (λb' u hb hu=>(qG s.heap (Obj.mapSeq f) (kY hb)).trans hu) ⟨_,q⟩ ?_;exact⟨hz,its',_,hv,q⟩
def Inv.lnew{its:List Value}{t':Nat}(I:Inv X pins σ H s)(hv:Vals ys its)(hz:ys.length<=sizeLine) :
  Inv X pins σ (upd H s.heap.objs.size (.lst ys)) { s with heap:=s.heap.push { cls:=.type "list",data:=.seq its.toArray },toks:=t' }:=
 I.laid (λ_ _ q=>zf _ q) (zg _) ⟨hz,its,0,hv,zO _ rfl⟩
theorem Inv.fresh(I:Inv X pins σ H s):H s.heap.objs.size=none:=I.hok.fresh (zg _)
def Inv.lstM(I:Inv X pins σ H s)(hH:H l=some (.lst xs)):xs.length<=sizeLine/\∃(its:List Value) (n:Nat),Vals xs its/\xs.length=its.length/\s.heap.get? l=some { cls:=.type "list",data:=.seq its.toArray n }:=by
 obtain⟨z,its,n,r,e⟩:=I.hok l _ hH;exact⟨z,its,n,r,r.length,e⟩
def VU{n:Nat}(h:n<=sizeLine):Builtin.List.listTooLong n=false:=by
 unfold Builtin.List.listTooLong;exact jM ∅
end
section
variable{X:Cx}
def Yz:V->List V->Hp->VK->Prop:=λx vs H Q=>∃l xs y,x=.ref l/\vs=[y]/\H l=some (.lst xs)/\xs.length<sizeLine/\Q .non (upd H l (.lst (xs++[y])))
def om:JD X "list.append" Yz:=by
 intro pins s σ H x vs v us Q I rx rv h;obtain⟨l,xs,y,rfl,rfl,hH,hz,q⟩:=h;cases rx;obtain⟨u,rfl,ru⟩:=rv.one;obtain⟨z,its,n,r,hl,e⟩:=I.lstM hH;refine vq F.slot_list_append ⟨_,e,rfl⟩ F.entry_list_append (F.args_list_append_2 _ _) (PySem.list_append l its.toArray n u (by rw[zM];omega)) ⟨e,?_⟩;refine⟨.non,_,I.lset (its':=its++[u]) hH e (by simp) (r.append (.cons ru .nil)) ?_,rfl,q⟩;rw[zK,List.length_singleton];omega
def Fe:V->List V->Hp->VK->Prop:=λx vs H Q=>∃l xs y,x=.ref l/\vs=[]/\H l=some (.lst xs)/\xs[xs.length-1]?=some y/\Q y (upd H l (.lst xs.dropLast))
def CI:JD X "list.pop" Fe:=by
 intro pins s σ H x vs v us Q I rx rv h;obtain⟨l,xs,y,rfl,rfl,hH,hy,q⟩:=h;cases rx;have hus:=rv.zero;subst hus;obtain⟨z,its,n,r,hl,e⟩:=I.lstM hH;obtain⟨u,hu,ru⟩:=r.get hy;have hy':its.toArray[its.toArray.size-1]?=some u:=by
  show its.toArray[its.length-1]?=some u
  rw[<-vf,<-hl];exact hu
 refine vq F.slot_list_pop ⟨_,e,rfl⟩ F.entry_list_pop (F.args_list_pop_1 _) (MeetsSeq.list_pop_last l its.toArray n u hy' (by rw[zM];omega)) ⟨e,?_⟩;refine⟨y,_,I.lset (its':=its.dropLast) hH e ?_ r.dropLast ?_,ru,q⟩
 .show its.toArray.eraseIdxIfInBounds (its.toArray.size-1)=its.dropLast.toArray
  rw[zM,List.eraseIdxIfInBounds_toArray,Z7]
 .rw[List.length_dropLast]
  omega
def len_rep{α:Type}(xs:List α)(k:Nat):(List.replicate k xs).flatten.length=k*xs.length:=by
 induction k with
 | zero=>simp
 | succ k ih=>rw[jt,qi,zK,ih,Nat.succ_mul,vd]
end
end L2
namespace L2
open PySem PySem.Spec PyProof.Rows
section
variable{κ:Type}[DecidableEq κ]
def xW(kvs:List (κ×V))(k:κ):Option V:=(kvs.find? λkv=>decide (kv.1=k)).map (·.2)
def putK(kvs:List (κ×V))(k:κ)(v:V):List (κ×V):=
 if (kvs.any λkv=>decide (kv.1=k))=true then kvs.map (λkv=>if kv.1=k then (kv.1,v) else kv) else kvs++[(k,v)]
def i9{p:κ×V}{r:List (κ×V)}{k:κ}(e:p.1=k):xW (p::r) k=some p.2:=by simp[xW,jC,e]
def lu{p:κ×V}{r:List (κ×V)}{k:κ}(e:¬p.1=k):xW (p::r) k=xW r k:=by simp[xW,jC,e]
theorem pq(k:κ):∀kvs:List (κ×V),(kvs.any λkv=>decide (kv.1=k))=(xW kvs k).isSome
 | []=>rfl
 | p::r=>by
  rw[v8];by_cases e:p.1=k
  .simp only[i9 e,qw e,Bool.true_or,vM]
  .rw[lu e,jM e,Bool.false_or];exact pq k r
def dE(kvs:List (κ×V))(k:κ)(v:V):(putK kvs k v).length<=kvs.length+1:=by
 unfold putK;split
 .rw[zB];omega
 .rw[zK,zm,zV];omega
theorem RelO.isSome_eq{o:Option V}{u:Option Value}(r:RelO o u):o.isSome=u.isSome:=by
 cases o with
 | none=>cases u with
  | none=>rfl
  | some _=>exact(show False from r).elim
 | some _=>cases u with
  | none=>exact(show False from r).elim
  | some _=>rfl
theorem RelO.getD{o:Option V}{u:Option Value}{d:V}{d':Value}(r:RelO o u)(rd:RelV d d'):RelV (o.getD d) (u.getD d'):=by
 cases o with
 | none=>cases u with
  | none=>exact rd
  | some _=>exact(show False from r).elim
 | some _=>cases u with
  | none=>exact(show False from r).elim
  | some _=>exact r
def KV.val{kvs:List (κ×V)}{vs:List (κ×Value)}(r:KV kvs vs)(k:κ):RelO (xW kvs k) (valueAt vs k):=by
 unfold KV at r;induction r with
 | nil=>exact True.intro
 | @cons p q ps qs h t ih=>
  obtain⟨h1,h2⟩:=h;by_cases e:p.1=k
  .have e':q.1=k:=h1.symm.trans e
   have b:valueAt (q::qs) k=some q.2:=by simp[valueAt,jC,e']
   rw[i9 e,b];exact h2
  .have e':¬q.1=k:=λz=>e (h1.trans z)
   have b:valueAt (q::qs) k=valueAt qs k:=by simp[valueAt,jC,e']
   rw[lu e,b];exact ih
theorem KV.any{kvs:List (κ×V)}{vs:List (κ×Value)}(r:KV kvs vs)(k:κ):(kvs.any λkv=>decide (kv.1=k))=vs.any λkv=>decide (kv.1=k):=by
 unfold KV at r;induction r with
 | nil=>rfl
 | cons h t ih=>rw[v8,v8,ih,h.1]
def KV.repl{kvs:List (κ×V)}{vs:List (κ×Value)}(r:KV kvs vs)(k:κ){y:V}{u:Value}(ry:RelV y u) :
  KV (kvs.map λkv=>if kv.1=k then (kv.1,y) else kv) (vs.map λkv=>if kv.1=k then (kv.1,u) else kv):=by
 unfold KV at r ⊢;induction r with
 | nil=>exact .nil
 | @cons p q ps qs h t ih=>
  rw[zq,zq];refine .cons ?_ ih;obtain⟨h1,h2⟩:=h;by_cases e:p.1=k
  .rw[zY e,zY (h1.symm.trans e)];exact⟨h1,ry⟩
  .rw[jc e,jc (λz=>e (h1.trans z))];exact⟨h1,h2⟩
def KV.put{kvs:List (κ×V)}{vs:List (κ×Value)}(r:KV kvs vs)(k:κ){y:V}{u:Value}(ry:RelV y u):KV (putK kvs k y) (stored vs k u):=by
 unfold putK stored;rw[r.any k];by_cases e:(vs.any λkv=>decide (kv.1=k))=true
 .rw[zY e,zY e];exact r.repl k ry
 .rw[jc e,jc e];exact Paired.snoc r ⟨rfl,ry⟩
theorem KV.length{kvs:List (κ×V)}{vs:List (κ×Value)}(r:KV kvs vs):kvs.length=vs.length:=Paired.length r
end
def il{P:Program}{w:World}{k:Key}{u:Value}(r:RelV (kV k) u):(qA P w).is k u=true:=by
 cases k with
 | inl i=>obtain⟨t,e⟩:=(show ∃t,u=Value.int i t from r);subst e;exact tf P w i t
 | inr x=>obtain⟨t,e⟩:=(show ∃t,u=Value.str x t from r);subst e;exact tm P w x t
theorem nD{P:Program}{w:World}:∀{ks:List Key} {us:List Value},Vals (ks.map kV) us->ItemsAre (qA P w) ks us
 | [],_,r=>by rw[jd] at r;cases r;exact .nil
 | k::ks,_,r=>by
  rw[zq] at r;cases r with
  | cons h t=>exact .cons (il h) (nD t)
abbrev KT(H:Hp):List (List Key×V)->List (List Key×Addr×Value)->Prop:=Paired λp q=>p.1=q.1/\H q.2.1=some (.tup (p.1.map kV))/\RelV p.2 q.2.2
def KT.val{H:Hp}{kvs:List (List Key×V)}{xs:List (List Key×Addr×Value)}(r:KT H kvs xs)(k:List Key):RelO (xW kvs k) ((atKey xs k).map (·.2)):=by
 induction r with
 | nil=>exact True.intro
 | @cons p q ps qs h t ih=>
  obtain⟨h1,_,h2⟩:=h;by_cases e:p.1=k
  .have e':q.1=k:=h1.symm.trans e
   have b:atKey (q::qs) k=some q.2:=by simp[atKey,jC,e']
   rw[i9 e,b];exact h2
  .have e':¬q.1=k:=λz=>e (h1.trans z)
   have b:atKey (q::qs) k=atKey qs k:=by simp[atKey,jC,e']
   rw[lu e,b];exact ih
def KT.repl{H:Hp}{kvs:List (List Key×V)}{xs:List (List Key×Addr×Value)}(r:KT H kvs xs)(k:List Key){y:V}{u:Value}(ry:RelV y u) :
  KT H (kvs.map λkv=>if kv.1=k then (kv.1,y) else kv) (xs.map (putAt k u)):=by
 induction r with
 | nil=>exact .nil
 | @cons p q ps qs h t ih=>
  rw[zq,zq];refine .cons ?_ ih;obtain⟨h1,h2,h3⟩:=h;unfold putAt;by_cases e:p.1=k
  .rw[zY e,zY (h1.symm.trans e)];exact⟨h1,h2,ry⟩
  .rw[jc e,jc (λz=>e (h1.trans z))];exact⟨h1,h2,h3⟩
def KT.put{H:Hp}{kvs:List (List Key×V)}{xs:List (List Key×Addr×Value)}(r:KT H kvs xs)(k:List Key){b:Addr}{y:V}{u:Value}(hb:H b=some (.tup (k.map kV)))(ry:RelV y u) :
  KT H (putK kvs k y) (storedH xs k b u):=by
 have e:(kvs.any λkv=>decide (kv.1=k))=(atKey xs k).isSome:=by
  rw[pq,(r.val k).isSome_eq,Option.isSome_map]
 unfold putK storedH;rw[e];by_cases q:(atKey xs k).isSome=true
 .rw[zY q,zY q];exact r.repl k ry
 .rw[jc q,jc q];exact Paired.snoc r ⟨rfl,hb,ry⟩
def KT.keeps{H H':Hp}{kvs:List (List Key×V)}{xs:List (List Key×Addr×Value)}(r:KT H kvs xs)(ht:∀b ys,H b=some (.tup ys)->H' b=some (.tup ys)):KT H' kvs xs:=
 Paired.mapP r λ_ _ z=>⟨z.1,ht _ _ z.2.1,z.2.2⟩
section
variable{P:Program}{w:World}{H:Hp}{h:Heap}{a:Addr}
def WZ{u:HO}(ok:HOk P w H h)(e:Rd H a u):ObjOk P w H h a u:=e.ok ok
def fe{kvs:List (Key×V)}(ok:HOk P w H h)(e:Rd H a (.dK kvs)):kvs.length<=sizeLine/\(a==sysModules)=false/\∃vs,KV kvs vs/\h.DictOf (qA P w) a vs:=
 show ObjOk P w H h a (.dK kvs) from WZ ok e
def Dj{kvs:List (Key×V)}(ok:HOk P w H h)(e:H a=some (.dK kvs)):kvs.length<=sizeLine/\(a==sysModules)=false/\∃vs,KV kvs vs/\h.DictOf (qA P w) a vs:=fe ok (.inl e)
def mn{ks:List Key}(ok:HOk P w H h)(e:H a=some (.tup (ks.map kV))):(tupleKind (qA P w)).is h ks a:=by
 obtain⟨_,its,r,⟨o,h1,h2,n,h3⟩,_⟩:=(show ObjOk P w H h a (.tup (ks.map kV)) from ok a _ e);exact⟨o,its.toArray,n,h1,h2,h3,by simpa using nD r⟩
def lQ{kvs:List (List Key×V)}(ok:HOk P w H h)(e:Rd H a (.dT kvs)):kvs.length<=sizeLine/\(a==sysModules)=false /\
  ∃xs,KT H kvs xs/\h.DictOfH (tupleKind (qA P w)) a xs:=by
 obtain⟨z,y,xs,r,o,es,ep,h1,h2,h3,h4,h5⟩:=(show ObjOk P w H h a (.dT kvs) from WZ ok e);refine⟨z,y,xs,r,o,es,ep,h1,h2,h3,h4,λx hx=>?_,h5⟩;have all:∀{l:List (List Key×V)} {m:List (List Key×Addr×Value)},KT H l m->∀x∈m,(tupleKind (qA P w)).is h x.1 x.2.1:=by
  intro l m q;induction q with
  | nil=>intro x hx;exact nomatch hx
  | @cons p q ps qs hq t ih=>
   intro x hx;rcases zb.mp hx with e | hx
   .subst e
    exact mn ok (by rw[<-hq.1];exact hq.2.1)
   .exact ih x hx
 exact all r x hx
def c9{kvs:List (List Key×V)}(ok:HOk P w H h)(e:H a=some (.dT kvs)):kvs.length<=sizeLine/\(a==sysModules)=false /\
  ∃xs,KT H kvs xs/\h.DictOfH (tupleKind (qA P w)) a xs:=lQ ok (.inl e)
end
def oW(H:Hp)(a:Addr)(y:V)(r:Option V):Prop:=
 (∃kvs k,Rd H a (.dK kvs)/\y=kV k/\r=xW kvs k)\/∃kvs k b,Rd H a (.dT kvs)/\y=.ref b/\H b=some (.tup (k.map kV))/\r=xW kvs k
def D9(H:Hp)(a:Addr)(y v:V)(H':Hp):Prop:=
 (∃kvs k,H a=some (.dK kvs)/\y=kV k/\kvs.length<sizeLine/\H'=upd H a (.dK (putK kvs k v))) \/
 ∃kvs k b,H a=some (.dT kvs)/\y=.ref b/\H b=some (.tup (k.map kV))/\kvs.length<sizeLine/\H'=upd H a (.dT (putK kvs k v))
section
variable{X:Cx}{pins:List (Addr×Obj)}{σ:St}{H:Hp}{s:Shared}{a:Addr}{y v:V}{u r:Value}{o:Option V}{A:Around}{E:Value->Shared->Prop}
def Inv.big(I:Inv X pins σ H s):sysModules<s.heap.objs.size:=by
 have h:mainGlobals<s.heap.objs.size:=(I.mod.glob.keeps I.bk).lt;exact Nat.lt_trans (by decide) h
def QA{Q:Value->Shared->Prop}(hu:A.units+1<cLine)(I:Inv X pins σ H s)(g:oW H a y (some v))(ry:RelV y u)(h:∀w' s',Inv X pins σ H s'->RelV v w'->Q w' s') :
  wpAny (model X.prog X.w) A (getItem (.ref a) u) Q E s:=by
 rcases g with ⟨kvs,k,e,ey,l⟩ | ⟨kvs,k,b,e,ey,eb,l⟩
 .subst ey
  obtain⟨z,hd,vs,rel,dd⟩:=fe I.hok e;obtain⟨w',hw,rw'⟩:=RelO.some_of (v:=v) (o:=valueAt vs k) (by rw[l];exact rel.val k);exact wpAny_getItem_of (il ry) dd.mapOf hw (h w' _ (I.tok _) rw')
 .subst ey
  cases (show u=Value.ref b from ry);obtain⟨z,hd,xs,rel,dd⟩:=lQ I.hok e;obtain⟨w',hw,rw'⟩:=RelO.some_of (v:=v) (o:=(atKey xs k).map (·.2)) (by rw[l];exact rel.val k);obtain⟨p,hp,hp2⟩:=zj.mp hw;refine wpAny_getItem_heap (yp hu) (mn I.hok eb) dd hp ?_;rw[hp2];exact h w' _ (I.tok _) rw'
def ZG{h':Heap}{t':Nat}{ob:HO}(I:Inv X pins σ H s)(mu:nR (H a))(hs:Heap.SameBut a s.heap h')(he:∃q,h'.get? a=some q)(new:ObjOk X.prog X.w (upd H a ob) h' a ob) :
  Inv X pins σ (upd H a ob) { s with heap:=h',toks:=t' }:=
 I.write (x:=a) (e:=a) mu (.inl rfl) (λb q hb z=>(hs.2 b hb).trans z) he new
def lS{P:Program}{w:World}{H':Hp}{h':Heap}{kvs:List (Key×V)}{vs:List (Key×Value)}(z:kvs.length<=sizeLine)(hd:(a==sysModules)=false)(rel:KV kvs vs)(dd:h'.DictOf (qA P w) a vs) :
  ObjOk P w H' h' a (.dK kvs):=⟨z,hd,vs,rel,dd⟩
def JP{H':Hp}{Q:Unit->Shared->Prop}(hu:A.units+1<cLine)(I:Inv X pins σ H s)(g:D9 H a y v H')(ry:RelV y u)(rv:RelV v r)(h:∀s',Inv X pins σ H' s'->Q () s') :
  wpAny (model X.prog X.w) A (setItem (.ref a) u r) Q E s:=by
 rcases g with ⟨kvs,k,e,ey,l,eH⟩ | ⟨kvs,k,b,e,ey,eb,l,eH⟩
 .subst ey eH
  obtain⟨z,hd,vs,rel,dd⟩:=Dj I.hok e;have hz:vs.length<=sizeLine:=by rw[<-rel.length];exact z
  have hl:(putK kvs k v).length<=sizeLine:=by have:=dE kvs k v;omega
  refine wpAny_setItem_pairs (hsz:=hz) (il ry) dd λh' dd' hs=>h _ ?_
  have he:∃q,h'.get? a=some q:=let ⟨q,_,_,hq,_⟩:=dd';⟨q,hq⟩;exact ZG I (by rw[e];exact True.intro) hs he (lS hl hd (rel.put k rv) dd')
 .subst ey eH
  cases (show u=Value.ref b from ry);obtain⟨z,hd,xs,rel,dd⟩:=c9 I.hok e;have hz:xs.length<=sizeLine:=by rw[<-Paired.length rel];exact z
  have hl:(putK kvs k v).length<=sizeLine:=by have:=dE kvs k v;omega
  refine wpAny_setItem_heap (hsz:=hz) (yp hu) (mn I.hok eb) dd λh' dd' hs=>h _ ?_
  obtain⟨q,es,ep,hq,h2,h3,h4,_,h5⟩:=dd';refine ZG I (by rw[e];exact True.intro) hs ⟨q,hq⟩ ⟨hl,hd,_,(rel.put k eb rv).keeps λc ys ec=>?_,q,es,ep,hq,h2,h3,h4,h5⟩;rw[kQ (Dv ec e (λz=>nomatch z))];exact ec
end
def tE{X:Cx}{pins:List (Addr×Obj)}{σ:St}{H:Hp}{s:Shared}{a:Addr}{y:V}{o:Option V}(I:Inv X pins σ H s)(g:oW H a y o):s.TypeIs (.ref a) "dict":=by
 rcases g with ⟨kvs,k,e,_,_⟩ | ⟨kvs,k,b,e,_,_,_⟩
 .obtain⟨_,_,vs,_,dd⟩:=fe I.hok e
  exact dd.typeIs
 .obtain⟨_,_,xs,_,dd⟩:=lQ I.hok e
  exact dd.typeIs
def VD{P:Program}{w:World}{H:Hp}(h:Heap)(hb:sysModules<h.objs.size):ObjOk P w H (h.push { cls:=.type "dict",data:=.dict #[] }) h.objs.size (.dK []):=
 ⟨qy _,jr.mpr (kY (zX hb)),[],.nil,yW h⟩
def Uz:TE:=λ_ H Q=>∀p,H p=none->Q (.ref p) (upd H p (.dK []))
section
variable{X:Cx}{pos:Pos}
def Vy:PE X (.Dict [] [] pos) Uz:=λpins s σ H Q I h=>
 wpAny_Dict_empty ⟨.ref s.heap.objs.size,_,I.laid (a:=s.heap.objs.size) (o:=.dK []) (t':=s.toks) (λ_ _ q=>zf _ q) (zg _) (VD s.heap I.big),rfl,h _ (I.hok.fresh (zg _))⟩
end
def x9(kvs more:List (Key×V)):List (Key×V):=more.foldl (λacc kv=>putK acc kv.1 kv.2) kvs
def KV.merge:∀{more:List (Key×V)} {rs:List (Key×Value)} {kvs:List (Key×V)} {vs:List (Key×Value)},KV more rs->KV kvs vs->KV (x9 kvs more) (merged vs rs):=by
 intro more rs kvs vs r;unfold KV at r;induction r generalizing kvs vs with
 | nil=>intro q;exact q
 | @cons p q ps qs h t ih=>
  intro r0;have e:KV (putK kvs p.1 p.2) (stored vs q.1 q.2):=by
   have:=r0.put p.1 h.2;rw[<-h.1];exact this
  exact ih e
theorem af:∀(more kvs:List (Key×V)),(x9 kvs more).length<=kvs.length+more.length
 | [],kvs=>by show kvs.length<=kvs.length+0;omega
 | p::r,kvs=>by
  have h1:=af r (putK kvs p.1 p.2);have h2:=dE kvs p.1 p.2;show(x9 (putK kvs p.1 p.2) r).length<=_
  rw[zm];omega
structure M2(X:Cx)(o:Expr)(m:Str)(apos:Pos)(e f:Expr)(cpos:Pos):Prop where
 base:attributeBase o m X.env (eval o X.env)=eval o X.env
 few:((backTo cpos (starEach [e,f] X.env)).all (λx=>!x.1)&&(backToKw cpos (keywordEach [] X.env)).all (λx=>x.1.isSome)
  && decide (([e,f]:List Expr).length+([]:List Keyword).length+(if ([]:List Keyword).isEmpty then 0 else 1)<30))=true
 line:(apos.endLine==cpos.line)=true
 trees:backTo cpos (starEach [e,f] X.env)=[(false,eval e X.env),(false,eval f X.env)]
def DL(H:Hp)(a:Addr):Prop:=(∃kvs,Rd H a (.dK kvs))\/∃kvs,Rd H a (.dT kvs)
def CG{X:Cx}{pins:List (Addr×Obj)}{σ:St}{H:Hp}{s:Shared}{a:Addr}(I:Inv X pins σ H s)(d:DL H a) :
  s.TypeIs (.ref a) "dict" /\ (∀b,Value.ref a=.ref b->∃ob,s.heap.get? b=some ob/\ob.dict=none)/\(a==sysModules)=false:=by
 rcases d with ⟨kvs,e⟩ | ⟨kvs,e⟩
 .obtain⟨_,hd,vs,_,dd⟩:=fe I.hok e
  refine⟨dd.typeIs,λb q=>?_,hd⟩;cases q;obtain⟨ob,_,_,h1,h2,_⟩:=dd;exact⟨ob,h1,h2.2.1⟩
 .obtain⟨_,hd,xs,_,dd⟩:=lQ I.hok e
  refine⟨dd.typeIs,λb q=>?_,hd⟩;cases q;obtain⟨ob,_,_,h1,h2,_⟩:=dd;exact⟨ob,h1,h2.2.1⟩
section
variable{X:Cx}{pins:List (Addr×Obj)}{σ:St}{H:Hp}{s:Shared}{a:Addr}{y d:V}{u r:Value}{o:Option V}{A:Around}{E:Value->Shared->Prop}
def CA{Q:Value->Shared->Prop}(hu:A.units+1<cLine)(I:Inv X pins σ H s)(g:oW H a y o)(ry:RelV y u)(rd:RelV d r)(h:∀w' s',Inv X pins σ H s'->RelV (o.getD d) w'->Q w' s') :
  wpAny (model X.prog X.w) A (call (.builtin "dict.get") [.ref a,u,r]) Q E s:=by
 rcases g with ⟨kvs,k,e,ey,l⟩ | ⟨kvs,k,b,e,ey,eb,l⟩
 .subst ey
  obtain⟨z,hd,vs,rel,dd⟩:=fe I.hok e;refine call_meetsIn wz dd.typeIs yN (yK _ _ _) (meets_dict_get_default (qA X.prog X.w) a (il ry) hd r) ⟨_,dd.mapOf,h _ _ (I.tok _) ?_⟩;rw[l];exact(rel.val k).getD rd
 .subst ey
  cases (show u=Value.ref b from ry);obtain⟨z,hd,xs,rel,dd⟩:=lQ I.hok e;refine call_meetsIn wz dd.typeIs yN (yK _ _ _) (meetsH_dict_get_default (tupleKind (qA X.prog X.w)) a b hd r) ⟨yp hu,k,xs,mn I.hok eb,dd,h _ _ (I.tok _) ?_⟩;rw[l];exact(rel.val k).getD rd
end
def BY(td ty tx:TE):TE:=λσ H Q=>td σ H λx H1=>∃a,x=.ref a/\DL H1 a/\ty σ H1 λy H2=>tx σ H2 λz H3=>∃o,oW H3 a y o/\Q (o.getD z) H3
section
variable{X:Cx}{o e f:Expr}{apos cpos:Pos}{td ty tx:TE}
def Vo(hu:X.A.units+1<cLine)(ho:PE X o td)(he:PE X e ty)(hf:PE X f tx)(m:M2 X o "get" apos e f cpos):PE X (.Call (.Attribute o "get" apos) [e,f] [] cpos) (BY td ty tx):=by
 intro pins s σ H Q I h;refine wpAny_Call_method m.base m.few m.line PySem.F.plainAttrs_dict wz PySem.F.type_dict_get (kC (ho pins s σ H _ I h) λu s1 ⟨x,H1,I1,rx,a,ex,d,q1⟩=>?_);subst ex;obtain rfl:u=Value.ref a:=rx;obtain⟨t1,t2,_⟩:=CG I1 d;refine⟨t1,t2,?_⟩;rw[m.trees]
 refine wM rfl (Calls.evalArgs_plain (qI (kC (he pins s1 σ H1 _ I1 q1) λiv s2 ⟨y,H2,I2,ry,q2⟩=>
  qI (kC (hf pins s2 σ H2 _ I2 q2) λfv s3 ⟨z,H3,I3,rz,ov,g,q3⟩=>vA ?_))))
 exact CA hu I3 g ry rz λw' s4 I4 rw'=>⟨_,H3,I4,rw',q3⟩
end
section
variable{X:Cx}{pins:List (Addr×Obj)}{σ:St}{H:Hp}{s:Shared}{a:Addr}{kvs:List (Key×V)}{A:Around}{E:Value->Shared->Prop}
def rn{Q:Value->Shared->Prop}(I:Inv X pins σ H s)(e:Rd H a (.dK kvs))(h:∀p s',H p=none->Inv X pins σ (upd H p (.dK kvs)) s'->Q (.ref p) s'):wpAny (model X.prog X.w) A (call (.type "dict") [.ref a]) Q E s:=by
 obtain⟨z,hd,vs,rel,dd⟩:=fe I.hok e;refine kt_call_dict hd dd (by rw[<-rel.length];exact z) λh' dd' hs=>?_
 refine h _ _ (I.hok.fresh (zg _)) (I.laid (a:=s.heap.objs.size) (o:=.dK kvs) (t':=s.toks) (λb q hq=>?_) (zg _) (lS z (jr.mpr (kY (zX I.big))) rel dd'));exact(hs.2 b (zX (zF hq))).trans (zf _ hq)
end
end L2
namespace Att
open PySem PySem.W PySem.Calls PyProof.Rows
def lZ{P:Params}{h:Heap}:∀(ns:List Int) (vs:List Value),WellAll P h vs (ns.map WData.int)->IntsAre vs ns:=by
 intro ns;induction ns with
 | nil=>
  intro vs w;rw[jd] at w;cases w;exact .nil
 | cons n ns ih=>
  intro vs w;rw[zq] at w;cases w with
  | cons a b=>
   cases a;exact .cons _ _ (ih _ b)
def Qg{l:OpenLaw}{n:Nat}(hn:l.most=some n){P:Params}{h:Heap}{args:List WData}{vals:List Value}
  (hpre:l.row.toRowW.claim.pre args=true) (hwl:WellAll P h vals args) :
  ∃a vs ns,vals=[Value.ref a]/\args=[WData.list (ns.map WData.int)]/\h.get? a=some { cls:=.type "list",data:=.seq vs.toArray }/\IntsAre vs ns/\ns.length<=n:=by
 have hsh:WShape.hasAll [] args [.list .int]=true:=(pre_splitW hpre).1;have hc:l.pre.holds [] { args:=args }=true:=(pre_splitW hpre).2;obtain⟨d,r,rfl,h1,h2⟩:=hasAllW_cons hsh;obtain rfl:=hasAllW_nil h2;obtain⟨xs,rfl,h3⟩:=hasW_list h1;obtain⟨ns,rfl⟩:=items_int h3;have hlen:ns.length<=n:=by
  unfold OpenLaw.pre at hc;have h4:(WTm.not (.lt (.lit (.int (n:Int))) (.len (.arg 0)))).holds [] { args:=[.list (ns.map .int)] }=true:=by
   have h4:=(holds_andW hc).1;rw[hn] at h4;exact h4
  have h5:=condW_of h4 (w_not (w_lt w_lit (w_len_list (w_arg rfl))));rw[zB] at h5;refine Nat.le_of_not_lt λq=>?_
  have q':(n:Int)<((ns.length:Nat):Int):=by omega
  first
   | (rw[qw q'] at h5;exact absurd h5 (by decide))
   | (simp at h5;omega)
 cases hwl with
 | cons w1 w2=>
  cases w2;cases w1 with
  | list ho hall=>exact⟨_,_,ns,rfl,rfl,ho,lZ ns _ hall,hlen⟩
theorem Jl(l:OpenLaw)(args:List WData):l.row.toRowW.claim.post args (.bool true) args=true:=
 postW_of (r:=l.row.toRowW) (X:=(true==true))
  (show WShape.has [] (.bool true) .bool=true by first | rfl | decide | simp[WShape.has,WShape.arms,WShape.armsAll])
  (show(WTm.eq .res (.lit (.bool true))).value [] { args:=args,res:=some (.bool true),after:=args }=some (.bool (true==true)) from w_eq_bool (w_res rfl) w_lit) rfl
def attach_call{l:OpenLaw}{n:Nat}{q:Program}{loose:List Str}{XP:(Str->Option Value)->Heap->Prop}{YP:World->Heap->Prop}{d:DefRec}
  (hn:l.most=some n) (hdf:d.params.defaults=[])
  (call:∀(w:World) (s₀ s₁:Shared) (mg mb:Str->Option Value) (fa:Addr) (o:Obj) (pm cd doc:Value) (a:Addr) (vs:List Value) (ns:List Int),
   Ground q loose [] XP w s₀ mg mb s₁.heap->YP w s₁.heap->
   s₁.heap.get? fa=some o->o.data=.func (docDef d.name d.params d.body d.scope pm cd doc)->s₁.heap.CodeRec cd d.name->mg d.name=some (.ref fa)->
   s₁.heap.get? a=some { cls:=.type "list",data:=.seq vs.toArray }->IntsAre vs ns->ns.length<=n->s₁.gens = #[]->
   codeAny (model l.prog w) callerA (.call (.ref fa) ⟨[.ref a],[]⟩) (λr s'=>r=.ok (.ret (.bool true))/\OldK s₁.heap s'.heap/\s'.os=s₁.os/\AllBare s'.gens) s₁) :
  WalkO q loose XP YP l.row.toRowW d [] (λf vs=>PySem.call f vs):=by
 intro w s₀ s₁ mg mb G Y fa o pm cd doc dV kV ho hd hcd hD hmg hg args vals as hpre hlay hrd hwl hlo;obtain rfl:dV=.none:=Dflts.none hD hdf;obtain rfl:kV=.none:=Dflts.noKw hD;obtain⟨a,vs,ns,rfl,rfl,hobj,hints,hlen⟩:=Qg hn hpre hwl;refine enter_call (yH (call w s₀ s₁ mg mb fa o pm cd doc a vs ns G Y ho (fd_plain hd) hcd hmg hobj hints hlen hg) λr s' hq=>?_);obtain⟨rfl,h2,h3,h4⟩:=hq;exact⟨.inl ⟨.bool true,.bool true,[],rfl,λ_=>rfl,.bool true,Jl l _,λ_=>⟨List.Pairwise.nil,λ_ hm=>(nomatch hm)⟩⟩,h2,h3,h4⟩
end Att
namespace L2
open PySem PySem.Spec PyProof.Rows
theorem nz:∀{vs:List Value} {ns:List Int},IntsAre vs ns->Vals (ns.map V.int) vs
 | _,_,.nil=>.nil
 | _,_,.cons n t h=>.cons ⟨t,rfl⟩ (nz h)
def Only(H:Hp):Prop:=∀b,H b=none\/∃o xs,H b=some (.frz o (.lst xs))
def QW{P:Program}{w:World}{K:PySem.W.Frag}{mg mb:Str->Option Value}{CX:g7}{k:Nat}{fa a:Addr}{fd:FuncData}{x:Str}{sp:Sp}{s₁:Shared}{vs:List Value}{ns:List Int}
  (KX:K.In s₁.heap) (hns:s₁.heap.Ns mainGlobals mg) (hb:s₁.heap.Ns builtinsNs mb) (hbb:∀x:Str,x≠"__name__"->mb x=bootBuiltins x) (hlim:s₁.heap.NoLimit) (hg:s₁.gens = #[])
  (ha:s₁.heap.get? a=some { cls:=.type "list",data:=.seq vs.toArray }) (hi:IntsAre vs ns) (hl:ns.length<=sizeLine) (hr:Room k callerA)
  (F:∀base:Heap,K.In base->base.Ns mainGlobals mg->FnOk P w K mg base CX k fa fd [x] sp) (hbind:∀(s:Shared) (u:Value),BindsTo s fd ⟨[u],[]⟩ [(x,u)])
  (hsp:∀H:Hp,Only H->SqL K H a (ns.map V.int)->sp [.ref a] H (λv _=>v=.bl true) λ_ _ _=>False)
  (hCX:∀H e s',CX [] H s₁ (λ_ _ _=>False) e s'->False) :
  codeAny (model P w) callerA (.call (.ref fa) ⟨[.ref a],[]⟩) (λr s'=>r=.ok (.ret (.bool true))/\OldK s₁.heap s'.heap/\s'.os=s₁.os/\AllBare s'.gens) s₁:=by
 have rv:=nz hi;have lenV:=hi.length;have core:∀H:Hp,Only H->SqL K H a (ns.map V.int)->HOk P w H s₁.heap->(∀b,H b≠none->b=a)->(H a≠none->K.lookup a=none)->
   codeAny (model P w) callerA (.call (.ref fa) ⟨[.ref a],[]⟩) (λr s'=>r=.ok (.ret (.bool true))/\OldK s₁.heap s'.heap/\s'.os=s₁.os/\AllBare s'.gens) s₁:=by
  intro H hO hS hok hA hK;have base_of:∀{b:Addr} {o:Obj},s₁.heap.get? b=some o->H b=none->(gp s₁.heap H).get? b=some o:=λe n=>Vm e n
  have noA:∀{b:Addr} {o:Obj} {es:Array DictEntry} {ep:Nat},s₁.heap.get? b=some o->o.data=.dict es ep->H b=none:=λ{b o es ep} e d=>by
   cases q:H b with
   | none=>rfl
   | some u=>
    have e':b=a:=hA b (by rw[q];simp);subst e';rw[ha] at e;cases e;have d':Data.seq vs.toArray _=Data.dict es ep:=d;cases d'
  have nsK:∀{b:Addr} {m:Str->Option Value},s₁.heap.Ns b m->(gp s₁.heap H).Ns b m:=λ{b m} ⟨o,es,ep,e,d,r⟩=>⟨o,es,ep,base_of e (noA e d),d,r⟩
  have hKb:K.In (gp s₁.heap H):=λb o e=>base_of (KX b o e) (by
   cases q:H b with
   | none=>rfl
   | some u=>
    have e':b=a:=hA b (by rw[q];simp);subst e'
    rw[hK (by rw[q];simp)] at e;cases e)
  have hM:Mod K mg (gp s₁.heap H):=⟨hKb,nsK hns,⟨mb,nsK hb,hbb⟩,let ⟨mc,h1,h2⟩:=hlim;⟨mc,nsK h1,h2⟩⟩;have e0:Env0 P w K mg (gp s₁.heap H) callerA [] s₁ H:=⟨rfl,hM,λb o e=>Ua e,Nat.le_of_eq (K0 _ _),trivial,λb hb=>absurd (show b∈([]:List Addr) from hb) (by simp),hok,.of_eq hg⟩;refine yH ((F _ hKb (nsK hns)).run callerA [] s₁ H ⟨[.ref a],[]⟩ [.ref a] [.ref a] _ _ hr e0 (hbind s₁ (.ref a)) (.cons rfl .nil) (hsp H hO hS)) λr s' h=>?_
  cases r with
  | error e=>exact(hCX H e s' h).elim
  | ok fl=>
   cases fl with
   | next=>exact False.elim h
   | brk=>exact False.elim h
   | cont=>exact False.elim h
   | ret u=>
    obtain⟨v,H',os,bare,un,hok',r',q⟩:=h;have q':v=.bl true:=q;subst q';obtain rfl:u=Value.bool true:=r';refine⟨rfl,OldK.of_keep λb o e=>?_,os,bare⟩;cases q:H b with
    | none=>exact un.keep b o e q (by intro z;exact absurd (show b∈([]:List Addr) from z) (by simp)) (by simp)
    | some u=>
     rcases hO b with z | ⟨ob,xs,z⟩
     .rw[q] at z;cases z
     .have z2:=un.frzs b ob _ z
      obtain⟨e1,_⟩:=hok b _ z;obtain⟨e2,_⟩:=hok' b _ z2;rw[e] at e1;cases e1;exact e2
 cases hk:K.lookup a with
 | some o=>
  have e:=KX a o hk;rw[ha] at e;cases e;refine core (λ_=>none) (λ_=>.inl rfl) (.inr ⟨_,vs.toArray,_,hk,rfl,rfl,rfl,by rw[zM,lenV];exact hl,by simpa using rv⟩) (λb u z=>by have z':(none:Option HO)=some u:=z;cases z') (λb z=>absurd rfl z) λz=>absurd rfl z
 | none=>
  refine core (λb=>if b=a then some (.frz { cls:=.type "list",data:=.seq vs.toArray } (.lst (ns.map V.int))) else none) (λb=>?_) (.inl (.inr ⟨{ cls:=.type "list",data:=.seq vs.toArray },zY rfl⟩)) (λb u z=>?_) (λb z=>?_) λ_=>hk
  .by_cases hb:b=a
   .exact .inr ⟨_,_,zY hb⟩
   .exact .inl (jc hb)
  .by_cases hb:b=a
   .have z':=(zY hb).symm.trans z
    cases z';subst hb;exact⟨ha,by rw[zB];exact hl,vs,_,rv,ha⟩
   .have z':=(jc hb).symm.trans z
    cases z'
  .by_cases hb:b=a
   .exact hb
   .exact absurd (jc hb) z
end L2
namespace L2
open PySem PySem.Spec PyProof.Rows
end L2
namespace L2
open PySem PySem.Spec PyProof.Rows
def va(s:Stmt):Arguments:=match s with
 | .FunctionDef _ a _ _ _ _ _ _ _ _=>a
 | _=>{ posonlyargs:=[],args:=[],vararg:=none,kwonlyargs:=[],kw_defaults:=[],kwarg:=none,defaults:=[] }
def kU(s:Stmt):List Stmt:=match s with
 | .FunctionDef _ _ b _ _ _ _ _ _ _=>b
 | _=>[]
def kD(s:Stmt):Scope:=match s with
 | .FunctionDef _ _ _ _ _ _ sc _ _ _=>sc
 | _=>{ kind:=.function,names:=[],isGenerator:=false,isCoroutine:=false }
abbrev x8:g7:=λ_ _ _ _ _ _=>False
abbrev E0:XK:=λ_ _ _=>False
def iH{X:Cx}:uX x8 X E0:=λ_ _ _ _ _ _ _ h=>h.elim
structure Fun(K:PySem.W.Frag)(x qual:Str)(st:Stmt)(f:Addr)(fd:FuncData):Prop where
 ex:∃(oc:Value) (od:Option Addr) (kV doc pm:Value) (an:Option Addr) (cdv ct:Value) (osl:Array (Option Value)),
  fd=PySem.W.fnOf x qual (va st) (kU st) (kD st) .none kV doc pm an cdv ct/\K.lookup f=some ⟨oc,od,.func fd,osl⟩/\PySem.W.codeIn K cdv qual=true
 kp:PySem.W.keepIn K (.ref f)=true
section
variable{P:Program}{w:World}{K:PySem.W.Frag}{mg:Str->Option Value}{base:Heap}
def Fun.ok{x qual:Str}{st:Stmt}{f:Addr}{fd:FuncData}{N ps:List Str}{k:Nat}{sp:Sp}(F:Fun K x qual st f fd)(S:FnScope N ps (kD st))(len:∀vs H Q E,sp vs H Q E->vs.length=ps.length)
  (hbody:∀(cdv:Value) (A:Around) (outer:List Env) (s:Shared) (H:Hp) (vs:List V) (Q:VK) (E:XK),Room k (A.deeper (envOfC qual (kD st) s.heap.objs.size f cdv))->sp vs H Q E->
   ∃t,PSs (hW x8 P w K mg base N qual (kD st) f cdv A outer s H E).nox (kU st) t/\t { nx:=λ_ H'=>Q .non H',rt:=Q } (start N vs) H):FnOk P w K mg base x8 (k+1) f fd ps sp:=by
 obtain⟨oc,od,kV,doc,pm,an,cdv,ct,osl,rfl,lk,hcd⟩:=F.ex;refine DK lk hcd S len λA outer s H vs Q E hr hsp=>?_
 obtain⟨t,h,q⟩:=hbody cdv A outer s H vs Q E hr hsp;exact⟨t,h.nox,q⟩
def Fun.binds{x qual:Str}{st:Stmt}{f:Addr}{fd:FuncData}{ps:List Str}(F:Fun K x qual st f fd)
  (h:∀(kV doc pm:Value) (an:Option Addr) (cdv ct:Value) (us:List Value),us.length=ps.length->bindArgs (PySem.W.fnOf x qual (va st) (kU st) (kD st) .none kV doc pm an cdv ct) ⟨us,[]⟩=pure (ps.zip us)):Binds K fd ps []:=by
 obtain⟨oc,od,kV,doc,pm,an,cdv,ct,osl,rfl,lk,hcd⟩:=F.ex;exact .all (h kV doc pm an cdv ct)
def BX{x qual:Str}{st:Stmt}{f:Addr}{oc:Value}{od an:Option Addr}{osl:Array (Option Value)}{kV doc pm cdv ct:Value}(l:K.lookup f=some ⟨oc,od,.func (PySem.W.fnOf x qual (va st) (kU st) (kD st) .none kV doc pm an cdv ct),osl⟩)
  (c:PySem.W.codeIn K cdv qual=true) (k:PySem.W.keepIn K (.ref f)=true):Fun K x qual st f (PySem.W.fnOf x qual (va st) (kU st) (kD st) .none kV doc pm an cdv ct):=⟨⟨oc,od,kV,doc,pm,an,cdv,ct,osl,rfl,l,c⟩,k⟩
end
end L2
end
set_option bootstrap.genMatcherCode false
set_option genSizeOf false
set_option genSizeOfSpec false
namespace L2
open PySem PySem.W PyProof.Rows
section
variable{prog:Program}{w:World}{A:Around}{E:Value->Shared->Prop}
theorem ol{t:Addr}{items:Array Value}(hh:A.handled=none)(hne:t≠it):∀(n i:Nat) (s:Shared) (Q:List Value->Shared->Prop),s.heap.IsListIter it t i->s.heap.IsList t items->i+n<=items.size->
  (∀h' tk,h'.IsListIter it t (i+n)->h'.IsList t items->(∀b o,b≠it->s.heap.get? b=some o->h'.get? b=some o)->Q ((items.toList.drop i).take n) { s with heap:=h',toks:=tk })->wpAny (model prog w) A (draw (.ref it) n) Q E s
 | 0,i,s,Q,hit,ht,_,hQ=>by
  show wpAny _ _ (pure []) Q E s
  exact zu (by simpa using hQ s.heap s.toks hit ht λ_ _ _ e=>e)
 | n+1,i,s,Q,hit,ht,hle,hQ=>by
  have hlt:i<items.size:=by omega
  show wpAny _ _ (pyNext (.ref it) >>= _) Q E s
  refine za ((xx hh it t hne items).item i s _ _ hlt ⟨hit,ht⟩ λv h1 tk hv st k1=>?_);rw[show items[i]?=some items[i] by simp[hlt]] at hv;cases hv;refine za (jf (ol hh hne n (i+1) _ _ st.1 st.2 ∅ λh2 tk2 a1 a2 a3=>zu ?_));have hd:items.toList.drop i=items[i]::items.toList.drop (i+1):=by simp[qN,hlt]
  have:=hQ h2 tk2 (by rw[show i+(n+1)=i+1+n by omega];exact a1) a2 λb o ne e=>a3 b o ne (k1 b o (by simpa using ne) e)
  rw[hd,List.take_succ_cons] at this;exact this
def tq{s:Shared}{t:Addr}{items:Array Value}{targets:List (Bool×(Value->Sem Unit))}(hh:A.handled=none)(ht:s.heap.IsList t items)
  (hn:targets.length=items.size) (hstar:targets.findIdx? (·.1)=none)
  (h:∀h' tk,(∀b o,s.heap.get? b=some o->h'.get? b=some o)->wpAny (model prog w) A (assignInOrder (targets.map (·.2)) items.toList) Q E { s with heap:=h',toks:=tk }) :
  wpAny (model prog w) A (unpack (.ref t) targets) Q E s:=by
 have hlt:t<s.heap.objs.size:=by obtain⟨o,ho,_⟩:=ht;exact zF ho
 unfold unpack;rw[hn,hstar];refine za (jf ?_);unfold unpackItems notIterableAtAll;refine za (za (vR ht.typeIs PySem.slot_list_iter.lookup (zu ?_)));simp only[jJ,jq];refine za (jf (vo ht ?_));refine za (jf (ol hh (zX hlt) items.size 0 _ _ ⟨_,zO _ rfl,rfl,rfl⟩ (ht.push _) ∅ λh1 tk hit1 ht1 k1=>?_));have hall:List.take items.size (List.drop 0 items.toList)=items.toList:=by
  rw[wI];exact yO (by simp)
 rw[hall,jc (by simp)];refine za (jf ((xx hh s.heap.objs.size t (zX hlt) items).done _ _ _ ⟨by simpa using hit1,ht1⟩ λh2 tk2 k2=>?_));simp only[Option.isSome_none,jJ,jq];refine zu (h h2 tk2 λb o e=>?_);have ne:=zX (zF e);exact k2 b o (by simpa using ne) (k1 b o ne (zf _ e))
end
variable{X:Cx}{pos:Pos}
def Fy(K:PySem.W.Frag)(n:Nat)(t:iT):TG:=λv σ H Q=>∃a xs,v=.ref a/\SqL K H a xs/\xs.length=n/\t xs σ H Q
def BA{t:iT}(hc:X.calm=true)(h:PGs X es t)
  (hn:(assignEach es X.env).length=n) (hst:(assignEach es X.env).findIdx? (·.1)=none):PG X (.Tuple es k pos) (Fy X.K n t):=by
 intro pins s σ H v u Q I r hw;obtain⟨a,xs,e1,hq,hl,hw⟩:=hw;subst e1;cases r;obtain⟨its,rv,⟨o,m,g1,g2,g3,g4⟩,hz⟩:=I.list hq;rw[assign_Tuple];refine za (yj (tq (items:=its.toArray) (I.ok.hd hc) ⟨o,g1,g2,m,g4⟩ (by simp[hn,<-hl,rv.length]) hst λh' tk hx=>?_));have I1:Inv X pins σ H { s with heap:=h',toks:=tk }:=I.kept (t':=tk) λb o e=>hx b o e
 exact h pins _ σ H xs _ Q I1 (by simpa using rv) hw
end L2
namespace ML
open PySem PySem.Spec PyProof.Rows L2
inductive W where
 | non | bl (b:Bool) | int (i:Int) | str (x:Str) | tup (l:List W) | fls (l:List W) | ref (n:Nat) | fdc (l:List (Key×W)) | fn (a:Addr)
 deriving Inhabited
inductive MO where
 | lst (l:List W) | dic (l:List (Key×W)) | ins (c:Nat) (fs:List (Str×W)) | tdc (ks:List (List Str))
structure Cl where
 c:Nat->Addr
 P:Program
 w:World
noncomputable def Fc(P:Program)(w:World)(a:Addr)(xs:List (List Str×Addr×Value)):Heap->Prop:=λh=>∃o es ep,h.get? a=some o/\o.ExactDict/\o.data=.dict es ep/\es.toList=xs.map (entryOfKey (tupleKind (strKind P w)))
abbrev MH:=List MO
abbrev M(α:Type):=MH->Option (α×MH)
abbrev En:=List (Option W)
abbrev ME:=En->M W
abbrev MT:=En->M Bool
noncomputable def bnd{α β:Type}(m:M α)(f:α->M β):M β:=λh=>match m h with
 | some (a,h')=>f a h'
 | none=>none
def Vq{α β:Type}{m:M α}{f:α->M β}{h h':MH}{a:α}(e:m h=some (a,h')):bnd m f h=f a h':=by unfold bnd;rw[e]
def ka{α β:Type}{m:M α}{f:α->M β}{h:MH}{r:β×MH}(e:bnd m f h=some r):∃a h',m h=some (a,h')/\f a h'=some r:=by
 unfold bnd at e;split at e
 .rename_i a h' e'
  exact⟨a,h',e',e⟩
 .cases e
noncomputable def SqF(K:PySem.W.Frag)(μ:List Addr)(H:Hp)(a:Addr)(vs:List V):Prop:=(Rd H a (.lst vs)/\a∉μ) \/
 ∃(o:Obj) (its:Array Value) (n:Nat),K.lookup a=some o/\o.cls=.type "list" /\ o.dict=none/\o.data=.seq its n/\its.size<=sizeLine/\Vals vs its.toList
def SqF.sq{K:PySem.W.Frag}{μ:List Addr}{H:Hp}(h:SqF K μ H a vs):SqL K H a vs:=h.elim (λh=>.inl h.1) .inr
noncomputable def SqD(μ:List Addr)(H:Hp)(a:Addr)(l:List (Key×V)):Prop:=Rd H a (.dK l)/\a∉μ
section rel
variable(K:PySem.W.Frag)(cl:Cl)(μ:List Addr)(H:Hp)
mutual
inductive RW:W->V->Prop
 | non:RW .non .non
 | bl (b:Bool):RW (.bl b) (.bl b)
 | int (i:Int):RW (.int i) (.int i)
 | str (x:Str):RW (.str x) (.str x)
 | tup {a:Addr} {vs:List V} {l:List W}:SqT K H a vs->RWs l vs->RW (.tup l) (.ref a)
 | ref {n:Nat} {a:Addr}:μ[n]?=some a->RW (.ref n) (.ref a)
 | fls {a:Addr} {vs:List V} {l:List W}:SqF K μ H a vs->RWs l vs->RW (.fls l) (.ref a)
 | fdc {a:Addr} {l:List (Key×W)} {l':List (Key×V)} {ws:List W} {vs:List V}:SqD μ H a l'->l.map (·.1)=l'.map (·.1)->ws=l.map (·.2)->vs=l'.map (·.2)->RWs ws vs->RW (.fdc l) (.ref a)
 | fn {a:Addr}:RW (.fn a) (.ref a)
inductive RWs:List W->List V->Prop
 | nil:RWs [] []
 | cons {w:W} {v:V} {l:List W} {vs:List V}:RW w v->RWs l vs->RWs (w::l) (v::vs)
end
noncomputable def RKs{κ:Type}(l:List (κ×W))(l':List (κ×V)):Prop:=l.map (·.1)=l'.map (·.1)/\RWs K μ H (l.map (·.2)) (l'.map (·.2))
noncomputable def OR(a:Addr):MO->Prop
 | .lst l=>∃vs,H a=some (.lst vs)/\RWs K μ H l vs
 | .dic l=>∃l',H a=some (.dK l')/\RKs K μ H l l'
 | .ins c fs=>∃dx fs',H a=some (.ins (cl.c c) dx fs')/\RKs K μ H fs fs'
 | .tdc ks=>∃xs:List (List Str×Addr×Value),H a=some (.ext (Fc cl.P cl.w a xs))/\xs.map (·.1)=ks/\ks.Nodup/\(a==sysModules)=false/\RWs K μ H (ks.map λk=>.tup (k.map .str)) (xs.map λx=>.ref x.2.1)
structure HR(h:MH):Prop where
 len:μ.length=h.length
 nd:μ.Nodup
 ob:∀(n:Nat) (a:Addr) (o:MO),μ[n]?=some a->h[n]?=some o->OR K cl μ H a o
structure ER(ρ:En)(σ:L2.St):Prop where
 len:ρ.length=σ.length
 at_:∀(i:Nat) (w:W),ρ[i]?=some (some w)->∃v,σ[i]?=some (some v)/\RW K μ H w v
end rel
structure Ext(μ:List Addr)(H:Hp)(μ':List Addr)(H':Hp):Prop where
 pre:μ<+:μ'
 fr:∀b o,H b=some o->b∉μ->H' b=some o/\b∉μ'
section
variable{K:PySem.W.Frag}{cl:Cl}{μ μ' μ'':List Addr}{H H' H'':Hp}{h h':MH}
def Ext.refl:Ext μ H μ H:=⟨zR _,λ_ _ e n=>⟨e,n⟩⟩
theorem Ext.trans(a:Ext μ H μ' H')(b:Ext μ' H' μ'' H''):Ext μ H μ'' H'':=
 ⟨a.pre.trans b.pre,λc o e n=>let ⟨e1,n1⟩:=a.fr c o e n;b.fr c o e1 n1⟩
def Ext.get(a:Ext μ H μ' H'){n:Nat}(e:μ[n]?=some x):μ'[n]?=some x:=by
 obtain⟨r,rfl⟩:=a.pre;rw[zA (zU.mp e).1];exact e
theorem OR.some(q:OR K cl μ H a o):∃u,H a=some u/\nR (some u):=by
 cases o with
 | lst l=>obtain⟨vs,q,_⟩:=q;exact⟨_,q,trivial⟩
 | dic l=>obtain⟨l',q,_⟩:=q;exact⟨_,q,trivial⟩
 | ins c fs=>obtain⟨dx,fs',q,_⟩:=q;exact⟨_,q,trivial⟩
 | tdc ks=>obtain⟨xs,q,_⟩:=q;exact⟨_,q,trivial⟩
def HR.mem_some(R:HR K cl μ H h)(hm:a∈μ):∃u,H a=some u/\nR (some u):=by
 obtain⟨n,hn⟩:=jB.mp hm;have hl:n<h.length:=by rw[<-R.len];exact(zU.mp hn).1
 exact(R.ob n a h[n] hn (zE hl)).some
def HR.fresh(R:HR K cl μ H h)(e:H a=none):a∉μ:=λhm=>by
 obtain⟨u,q,_⟩:=R.mem_some hm;rw[e] at q;cases q
def HR.notours(R:HR K cl μ H h)(e:H a=some u)(n:¬nR (some u)):a∉μ:=λhm=>by
 obtain⟨u',q,m⟩:=R.mem_some hm;rw[e] at q;cases q;exact n m
def HR.notup(R:HR K cl μ H h)(e:Rd H a (.tup xs)):a∉μ:=by
 rcases e with e | ⟨o,e⟩
 .exact R.notours e λz=>z
 .exact R.notours e λz=>z
def SqF.ext(E:Ext μ H μ' H')(e:SqF K μ H a vs):SqF K μ' H' a vs:=by
 rcases e with ⟨e | ⟨o,e⟩,n⟩ | e
 .exact .inl ⟨.inl (E.fr _ _ e n).1,(E.fr _ _ e n).2⟩
 .exact .inl ⟨.inr ⟨o,(E.fr _ _ e n).1⟩,(E.fr _ _ e n).2⟩
 .exact .inr e
def SqD.ext(E:Ext μ H μ' H')(e:SqD μ H a l):SqD μ' H' a l:=by
 obtain⟨e | ⟨o,e⟩,n⟩:=e
 .exact⟨.inl (E.fr _ _ e n).1,(E.fr _ _ e n).2⟩
 .exact⟨.inr ⟨o,(E.fr _ _ e n).1⟩,(E.fr _ _ e n).2⟩
def SqT.ext(R:HR K cl μ H h)(E:Ext μ H μ' H')(e:SqT K H a xs):SqT K H' a xs:=by
 rcases e with e | e
 .have n:=R.notup e
  rcases e with e | ⟨o,e⟩
  .exact .inl (.inl (E.fr _ _ e n).1)
  .exact .inl (.inr ⟨o,(E.fr _ _ e n).1⟩)
 .exact .inr e
mutual
theorem RW.ext(R:HR K cl μ H h)(E:Ext μ H μ' H'):∀{w:W} {v:V},RW K μ H w v->RW K μ' H' w v
 | _,_,.non=>.non
 | _,_,.bl b=>.bl b
 | _,_,.int i=>.int i
 | _,_,.str x=>.str x
 | _,_,.tup s r=>.tup (SqT.ext R E s) (RWs.ext R E r)
 | _,_,.ref e=>.ref (E.get e)
 | _,_,.fls s r=>.fls (SqF.ext E s) (RWs.ext R E r)
 | _,_,.fdc s k e1 e2 r=>.fdc (SqD.ext E s) k e1 e2 (RWs.ext R E r)
 | _,_,.fn=>.fn
theorem RWs.ext(R:HR K cl μ H h)(E:Ext μ H μ' H'):∀{l:List W} {vs:List V},RWs K μ H l vs->RWs K μ' H' l vs
 | _,_,.nil=>.nil
 | _,_,.cons r t=>.cons (RW.ext R E r) (RWs.ext R E t)
end
theorem ER.ext(R:HR K cl μ H h)(E:Ext μ H μ' H')(e:ER K μ H ρ σ):ER K μ' H' ρ σ:=
 ⟨e.len,λi w q=>let ⟨v,q1,r⟩:=e.at_ i w q;⟨v,q1,r.ext R E⟩⟩
theorem RWs.length:∀{l:List W} {vs:List V},RWs K μ H l vs->l.length=vs.length
 | _,_,.nil=>rfl
 | _,_,.cons _ t=>jX (· + 1) (RWs.length t)
theorem RWs.get:∀{l:List W} {vs:List V} {i:Nat} {w:W},RWs K μ H l vs->l[i]?=some w->∃v,vs[i]?=some v/\RW K μ H w v
 | _,_,_,_,.nil,e=>by simp at e
 | _,_,0,_,.cons r _,e=>by simp at e;subst e;exact⟨_,rfl,r⟩
 | _,_,i+1,w,.cons _ t,e=>by
  obtain⟨v,h1,h2⟩:=RWs.get (i:=i) (w:=w) t (by simpa using e);exact⟨v,by simpa using h1,h2⟩
theorem RWs.append:∀{l l':List W} {vs vs':List V},RWs K μ H l vs->RWs K μ H l' vs'->RWs K μ H (l++l') (vs++vs')
 | _,_,_,_,.nil,s=>s
 | _,_,_,_,.cons r t,s=>.cons r (RWs.append t s)
theorem RWs.take:∀{l:List W} {vs:List V} (n:Nat),RWs K μ H l vs->RWs K μ H (l.take n) (vs.take n)
 | _,_,0,_=>.nil
 | _,_,_+1,.nil=>.nil
 | _,_,n+1,.cons r t=>.cons r (RWs.take n t)
theorem RWs.drop:∀{l:List W} {vs:List V} (n:Nat),RWs K μ H l vs->RWs K μ H (l.drop n) (vs.drop n)
 | _,_,0,r=>r
 | _,_,_+1,.nil=>.nil
 | _,_,n+1,.cons _ t=>RWs.drop n t
theorem RWs.set(r:RW K μ H w v):∀{l:List W} {vs:List V} (i:Nat),RWs K μ H l vs->RWs K μ H (l.set i w) (vs.set i v)
 | _,_,_,.nil=>.nil
 | _,_,0,.cons _ t=>.cons r t
 | _,_,i+1,.cons q t=>.cons q (RWs.set r i t)
theorem RWs.dropLast:∀{l:List W} {vs:List V},RWs K μ H l vs->RWs K μ H l.dropLast vs.dropLast
 | _,_,.nil=>.nil
 | _,_,.cons _ .nil=>.nil
 | _,_,.cons r (.cons r2 t)=>.cons r (RWs.dropLast (.cons r2 t))
theorem RWs.rep(r:RWs K μ H l vs):∀k:Nat,RWs K μ H (List.replicate k l).flatten (List.replicate k vs).flatten
 | 0=>.nil
 | k+1=>by
  rw[jt,jt,qi,qi];exact r.append (RWs.rep r k)
theorem RWs.ints:∀ns:List Int,RWs K μ H (ns.map W.int) (ns.map V.int)
 | []=>.nil
 | n::r=>.cons (.int n) (RWs.ints r)
theorem OR.ext(R:HR K cl μ H h)(E:Ext μ H μ' H')(e:H' a=H a)(q:OR K cl μ H a o):OR K cl μ' H' a o:=by
 cases o with
 | lst l=>obtain⟨vs,q,r⟩:=q;exact⟨vs,e.trans q,r.ext R E⟩
 | dic l=>obtain⟨l',q,k,r⟩:=q;exact⟨l',e.trans q,k,r.ext R E⟩
 | ins c fs=>obtain⟨dx,fs',q,k,r⟩:=q;exact⟨dx,fs',e.trans q,k,r.ext R E⟩
 | tdc ks=>obtain⟨xs,q,k1,k2,k3,r⟩:=q;exact⟨xs,e.trans q,k1,k2,k3,r.ext R E⟩
def Ext.new(hp:H p=none):Ext μ H (μ++[p]) (upd H p u):=
 ⟨jj _ _,λb o e n=>by
  have ne:b≠p:=qr e hp
  exact⟨by rw[kQ ne];exact e,by simp[n,ne]⟩⟩
def Ext.side(hp:H p=none):Ext μ H μ (upd H p u):=
 ⟨zR _,λb o e n=>⟨by rw[kQ (qr e hp)];exact e,n⟩⟩
theorem HR.side(R:HR K cl μ H h)(hp:H p=none):HR K cl μ (upd H p u) h:=
 have hm:=R.fresh hp;⟨R.len,R.nd,λn a o e1 e2=>OR.ext R (Ext.side hp) (kQ (by rintro rfl;exact hm (jH e1))) (R.ob n a o e1 e2)⟩
theorem HR.new(R:HR K cl μ H h)(hp:H p=none)(q:OR K cl (μ++[p]) (upd H p u) p o):HR K cl (μ++[p]) (upd H p u) (h++[o]):=by
 have hm:=R.fresh hp;refine⟨by simp[R.len],?_,λn a o' e1 e2=>?_⟩
 .rw[yc]
  exact⟨R.nd,by simp,by simp;exactλa ha=>by rintro rfl;exact hm ha⟩
 .by_cases hn:n<μ.length
  .rw[zA hn] at e1
   rw[zA (by rw[<-R.len];exact hn)] at e2;exact OR.ext R (Ext.new hp) (kQ (by rintro rfl;exact hm (jH e1))) (R.ob n a o' e1 e2)
  .rw[zH ∅] at e1
   rw[zH (by rw[<-R.len];omega)] at e2;rw[R.len] at e1;have:n-h.length=0:=by
    by_cases z:n-h.length=0
    .exact z
    .rw[jV (by simp;omega)] at e1;cases e1
   rw[this] at e1 e2;simp at e1 e2;subst e1;subst e2;exact q
def Ext.put{n:Nat}{a:Addr}(hn:μ[n]?=some a):Ext μ H μ (upd H a u):=
 ⟨zR _,λb o e m=>⟨by rw[kQ (by rintro rfl;exact m (jH hn))];exact e,m⟩⟩
theorem HR.put{n:Nat}{a:Addr}(R:HR K cl μ H h)(hn:μ[n]?=some a)(q:OR K cl μ (upd H a u) a o):HR K cl μ (upd H a u) (h.set n o):=by
 refine⟨by simp[R.len],R.nd,λm b o' e1 e2=>?_⟩;by_cases hm:m=n
 .subst hm
  rw[hn] at e1;cases e1;rw[zL (by rw[<-R.len];exact(zU.mp hn).1)] at e2;cases e2;exact q
 .rw[zJ (kY hm)] at e2
  have ne:b≠a:=by
   rintro rfl;obtain⟨h1,e1'⟩:=zU.mp e1;obtain⟨h2,e2'⟩:=zU.mp hn;exact hm ((vh R.nd).mp (e1'.trans e2'.symm))
  exact OR.ext R (Ext.put hn) (kQ ne) (R.ob m b o' e1 e2)
end
noncomputable def KQ(K:PySem.W.Frag)(cl:Cl)(μ:List Addr)(H:Hp)(h':MH)(w:W)(Q:VK):Prop:=
 ∀μ' H' v,Ext μ H μ' H'->HR K cl μ' H' h'->RW K μ' H' w v->Q v H'
inductive tM(K:PySem.W.Frag)(cl:Cl)(m:ME)(σ:L2.St)(H:Hp)(Q:VK):Prop
 | mk (μ:List Addr) (h:MH) (ρ:En) (w:W) (h':MH) (p0:HR K cl μ H h) (p1:ER K μ H ρ σ) (p2:m ρ h=some (w,h')) (p3:KQ K cl μ H h' w Q):tM K cl m σ H Q
inductive tMT(K:PySem.W.Frag)(cl:Cl)(m:MT)(σ:L2.St)(H:Hp)(Q:Bool->Hp->Prop):Prop
 | mk (μ:List Addr) (h:MH) (ρ:En) (b:Bool) (h':MH) (p0:HR K cl μ H h) (p1:ER K μ H ρ σ) (p2:m ρ h=some (b,h')) (p3:∀μ' H',Ext μ H μ' H'->HR K cl μ' H' h'->Q b H'):tMT K cl m σ H Q
abbrev SE(X:Cx)(cl:Cl)(e:Expr)(m:ME):Prop:=PE X e (tM X.K cl m)
abbrev ST(X:Cx)(cl:Cl)(e:Expr)(m:MT):Prop:=PT X e (tMT X.K cl m)
def PE.wk{t:TE}(h:PE X e t)(w:∀σ H Q,t' σ H Q->t σ H Q):PE X e t':=λpins s σ H Q I q=>h pins s σ H Q I (w σ H Q q)
def PT.wk{t:TT}(h:PT X e t)(w:∀σ H Q,t' σ H Q->t σ H Q):PT X e t':=λpins s σ H Q I q=>h pins s σ H Q I (w σ H Q q)
def PA.wk{t:TA}(h:PA X e t)(w:∀σ H Q,t' σ H Q->t σ H Q):PA X e t':=λpos pins s σ H Q I q=>h pos pins s σ H Q I (w σ H Q q)
def PS.wk{t:TS}(h:PS X e t)(w:∀D σ H,t' D σ H->t D σ H):PS X e t':=λpins s σ H D I q=>h pins s σ H D I (w D σ H q)
def PSs.wk{t:TS}(h:PSs X e t)(w:∀D σ H,t' D σ H->t D σ H):PSs X e t':=λpins s σ H D I q=>h pins s σ H D I (w D σ H q)
noncomputable def ze(i:Nat):ME:=λρ h=>match ρ[i]? with
 | some (some w)=>some (w,h)
 | _=>none
noncomputable def eC(w:W):ME:=λ_ h=>some (w,h)
noncomputable def zi(f:W->W->M W)(a b:ME):ME:=λρ=>bnd (a ρ) λx=>bnd (b ρ) λy=>f x y
noncomputable def uf(f:W->M W)(a:ME):ME:=λρ=>bnd (a ρ) f
noncomputable def ko:List ME->En->M (List W)
 | [],_=>λh=>some ([],h)
 | m::r,ρ=>bnd (m ρ) λx=>bnd (ko r ρ) λxs h=>some (x::xs,h)
noncomputable def zh(f:List W->M W)(as:List ME):ME:=λρ=>bnd (ko as ρ) f
noncomputable def Jx(w:W):M Bool:=λh=>match w with
 | .bl b=>some (b,h)
 | _=>none
noncomputable def ke(a:ME):MT:=λρ=>bnd (a ρ) Jx
noncomputable def uR(a b:MT):MT:=λρ=>bnd (a ρ) λx=>if x=true then b ρ else λh=>some (false,h)
noncomputable def lq(a b:MT):MT:=λρ=>bnd (a ρ) λx=>if x=true then (λh=>some (true,h)) else b ρ
noncomputable def Zc(t:MT)(a b:ME):ME:=λρ=>bnd (t ρ) λc=>if c=true then a ρ else b ρ
noncomputable def u5(f g:W->W->M W)(a b c:ME):ME:=λρ=>bnd (a ρ) λx=>bnd (b ρ) λy=>bnd (f x y) λz=>bnd (Jx z) λk=>if k=true then bnd (c ρ) λu=>g y u else λh=>some (.bl false,h)
inductive rM(K:PySem.W.Frag)(cl:Cl)(f:W->W->M W)(x:V)(y:V)(H:Hp)(Q:VK):Prop
 | mk (μ:List Addr) (h:MH) (wx:W) (wy:W) (w:W) (h':MH) (p0:HR K cl μ H h) (p1:RW K μ H wx x) (p2:RW K μ H wy y) (p3:f wx wy h=some (w,h')) (p4:KQ K cl μ H h' w Q):rM K cl f x y H Q
inductive rM1(K:PySem.W.Frag)(cl:Cl)(f:W->M W)(x:V)(H:Hp)(Q:VK):Prop
 | mk (μ:List Addr) (h:MH) (wx:W) (w:W) (h':MH) (p0:HR K cl μ H h) (p1:RW K μ H wx x) (p2:f wx h=some (w,h')) (p3:KQ K cl μ H h' w Q):rM1 K cl f x H Q
inductive rMs(K:PySem.W.Frag)(cl:Cl)(f:List W->M W)(xs:List V)(H:Hp)(Q:VK):Prop
 | mk (μ:List Addr) (h:MH) (ws:List W) (w:W) (h':MH) (p0:HR K cl μ H h) (p1:RWs K μ H ws xs) (p2:f ws h=some (w,h')) (p3:KQ K cl μ H h' w Q):rMs K cl f xs H Q
inductive tMA(K:PySem.W.Frag)(cl:Cl)(ms:List ME)(σ:L2.St)(H:Hp)(Q:List V->Hp->Prop):Prop
 | mk (μ:List Addr) (h:MH) (ρ:En) (ws:List W) (h':MH) (p0:HR K cl μ H h) (p1:ER K μ H ρ σ) (p2:ko ms ρ h=some (ws,h')) (p3:∀μ' H' vs,Ext μ H μ' H'->HR K cl μ' H' h'->RWs K μ' H' ws vs->Q vs H'):tMA K cl ms σ H Q
abbrev SA(X:Cx)(cl:Cl)(es:List Expr)(ms:List ME):Prop:=PA X es (tMA X.K cl ms)
section
variable{X:Cx}{cl:Cl}{a b c:Expr}{ma mb mc:ME}{pos:Pos}{μ μ':List Addr}{H H':Hp}{h h':MH}
def KQ.pure{w:W}{v:V}{Q:VK}{K:PySem.W.Frag}(k:KQ K cl μ H h w Q)(R:HR K cl μ H h)(r:RW K μ H w v):Q v H:=k μ H v .refl R r
def KQ.ext{w:W}{Q:VK}{K:PySem.W.Frag}(E:Ext μ H μ' H')(k:KQ K cl μ H h w Q):KQ K cl μ' H' h w Q:=λμ2 H2 v E2 R2 r2=>k μ2 H2 v (E.trans E2) R2 r2
def BU(i:Nat)(hN:↥(X.N[i]?=some x))(hv:Jq X.env.scope x:=by first | exact Or.inl rfl | exact Or.inr (Or.inl rfl) | exact Or.inr (Or.inr rfl))
  (hd:⇑((x==("__debug__":Str))=false)) (hcd:⇑((x==("__classdict__":Str))=false)):SE X cl (.Name x pos) (ze i):=
 PE.wk (UI (i:=i) hN hv hd hcd) λσ H Q q0=>by
  obtain⟨μ,h,ρ,w,h',R,er,e,k⟩:=q0;unfold ze at e;split at e
  .rename_i w' q
   cases e;obtain⟨v,q1,r⟩:=er.at_ i _ q;exact⟨v,q1,k.pure R r⟩
  .cases e
def sO{w:W}{v:V}(he:PE X a (tC v))(r:∀μ H,RW X.K μ H w v):SE X cl a (eC w):=
 PE.wk he λσ H Q q0=>by
  obtain⟨μ,h,ρ,w',h',R,er,e,k⟩:=q0;cases e;exact k.pure R (r μ H)
def Uv{i:Int}{j}:SE X cl (.Constant (.int i) j pos) (eC (.int i)):=sO Cw λ_ _=>.int i
def Dy{i:Bool}{j}:SE X cl (.Constant (.bool i) j pos) (eC (.bl i)):=sO DG λ_ _=>.bl i
def CF{j}:SE X cl (.Constant .none j pos) (eC .non):=sO Ul λ_ _=>.non
def BZ{i:Str}{j}:SE X cl (.Constant (.str i) j pos) (eC (.str i)):=sO B4 λ_ _=>.str i
def YG(hm:X.mg x=some u)(r:RelV v u)(rw:∀μ H,RW X.K μ H w v)(hg:↥(Gl X x))(hd:⇑((x==("__debug__":Str))=false)):SE X cl (.Name x pos) (eC w):=
 sO (t6 hg hm r hd) rw
def bi{K:PySem.W.Frag}{f:W->W->M W}(q:tM K cl (zi f ma mb) σ H Q):J3 (rM K cl f) (tM K cl ma) (tM K cl mb) σ H Q:=by
 obtain⟨μ,h,ρ,w,h',R,er,e,k⟩:=q;obtain⟨x,h1,e1,e⟩:=ka e;obtain⟨y,h2,e2,e3⟩:=ka e;exact⟨μ,h,ρ,x,h1,R,er,e1,λμ1 H1 vx E1 R1 rx=>⟨μ1,h1,ρ,y,h2,R1,er.ext R E1,e2,λμ2 H2 vy E2 R2 ry=>⟨μ2,h2,x,y,w,h',R2,rx.ext R1 E2,ry,e3,k.ext (E1.trans E2)⟩⟩⟩
def C9{f:W->W->M W}(ho:qo X (binaryOp op) (rM X.K cl f))(ha:SE X cl a ma)(hb:SE X cl b mb):SE X cl (.BinOp a op b pos) (zi f ma mb):=
 PE.wk (De ho ha hb) λσ H Q q=>bi q
def CL{f:W->W->M W}(ho:qo X (compareOp op) (rM X.K cl f))(ha:SE X cl a ma)(hb:SE X cl b mb)(hm:behindInMarks op b=false:=by first | exact nomark _ | rfl):SE X cl (.Compare a [op] [b] pos) (zi f ma mb):=
 PE.wk (X7 ho ha hb hm) λσ H Q q=>bi q
def Du{f:W->M W}(ho:Jc X (unaryOp op) (rM1 X.K cl f))(ha:SE X cl a ma):SE X cl (.UnaryOp op a pos) (uf f ma):=
 PE.wk (DJ ho ha) λσ H Q q0=>by
  obtain⟨μ,h,ρ,w,h',R,er,e,k⟩:=q0;obtain⟨x,h1,e1,e⟩:=ka e;exact⟨μ,h,ρ,x,h1,R,er,e1,λμ1 H1 vx E1 R1 rx=>⟨μ1,h1,x,w,h',R1,rx,e,k.ext E1⟩⟩
theorem RW.bl_of{K:PySem.W.Frag}{k:Bool}(r:RW K μ H (.bl k) v):v=.bl k:=by cases r;rfl
def Jo{w:W}{b:Bool}(e:Jx w h=some (b,h')):w=.bl b/\h=h':=by
 unfold Jx at e;split at e
 .cases e;exact⟨rfl,rfl⟩
 .cases e
def g9{K:PySem.W.Frag}{σ:L2.St}(q:tMT K cl (ke ma) σ H Q):tM K cl ma σ H λx H1=>∃c,x=.bl c/\Q c H1:=by
 obtain⟨μ,h,ρ,b,h',R,er,e,k⟩:=q;obtain⟨x,h1,e1,e⟩:=ka e;obtain⟨rfl,rfl⟩:=Jo e;exact⟨μ,h,ρ,_,h1,R,er,e1,λμ1 H1 vx E1 R1 rx=>⟨b,rx.bl_of,k μ1 H1 E1 R1⟩⟩
def UH(ha:SE X cl a ma)(he:∀whole,isTrue a X.env whole=(do let v <-whole;standAt a.pos;holding [v] (truthy v)):=by intro _;rfl):ST X cl a (ke ma):=
 PT.wk (Um ha he) λσ H Q q=>g9 q
def Cj{f:W->W->M W}(ho:qo X (compareOp op) (rM X.K cl f))(ha:SE X cl a ma)(hb:SE X cl b mb)(hm:behindInMarks op b=false:=by first | exact nomark _ | rfl):ST X cl (.Compare a [op] [b] pos) (ke (zi f ma mb)):=
 PT.wk (Xi ho ha hb hm) λσ H Q q=>by
  obtain⟨μ,h,ρ,w,h',R,er,e,k⟩:=g9 q;exact bi ⟨μ,h,ρ,w,h',R,er,e,k⟩
def mj{K:PySem.W.Frag}{f g:W->W->M W}(q:tM K cl (u5 f g ma mb mc) σ H Q):pR (rM K cl f) (rM K cl g) (tM K cl ma) (tM K cl mb) (tM K cl mc) σ H Q:=by
 obtain⟨μ,h,ρ,w,h',R,er,e,k⟩:=q;obtain⟨x,h1,e1,e⟩:=ka e;obtain⟨y,h2,e2,e⟩:=ka e;obtain⟨z,h3,e3,e⟩:=ka e;obtain⟨c,h4,e4,e⟩:=ka e;obtain⟨rfl,rfl⟩:=Jo e4;refine⟨μ,h,ρ,x,h1,R,er,e1,λμ1 H1 vx E1 R1 rx=>⟨μ1,h1,ρ,y,h2,R1,er.ext R E1,e2,λμ2 H2 vy E2 R2 ry=>⟨μ2,h2,x,y,_,h3,R2,rx.ext R1 E2,ry,e3,λμ3 H3 vz E3 R3 rz=>⟨c,rz.bl_of,?_⟩⟩⟩⟩;cases c with
 | true=>
  rw[zY rfl] at e ⊢;obtain⟨u,h5,e5,e6⟩:=ka e;exact⟨μ3,h3,ρ,u,h5,R3,((er.ext R E1).ext R1 E2).ext R2 E3,e5,λμ4 H4 vu E4 R4 ru=>⟨μ4,h5,y,u,w,h',R4,(ry.ext R2 E3).ext R3 E4,ru,e6,k.ext (E1.trans (E2.trans (E3.trans E4)))⟩⟩
 | false=>
  rw[jc kh] at e ⊢;cases e;exact k μ3 H3 _ (E1.trans (E2.trans E3)) R3 (.bl false)
def V5{f:W->W->M W}(ho:qo X (compareOp op) (rM X.K cl f))(ho':qo X (compareOp op') (rM X.K cl g))(ha:SE X cl a ma)(hb:SE X cl b mb)(hc:SE X cl c mc)
  (hm:lastMarks [op,op'] [b,c]=false:=by with_unfolding_all rfl):SE X cl (.Compare a [op,op'] [b,c] pos) (u5 f g ma mb mc):=
 PE.wk (QJ ho ho' ha hb hc hm) λσ H Q q=>mj q
def Wv{f:W->W->M W}(ho:qo X (compareOp op) (rM X.K cl f))(ho':qo X (compareOp op') (rM X.K cl g))(ha:SE X cl a ma)(hb:SE X cl b mb)(hc:SE X cl c mc)
  (hm:lastMarks [op,op'] [b,c]=false:=by with_unfolding_all rfl):ST X cl (.Compare a [op,op'] [b,c] pos) (ke (u5 f g ma mb mc)):=
 PT.wk (Wo ho ho' ha hb hc hm) λσ H Q q=>by
  obtain⟨μ,h,ρ,w,h',R,er,e,k⟩:=g9 q;exact mj ⟨μ,h,ρ,w,h',R,er,e,k⟩
abbrev SW(X:Cx)(cl:Cl)(e:Expr)(m:MT):Prop:=PW X e (tMT X.K cl m)
def PW.wk{t:TT}(h:PW X e t)(w:∀σ H Q,t' σ H Q->t σ H Q):PW X e t':=λwh pins s σ H Q I q=>h wh pins s σ H Q I (w σ H Q q)
variable{ta tb:MT}{rest:List Expr}
def Uh(ha:ST X cl a ta):SW X cl (.BoolOp .And [a] pos) ta:=pw_and1 ha
def U3(ha:ST X cl a ta):SW X cl (.BoolOp .Or [a] pos) ta:=pw_or1 ha
def Bv(ha:ST X cl a ta)(hb:SW X cl (.BoolOp .And (b::rest) pos) tb):SW X cl (.BoolOp .And (a::b::rest) pos) (uR ta tb):=
 PW.wk (pw_and ha hb) λσ H Q q0=>by
  obtain⟨μ,h,ρ,w,h',R,er,e,k⟩:=q0;obtain⟨x,h1,e1,e⟩:=ka e;refine⟨μ,h,ρ,x,h1,R,er,e1,λμ1 H1 E1 R1=>?_⟩;cases x with
  | true=>rw[zY rfl] at e ⊢;exact⟨μ1,h1,ρ,w,h',R1,er.ext R E1,e,λμ2 H2 E2 R2=>k μ2 H2 (E1.trans E2) R2⟩
  | false=>rw[jc kh] at e ⊢;cases e;exact k μ1 H1 E1 R1
def Di(ha:ST X cl a ta)(hb:SW X cl (.BoolOp .Or (b::rest) pos) tb):SW X cl (.BoolOp .Or (a::b::rest) pos) (lq ta tb):=
 PW.wk (pw_or ha hb) λσ H Q q0=>by
  obtain⟨μ,h,ρ,w,h',R,er,e,k⟩:=q0;obtain⟨x,h1,e1,e⟩:=ka e;refine⟨μ,h,ρ,x,h1,R,er,e1,λμ1 H1 E1 R1=>?_⟩;cases x with
  | false=>rw[jc kh] at e ⊢;exact⟨μ1,h1,ρ,w,h',R1,er.ext R E1,e,λμ2 H2 E2 R2=>k μ2 H2 (E1.trans E2) R2⟩
  | true=>rw[zY rfl] at e ⊢;cases e;exact k μ1 H1 E1 R1
def X1(h:SW X cl a ta):ST X cl a ta:=h.pt
def Dl{t:Expr}(ht:ST X cl t ta)(ha:SE X cl a ma)(hb:SE X cl b mb):SE X cl (.IfExp t a b pos) (Zc ta ma mb):=
 PE.wk (VA ht ha hb) λσ H Q q0=>by
  obtain⟨μ,h,ρ,w,h',R,er,e,k⟩:=q0;obtain⟨x,h1,e1,e⟩:=ka e;refine⟨μ,h,ρ,x,h1,R,er,e1,λμ1 H1 E1 R1=>?_⟩;cases x with
  | true=>rw[zY rfl] at e ⊢;exact⟨μ1,h1,ρ,w,h',R1,er.ext R E1,e,k.ext E1⟩
  | false=>rw[jc kh] at e ⊢;exact⟨μ1,h1,ρ,w,h',R1,er.ext R E1,e,k.ext E1⟩
variable{es:List Expr}{ms:List ME}{e:Expr}{m:ME}
def gY:SA X cl [] []:=PA.wk J1 λσ H Q q0=>by
 obtain⟨μ,h,ρ,ws,h',R,er,e,k⟩:=q0;cases e;exact k μ H [] .refl R .nil
def uL(ha:SE X cl e m)(hr:SA X cl es ms)(hs:↥(starEach (e::es) X.env=(false,eval e X.env)::starEach es X.env)):SA X cl (e::es) (m::ms):=
 PA.wk (ni ha hr hs) λσ H Q q0=>by
  obtain⟨μ,h,ρ,ws,h',R,er,e,k⟩:=q0;obtain⟨x,h1,e1,e⟩:=ka e;obtain⟨xs,h2,e2,e⟩:=ka e;cases e;exact⟨μ,h,ρ,x,h1,R,er,e1,λμ1 H1 vx E1 R1 rx=>⟨μ1,h1,ρ,xs,_,R1,er.ext R E1,e2,λμ2 H2 vs E2 R2 rs=>k μ2 H2 _ (E1.trans E2) R2 (.cons (rx.ext R1 E2) rs)⟩⟩
noncomputable def cap:Nat:=16000000
def uh:cap<=sizeLine:=by decide
noncomputable def zw:List W->M W:=λws h=>if ws.length<=cap then some (.tup ws,h) else none
noncomputable def j1:List W->M W:=λws h=>if ws.length<=cap then some (.fls ws,h) else none
noncomputable def xU:List W->M W:=λws h=>if ws.length<=cap then some (.ref h.length,h++[.lst ws]) else none
theorem KQ.tup{K:PySem.W.Frag}{ws:List W}{xs:List V}{Q:VK}{p:Addr}(k:KQ K cl μ H h (.tup ws) Q)(R:HR K cl μ H h)(rs:RWs K μ H ws xs)(hp:H p=none):Q (.ref p) (upd H p (.tup xs)):=
 k μ _ _ (.side hp) (R.side hp) (.tup (SqT.of qc) (rs.ext R (.side hp)))
theorem KQ.lst{K:PySem.W.Frag}{ws:List W}{xs:List V}(k:KQ K cl μ H (h++[.lst ws]) (.ref h.length) Q)(R:HR K cl μ H h)(rs:RWs K μ H ws xs)(hp:H p=none):Q (.ref p) (upd H p (.lst xs)):=
 k (μ++[p]) _ _ (.new hp) (R.new hp ⟨xs,qc,rs.ext R (.new hp)⟩) (.ref (by rw[<-R.len];simp))
theorem KQ.fls{K:PySem.W.Frag}{ws:List W}{xs:List V}{Q:VK}{p:Addr}(k:KQ K cl μ H h (.fls ws) Q)(R:HR K cl μ H h)(rs:RWs K μ H ws xs)(hp:H p=none):Q (.ref p) (upd H p (.lst xs)):=
 k μ _ _ (.side hp) (R.side hp) (.fls (.inl ⟨.inl qc,R.fresh hp⟩) (rs.ext R (.side hp)))
def BS{x1}(hs:SA X cl es ms):SE X cl (.Tuple es x1 pos) (zh zw ms):=
 PE.wk (Bi hs) λσ H Q q0=>by
  obtain⟨μ,h,ρ,w,h',R,er,e,k⟩:=q0;obtain⟨ws,h1,e1,e⟩:=ka e;refine⟨μ,h,ρ,ws,h1,R,er,e1,λμ1 H1 vs E1 R1 rs=>?_⟩;unfold zw at e;split at e
  .rename_i hl
   cases e;exact⟨zT (by rw[<-rs.length];exact hl) uh,λp hp=>(k.ext E1).tup R1 rs hp⟩
  .cases e
def Br(hs:SA X cl es ms):SE X cl (.List es pos) (zh j1 ms):=
 PE.wk (Jy hs) λσ H Q q0=>by
  obtain⟨μ,h,ρ,w,h',R,er,e,k⟩:=q0;obtain⟨ws,h1,e1,e⟩:=ka e;refine⟨μ,h,ρ,ws,h1,R,er,e1,λμ1 H1 vs E1 R1 rs=>?_⟩;unfold j1 at e;split at e
  .rename_i hl
   cases e;exact⟨zT (by rw[<-rs.length];exact hl) uh,λp hp=>(k.ext E1).fls R1 rs hp⟩
  .cases e
def BQ(hs:SA X cl es ms):SE X cl (.List es pos) (zh xU ms):=
 PE.wk (Jy hs) λσ H Q q0=>by
  obtain⟨μ,h,ρ,w,h',R,er,e,k⟩:=q0;obtain⟨ws,h1,e1,e⟩:=ka e;refine⟨μ,h,ρ,ws,h1,R,er,e1,λμ1 H1 vs E1 R1 rs=>?_⟩;unfold xU at e;split at e
  .rename_i hl
   cases e;exact⟨zT (by rw[<-rs.length];exact hl) uh,λp hp=>(k.ext E1).lst R1 rs hp⟩
  .cases e
end
noncomputable def xh(K:PySem.W.Frag)(cl:Cl)(f:List W->M W):Sp:=λvs H Q _=>rMs K cl f vs H Q
mutual
noncomputable def low(m:Nat):W->Bool
 | .tup l=>lows m l
 | .fls l=>lows m l
 | .ref n=>decide (n<m)
 | .fdc l=>mK m l
 | _=>true
noncomputable def mK(m:Nat):List (Key×W)->Bool
 | []=>true
 | (_,w)::r=>low m w&&mK m r
noncomputable def lows(m:Nat):List W->Bool
 | []=>true
 | w::r=>low m w&&lows m r
end
open Classical in
noncomputable def gc(f:List W->M W):List W->M W:=λws h=>match f ws h with
 | some (w,h')=>if h<+:h'/\w≠.non then (if low h.length w=true then some (w,h) else match w with
   | .ref n=>match h'[n]? with
    | some (.lst l)=>if lows h.length l=true then some (.fls l,h) else some (w,h')
    | _=>some (w,h')
   | _=>some (w,h')) else some (w,h')
 | none=>none
def y7{f:List W->M W}{h:MH}(e:f ws h=some (w,h'))(p:low h.length w=true)(q:h<+:h')(n:w≠.non\/h'=h:=by first | exact .inr rfl | exact .inl nofun):gc f ws h=some (w,h):=by
 unfold gc;rw[e];by_cases z:w=.non
 .have:=n.resolve_left (λy=>y z)
  subst this;simp only[z,ne_eq,not_true_eq_false,and_false,jq]
 .have c:h<+:h'/\w≠.non:=⟨q,z⟩
  simp only;rw[zY c,zY p]
def J2{f:List W->M W}{h h':MH}(e:f ws h=some (.ref n,h'))(q:h<+:h')(hn:h.length<=n)(o:h'[n]?=some (.lst l))(p:lows h.length l=true):gc f ws h=some (.fls l,h):=by
 unfold gc;rw[e];have b:low h.length (.ref n)=false:=by unfold low;simp;omega
 have c:h<+:h'/\W.ref n≠.non:=⟨q,nofun⟩;simp only;rw[zY c];simp only[b,kW,o,p,jJ,jq]
theorem mD(m:Nat):∀l:List (Key×W),mK m l=lows m (l.map (·.2))
 | []=>by unfold mK lows;rfl
 | (k,w)::r=>by unfold mK;rw[mD m r];simp only[zq];conv=>rhs;unfold lows
section
variable{K:PySem.W.Frag}{cl:Cl}{μ μ':List Addr}{H H':Hp}
mutual
theorem RW.low:∀{w:W} {v:V},RW K μ H w v->ML.low μ.length w=true
 | _,_,.non=>by unfold ML.low;rfl
 | _,_,.bl b=>by unfold ML.low;rfl
 | _,_,.int i=>by unfold ML.low;rfl
 | _,_,.str x=>by unfold ML.low;rfl
 | _,_,.tup s r=>by unfold ML.low;exact RWs.low r
 | _,_,.fls s r=>by unfold ML.low;exact RWs.low r
 | _,_,.fdc s k e1 e2 r=>by unfold ML.low;rw[mD,<-e1];exact RWs.low r
 | _,_,.fn=>by unfold ML.low;rfl
 | _,_,.ref e=>by unfold ML.low;simpa using (zU.mp e).1
theorem RWs.low:∀{l:List W} {vs:List V},RWs K μ H l vs->lows μ.length l=true
 | _,_,.nil=>by unfold lows;rfl
 | _,_,.cons r t=>by unfold lows;rw[RW.low r,RWs.low t];rfl
end
mutual
theorem RW.cut(pre:μ<+:μ'):∀{w:W} {v:V},ML.low μ.length w=true->RW K μ' H w v->RW K μ H w v
 | _,_,_,.non=>.non
 | _,_,_,.bl b=>.bl b
 | _,_,_,.int i=>.int i
 | _,_,_,.str x=>.str x
 | .tup l,_,p,.tup s r=>.tup s (RWs.cut pre (by unfold ML.low at p;exact p) r)
 | .fls l,_,p,.fls s r=>.fls (s.elim (λz=>.inl ⟨z.1,λq=>z.2 (pre.subset q)⟩) .inr) (RWs.cut pre (by unfold ML.low at p;exact p) r)
 | .fdc l,_,p,.fdc s k e1 e2 r=>.fdc ⟨s.1,λq=>s.2 (pre.subset q)⟩ k e1 e2 (RWs.cut pre (by unfold ML.low at p;rw[mD,<-e1] at p;exact p) r)
 | .fn _,_,_,.fn=>.fn
 | .ref n,_,p,.ref e=>by
  have p':n<μ.length:=by unfold ML.low at p;simpa using p
  obtain⟨t,rfl⟩:=pre;rw[zA p'] at e;exact .ref e
theorem RWs.cut(pre:μ<+:μ'):∀{l:List W} {vs:List V},lows μ.length l=true->RWs K μ' H l vs->RWs K μ H l vs
 | _,_,_,.nil=>.nil
 | w::l,_,p,.cons r t=>by
  have p':ML.low μ.length w=true/\lows μ.length l=true:=by unfold lows at p;simpa using p
  exact .cons (RW.cut pre p'.1 r) (RWs.cut pre p'.2 t)
end
theorem HR.cut(R:HR K cl μ H h)(E:Ext μ H μ' H')(R':HR K cl μ' H' h')(p:h<+:h'):HR K cl μ H' h:=by
 obtain⟨t,rfl⟩:=p;refine⟨R.len,R.nd,λn a o e1 e2=>?_⟩;have q:=R.ob n a o e1 e2;have q':=R'.ob n a o (E.get e1) (by rw[zA (zU.mp e2).1];exact e2);cases o with
 | lst l=>obtain⟨vs0,_,r0⟩:=q;obtain⟨vs,z,r⟩:=q';exact⟨vs,z,RWs.cut E.pre r0.low r⟩
 | dic l=>obtain⟨l0,_,_,r0⟩:=q;obtain⟨l',z,k,r⟩:=q';exact⟨l',z,k,RWs.cut E.pre r0.low r⟩
 | ins c fs=>obtain⟨_,fs0,_,_,r0⟩:=q;obtain⟨dx,fs',z,k,r⟩:=q';exact⟨dx,fs',z,k,RWs.cut E.pre r0.low r⟩
 | tdc ks=>obtain⟨_,_,_,_,_,r0⟩:=q;obtain⟨xs,z,k1,k2,k3,r⟩:=q';exact⟨xs,z,k1,k2,k3,RWs.cut E.pre r0.low r⟩
def C5{f:List W->M W}(q:xh K cl (gc f) vs H Q E):xh K cl f vs H Q E:=by
 obtain⟨μ,h,ws,w,h',R,rs,e,k⟩:=q;unfold gc at e;split at e
 .rename_i w1 h1 e1
  have plain:∀{w h'},some (w1,h1)=some (w,h')->KQ K cl μ H h' w Q->xh K cl f vs H Q E:=λq k=>by cases q;exact⟨μ,h,ws,_,_,R,rs,e1,k⟩
  split at e
  .rename_i c
   replace c:=c.1
   have cut:∀{μ' H'},Ext μ H μ' H'->Ext μ H μ H':=λE'=>⟨zR _,λb o e n=>⟨(E'.fr b o e n).1,n⟩⟩
   split at e
   .rename_i p
    cases e;refine⟨μ,h,ws,_,h1,R,rs,e1,λμ' H' v E' R' r'=>?_⟩;exact k μ H' v (cut E') (R.cut E' R' c) (RW.cut E'.pre (by rw[R.len];exact p) r')
   .rename_i p
    split at e
    .rename_i n
     split at e
     .rename_i l ho
      split at e
      .rename_i pl
       cases e;refine⟨μ,h,ws,_,h1,R,rs,e1,λμ' H' v E' R' r'=>?_⟩;cases r' with
       | @ref _ a hm=>
        obtain⟨vs',hv,rv⟩:=R'.ob n a _ hm ho;refine k μ H' _ (cut E') (R.cut E' R' c) (.fls (.inl ⟨.inl hv,λz=>?_⟩) (RWs.cut E'.pre (by rw[R.len];exact pl) rv));obtain⟨m,hmm⟩:=jB.mp z;have h2:=E'.get hmm;have hlt:m<μ.length:=(zU.mp hmm).1;obtain⟨z1,z2⟩:=zU.mp h2;obtain⟨z3,z4⟩:=zU.mp hm;have:m=n:=(vh R'.nd).mp (z2.trans z4.symm);subst this;refine p ?_;unfold low;rw[R.len] at hlt;simpa using hlt
      .exact plain e k
     .exact plain e k
    .exact plain e k
  .exact plain e k
 .cases e
end
section
variable{X:Cx}{cl:Cl}{k:Nat}{f:Addr}{fd:FuncData}{ps:List Str}{x:Str}{p pos:Pos}{e:Expr}{es:List Expr}{g:List W->M W}{m:ME}{ms:List ME}
def cK{K:PySem.W.Frag}{f:List W->M W}{σ:L2.St}{H:Hp}(q:tM K cl (zh f ms) σ H Q):tMA K cl ms σ H λvs H1=>rMs K cl f vs H1 Q:=by
 obtain⟨μ,h,ρ,w,h',R,er,e,k⟩:=q;obtain⟨ws,h1,e1,e⟩:=ka e;exact⟨μ,h,ρ,ws,h1,R,er,e1,λμ1 H1 vs E1 R1 rs=>⟨μ1,h1,ws,w,h',R1,rs,e,k.ext E1⟩⟩
def XD(F:FnOk X.prog X.w X.K X.mg X.base x8 k f fd ps (xh X.K cl g))(hr:Room k X.A)(hm:X.mg x=some (.ref f))(hk:PySem.W.keepIn X.K (.ref f)=true)(hb:Binds X.K fd ps [])
  (ha:SA X cl (e::es) ms) (hg:↥(Gl X x)) (hdb:⇑((x==("__debug__":Str))=false)) (hst:↥(starEach (e::es) X.env=(false,eval e X.env)::starEach es X.env)) (hpl:↥((backTo pos (starEach es X.env)).any (·.1)=false)):SE X cl (.Call (.Name x p) (e::es) [] pos) (zh g ms):=
 PE.wk (X3 F hr hg hm hk hb .nil iH ha hdb hst hpl) λσ H Q q=>by
  obtain⟨μ,h,ρ,ws,h1,R,er,e1,k1⟩:=cK q;exact⟨μ,h,ρ,ws,h1,R,er,e1,λμ1 H1 vs E1 R1 rs=>by show xh X.K cl g (vs++[]) H1 Q E0;rw[kj];exact k1 μ1 H1 vs E1 R1 rs⟩
def WA(F:FnOk X.prog X.w X.K X.mg X.base x8 k f fd ps (xh X.K cl g))(hr:Room k X.A)(hm:X.mg x=some (.ref f))(hk:PySem.W.keepIn X.K (.ref f)=true)(hb:Binds X.K fd ps [])
  (hg:↥(Gl X x)) (hdb:⇑((x==("__debug__":Str))=false)):SE X cl (.Call (.Name x p) [] [] pos) (zh g []):=
 PE.wk (Wc F hr hg hm hk hb .nil iH hdb) λσ H Q q=>by
  obtain⟨μ,h,ρ,ws,h1,R,er,e1,k1⟩:=cK q;cases e1;exact k1 μ H [] .refl R .nil
def QZ{id:String}(hc:yB X (.builtin id) (rMs X.K cl g))(hm:X.mg x=none)(hv:bootBuiltins x=some (.builtin id))(ha:SA X cl (e::es) ms)(hg:↥(Gl X x))(hn:⇑(x≠"__name__"))(hdb:⇑((x==("__debug__":Str))=false))(hst:↥(starEach (e::es) X.env=(false,eval e X.env)::starEach es X.env))(hpl:↥((backTo pos (starEach es X.env)).any (·.1)=false)) :
  SE X cl (.Call (.Name x p) (e::es) [] pos) (zh g ms):=
 PE.wk (pD hc hg hm hv ha hn hdb hst hpl) λσ H Q q=>cK q
def JO{id:String}(hc:yB X (.type id) (rMs X.K cl g))(hm:X.mg x=none)(hv:bootBuiltins x=some (.type id))(ha:SA X cl (e::es) ms)(hg:↥(Gl X x))(hn:⇑(x≠"__name__"))(hdb:⇑((x==("__debug__":Str))=false))(hst:↥(starEach (e::es) X.env=(false,eval e X.env)::starEach es X.env))(hpl:↥((backTo pos (starEach es X.env)).any (·.1)=false)) :
  SE X cl (.Call (.Name x p) (e::es) [] pos) (zh g ms):=
 PE.wk (JU hc hg hm hv ha hn hdb hst hpl) λσ H Q q=>cK q
end
inductive Fl where
 | nx (ρ:En) | ret (w:W) | bk (ρ:En) | ct (ρ:En)
abbrev MS:=En->MH->Option (Fl×MH)
abbrev MG:=W->En->M En
noncomputable def KF(K:PySem.W.Frag)(cl:Cl)(μ:List Addr)(H:Hp)(h':MH)(fl:Fl)(D:Ends):Prop:=∀μ' H',Ext μ H μ' H'->HR K cl μ' H' h'->match fl with
 | .nx ρ=>∀σ,ER K μ' H' ρ σ->D.nx σ H'
 | .ret w=>∀v,RW K μ' H' w v->D.rt v H'
 | .bk ρ=>∀σ,ER K μ' H' ρ σ->D.bk σ H'
 | .ct ρ=>∀σ,ER K μ' H' ρ σ->D.ct σ H'
inductive tMS(K:PySem.W.Frag)(cl:Cl)(m:MS)(D:Ends)(σ:L2.St)(H:Hp):Prop
 | mk (μ:List Addr) (h:MH) (ρ:En) (fl:Fl) (h':MH) (p0:HR K cl μ H h) (p1:ER K μ H ρ σ) (p2:m ρ h=some (fl,h')) (p3:KF K cl μ H h' fl D):tMS K cl m D σ H
abbrev SS(X:Cx)(cl:Cl)(st:Stmt)(m:MS):Prop:=PS X st (tMS X.K cl m)
abbrev SB(X:Cx)(cl:Cl)(st:List Stmt)(m:MS):Prop:=PSs X st (tMS X.K cl m)
inductive tMG(K:PySem.W.Frag)(cl:Cl)(g:MG)(v:V)(σ:L2.St)(H:Hp)(Q:L2.St->Hp->Prop):Prop
 | mk (μ:List Addr) (h:MH) (ρ:En) (w:W) (ρ':En) (h':MH) (p0:HR K cl μ H h) (p1:ER K μ H ρ σ) (p2:RW K μ H w v) (p3:g w ρ h=some (ρ',h')) (p4:∀μ' H' σ',Ext μ H μ' H'->HR K cl μ' H' h'->ER K μ' H' ρ' σ'->Q σ' H'):tMG K cl g v σ H Q
abbrev SG(X:Cx)(cl:Cl)(e:Expr)(g:MG):Prop:=PG X e (tMG X.K cl g)
def PG.wk{t:TG}(h:PG X e t)(w:∀v σ H Q,t' v σ H Q->t v σ H Q):PG X e t':=λpins s σ H v u Q I r q=>h pins s σ H v u Q I r (w v σ H Q q)
def KF.ext{K:PySem.W.Frag}{cl:Cl}{μ μ':List Addr}{H H':Hp}{D:Ends}(E:Ext μ H μ' H')(k:KF K cl μ H h fl D):KF K cl μ' H' h fl D:=λμ2 H2 E2 R2=>k μ2 H2 (E.trans E2) R2
theorem KF.nx{K:PySem.W.Frag}{cl:Cl}{μ:List Addr}{H:Hp}{D:Ends}(k:KF K cl μ H h (.nx ρ) D)(R:HR K cl μ H h)(er:ER K μ H ρ σ):D.nx σ H:=k μ H .refl R σ er
noncomputable def kL:MS:=λρ h=>some (.nx ρ,h)
noncomputable def zo(a b:MS):MS:=λρ h=>match a ρ h with
 | some (.nx ρ',h')=>b ρ' h'
 | r=>r
noncomputable def kx(m:ME):MS:=λρ h=>match m ρ h with
 | some (_,h')=>some (.nx ρ,h')
 | none=>none
noncomputable def ku(m:ME):MS:=λρ h=>match m ρ h with
 | some (w,h')=>some (.ret w,h')
 | none=>none
noncomputable def jp(t:MT)(a b:MS):MS:=λρ h=>match t ρ h with
 | some (c,h')=>if c=true then a ρ h' else b ρ h'
 | none=>none
noncomputable def zI(m:ME)(g:MG):MS:=λρ h=>match m ρ h with
 | some (w,h')=>match g w ρ h' with
  | some (ρ',h2)=>some (.nx ρ',h2)
  | none=>none
 | none=>none
noncomputable def zC(i:Nat):MG:=λw ρ h=>if i<ρ.length then some (ρ.set i (some w),h) else none
noncomputable def dk:List MG->List W->En->M En
 | [],[]=>λρ h=>some (ρ,h)
 | g::gs,w::ws=>λρ=>bnd (g w ρ) λρ'=>dk gs ws ρ'
 | _,_=>λ_ _=>none
noncomputable def cw(gs:List MG):MG:=λw=>match w with
 | .tup ws=>dk gs ws
 | .fls ws=>dk gs ws
 | _=>λ_ _=>none
section
variable{X:Cx}{cl:Cl}{st:Stmt}{rest:List Stmt}{a b:MS}{e:Expr}{m:ME}{pos:Pos}
theorem ER.set{K:PySem.W.Frag}{μ:List Addr}{H:Hp}{ρ:En}{σ:L2.St}{i:Nat}(er:ER K μ H ρ σ)(hi:i<ρ.length)(r:RW K μ H w v):ER K μ H (ρ.set i (some w)) (σ.set i (some v)):=by
 refine⟨by simp[er.len],λj w' e=>?_⟩;by_cases hj:j=i
 .subst hj
  rw[zL hi] at e;cases e;exact⟨v,by rw[zL (by rw[<-er.len];exact hi)],r⟩
 .rw[zJ (kY hj)] at e
  obtain⟨v',e',r'⟩:=er.at_ j w' e;exact⟨v',by rw[zJ (kY hj)];exact e',r'⟩
def BR:SB X cl [] kL:=PSs.wk XT λD σ H q0=>by
 obtain⟨μ,h,ρ,fl,h',R,er,e,k⟩:=q0;cases e;exact k.nx R er
def B2(h1:SS X cl st a):SB X cl [st] a:=XN h1
def Xf(h1:SS X cl st a)(h2:SB X cl rest b):SB X cl (st::rest) (zo a b):=PSs.wk (VP h1 h2) λD σ H q0=>by
 obtain⟨μ,h,ρ,fl,h',R,er,e,k⟩:=q0;unfold zo at e;split at e
 .rename_i ρ1 h1 e1
  exact⟨μ,h,ρ,_,h1,R,er,e1,λμ1 H1 E1 R1 σ1 er1=>⟨μ1,h1,ρ1,fl,h',R1,er1,e,k.ext E1⟩⟩
 .rename_i r hr
  refine⟨μ,h,ρ,fl,h',R,er,e,λμ1 H1 E1 R1=>?_⟩;have k1:=k μ1 H1 E1 R1;cases fl with
  | nx ρ1=>exact absurd e (hr ρ1 h')
  | ret w=>exact k1
  | bk ρ1=>exact k1
  | ct ρ1=>exact k1
def Xk:SS X cl (.Pass pos) kL:=PS.wk YI λD σ H q0=>by
 obtain⟨μ,h,ρ,fl,h',R,er,e,k⟩:=q0;cases e;exact k.nx R er
def Xe(he:SE X cl e m)(hs:↥(swapsWith e none pos.line X.env=pure false)):SS X cl (.Expr e pos) (kx m):=PS.wk (Y6 he hs) λD σ H q0=>by
 obtain⟨μ,h,ρ,fl,h',R,er,e,k⟩:=q0;unfold kx at e;split at e
 .rename_i w h1 e1
  cases e;exact⟨μ,h,ρ,w,_,R,er,e1,λμ1 H1 v E1 R1 _=>k μ1 H1 E1 R1 σ (er.ext R E1)⟩
 .cases e
def Bw(he:SE X cl e m):SS X cl (.Return (some e) pos) (ku m):=PS.wk (BE he) λD σ H q0=>by
 obtain⟨μ,h,ρ,fl,h',R,er,e,k⟩:=q0;unfold ku at e;split at e
 .rename_i w h1 e1
  cases e;exact⟨μ,h,ρ,w,_,R,er,e1,λμ1 H1 v E1 R1 r=>k μ1 H1 E1 R1 v r⟩
 .cases e
def DF{c:Expr}{t:MT}(hc:ST X cl c t)(ha:SB X cl sa a)(hb:SB X cl sb b):SS X cl (.If c sa sb pos) (jp t a b):=PS.wk (DH hc ha hb) λD σ H q0=>by
 obtain⟨μ,h,ρ,fl,h',R,er,e,k⟩:=q0;unfold jp at e;split at e
 .rename_i c h1 e1
  refine⟨μ,h,ρ,c,h1,R,er,e1,λμ1 H1 E1 R1=>?_⟩;cases c with
  | true=>rw[zY rfl] at e ⊢;exact⟨μ1,h1,ρ,fl,h',R1,er.ext R E1,e,k.ext E1⟩
  | false=>rw[jc kh] at e ⊢;exact⟨μ1,h1,ρ,fl,h',R1,er.ext R E1,e,k.ext E1⟩
 .cases e
def ZJ(i:Nat)(hN:X.N.Nodup)(hi:↥(X.N[i]?=some x))(hx:Loc X.env.scope x:=by first | exact Or.inl rfl | exact Or.inr rfl)(hf:X.fn x=true\/X.env.scope.names.lookup x=some .local:=by first | exact .inl rfl | exact .inr rfl | assumption):SG X cl (.Name x pos) (zC i):=
 PG.wk (Xp (i:=i) hN hi hx hf) λv σ H Q q0=>by
  obtain⟨μ,h,ρ,w,ρ',h',R,er,r,e,k⟩:=q0;unfold zC at e;split at e
  .rename_i hi
   cases e;exact k μ H _ .refl R (er.set hi r)
  .cases e
inductive tMGs(K:PySem.W.Frag)(cl:Cl)(gs:List MG)(vs:List V)(σ:L2.St)(H:Hp)(Q:L2.St->Hp->Prop):Prop
 | mk (μ:List Addr) (h:MH) (ρ:En) (ws:List W) (ρ':En) (h':MH) (p0:HR K cl μ H h) (p1:ER K μ H ρ σ) (p2:RWs K μ H ws vs) (p3:dk gs ws ρ h=some (ρ',h')) (p4:∀μ' H' σ',Ext μ H μ' H'->HR K cl μ' H' h'->ER K μ' H' ρ' σ'->Q σ' H'):tMGs K cl gs vs σ H Q
abbrev K8(X:Cx)(cl:Cl)(es:List Expr)(gs:List MG):Prop:=PGs X es (tMGs X.K cl gs)
def PGs.wk{t:iT}(h:PGs X es t)(w:∀v σ H Q,t' v σ H Q->t v σ H Q):PGs X es t':=λpins s σ H v u Q I r q=>h pins s σ H v u Q I r (w v σ H Q q)
def XC:K8 X cl [] []:=PGs.wk Xc λvs σ H Q q0=>by
 obtain⟨μ,h,ρ,ws,ρ',h',R,er,rs,e,k⟩:=q0;cases rs with
 | nil=>cases e;exact⟨rfl,k μ H _ .refl R er⟩
 | cons r t=>cases e
def QQ(h1:SG X cl e g)(h2:K8 X cl es gs)
  (hs:↥((assignEach (e::es) X.env).map (·.2)=assign e X.env::(assignEach es X.env).map (·.2))):K8 X cl (e::es) (g::gs):=PGs.wk (VR h1 h2 hs) λvs σ H Q q0=>by
 obtain⟨μ,h,ρ,ws,ρ',h',R,er,rs,e,k⟩:=q0;cases rs with
 | nil=>cases e
 | cons r t=>
  obtain⟨ρ1,h1,e1,e2⟩:=ka e;exact⟨_,_,rfl,μ,h,ρ,_,ρ1,h1,R,er,r,e1,λμ1 H1 σ1 E1 R1 er1=>⟨μ1,h1,ρ1,_,ρ',h',R1,er1,t.ext R E1,e2,λμ2 H2 σ2 E2 R2 er2=>k μ2 H2 σ2 (E1.trans E2) R2 er2⟩⟩
def sZ:∀{gs:List MG} {l:List W} {ρ:En} {h:MH},dk gs l ρ h=some (ρ',h')->gs.length=l.length:=by
 intro gs;induction gs with
 | nil=>intro l ρ h e;cases l with | nil=>rfl | cons=>cases e
 | cons g gs ih=>
  intro l ρ h e;cases l with
  | nil=>cases e
  | cons w l=>
   obtain⟨ρ1,h1,e1,e2⟩:=ka e;simp only[zm];rw[ih e2]
def PG.or{t:TG}(h1:PG X e t1)(h2:PG X e t2)(k:∀v σ H Q,t v σ H Q->t1 v σ H Q\/t2 v σ H Q):PG X e t:=λpins s σ H v u Q I r q=>(k v σ H Q q).elim (h1 pins s σ H v u Q I r) (h2 pins s σ H v u Q I r)
def CN{gs:List MG}(hc:X.calm=true)(hg:K8 X cl es gs)
  (hl:↥((assignEach es X.env).length=gs.length)) (hst:↥((assignEach es X.env).findIdx? (·.1)=none)):SG X cl (.Tuple es n pos) (cw gs):=PG.or (Bq hc hg hl hst) (BA hc hg hl hst) λv σ H Q q0=>by
 obtain⟨μ,h,ρ,w,ρ',h',R,er,r,e,k⟩:=q0;cases r with
 | @tup a vs l s rs=>
  have e':dk gs l ρ h=some (ρ',h'):=e;exact .inl ⟨a,vs,rfl,s,by rw[<-rs.length];exact(sZ e').symm,μ,h,ρ,l,ρ',h',R,er,rs,e',k⟩
 | @fls a vs l s rs=>
  have e':dk gs l ρ h=some (ρ',h'):=e;exact .inr ⟨a,vs,rfl,s.sq,by rw[<-rs.length];exact(sZ e').symm,μ,h,ρ,l,ρ',h',R,er,rs,e',k⟩
 | _=>cases e
def J8(he:SE X cl e m)(hg:SG X cl tg g)(hs:↥(swapsWithSole [tg] e pos.line X.env=pure false))(hw:↥(swappedStores [tg] e X.env=pure none))
  (h1:↥((assignEach [tg] X.env).map (·.2)=[assign tg X.env])):SS X cl (.Assign [tg] e pos) (zI m g):=PS.wk (Bu he hg hs hw h1) λD σ H q0=>by
 obtain⟨μ,h,ρ,fl,h',R,er,e,k⟩:=q0;unfold zI at e;split at e
 .rename_i w h1 e1
  split at e
  .rename_i ρ2 h2 e2
   cases e;exact⟨μ,h,ρ,w,h1,R,er,e1,λμ1 H1 v E1 R1 r=>⟨μ1,h1,ρ,w,ρ2,_,R1,er.ext R E1,r,e2,λμ2 H2 σ2 E2 R2 er2=>k μ2 H2 (E1.trans E2) R2 σ2 er2⟩⟩
  .cases e
 .cases e
def BW(i:Nat)(hN:X.N.Nodup)(he:SE X cl e m)(hi:↥(X.N[i]?=some x))(hx:Loc X.env.scope x:=by first | exact Or.inl rfl | exact Or.inr rfl)(hs:↥(swapsWith e (some (.Name x pos')) pos.line X.env=pure false))
  (hf:X.fn x=true\/X.env.scope.names.lookup x=some .local:=by first | exact .inl rfl | exact .inr rfl | assumption):SS X cl (.Assign [.Name x pos'] e pos) (zI m (zC i)):=PS.wk (Cs (i:=i) hN hi hx he hs hf) λD σ H q0=>by
 obtain⟨μ,h,ρ,fl,h',R,er,e,k⟩:=q0;unfold zI at e;split at e
 .rename_i w h1 e1
  split at e
  .rename_i ρ2 h2 e2
   cases e;refine⟨μ,h,ρ,w,h1,R,er,e1,λμ1 H1 v E1 R1 r=>?_⟩;unfold zC at e2;split at e2
   .rename_i hi
    cases e2;exact k μ1 H1 E1 R1 _ ((er.ext R E1).set hi r)
   .cases e2
  .cases e
 .cases e
end
noncomputable def qh(c:MT)(b:MS):Nat->MS
 | 0=>λ_ _=>none
 | n+1=>λρ h=>match c ρ h with
  | some (true,h1)=>match b ρ h1 with
   | some (.nx ρ2,h2)=>qh c b n ρ2 h2
   | some (.ct ρ2,h2)=>qh c b n ρ2 h2
   | some (.bk ρ2,h2)=>some (.nx ρ2,h2)
   | some (.ret w,h2)=>some (.ret w,h2)
   | none=>none
  | some (false,h1)=>some (.nx ρ,h1)
  | none=>none
theorem uV{c:MT}:∀{n:Nat} {ρ:En} {h:MH} {r:Fl×MH},qh c b n ρ h=some r->∀k,qh c b (n+k) ρ h=some r
 | 0,_,_,_,e,_=>by cases e
 | n+1,ρ,h,r,e,k=>by
  rw[show n+1+k=(n+k)+1 by omega];unfold qh at e ⊢;cases e1:c ρ h with
  | none=>rw[e1] at e;cases e
  | some p=>
   obtain⟨t,h1⟩:=p;rw[e1] at e;cases t with
   | false=>exact e
   | true=>
    simp only at e ⊢;cases e2:b ρ h1 with
    | none=>rw[e2] at e;cases e
    | some q=>
     obtain⟨fl,h2⟩:=q;rw[e2] at e;cases fl with
     | nx ρ2=>exact uV (n:=n) e k
     | ct ρ2=>exact uV (n:=n) e k
     | bk ρ2=>exact e
     | ret w=>exact e
open Classical in
noncomputable def ua(c:MT)(b:MS):MS:=λρ h=>if q:∃n r,qh c b n ρ h=some r then some q.choose_spec.choose else none
def u4{c:MT}(e:qh c b n ρ h=some r):ua c b ρ h=some r:=by
 unfold ua;have q:∃n r,qh c b n ρ h=some r:=⟨n,r,e⟩;rw[dif_pos q];have e1:=q.choose_spec.choose_spec;have e2:=uV e1 n;have e3:=uV e q.choose;rw[vd] at e3;rw[e2] at e3;exact e3
def Qe{c:MT}(e:ua c b ρ h=some r):∃n,qh c b n ρ h=some r:=by
 unfold ua at e;split at e
 .rename_i q
  have e1:=q.choose_spec.choose_spec;cases e;exact⟨_,e1⟩
 .cases e
section
variable{X:Cx}{cl:Cl}{pos:Pos}
def QK{c:Expr}{t:MT}(hc:ST X cl c t)(hb:SB X cl body b)(hp:PassesOwn (model X.prog X.w) X.A X.env X.xe:=by exact wR):SS X cl (.While c body [] pos) (ua t b):=PS.wk (Vv hp hc hb) λD σ H q0=>by
 obtain⟨μ,h,ρ,fl,h',R,er,e,k⟩:=q0;obtain⟨n0,e⟩:=Qe e;refine⟨λn σ H=>∃μ h ρ fl h',HR X.K cl μ H h/\ER X.K μ H ρ σ/\qh t b n ρ h=some (fl,h')/\KF X.K cl μ H h' fl D,⟨n0,μ,h,ρ,fl,h',R,er,e,k⟩,?_⟩;rintro n σ H ⟨μ,h,ρ,fl,h',R,er,e,k⟩;cases n with
 | zero=>cases e
 | succ n=>
  unfold qh at e;cases e1:t ρ h with
  | none=>rw[e1] at e;cases e
  | some p=>
   obtain⟨c,h1⟩:=p;rw[e1] at e;refine⟨μ,h,ρ,c,h1,R,er,e1,λμ1 H1 E1 R1=>?_⟩;cases c with
   | false=>
    rw[jc kh];cases e;exact k μ1 H1 E1 R1 σ (er.ext R E1)
   | true=>
    rw[zY rfl];refine⟨λσ' H'=>∃μ h ρ fl h',HR X.K cl μ H' h/\ER X.K μ H' ρ σ'/\qh t b n ρ h=some (fl,h')/\KF X.K cl μ H' h' fl D,λσ' H' q=>⟨n,jY n,q⟩,?_⟩;simp only at e;cases e2:b ρ h1 with
    | none=>rw[e2] at e;cases e
    | some q=>
     obtain⟨f2,h2⟩:=q;rw[e2] at e;refine⟨μ1,h1,ρ,f2,h2,R1,er.ext R E1,e2,λμ2 H2 E2 R2=>?_⟩;cases f2 with
     | nx ρ2=>exactλσ2 er2=>⟨μ2,h2,ρ2,fl,h',R2,er2,e,k.ext (E1.trans E2)⟩
     | ct ρ2=>exactλσ2 er2=>⟨μ2,h2,ρ2,fl,h',R2,er2,e,k.ext (E1.trans E2)⟩
     | bk ρ2=>cases e;exactλσ2 er2=>k μ2 H2 (E1.trans E2) R2 σ2 er2
     | ret w=>cases e;exactλv rv=>k μ2 H2 (E1.trans E2) R2 v rv
end
inductive Src where
 | items (l:List W) | live (n:Nat)
noncomputable def xt(s:Src)(i:Nat)(h:MH):Option (Option W):=match s with
 | .items l=>some l[i]?
 | .live n=>match h[n]? with
  | some (.lst l)=>some l[i]?
  | _=>none
noncomputable def JR(K:PySem.W.Frag)(cl:Cl)(J:It)(s:Src)(μ:List Addr)(H:Hp):Prop:=∀μ2 H2 h2,Ext μ H μ2 H2->HR K cl μ2 H2 h2->∀i,
 (∀w,xt s i h2=some (some w)->J.go i H2/\∀x H3,J.yld i H2 x H3->Ext μ2 H2 μ2 H3/\HR K cl μ2 H3 h2/\RW K μ2 H3 w x)/\(xt s i h2=some none->J.stop i H2)
abbrev MI:=En->M Src
inductive tMI(K:PySem.W.Frag)(cl:Cl)(m:MI)(σ:L2.St)(H:Hp)(R:It->Hp->Prop):Prop
 | mk (μ:List Addr) (h:MH) (ρ:En) (src:Src) (h':MH) (p0:HR K cl μ H h) (p1:ER K μ H ρ σ) (p2:m ρ h=some (src,h')) (p3:∀μ' H' J,Ext μ H μ' H'->HR K cl μ' H' h'->JR K cl J src μ' H'->R J H'):tMI K cl m σ H R
abbrev SI(X:Cx)(cl:Cl)(tg e:Expr)(m:MI):Prop:=PI X tg e (tMI X.K cl m)
def PI.wk{t:TI}(h:PI X tg e t)(w:∀σ H Q,t' σ H Q->t σ H Q):PI X tg e t':=λpins s σ H Q I q=>h pins s σ H Q I (w σ H Q q)
def JR.ext{K:PySem.W.Frag}{cl:Cl}{J:It}{H:Hp}(E:Ext μ H μ' H')(j:JR K cl J s μ H):JR K cl J s μ' H':=λμ2 H2 h2 E2=>j μ2 H2 h2 (E.trans E2)
noncomputable def uO(s:Src)(g:MG)(b:MS):Nat->Nat->MS
 | 0,_=>λ_ _=>none
 | k+1,i=>λρ h=>match xt s i h with
  | some (some w)=>match g w ρ h with
   | some (ρ1,h1)=>match b ρ1 h1 with
    | some (.nx ρ2,h2)=>uO s g b k (i+1) ρ2 h2
    | some (.ct ρ2,h2)=>uO s g b k (i+1) ρ2 h2
    | some (.bk ρ2,h2)=>some (.nx ρ2,h2)
    | some (.ret w,h2)=>some (.ret w,h2)
    | none=>none
   | none=>none
  | some none=>some (.nx ρ,h)
  | none=>none
noncomputable def forL(g:MG)(b:MS):List W->MS
 | []=>λρ h=>some (.nx ρ,h)
 | w::r=>λρ h=>match g w ρ h with
  | some (ρ1,h1)=>match b ρ1 h1 with
   | some (.nx ρ2,h2)=>forL g b r ρ2 h2
   | some (.ct ρ2,h2)=>forL g b r ρ2 h2
   | some (.bk ρ2,h2)=>some (.nx ρ2,h2)
   | some (.ret w,h2)=>some (.ret w,h2)
   | none=>none
  | none=>none
theorem fq(l:List W):∀(k i:Nat) (ρ:En) (h:MH),l.length+1<=i+k->i<=l.length->uO (.items l) g b k i ρ h=forL g b (l.drop i) ρ h
 | 0,i,ρ,h,hk,hi=>by omega
 | k+1,i,ρ,h,hk,hi=>by
  by_cases hl:i<l.length
  .rw[qN hl]
   unfold uO forL;simp only[xt,zE hl];cases e1:g l[i] ρ h with
   | none=>rfl
   | some p=>
    obtain⟨ρ1,h1⟩:=p;simp only;cases e2:b ρ1 h1 with
    | none=>rfl
    | some q=>
     obtain⟨fl,h2⟩:=q;cases fl with
     | nx ρ2=>exact fq l k (i+1) ρ2 h2 ∅ hl
     | ct ρ2=>exact fq l k (i+1) ρ2 h2 ∅ hl
     | bk ρ2=>rfl
     | ret w=>rfl
  .have hi':i=l.length:=by omega
   subst hi';rw[yh];unfold uO forL;simp[xt]
noncomputable def eT(s:Src)(h:MH):Nat:=match s with
 | .items l=>l.length
 | .live n=>match h[n]? with
  | some (.lst l)=>l.length
  | _=>0
noncomputable def yY(mi:MI)(g:MG)(b:MS):MS:=λρ h=>match mi ρ h with
 | some (.items l,h1)=>forL g b l ρ h1
 | some (.live n,h1)=>uO (.live n) g b (eT (.live n) h1+1) 0 ρ h1
 | none=>none
section
variable{X:Cx}{cl:Cl}{pos:Pos}
def sj{K:PySem.W.Frag}{J:It}{src:Src}{g:MG}{b:MS}{D:Ends}{σ:L2.St}{H:Hp}(R:HR K cl μ H h)(er:ER K μ H ρ σ)(j:JR K cl J src μ H)(e:uO src g b k0 0 ρ h=some (fl,h'))
  (k:KF K cl μ H h' fl D):∃W:Nat->Nat->L2.St->Hp->Prop,(∃m,W 0 m σ H)/\∀i m σ H,W i m σ H->
   (J.stop i H/\D.nx σ H)\/(J.go i H/\∃N:L2.St->Hp->Prop,(∀σ' H',N σ' H'->∃m',m'<m/\W (i+1) m' σ' H')/\∀x H',J.yld i H x H'->tMG K cl g x σ H' λσ2 H2=>tMS K cl b { D with nx:=N,ct:=N,bk:=D.nx } σ2 H2):=by
 refine⟨λi m σ H=>∃μ h ρ fl h',HR K cl μ H h/\ER K μ H ρ σ/\JR K cl J src μ H/\uO src g b m i ρ h=some (fl,h')/\KF K cl μ H h' fl D,⟨k0,μ,h,ρ,fl,h',R,er,j,e,k⟩,?_⟩;rintro i m σ H ⟨μ,h,ρ,fl,h',R,er,j,e,k⟩;cases m with
 | zero=>cases e
 | succ m=>
  unfold uO at e;obtain⟨jg,js⟩:=j μ H h .refl R i;cases es:xt src i h with
  | none=>rw[es] at e;cases e
  | some o=>
   rw[es] at e;cases o with
   | none=>
    cases e;exact .inl ⟨js es,k.nx R er⟩
   | some w=>
    obtain⟨go,yl⟩:=jg w es;simp only at e;cases e1:g w ρ h with
    | none=>rw[e1] at e;cases e
    | some p=>
     obtain⟨ρ1,h1⟩:=p;rw[e1] at e;simp only at e;cases e2:b ρ1 h1 with
     | none=>rw[e2] at e;cases e
     | some q=>
      obtain⟨f2,h2⟩:=q;rw[e2] at e;refine .inr ⟨go,λσ' H'=>∃μ h ρ fl h',HR K cl μ H' h/\ER K μ H' ρ σ'/\JR K cl J src μ H'/\uO src g b m (i+1) ρ h=some (fl,h')/\KF K cl μ H' h' fl D,λσ' H' q=>⟨m,jY m,q⟩,λx H1 y1=>?_⟩;obtain⟨E1,R1,rx⟩:=yl x H1 y1;refine⟨μ,h,ρ,w,ρ1,h1,R1,er.ext R E1,rx,e1,λμ2 H2 σ2 E2 R2 er2=>⟨μ2,h1,ρ1,f2,h2,R2,er2,e2,λμ3 H3 E3 R3=>?_⟩⟩;have E:=E1.trans (E2.trans E3);cases f2 with
      | nx ρ2=>exactλσ3 er3=>⟨μ3,h2,ρ2,fl,h',R3,er3,j.ext E,e,k.ext E⟩
      | ct ρ2=>exactλσ3 er3=>⟨μ3,h2,ρ2,fl,h',R3,er3,j.ext E,e,k.ext E⟩
      | bk ρ2=>cases e;exactλσ3 er3=>k μ3 H3 E R3 σ3 er3
      | ret w=>cases e;exactλv rv=>k μ3 H3 E R3 v rv
def Ce(hc:X.calm=true)(hi:SI X cl tg iter mi)(hg:SG X cl tg g)(hb:SB X cl body b)
  (hs:∀x,foldedSetIterable iter X.env x=pure x:=by intro _;rfl) (hp:PassesOwn (model X.prog X.w) X.A X.env X.xe:=by exact wR):SS X cl (.For tg iter body [] pos) (yY mi g b):=PS.wk (BI hp hc hi hg hb hs) λD σ H q0=>by
 obtain⟨μ,h,ρ,fl,h',R,er,e,k⟩:=q0;unfold yY at e;split at e
 .rename_i l h1 e1
  refine⟨μ,h,ρ,.items l,h1,R,er,e1,λμ1 H1 J E1 R1 j=>?_⟩;have q:=fq (g:=g) (b:=b) l (l.length+1) 0 ρ h1 ∅ ∅;rw[wI,e] at q;exact sj R1 (er.ext R E1) j q (k.ext E1)
 .rename_i n h1 e1
  exact⟨μ,h,ρ,.live n,h1,R,er,e1,λμ1 H1 J E1 R1 j=>sj R1 (er.ext R E1) j e (k.ext E1)⟩
 .cases e
end
noncomputable def kd(np k:Nat)(b:MS):List W->M W:=λws h=>if ws.length=np then (match b (ws.map some++List.replicate k none) h with
 | some (.ret w,h')=>some (w,h')
 | some (.nx _,h')=>some (.non,h')
 | _=>none) else none
section
variable{P:Program}{w:World}{K:PySem.W.Frag}{mg:Str->Option Value}{base:Heap}{cl:Cl}
def rT{H:Hp}{N:List Str}{ws:List W}{vs:List V}(rs:RWs K μ H ws vs)(hk:N.length-vs.length=k):ER K μ H (ws.map some++List.replicate k none) (L2.start N vs):=by
 subst hk;unfold L2.start;refine⟨by simp[rs.length],λi w e=>?_⟩;by_cases hi:i<ws.length
 .rw[zA (by simpa using hi),jb] at e
  cases e1:ws[i]? with
  | none=>rw[e1] at e;cases e
  | some w'=>
   rw[e1] at e;cases e;obtain⟨v,e2,r⟩:=rs.get e1;exact⟨v,by rw[zA (by rw[zB,<-rs.length];exact hi),jb,e2];rfl,r⟩
 .rw[zH (by simpa using hi),qm] at e
  split at e<;>cases e
def Ds{x qual:Str}{st:Stmt}{f:Addr}{fd:FuncData}{N ps:List Str}(F:Fun K x qual st f fd)(S:FnScope N ps (kD st))(hnp:ps.length=np)(hns:N.length-np=ns)
  (hb:∀(cdv:Value) (A:Around) (outer:List Env) (s:Shared) (H:Hp) (E:XK),Room k (A.deeper (envOfC qual (kD st) s.heap.objs.size f cdv))->
   SB (hW x8 P w K mg base N qual (kD st) f cdv A outer s H E).nox cl (kU st) b):FnOk P w K mg base x8 (k+1) f fd ps (xh K cl (gc (kd np ns b))):=by
 have len:∀vs H Q E,xh K cl (kd np ns b) vs H Q E->vs.length=ps.length:=by
  rintro vs H Q E ⟨μ,h,ws,w,h',R,rs,e,k⟩;unfold kd at e;split at e
  .rename_i hl
   rw[hnp,<-hl,rs.length]
  .cases e
 refine FnOk.imp (sp:=xh K cl (kd np ns b)) (F.ok S len λcdv A outer s H vs Q E hr hsp=>⟨_,hb cdv A outer s H E hr,?_⟩) λvs H Q E q=>C5 (E:=E) q
 have hlen:=len _ _ _ _ hsp;obtain⟨μ,h,ws,w,h',R,rs,e,k⟩:=hsp;unfold kd at e;split at e
 .rename_i hl
  split at e
  .rename_i w1 h1 e1
   cases e;exact⟨μ,h,_,_,_,R,rT rs (by rw[hlen,hnp];exact hns),e1,λμ1 H1 E1 R1 v rv=>k μ1 H1 v E1 R1 rv⟩
  .rename_i ρ1 h1 e1
   cases e;exact⟨μ,h,_,_,_,R,rT rs (by rw[hlen,hnp];exact hns),e1,λμ1 H1 E1 R1 σ1 _=>k μ1 H1 .non E1 R1 .non⟩
  .cases e
 .cases e
end
noncomputable def getL(h:MH):W->Option (List W)
 | .fls l=>some l
 | .ref n=>match h[n]? with
  | some (.lst l)=>some l
  | _=>none
 | _=>none
section
variable{K:PySem.W.Frag}{cl:Cl}{μ:List Addr}{H:Hp}{h:MH}
def y9(R:HR K cl μ H h)(r:RW K μ H w v)(e:getL h w=some l):∃a vs,v=.ref a/\SqL K H a vs/\RWs K μ H l vs:=by
 cases r with
 | @fls a vs l' s rs=>cases e;exact⟨a,vs,rfl,s.sq,rs⟩
 | @ref n a hn=>
  simp only[getL] at e;split at e
  .rename_i l' ho
   cases e;obtain⟨vs,hv,rs⟩:=R.ob n a _ hn ho;exact⟨a,vs,rfl,SqL.of hv,rs⟩
  .cases e
 | _=>cases e
theorem RW.int_of{i:Int}(r:RW K μ H (.int i) v):v=.int i:=by cases r;rfl
theorem RW.str_of{i:Str}(r:RW K μ H (.str i) v):v=.str i:=by cases r;rfl
def RW.tup_of(r:RW K μ H (.tup l) v):∃a vs,v=.ref a/\SqT K H a vs/\RWs K μ H l vs:=by cases r with | @tup a vs l s rs=>exact⟨a,vs,rfl,s,rs⟩
end
noncomputable def k8(x y:W):Option W:=match x,y with
 | .int i,.int j=>some (.int (i+j))
 | .tup l,.tup l'=>if l.length+l'.length<=cap then some (.tup (l++l')) else none
 | _,_=>none
noncomputable def addW(x y:W):M W:=λh=>match k8 x y with
 | some w=>some (w,h)
 | none=>match getL h x,getL h y with
  | some l,some l'=>if l.length+l'.length<=cap then some (.fls (l++l'),h) else none
  | _,_=>none
section
variable{prog:Program}{w:World}{A:Around}{E:Value->Shared->Prop}{s:Shared}
def QY{t:Addr}{vs ws:List Value}(ht:s.heap.IsList t vs.toArray)(hb:s.heap.IsList b ws.toArray)
  (h2:Q (.ref s.heap.objs.size) { s with heap:=s.heap.push { cls:=.type "list",data:=.seq (vs++ws).toArray } })
  (hsz:vs.length+ws.length<=sizeLine):wpAny (model prog w) A (binaryOp .Add (.ref t) (.ref b)) Q E s:=by
 obtain⟨⟨cls,dd,data,sl⟩,ho,hc,n,hd⟩:=id ht;obtain⟨⟨cls2,dd2,data2,sl2⟩,ho2,hc2,n2,hd2⟩:=id hb;simp only at hc hd hc2 hd2;subst hc hd hc2 hd2;have e:vs.toArray++ws.toArray=(vs++ws).toArray:=by simp
 refine yG ⟨_,ho,rfl⟩ ⟨_,ho2,rfl⟩ noFill_list_add seq_list_add PySem.F.slot_list_add PySem.F.entry_list_add (PySem.F.args_list_add_2 _ _)
  (list_addW t b vs.toArray ws.toArray n n2 dd dd2 sl sl2 (by rw[zM,zM];exact hsz)) ⟨ho,ho2,?_⟩
 rw[e];exact h2
def VM{t:Addr}{ws:List Value}(ht:IsTup s.heap t ([]:List Value).toArray)(hb:IsTup s.heap b ws.toArray)(h1:Q (.ref b) s) :
  wpAny (model prog w) A (binaryOp .Add (.ref t) (.ref b)) Q E s:=by
 obtain⟨⟨cls,dd,data,sl⟩,ho,hc,n,hd⟩:=id ht;obtain⟨⟨cls2,dd2,data2,sl2⟩,ho2,hc2,n2,hd2⟩:=id hb;simp only at hc hd hc2 hd2;subst hc hd hc2 hd2;exact yG ⟨_,ho,rfl⟩ ⟨_,ho2,rfl⟩ yJ seq_tuple_add wu v6 (vX _ _)
  (tuple_addW0 t b _ ws.toArray n n2 dd dd2 sl sl2 rfl) ⟨ho,ho2,h1⟩
end
section
variable{X:Cx}{cl:Cl}
def YV{P:List W->MH->W->MH->Prop}{H:Hp}{l l':List W}(I:Inv X pins σ H s)(rx:RelV x v)(ry:RelV y u)
  (R:HR X.K cl μ H h) (ax:RW X.K μ H wx x) (ay:RW X.K μ H wy y) (e1:getL h wx=some l) (e2:getL h wy=some l') (hl:l.length+l'.length<=cap)
  (k:∀p xs,H p=none->RWs X.K μ H (l++l') xs->Q (.ref p) (upd H p (.lst xs))):wpAny (model X.prog X.w) X.A (binaryOp .Add v u) (EP X pins σ Q) X.xe s:=by
 obtain⟨a,vs,rfl,sa,ra⟩:=y9 R ax e1;obtain⟨b,vs',rfl,sb,rb⟩:=y9 R ay e2;cases rx;cases ry;obtain⟨its,r1,p1,_⟩:=I.list sa;obtain⟨its2,r2,p2,_⟩:=I.list sb;have hz:vs.length+vs'.length<=sizeLine:=zT (by rw[<-ra.length,<-rb.length];exact hl) uh;refine QY p1.isList p2.isList ?_ (by rw[<-r1.length,<-r2.length];exact hz);exact⟨.ref _,_,I.lnew (t':=s.toks) (r1.append r2) (by rw[zK];exact hz),rfl,k _ _ I.fresh (ra.append rb)⟩
def Xv:qo X (binaryOp .Add) (rM X.K cl addW):=by
 rintro pins s σ H x y v u Q I rx ry ⟨μ,h,wx,wy,w,h',R,ax,ay,e,k⟩;unfold addW at e;split at e
 .rename_i w' e'
  cases e;unfold k8 at e';split at e'
  .rename_i i j
   cases e';exact Uu pins s σ H x y v u Q I rx ry ⟨i,j,ax.int_of,ay.int_of,k.pure R (.int _)⟩
  .rename_i l l'
   split at e'
   .rename_i hl
    cases e';obtain⟨a,vs,rfl,sa,ra⟩:=ax.tup_of;obtain⟨b,vs',rfl,sb,rb⟩:=ay.tup_of;by_cases hv:vs=[]
    .subst hv
     cases ra;cases rx;cases ry;obtain⟨its,r1,p1,_⟩:=I.tuple sa;obtain⟨its2,r2,p2,_⟩:=I.tuple sb;cases r1;exact VM p1 p2 ⟨.ref b,H,I,rfl,k.pure R (.tup sb rb)⟩
    .refine Y1 pins s σ H _ _ v u Q I rx ry ⟨a,b,vs,vs',rfl,rfl,sa,sb,hv,zT (by rw[<-ra.length,<-rb.length];exact hl) uh,λz=>?_,λ_ p hp=>k.tup R (ra.append rb) hp⟩
     subst z;cases rb;rw[kj] at k;exact k.pure R (.tup sa ra)
   .cases e'
  .cases e'
 .split at e
  .rename_i l l' e1 e2
   split at e
   .rename_i hl
    cases e;exact YV (P:=λ_ _ _ _=>True) I rx ry R ax ay e1 e2 hl λp xs hp rs=>k.fls R rs hp
   .cases e
  .cases e
end
noncomputable def xB(x y:W):M W:=λh=>match x,y with
 | .int i,.int j=>some (.int (i-j),h)
 | _,_=>none
noncomputable def small(i:Int):Bool:=decide (-(2 ^ 64)<i/\i<2 ^ 64)
noncomputable def kB(x y:W):M W:=λh=>match x,y with
 | .int i,.int j=>if (small i||small j)=true then some (.int (i*j),h) else none
 | .tup l,.int j=>if 0<=j/\j<=1000/\l.length<=1000 then some (.tup (List.replicate j.toNat l).flatten,h) else none
 | .fls l,.int j=>if 0<=j/\j<=1000000/\l.length<=10 then some (.fls (List.replicate j.toNat l).flatten,h) else none
 | _,_=>none
noncomputable def yv(x y:W):M W:=λh=>match x,y with
 | .int i,.int j=>if 0<j then some (.int (i%j),h) else none
 | _,_=>none
noncomputable def uP(x y:W):M W:=λh=>match x,y with
 | .int i,.int j=>if 0<j/\j<1073741824 then some (.int (i/j),h) else none
 | _,_=>none
noncomputable def vT(p:Int->Int->Bool)(x y:W):M W:=λh=>match x,y with
 | .int i,.int j=>some (.bl (p i j),h)
 | _,_=>none
noncomputable def gQ(x:W):M W:=λh=>match x with
 | .int i=>some (.int (-i),h)
 | _=>none
noncomputable def yA(b:Bool)(x y:W):M W:=λh=>match x,y with
 | .non,.non=>some (.bl b,h)
 | .tup _,.non=>some (.bl (!b),h)
 | .fls _,.non=>some (.bl (!b),h)
 | .int _,.non=>some (.bl (!b),h)
 | .str _,.non=>some (.bl (!b),h)
 | .bl _,.non=>some (.bl (!b),h)
 | .ref _,.non=>some (.bl (!b),h)
 | _,_=>none
section
variable{X:Cx}{cl:Cl}
def Xn:qo X (binaryOp .Sub) (rM X.K cl xB):=by
 rintro pins s σ H x y v u Q I rx ry ⟨μ,h,wx,wy,w,h',R,ax,ay,e,k⟩;unfold xB at e;split at e
 .cases e;exact Cf pins s σ H x y v u Q I rx ry ⟨_,_,ax.int_of,ay.int_of,k.pure R (.int _)⟩
 .cases e
def Xw:qo X (binaryOp .Mod) (rM X.K cl yv):=by
 rintro pins s σ H x y v u Q I rx ry ⟨μ,h,wx,wy,w,h',R,ax,ay,e,k⟩;unfold yv at e;split at e
 .split at e
  .rename_i hj;cases e;exact Bd pins s σ H x y v u Q I rx ry ⟨_,_,ax.int_of,ay.int_of,hj,k.pure R (.int _)⟩
  .cases e
 .cases e
def Yv:qo X (binaryOp .FloorDiv) (rM X.K cl uP):=by
 rintro pins s σ H x y v u Q I rx ry ⟨μ,h,wx,wy,w,h',R,ax,ay,e,k⟩;unfold uP at e;split at e
 .split at e
  .rename_i hj;cases e;exact Xy pins s σ H x y v u Q I rx ry ⟨_,_,ax.int_of,ay.int_of,hj,k.pure R (.int _)⟩
  .cases e
 .cases e
def mU(ho:qo X (compareOp op) (oq λi j=>.bl (p i j))):qo X (compareOp op) (rM X.K cl (vT p)):=by
 rintro pins s σ H x y v u Q I rx ry ⟨μ,h,wx,wy,w,h',R,ax,ay,e,k⟩;unfold vT at e;split at e
 .cases e;exact ho pins s σ H x y v u Q I rx ry ⟨_,_,ax.int_of,ay.int_of,k.pure R (.bl _)⟩
 .cases e
def UT:qo X (compareOp .Lt) (rM X.K cl (vT λi j=>decide (i<j))):=mU Dd
def Bg:qo X (compareOp .LtE) (rM X.K cl (vT λi j=>decide (i<=j))):=mU C3
def Bl:qo X (compareOp .Gt) (rM X.K cl (vT λi j=>decide (j<i))):=mU C8
def XY:Jc X (unaryOp .USub) (rM1 X.K cl gQ):=by
 rintro pins s σ H x v Q I rx ⟨μ,h,wx,w,h',R,ax,e,k⟩;unfold gQ at e;split at e
 .cases e;exact B5 pins s σ H x v Q I rx ⟨_,ax.int_of,k.pure R (.int _)⟩
 .cases e
def mw{K:PySem.W.Frag}{μ:List Addr}{H:Hp}{h h':MH}(ax:RW K μ H wx x)(ay:RW K μ H wy y)(e:yA b wx wy h=some (w,h')):h=h'/\y=.non/\w=.bl (if b then decide (x=.non) else !decide (x=.non)):=by
 unfold yA at e;split at e<;>first | (cases e;cases ax;cases ay;refine⟨rfl,rfl,?_⟩;cases b<;>simp) | cases e
def Bx:qo X (compareOp .Is) (rM X.K cl (yA true)):=by
 rintro pins s σ H x y v u Q I rx ry ⟨μ,h,wx,wy,w,h',R,ax,ay,e,k⟩;obtain⟨rfl,hy,rfl⟩:=mw ax ay e;exact B9 pins s σ H x y v u Q I rx ry ⟨hy,k.pure R (.bl _)⟩
def K2:qo X (compareOp .IsNot) (rM X.K cl (yA false)):=by
 rintro pins s σ H x y v u Q I rx ry ⟨μ,h,wx,wy,w,h',R,ax,ay,e,k⟩;obtain⟨rfl,hy,rfl⟩:=mw ax ay e;exact Y4 pins s σ H x y v u Q I rx ry ⟨hy,k.pure R (.bl _)⟩
end
noncomputable def kH(ws:List W):M W:=λh=>match ws with
 | [.tup l]=>some (.int l.length,h)
 | [w]=>match getL h w with
  | some l=>some (.int l.length,h)
  | none=>none
 | _=>none
noncomputable def zv(x y:W):M W:=λh=>match x,y with
 | .tup l,.int i=>match atI l i with
  | some w=>some (w,h)
  | none=>none
 | .str z,.int i=>if z.length<=cap then (match atI z.cps.toList i with
  | some c=>some (.str ⟨#[c]⟩,h)
  | none=>none) else none
 | x,.int i=>match getL h x with
  | some l=>match atI l i with
   | some w=>some (w,h)
   | none=>none
  | none=>none
 | _,_=>none
noncomputable def cutW(l:List W)(lo hi:Option Int):List W:=(l.drop (HT.sIx l.length 0 lo)).take (HT.sIx l.length l.length hi-HT.sIx l.length 0 lo)
theorem RWs.atI{K:PySem.W.Frag}{μ:List Addr}{H:Hp}{l:List W}{i:Int}(rs:RWs K μ H l vs)(e:L2.atI l i=some w):∃v,L2.atI vs i=some v/\RW K μ H w v:=by
 unfold L2.atI at e ⊢;rw[<-rs.length];cases q:xl l.length i with
 | none=>rw[q] at e;cases e
 | some j=>
  rw[q] at e;exact rs.get e
theorem RWs.cutW{K:PySem.W.Frag}{μ:List Addr}{H:Hp}(rs:RWs K μ H l vs)(lo hi:Option Int):RWs K μ H (cutW l lo hi) (cf vs lo hi):=by
 unfold ML.cutW cf;rw[<-rs.length];exact(rs.drop _).take _
section
variable{X:Cx}{cl:Cl}{a b:Expr}{ma mb:ME}{pos:Pos}
def Qx:yB X (.builtin "len") (rMs X.K cl kH):=by
 rintro pins s σ H xs us Q I rs ⟨μ,h,ws,w,h',R,ax,e,k⟩;unfold kH at e;split at e
 .rename_i l
  cases e;cases ax with | cons r t=>cases t with | nil=>
   obtain⟨a,vs,rfl,sa,ra⟩:=r.tup_of;exact ib pins s σ H _ us Q I rs ⟨a,vs,rfl,.inr sa,by rw[<-ra.length];exact k.pure R (.int _)⟩
 .split at e
  .rename_i l el
   cases e;cases ax with | cons r t=>cases t with | nil=>
    obtain⟨a,vs,rfl,sa,ra⟩:=y9 R r el;exact ib pins s σ H _ us Q I rs ⟨a,vs,rfl,.inl sa,by rw[<-ra.length];exact k.pure R (.int _)⟩
  .cases e
 .cases e
def Fq:rR X (rM X.K cl zv):=by
 rintro value slice pins s σ H x y v u Q I rx ry ⟨μ,h,wx,wy,w,h',R,ax,ay,e,k⟩ hs;unfold zv at e;split at e
 .rename_i l i
  split at e
  .rename_i w' e'
   cases e;obtain⟨a,vs,rfl,sa,ra⟩:=ax.tup_of;obtain⟨v',ev,rv⟩:=ra.atI e';exact pb value slice pins s σ H _ y v u Q I rx ry ⟨a,vs,i,v',rfl,ay.int_of,sa,ev,k.pure R rv⟩ hs
  .cases e
 .rename_i z i
  split at e
  .rename_i hl
   split at e
   .rename_i c e'
    cases e;exact Uk value slice pins s σ H _ y v u Q I rx ry ⟨z,i,c,ax.str_of,ay.int_of,zT hl uh,e',k.pure R (.str _)⟩ hs
   .cases e
  .cases e
 .rename_i i hn1 hn2
  split at e
  .rename_i l el
   split at e
   .rename_i w' e'
    cases e;obtain⟨a,vs,rfl,sa,ra⟩:=y9 R ax el;obtain⟨v',ev,rv⟩:=ra.atI e';exact Xs value slice pins s σ H _ y v u Q I rx ry ⟨a,vs,i,v',rfl,ay.int_of,sa,ev,k.pure R rv⟩ hs
   .cases e
  .cases e
 .cases e
def Dz(ha:SE X cl a ma)(hb:SE X cl b mb)(hs:uI b:=by exactλ_ _=>rfl):SE X cl (.Subscript a b pos) (zi zv ma mb):=
 PE.wk (ZO Fq ha hb hs) λσ H Q q=>bi q
end
section
variable{prog:Program}{w:World}{A:Around}{E:Value->Shared->Prop}{s:Shared}
open HT in
def gJ{t sl:Addr}{items:Array Value}{vl vu:Value}{lo hi:Option Int}{Q:Value->Shared->Prop}(ht:IsTup s.heap t items)(hs:s.heap.IsSliceOf sl vl vu .none)(pl:IsPart vl lo)(pu:IsPart vu hi)
  (hw:sIx items.size 0 lo=0/\sIx items.size items.size hi=items.size) (h:Q (.ref t) s):wpAny (model prog w) A (getItem (.ref t) (.ref sl)) Q E s:=by
 obtain⟨os,hos,hcs,hds⟩:=id hs;have hTs:s.TypeIs (.ref sl) "slice":=⟨os,hos,hcs⟩;unfold getItem;try with_reducible refine jf ?_
 first | refine za (zu ?_) | skip
 refine za (wpAny_sequenceKey ht.typeIs (by decide) ?_)
 refine za (jn (name:=Str.ofString "__getitem__") ht.typeIs jD
  (jy jD ht.typeIs entry_tuple_getitem ?_ (args_tuple_getitem _ _)))
 show wpAny _ _ (Builtin.Tuple.tupleItemsOf (.ref t) >>= _) _ _ s
 refine za (ye ht ?_);refine za (j7 hTs ?_);rw[zY (by decide)];refine za (bS hs pl pu ?_);have hno:((((sIx items.size 0 lo:Nat):Int)==0&&(1:Int)==1&&(sIx items.size items.size hi-sIx items.size 0 lo)==items.size)=true):=by
  rw[hw.1,hw.2];simp
 show wpAny _ _ (if (((sIx items.size 0 lo:Nat):Int)==0&&(1:Int)==1&&(sIx items.size items.size hi-sIx items.size 0 lo)==items.size)=true then _ else _) _ _ s
 rw[zY hno];unfold Builtin.Tuple.tupleIsExact;refine za (za (j7 ht.typeIs (zu ?_)));rw[zY (by decide)];first
  | exact za (qD (zu ⟨_,rfl,zu h⟩))
  | exact za (qD (za (zu (zu ⟨_,rfl,zu h⟩))))
  | exact za (za (qD (zu ⟨_,rfl,zu h⟩)))
end
noncomputable def gz(x:W)(lo hi:Option Int):M W:=λh=>match x with
 | .tup l=>some (.tup (cutW l lo hi),h)
 | x=>match getL h x with
  | some l=>some (.fls (cutW l lo hi),h)
  | none=>none
noncomputable def uT(m:Option ME):En->M (Option Int):=λρ=>match m with
 | none=>λh=>some (none,h)
 | some m=>bnd (m ρ) λw h=>match w with
  | .int i=>some (some i,h)
  | _=>none
noncomputable def uB(a:ME)(lo hi:Option ME):ME:=λρ=>bnd (a ρ) λx=>bnd (uT lo ρ) λl=>bnd (uT hi ρ) λu=>gz x l u
section
variable{X:Cx}{cl:Cl}{a:Expr}{ma:ME}{pos p2:Pos}
inductive tMO(K:PySem.W.Frag)(cl:Cl)(m:Option ME)(σ:L2.St)(H:Hp)(Q:Option Int->Hp->Prop):Prop
 | mk (μ:List Addr) (h:MH) (ρ:En) (o:Option Int) (h':MH) (p0:HR K cl μ H h) (p1:ER K μ H ρ σ) (p2:uT m ρ h=some (o,h')) (p3:∀μ' H',Ext μ H μ' H'->HR K cl μ' H' h'->Q o H'):tMO K cl m σ H Q
abbrev SO(X:Cx)(cl:Cl)(e:Option Expr)(m:Option ME):Prop:=PO X e (tMO X.K cl m)
def PO.wk{t:TO}(h:PO X e t)(w:∀σ H Q,t' σ H Q->t σ H Q):PO X e t':=λpins s σ H Q I q=>h pins s σ H Q I (w σ H Q q)
def XX:SO X cl none none:=PO.wk YU λσ H Q q0=>by
 obtain⟨μ,h,ρ,o,h',R,er,e,k⟩:=q0;cases e;exact k μ H .refl R
def Yy(ha:SE X cl a ma):SO X cl (some a) (some ma):=PO.wk (Xh ha) λσ H Q q0=>by
 obtain⟨μ,h,ρ,o,h',R,er,e,k⟩:=q0;obtain⟨x,h1,e1,e⟩:=ka e;split at e
 .rename_i i
  cases e;exact⟨μ,h,ρ,_,_,R,er,e1,λμ1 H1 v E1 R1 r=>⟨i,r.int_of,k μ1 H1 E1 R1⟩⟩
 .cases e
def Y7{pins:List (Addr×Obj)}{s:Shared}{σ:L2.St}{H:Hp}{a:Addr}{v vl vu:Value}{lo hi:Option Int}{sl:Addr}{Q:VK}{xs:List V}(I:Inv X pins σ H s)(rx:RelV (.ref a) v)(hs:s.heap.IsSliceOf sl vl vu .none)(pl:IsPart vl lo)(pu:IsPart vu hi)
  (hx:SqT X.K H a xs) (q1:cf xs lo hi=xs->Q (.ref a) H) (q2:∀p,H p=none->Q (.ref p) (upd H p (.tup (cf xs lo hi)))) :
  ∃T id,typeLookup (.type T) "__getitem__" = pure (some (.builtin id))/\s.TypeIs v T/\wpAny (model X.prog X.w) X.A (getItem v (.ref sl)) (EP X pins σ Q) X.xe s:=by
 by_cases hw:HT.sIx xs.length 0 lo=0/\HT.sIx xs.length xs.length hi=xs.length
 .cases rx
  obtain⟨its,r,ht,hz⟩:=I.tuple hx;have hlen:its.toArray.size=xs.length:=by rw[zM];exact r.length.symm
  refine⟨"tuple",_,jD.lookup,ht.typeIs,?_⟩;refine gJ ht hs pl pu (by rw[hlen];exact hw) ⟨.ref a,H,I,rfl,q1 ?_⟩;unfold cf;rw[hw.1,hw.2];simp
 .exact U7 pins s σ H _ v vl vu lo hi sl Q I rx hs pl pu ⟨a,xs,rfl,hx,hw,q2⟩
def CV{lo hi:Option Expr}(ha:SE X cl a ma)(hl:SO X cl lo ml)(hh:SO X cl hi mh):SE X cl (.Subscript a (.Slice lo hi none p2) pos) (uB ma ml mh):=by
 have hr:WX X (λx lo hi H Q=>∃μ h wx w h',HR X.K cl μ H h/\RW X.K μ H wx x/\gz wx lo hi h=some (w,h')/\KQ X.K cl μ H h' w Q):=by
  rintro pins s σ H x v vl vu lo hi sl Q I rx hs pl pu ⟨μ,h,wx,w,h',R,ax,e,k⟩;unfold gz at e;split at e
  .rename_i l
   cases e;obtain⟨a,vs,rfl,sa,ra⟩:=ax.tup_of;refine Y7 I rx hs pl pu sa (λz=>k.pure R (.tup sa ?_)) λp hp=>k.tup R (ra.cutW lo hi) hp
   have q:=ra.cutW lo hi;rw[z] at q;exact q
  .split at e
   .rename_i l el
    cases e;obtain⟨a,vs,rfl,sa,ra⟩:=y9 R ax el;exact XZ pins s σ H _ v vl vu lo hi sl Q I rx hs pl pu ⟨a,vs,rfl,sa,λp hp=>k.fls R (ra.cutW lo hi) hp⟩
   .cases e
 refine PE.wk (VH hr ha hl hh) λσ H Q ⟨μ,h,ρ,w,h',R,er,e,k⟩=>?_
 obtain⟨x,h1,e1,e⟩:=ka e;obtain⟨l,h2,e2,e⟩:=ka e;obtain⟨u,h3,e3,e⟩:=ka e
 exact⟨μ,h,ρ,x,h1,R,er,e1,λμ1 H1 vx E1 R1 rx=>⟨μ1,h1,ρ,l,h2,R1,er.ext R E1,e2,λμ2 H2 E2 R2=>⟨μ2,h2,ρ,u,h3,R2,(er.ext R E1).ext R1 E2,e3,λμ3 H3 E3 R3=>
  ⟨μ3,h3,x,w,h',R3,(rx.ext R1 E2).ext R2 E3,e,k.ext (E1.trans (E2.trans E3))⟩⟩⟩⟩
end
def i3:fillsNumberSlot (.type "tuple") "mul" = pure false:=
 PySem.fillsNumberSlot_seq (id:="tuple.__mul__") (r:=some (.builtin "tuple.__rmul__")) vJ.lookup ⋯ F.slot_tuple_rmul.lookup ⋯
theorem sV:seqRepeat? (.type "tuple")=pure (some (.builtin "tuple.__mul__")):=by
 unfold seqRepeat?;rw[PySem.seqSlot_of (T:="tuple") (name:="__mul__") (id:="tuple.__mul__") vJ.lookup ⋯,PySem.seqSlot_of (T:="tuple") (name:="__rmul__") (id:="tuple.__rmul__") F.slot_tuple_rmul.lookup ⋯];rfl
def dn(a:Int)(t:Tok)(l:Addr)(items:Array Value)(n:Nat)(dd:Option Addr)(sl:Array (Option Value)) :
  Meets (Builtin.«int.__rmul__» ⟨[.int a t,.ref l],[]⟩) (λ_ R s=>s.heap.get? l=some { cls:=.type "tuple",dict:=dd,data:=.seq items n,slots:=sl }/\R (.ok (.ret Value.notImplemented)) s):=
 .of_wp λprog w A R s h=>by obtain⟨hp,g,d,tk,os⟩:=s;obtain⟨hl,h⟩:=h;wp_walk;exact⟨_,rfl,h⟩
def Kf(l:Addr)(items:Array Value)(n:Nat)(dd:Option Addr)(sl:Array (Option Value))(x:Int)(u:Tok)(hf:¬((decide (x < -2 ^ 63)||decide (x>=2 ^ 63))=true))(hc:(items.isEmpty||x==1)=true) :
  Meets (Builtin.«tuple.__mul__» ⟨[.ref l,.int x u],[]⟩) (λ_ R s=>s.heap.get? l=some { cls:=.type "tuple",dict:=dd,data:=.seq items n,slots:=sl }/\R (.ok (.ret (.ref l))) s):=
 .of_wp λprog w A R s h=>by
  obtain⟨hp,g,d,tk,os⟩:=s;obtain⟨hl,h⟩:=h;have f1:=vK;have ht:IsTup ({ heap:=hp,gens:=g,drawn:=d,toks:=tk,os:=os }:Shared).heap l items:=⟨_,hl,rfl,n,rfl⟩;wp_walk using wpAny_loadPart' hl
  rw[jc hf];try dsimp only
  refine za (ye ht ?_);try dsimp only
  rw[zY hc];unfold Builtin.Tuple.tupleIsExact;refine za (za (j7 ht.typeIs (zu ?_)));rw[zY (by decide)];exact za (qD (zu ⟨_,rfl,h⟩))
def ZX (l : Addr) (items : Array Value) (n : Nat) (dd : Option Addr) (sl : Array (Option Value)) (x : Int) (u : Tok) (hf : ¬ ((decide (x < -2 ^ 63) || decide (x >= 2 ^ 63)) = true)) (hc : ¬ (items.isEmpty || x == 1) = true) (h0 : ¬ (decide (x <= 0) || items.isEmpty) = true)
   (h1 : ¬ (items.size * x > (2 ^ 63 - 1) / 8)) (h2 : ¬ Builtin.Tuple.tupleTooMany (items.size * x) = true) (hz : sizeOk (Data.seq (List.foldl (λx1 x2 => x1 ++ x2) #[] (List.replicate x.toNat items)))) :
    Meets (Builtin.«tuple.__mul__» ⟨[.ref l, .int x u], []⟩) (λ_ R s => s.heap.get? l = some { cls := .type "tuple", dict := dd, data := .seq items n, slots := sl } /\
      R (.ok (.ret (.ref s.heap.objs.size))) { s with heap := s.heap.push { cls := Value.type "tuple", data := Data.seq (List.foldl (λx1 x2 => x1 ++ x2) #[] (List.replicate x.toNat items)) } }) :=
  .of_wp λprog w A R s h => by
    obtain ⟨hp, g, d, tk, os⟩ := s;obtain ⟨hl, h⟩ := h;have f1 := vK;have ht : IsTup ({ heap := hp, gens := g, drawn := d, toks := tk, os := os } : Shared).heap l items := ⟨_, hl, rfl, n, rfl⟩;wp_walk using wpAny_loadPart' hl
    rw [jc hf];try dsimp only
    refine za (ye ht ?_);try dsimp only
    rw [jc hc, jc h0, jc h1, jc h2];refine za (m := Builtin.Tuple.tupleExact _) (jm (zu ⟨_, rfl, h⟩) hz)
def ZP(l:Addr)(items:Array Value)(n:Nat)(dd:Option Addr)(sl:Array (Option Value))(x:Int)(u:Tok)(hf:¬((decide (x < -2 ^ 63)||decide (x>=2 ^ 63))=true))(hc:¬(items.isEmpty||x==1)=true)(h0:(decide (x<=0)||items.isEmpty)=true) :
  Meets (Builtin.«tuple.__mul__» ⟨[.ref l,.int x u],[]⟩) (λ_ R s=>s.heap.get? l=some { cls:=.type "tuple",dict:=dd,data:=.seq items n,slots:=sl } /\
   R (.ok (.ret (.ref s.heap.objs.size))) { s with heap:=s.heap.push { cls:=Value.type "tuple",data:=Data.seq #[] } }):=
 .of_wp λprog w A R s h=>by
  obtain⟨hp,g,d,tk,os⟩:=s;obtain⟨hl,h⟩:=h;have f1:=vK;have ht:IsTup ({ heap:=hp,gens:=g,drawn:=d,toks:=tk,os:=os }:Shared).heap l items:=⟨_,hl,rfl,n,rfl⟩;wp_walk using wpAny_loadPart' hl
  rw[jc hf];try dsimp only
  refine za (ye ht ?_);try dsimp only
  rw[jc hc,zY h0];refine za (m:=Builtin.Tuple.tupleExact _) (jm (zu ⟨_,rfl,h⟩) (by show 0<=sizeLine;decide))
section
variable{X:Cx}{cl:Cl}
def XG{H:Hp}{k:Int}{xs:List V}(I:Inv X pins σ H s)(rx:RelV (.ref a) v)(ry:RelV (.int k) u)(hx:SqT X.K H a xs)(h1:0<=k)(h2:k<=1000)(hz:xs.length<=1000)
  (q1:(List.replicate k.toNat xs).flatten=xs->Q (.ref a) H) (q2:∀p,H p=none->Q (.ref p) (upd H p (.tup (List.replicate k.toNat xs).flatten))):wpAny (model X.prog X.w) X.A (binaryOp .Mult v u) (EP X pins σ Q) X.xe s:=by
 cases rx;obtain⟨t,rfl⟩:=ry;obtain⟨its,r,ht,_⟩:=I.tuple hx;have hlen:=r.length;obtain⟨⟨cls,dd,data,sl⟩,e,hc,n,hd⟩:=id ht;simp only at hc hd;subst hc hd;have hsl:(sizeLine:Nat)=16777216:=vp;have hnew:List.foldl (λx1 x2=>x1++x2) #[] (List.replicate k.toNat its.toArray)=(List.replicate k.toNat its).flatten.toArray:=by
  have:=foldl_rep its k.toNat [];rw[kE] at this;exact this
 have hrl:k.toNat*its.length<=1000*1000:=Nat.mul_le_mul ∅ ∅;have hf:¬((decide (k < -2 ^ 63)||decide (k>=2 ^ 63))=true):=by
  simp only[Bool.or_eq_true,vU];omega
 have road:∀{R:Value->Shared->Prop},wpAny (model X.prog X.w) X.A (call (.builtin "tuple.__mul__") [.ref a,.int k t]) R X.xe s->wpAny (model X.prog X.w) X.A (binaryOp .Mult (.ref a) (.int k t)) R X.xe s:=λhcall=>
  xm (T:="tuple") (U:="int") (by decide) ⟨_,e,rfl⟩ (λs'=>yC s' k t) i3 F.fills_int_mul wW sV F.slot_int_index.lookup
   (vq wW (yC s k t) F.entry_int_rmul (F.args_int_rmul_2 _ _) (dn k t a its.toArray n dd sl) ⟨e,rfl,⟨_,e,rfl⟩,hcall⟩)
 refine road ?_;by_cases c1:(its.toArray.isEmpty||k==1)=true
 .refine vq vJ ⟨_,e,rfl⟩ yF (yw _ _) (Kf a its.toArray n dd sl k t hf c1) ⟨e,.ref a,H,I,rfl,q1 ?_⟩
  rcases xu.mp c1 with c | c
  .have:its=[]:=by simpa using c
   subst this;cases r;simp
  .have:k=1:=by simpa using c
   subst this;simp
 .by_cases c2:(decide (k<=0)||its.toArray.isEmpty)=true
  .refine vq vJ ⟨_,e,rfl⟩ yF (yw _ _) (ZP a its.toArray n dd sl k t hf c1 c2) ⟨e,?_⟩
   have hk:k=0:=by
    have ne:its.toArray.isEmpty=false:=by
     cases z:its.toArray.isEmpty with
     | false=>rfl
     | true=>exact absurd (by rw[z];rfl) c1
    rw[ne,Bool.or_false] at c2;have:=qF c2;omega
   subst hk;exact⟨.ref _,_,I.laid (t':=s.toks) (o:=.tup (List.replicate (0:Int).toNat xs).flatten) (λb ob q=>zf _ q) (zg _) ⟨by simp,[],by simpa using Paired.nil,IsTup.new _ _,.new _ _⟩,rfl,q2 _ I.fresh⟩
  .refine vq vJ ⟨_,e,rfl⟩ yF (yw _ _) (ZX a its.toArray n dd sl k t hf c1 c2 ?_ ?_ ?_) ⟨e,?_⟩
   .rw[zM]
    have:(its.length:Int)*k<=1000*1000:=by
     have:(its.length:Int)*k=((k.toNat*its.length:Nat):Int):=by
      rw[yU];push_cast;rw[xr h1]
     omega
    omega
   .rw[zM]
    unfold Builtin.Tuple.tupleTooMany;have:(its.length:Int)*k<=1000*1000:=by
     have:(its.length:Int)*k=((k.toNat*its.length:Nat):Int):=by
      rw[yU];push_cast;rw[xr h1]
     omega
    simp only[vU];omega
   .rw[hnew]
    show((List.replicate k.toNat its).flatten.toArray).size<=sizeLine
    rw[zM,len_rep];omega
   .rw[hnew]
    exact⟨.ref _,_,I.laid (t':=s.toks) (o:=.tup (List.replicate k.toNat xs).flatten) (λb ob q=>zf _ q) (zg _) ⟨by rw[len_rep,hlen];omega,_,r.rep k.toNat,IsTup.new _ _,.new _ _⟩,rfl,q2 _ I.fresh⟩
def YR{H:Hp}{k:Int}{xs:List V}(I:Inv X pins σ H s)(rx:RelV (.ref a) v)(ry:RelV (.int k) u)(hx:SqL X.K H a xs)(h1:0<=k)(h2:k<=1000000)(hz:xs.length<=10)
  (q2:∀p,H p=none->Q (.ref p) (upd H p (.lst (List.replicate k.toNat xs).flatten))):wpAny (model X.prog X.w) X.A (binaryOp .Mult v u) (EP X pins σ Q) X.xe s:=by
 cases rx;obtain⟨t,rfl⟩:=ry;obtain⟨its,r,⟨o,n,e,hc,hd,hda⟩,_⟩:=I.list hx;obtain⟨cls,dd,data,sl⟩:=o;simp only at hc hd hda;subst hc hda;have hlen:=r.length;have hsl:(sizeLine:Nat)=16777216:=vp;have hrl:its.length*k.toNat<=10*1000000:=Nat.mul_le_mul ∅ ∅;have hfit:¬(!Builtin.List.listFitsIndex k)=true:=by simp[Builtin.List.listFitsIndex];omega
 have hcap:¬its.toArray.size*k.toNat>(2 ^ 63-1)/8:=by rw[zM];omega
 have hlong:¬Builtin.List.listTooLong (its.toArray.size*k.toNat)=true:=by rw[zM];simp[Builtin.List.listTooLong,sizeLine];omega
 have hnew:List.foldl (λx1 x2=>x1++x2) #[] (List.replicate (if its.toArray.isEmpty=true then 0 else k.toNat) its.toArray)=(List.replicate k.toNat its).flatten.toArray:=by
  have f0:∀m:Nat,List.foldl (λx1 x2=>x1++x2) #[] (List.replicate m its.toArray)=(List.replicate m its).flatten.toArray:=λm=>by
   have z:=foldl_rep its m [];rw[kE] at z;exact z
  rw[f0];cases its with
  | nil=>simp
  | cons c r'=>rw[jc (by simp)]
 refine xm (T:="list") (U:="int") (by decide) ⟨_,e,rfl⟩ (λs'=>yC s' k t) noFill_list_mul F.fills_int_mul wW repeat_list F.slot_int_index.lookup (vq wW (yC s k t) F.entry_int_rmul (F.args_int_rmul_2 _ _) (lm_int_rmul_list_any k t a its.toArray n dd sl) ⟨e,rfl,⟨_,e,rfl⟩,vq F.slot_list_mul ⟨_,e,rfl⟩ F.entry_list_mul (F.args_list_mul_2 _ _) (lm_list_mul_any a its.toArray n dd sl k t hfit hcap hlong) ⟨e,?_⟩⟩);rw[hnew];exact⟨.ref _,_,I.lnew (t':=s.toks) (r.rep k.toNat) (by rw[len_rep,hlen,yU];omega),rfl,q2 _ I.fresh⟩
def Xj:qo X (binaryOp .Mult) (rM X.K cl kB):=by
 rintro pins s σ H x y v u Q I rx ry ⟨μ,h,wx,wy,w,h',R,ax,ay,e,k⟩;unfold kB at e;split at e
 .rename_i i j
  split at e
  .rename_i hj
   cases e;refine Cy pins s σ H x y v u Q I rx ry ⟨_,_,ax.int_of,ay.int_of,?_,k.pure R (.int _)⟩;unfold small at hj;rw[Bool.or_eq_true,vU,vU] at hj;exact hj
  .cases e
 .rename_i l j
  split at e
  .rename_i hj
   cases e;obtain⟨a,vs,rfl,sa,ra⟩:=ax.tup_of;cases ay.int_of;refine XG I rx ry sa hj.1 hj.2.1 (by rw[<-ra.length];exact hj.2.2) (λz=>k.pure R (.tup sa ?_)) λp hp=>k.tup R (ra.rep _) hp
   have q:=ra.rep j.toNat;rw[z] at q;exact q
  .cases e
 .rename_i l j
  split at e
  .rename_i hj
   cases e;obtain⟨a,vs,rfl,sa,ra⟩:=y9 R ax (show getL _ (.fls l)=some l from rfl);cases ay.int_of;exact YR I rx ry sa hj.1 hj.2.1 (by rw[<-ra.length];exact hj.2.2) λp hp=>k.fls R (ra.rep _) hp
  .cases e
 .cases e
end
noncomputable def vk{α β:Type}(f:α->Option β):List α->Option (List β)
 | []=>some []
 | x::r=>match f x,vk f r with
  | some y,some ys=>some (y::ys)
  | _,_=>none
noncomputable def kT:Nat->MH->W->Option PyData
 | 0,_,_=>none
 | _+1,_,.non=>some .none
 | _+1,_,.bl b=>some (.bool b)
 | _+1,_,.int i=>some (.int i)
 | _+1,_,.str x=>if PyData.strOk x then some (.str x) else none
 | n+1,h,.tup l=>(vk (kT n h) l).map .tuple
 | n+1,h,.fls l=>(vk (kT n h) l).map .list
 | n+1,h,.ref k=>match h[k]? with
  | some (.lst l)=>(vk (kT n h) l).map .list
  | _=>none
 | _+1,_,.fdc _=>none
 | _+1,_,.fn _=>none
section
variable{X:Cx}{cl:Cl}{pins:List (Addr×Obj)}{σ:L2.St}{μ:List Addr}{H:Hp}{s:Shared}{h:MH}
def uc(I:Inv X pins σ H s)(R:HR X.K cl μ H h):∀(n:Nat) {w:W} {x:V} {v:Value} {d:PyData},RW X.K μ H w x->RelV x v->kT n h w=some d->(∃as,Reads s.heap v d as)/\d.canLay0=true/\d.depth<=n:=by
 intro n;induction n with
 | zero=>intro w x v d _ _ e;cases e
 | succ n ih=>
  have all:∀{l:List W} {vs:List V} {us:List Value} {ds:List PyData},RWs X.K μ H l vs->Vals vs us->vk (kT n h) l=some ds->(∃as,ReadsAll s.heap us ds as)/\PyData.canLayAll0 ds=true/\PyData.depthAll ds<=n:=by
   intro l;induction l with
   | nil=>intro vs us ds r t e;cases r;cases t;cases e;exact⟨⟨_,.nil⟩,by unfold PyData.canLayAll0;rfl,by unfold PyData.depthAll;omega⟩
   | cons w l ihl=>
    intro vs us ds r t e;cases r with | cons r rs=>cases t with | cons t ts=>
    unfold vk at e;split at e
    .rename_i y ys e1 e2
     cases e;obtain⟨⟨as,h1⟩,h2,h3⟩:=ih r t e1;obtain⟨⟨bs,g1⟩,g2,g3⟩:=ihl rs ts e2;refine⟨⟨_,.cons h1 g1⟩,by unfold PyData.canLayAll0;rw[h2,g2];rfl,?_⟩;unfold PyData.depthAll;omega
    .cases e
  have lists:∀{l:List W} {a:Addr} {vs:List V} {d:PyData},SqL X.K H a vs->RWs X.K μ H l vs->(vk (kT n h) l).map PyData.list=some d->(∃as,Reads s.heap (.ref a) d as)/\d.canLay0=true/\d.depth<=n+1:=by
   intro l a vs d sq rs e;cases e1:vk (kT n h) l with
   | none=>rw[e1] at e;cases e
   | some ds=>
    rw[e1] at e;cases e;obtain⟨its,rv,⟨o,m,h1,h2,h3,h4⟩,_⟩:=I.list sq;obtain⟨⟨as,g1⟩,g2,g3⟩:=all rs rv e1;exact⟨⟨_,.list h1 h2 h4 (by simpa using g1)⟩,by unfold PyData.canLay0;exact g2,by unfold PyData.depth;omega⟩
  intro w x v d r t e;cases r with
  | non=>cases e;cases t;exact⟨⟨_,.none⟩,by unfold PyData.canLay0;rfl,by unfold PyData.depth;omega⟩
  | bl b=>cases e;cases t;exact⟨⟨_,.bool b⟩,by unfold PyData.canLay0;rfl,by unfold PyData.depth;omega⟩
  | int i=>cases e;obtain⟨tk,rfl⟩:=t;exact⟨⟨_,.int i tk⟩,by unfold PyData.canLay0;rfl,by unfold PyData.depth;omega⟩
  | str z=>
   simp only[kT] at e;split at e
   .rename_i ok
    cases e;obtain⟨tk,rfl⟩:=t;exact⟨⟨_,.str z tk⟩,by unfold PyData.canLay0;exact ok,by unfold PyData.depth;omega⟩
   .cases e
  | @tup a vs l sq rs=>
   simp only[kT] at e;cases t;cases e1:vk (kT n h) l with
   | none=>rw[e1] at e;cases e
   | some ds=>
    rw[e1] at e;cases e;obtain⟨its,rv,⟨o,h1,h2,m,h4⟩,_⟩:=I.tuple sq;obtain⟨⟨as,g1⟩,g2,g3⟩:=all rs rv e1;exact⟨⟨_,.tuple h1 h2 h4 (by simpa using g1)⟩,by unfold PyData.canLay0;exact g2,by unfold PyData.depth;omega⟩
  | @fls a vs l sq rs=>cases t;simp only[kT] at e;exact lists sq.sq rs e
  | fdc=>cases e
  | fn=>cases e
  | @ref k a hk=>
   cases t;simp only[kT] at e;split at e
   .rename_i l ho
    obtain⟨vs,hv,rs⟩:=R.ob k a _ hk ho;exact lists (SqL.of hv) rs e
   .cases e
end
section
variable{X:Cx}{cl:Cl}{pins:List (Addr×Obj)}{σ:L2.St}{μ:List Addr}{H:Hp}{s:Shared}{h:MH}
def tK(I:Inv X pins σ H s)(R:HR X.K cl μ H h)(n:Nat):∀{l:List W} {vs:List V} {us:List Value} {ds:List PyData},RWs X.K μ H l vs->Vals vs us->vk (kT n h) l=some ds->(∃as,ReadsAll s.heap us ds as)/\PyData.canLayAll0 ds=true:=by
 intro l;induction l with
 | nil=>intro vs us ds r t e;cases r;cases t;cases e;exact⟨⟨_,.nil⟩,by unfold PyData.canLayAll0;rfl⟩
 | cons w l ihl=>
  intro vs us ds r t e;cases r with | cons r rs=>cases t with | cons t ts=>
  unfold vk at e;split at e
  .rename_i y ys e1 e2
   cases e;obtain⟨⟨as,h1⟩,h2,h3⟩:=uc I R n r t e1;obtain⟨⟨bs,g1⟩,g2⟩:=ihl rs ts e2;exact⟨⟨_,.cons h1 g1⟩,by unfold PyData.canLayAll0;rw[h2,g2];rfl⟩
  .cases e
end
noncomputable def deep:Nat:=60
noncomputable def nF(x y:W):Option Bool:=match x,y with
 | .str a,.str b=>some (a==b)
 | .int a,.int b=>some (a==b)
 | .bl a,.bl b=>some (a==b)
 | _,_=>none
noncomputable def eqB(h:MH)(x y:W):Option Bool:=match nF x y with
 | some b=>some b
 | none=>match kT deep h x,kT deep h y with
  | some d,some e=>some (PyData.eqv d e)
  | _,_=>none
noncomputable def qq(neg:Bool)(x y:W):M W:=λh=>match eqB h x y with
 | some b=>some (.bl (if neg then !b else b),h)
 | none=>none
noncomputable def xS(h:MH):W->Option (List W)
 | .tup l=>some l
 | w=>getL h w
noncomputable def inB(h:MH)(x y:W):Option Bool:=match xS h y with
  | some l=>match kT deep h x,vk (kT deep h) l with
   | some d,some ds=>some (ds.any λe=>PyData.eqv e d)
   | _,_=>none
  | none=>none
noncomputable def gH(neg:Bool)(x y:W):M W:=λh=>match inB h x y with
 | some b=>some (.bl (if neg then !b else b),h)
 | none=>none
section
variable{X:Cx}{cl:Cl}
def JN(hu:X.A.units+64<cLine){H:Hp}(I:Inv X pins σ H s)(rx:RelV x v)(ry:RelV y u)
  (R:HR X.K cl μ H h) (ax:RW X.K μ H wx x) (ay:RW X.K μ H wy y) (e:eqB h wx wy=some b) :
  (Q (.bl b) H->wpAny (model X.prog X.w) X.A (compareOp .Eq v u) (EP X pins σ Q) X.xe s)/\(Q (.bl (!b)) H->wpAny (model X.prog X.w) X.A (compareOp .NotEq v u) (EP X pins σ Q) X.xe s):=by
 unfold eqB at e;split at e
 .rename_i b' e'
  cases e;unfold nF at e';split at e'
  .rename_i i j
   cases e';cases ax.str_of;cases ay.str_of;exact⟨λq=>ZR pins s σ H _ _ v u Q I rx ry ⟨rfl,by rw[iJ];exact q⟩,λq=>KG pins s σ H _ _ v u Q I rx ry ⟨rfl,by rw[iJ];exact q⟩⟩
  .rename_i i j
   cases e';cases ax.int_of;cases ay.int_of;exact⟨λq=>ZR pins s σ H _ _ v u Q I rx ry ⟨rfl,by rw[iD];exact q⟩,λq=>KG pins s σ H _ _ v u Q I rx ry ⟨rfl,by rw[iD];exact q⟩⟩
  .rename_i i j
   cases e';cases ax.bl_of;cases ay.bl_of;exact⟨λq=>ZR pins s σ H _ _ v u Q I rx ry ⟨rfl,by rw[mx];exact q⟩,λq=>KG pins s σ H _ _ v u Q I rx ry ⟨rfl,by rw[mx];exact q⟩⟩
  .cases e'
 .split at e
  .rename_i d d' e1 e2
   cases e;obtain⟨⟨as,r1⟩,c1,d1⟩:=uc I R deep ax rx e1;obtain⟨⟨bs,r2⟩,c2,d2⟩:=uc I R deep ay ry e2;have hr:X.A.units+min d.depth d'.depth<cLine:=by
    have:min d.depth d'.depth<=d.depth:=Nat.min_le_left _ _;unfold deep at d1;omega
   exact⟨λq=>SeqAt.compareEq_reads r1 r2 c1 c2 hr ⟨.bl _,H,I,rfl,q⟩,λq=>SeqAt.compareNe_reads r1 r2 c1 c2 hr ⟨.bl _,H,I,rfl,q⟩⟩
  .cases e
def CO(hu:X.A.units+64<cLine):qo X (compareOp .Eq) (rM X.K cl (qq false)):=by
 rintro pins s σ H x y v u Q I rx ry ⟨μ,h,wx,wy,w,h',R,ax,ay,e,k⟩;unfold qq at e;split at e
 .rename_i b eb
  cases e;exact(JN hu I rx ry R ax ay eb).1 (k.pure R (.bl _))
 .cases e
def UW(hu:X.A.units+64<cLine):qo X (compareOp .NotEq) (rM X.K cl (qq true)):=by
 rintro pins s σ H x y v u Q I rx ry ⟨μ,h,wx,wy,w,h',R,ax,ay,e,k⟩;unfold qq at e;split at e
 .rename_i b eb
  cases e;exact(JN hu I rx ry R ax ay eb).2 (k.pure R (.bl _))
 .cases e
def f7{K:PySem.W.Frag}{μ:List Addr}{H:Hp}{h:MH}(R:HR K cl μ H h)(r:RW K μ H w v)(e:xS h w=some l):∃a vs,v=.ref a/\(SqL K H a vs\/SqT K H a vs)/\RWs K μ H l vs:=by
 unfold xS at e;split at e
 .cases e
  obtain⟨a,vs,rfl,sa,ra⟩:=r.tup_of;exact⟨a,vs,rfl,.inr sa,ra⟩
 .obtain⟨a,vs,rfl,sa,ra⟩:=y9 R r e
  exact⟨a,vs,rfl,.inl sa,ra⟩
def UM(hu:X.A.units+64<cLine){pins:List (Addr×Obj)}{s:Shared}{σ:L2.St}{H:Hp}{x y:V}{v u:Value}(I:Inv X pins σ H s)(rx:RelV x v)(ry:RelV y u)
  (R:HR X.K cl μ H h) (ax:RW X.K μ H wx x) (ay:RW X.K μ H wy y) (e:inB h wx wy=some b) :
  (Q (.bl b) H->wpAny (model X.prog X.w) X.A (compareOp .In v u) (EP X pins σ Q) X.xe s)/\(Q (.bl (!b)) H->wpAny (model X.prog X.w) X.A (compareOp .NotIn v u) (EP X pins σ Q) X.xe s):=by
 unfold inB at e;split at e
 .rename_i l el
  split at e
  .rename_i d ds e1 e2
   cases e;obtain⟨a,vs,rfl,sa,ra⟩:=f7 R ay el;cases ry;obtain⟨⟨as,r1⟩,c1,d1⟩:=uc I R deep ax rx e1;have big:kT (deep+1) h (.tup l)=some (.tuple ds):=by simp only[kT];rw[e2];rfl
   have big2:kT (deep+1) h (.fls l)=some (.list ds):=by simp only[kT];rw[e2];rfl
   have hr:X.A.units+1+min (PyData.depthAll ds) d.depth<cLine:=by
    have:min (PyData.depthAll ds) d.depth<=d.depth:=Nat.min_le_right _ _;unfold deep at d1;omega
   rcases sa with sa | sa
   .obtain⟨its,rv,⟨o,m,h1,h2,h3,h4⟩,_⟩:=I.list sa
    obtain⟨⟨as2,g1⟩,c2⟩:=tK I R deep ra rv e2;have r2:Reads s.heap (.ref a) (.list ds) _:=.list h1 h2 h4 (by simpa using g1);exact⟨λq=>SeqAt.in_list_reads r2 r1 c2 c1 hr ⟨.bl _,H,I,rfl,q⟩,λq=>SeqAt.notIn_list_reads r2 r1 c2 c1 hr ⟨.bl _,H,I,rfl,q⟩⟩
   .obtain⟨⟨bs,r2⟩,c2,_⟩:=uc I R (deep+1) (.tup sa ra) rfl big
    have c2':PyData.canLayAll0 ds=true:=by unfold PyData.canLay0 at c2;exact c2
    exact⟨λq=>SeqAt.in_tuple_reads r2 r1 c2' c1 hr ⟨.bl _,H,I,rfl,q⟩,λq=>SeqAt.notIn_tuple_reads r2 r1 c2' c1 hr ⟨.bl _,H,I,rfl,q⟩⟩
  .cases e
 .cases e
def Ck(hu:X.A.units+64<cLine):qo X (compareOp .In) (rM X.K cl (gH false)):=by
 rintro pins s σ H x y v u Q I rx ry ⟨μ,h,wx,wy,w,h',R,ax,ay,e,k⟩;unfold gH at e;split at e
 .rename_i b eb
  cases e;exact(UM hu I rx ry R ax ay eb).1 (k.pure R (.bl _))
 .cases e
end
inductive Ty where
 | int | str | bool | tuple | list | dict
 deriving DecidableEq
noncomputable def Ty.name:Ty->String
 | .int=>"int" | .str=>"str" | .bool=>"bool" | .tuple=>"tuple" | .list=>"list" | .dict=>"dict"
noncomputable def iO(h:MH):W->Option Ty
 | .bl _=>some .bool
 | .int _=>some .int
 | .str _=>some .str
 | .tup _=>some .tuple
 | .fls _=>some .list
 | .ref n=>match h[n]? with
  | some (.lst _)=>some .list
  | some (.dic _)=>some .dict
  | _=>none
 | .fdc _=>some .dict
 | .fn _=>none
 | .non=>none
noncomputable def sk(T:Ty)(x:W)(h:MH):Option Bool:=match x with
 | .non=>some false
 | x=>match iO h x with
  | some t=>some (decide (t=T)||(decide (t=.bool)&&decide (T=.int)))
  | none=>none
noncomputable def isW(T:Ty)(x:W):M W:=λh=>match sk T x h with
 | some b=>some (.bl b,h)
 | none=>none
def Jr(K:PySem.W.Frag):∀(t T:Ty),PySem.W.kitOne K (.type t.name) (.type T.name)=some (decide (t=T)||(decide (t=.bool)&&decide (T=.int))):=by
 intro t T;cases t<;>cases T<;>kernel_rfl
def QX(K:PySem.W.Frag):∀(T:Ty),PySem.W.kitOne K (.type "NoneType") (.type T.name)=some false:=by
 intro T;cases T<;>kernel_rfl
section
variable{X:Cx}{cl:Cl}{a:Expr}{ma:ME}{pos p p2:Pos}
def J9(T:Ty):yB X (.builtin "isinstance") (λxs H Q=>∃x,xs=[x,.ty T.name]/\rM1 X.K cl (isW T) x H Q):=by
 rintro pins s σ H xs us Q I rs ⟨x,rfl,μ,h,wx,w,h',R,ax,e,k⟩;obtain⟨u,u2,rfl,ru,ru2⟩:=vals2 rs;obtain rfl:u2=.type T.name:=ru2;unfold isW at e;split at e
 .rename_i b eb
  cases e;have q:Q (.bl b) H:=k.pure R (.bl _);have fin:∀tk,EP X pins σ Q (.bool b) { s with toks:=tk }:=λtk=>⟨.bl b,H,I.tok tk,rfl,q⟩
  have go:∀{t:Ty},iO h wx=some t->PySem.W.kitOne X.K (.type t.name) (.type T.name)=some b:=λ{t} e1=>by
   rw[Jr];unfold sk at eb;split at eb
   .cases e1
   .rw[e1] at eb;exact eb
  cases ax with
  | non=>
   cases eb;cases ru;exact ji PySem.W.kitx_none I.kIn True.intro (QX X.K T) (λz=>nomatch z) fin
  | bl y=>cases ru;exact ji PySem.W.kitx_bool I.kIn True.intro (go (t:=.bool) rfl) (λz=>nomatch z) fin
  | int i=>obtain⟨t,rfl⟩:=ru;exact ji PySem.W.kitx_int I.kIn True.intro (go (t:=.int) rfl) (λz=>nomatch z) fin
  | str y=>obtain⟨t,rfl⟩:=ru;exact ji PySem.W.kitx_str I.kIn True.intro (go (t:=.str) rfl) (λz=>nomatch z) fin
  | @tup a vs l sa ra=>
   cases ru;obtain⟨its,_,⟨o,h1,h2,_⟩,_⟩:=I.tuple sa;exact ji xF I.kIn ⟨o,h1,h2⟩ (go (t:=.tuple) rfl) (λz=>nomatch z) fin
  | @fls a vs l sa ra=>
   cases ru;obtain⟨its,_,⟨o,n,h1,h2,_⟩,_⟩:=I.list sa.sq;exact ji vW I.kIn ⟨o,h1,h2⟩ (go (t:=.list) rfl) (λz=>nomatch z) fin
  | @fdc a l l' ws vs sa kk e1 e2 ra=>
   cases ru;have g:=go (t:=.dict) rfl;obtain⟨_,_,vs',_,dd⟩:=fe I.hok sa.1;obtain⟨o,es,ep,h1,h2,_⟩:=dd;exact ji wZ I.kIn ⟨o,h1,h2.1⟩ g (λz=>nomatch z) fin
  | @fn a=>
   simp only[sk,iO] at eb;cases eb
  | @ref n a hn=>
   cases ru;cases et:iO h (.ref n) with
   | none=>simp only[sk,et] at eb;cases eb
   | some t=>
    have g:=go et;simp only[iO] at et;split at et
    .rename_i l ho
     cases et;obtain⟨vs,hv,_⟩:=R.ob n a _ hn ho;obtain⟨its,_,⟨o,n,h1,h2,_⟩,_⟩:=I.list (SqL.of hv);exact ji vW I.kIn ⟨o,h1,h2⟩ g (λz=>nomatch z) fin
    .rename_i l ho
     cases et;obtain⟨l',hv,_⟩:=R.ob n a _ hn ho;exact QD (x:=.ref a) I rfl (.dK hv) g fin
    .cases et
 .cases e
def BC(T:Ty)(ha:SE X cl a ma)(hi:X.mg "isinstance" = none)(ht:X.mg y=none)(hv:bootBuiltins y=some (.type T.name))(hg:↥(Gl X "isinstance"))(hg2:↥(Gl X y))
  (hn:⇑(y≠"__name__")) (hdb:⇑((y==("__debug__":Str))=false))
  (hs1:↥(starEach [a,.Name y p2] X.env=(false,eval a X.env)::starEach [.Name y p2] X.env)) (hs2:↥(starEach [.Name y p2] X.env=(false,eval (.Name y p2) X.env)::starEach [] X.env))
  (hpl:↥((backTo pos (starEach [.Name y p2] X.env)).any (·.1)=false)):SE X cl (.Call (.Name "isinstance" p) [a,.Name y p2] [] pos) (uf (isW T) ma):=
 PE.wk (pD (J9 (cl:=cl) T) hg hi PyProof.Rows.boot_isinstance (ni ha (ni (X9 hg2 ht hv (show RelV (.ty T.name) (.type T.name) from rfl) hn hdb) J1 hs2) hs1) (by decide) (by decide) hs1 hpl) λσ H Q q0=>by
  obtain⟨μ,h,ρ,w,h',R,er,e,k⟩:=q0;obtain⟨x,h1,e1,e⟩:=ka e;exact⟨μ,h,ρ,x,h1,R,er,e1,λμ1 H1 vx E1 R1 rx=>⟨vx,rfl,μ1,h1,x,w,h',R1,rx,e,k.ext E1⟩⟩
noncomputable def xE(ws:List W):M W:=λh=>match ws with
 | [.tup l]=>some (.tup l,h)
 | [w]=>match getL h w with
  | some l=>some (.tup l,h)
  | none=>none
 | _=>none
noncomputable def fy(ws:List W):M W:=λh=>match ws with
 | [w]=>match xS h w with
  | some l=>some (.fls l,h)
  | none=>none
 | _=>none
def tJ:yB X (.type "tuple") (rMs X.K cl xE):=by
 rintro pins s σ H xs us Q I rs ⟨μ,h,ws,w,h',R,ax,e,k⟩;unfold xE at e;split at e
 .rename_i l
  cases e;cases ax with | cons r t=>cases t with | nil=>
   obtain⟨a,vs,rfl,sa,ra⟩:=r.tup_of;exact gF pins s σ H _ us Q I rs ⟨a,vs,rfl,.inr ⟨sa,k.pure R (.tup sa ra)⟩⟩
 .split at e
  .rename_i l el
   cases e;cases ax with | cons r t=>cases t with | nil=>
    obtain⟨a,vs,rfl,sa,ra⟩:=y9 R r el;exact gF pins s σ H _ us Q I rs ⟨a,vs,rfl,.inl ⟨sa,λp hp=>k.tup R ra hp⟩⟩
  .cases e
 .cases e
def KP:yB X (.type "list") (rMs X.K cl fy):=by
 rintro pins s σ H xs us Q I rs ⟨μ,h,ws,w,h',R,ax,e,k⟩;unfold fy at e;split at e
 .split at e
  .rename_i l el
   cases e;cases ax with | cons r t=>cases t with | nil=>
    obtain⟨a,vs,rfl,sa,ra⟩:=f7 R r el;exact oZ pins s σ H _ us Q I rs ⟨a,vs,rfl,sa,λp hp=>k.fls R ra hp⟩
  .cases e
 .cases e
end
noncomputable def qa(x:W)(ws:List W):M W:=λh=>match x,ws with
 | .ref n,[y]=>match h[n]? with
  | some (.lst l)=>if l.length<cap then some (.non,h.set n (.lst (l++[y]))) else none
  | _=>none
 | _,_=>none
noncomputable def uK(x:W)(ws:List W):M W:=λh=>match x,ws with
 | .ref n,[y]=>match h[n]?,xS h y with
  | some (.lst l),some l'=>if l.length+l'.length<=cap then some (.non,h.set n (.lst (l++l'))) else none
  | _,_=>none
 | _,_=>none
noncomputable def uG(x:W)(ws:List W):M W:=λh=>match x,ws with
 | .ref n,[]=>match h[n]? with
  | some (.lst l)=>match l[l.length-1]? with
   | some y=>some (y,h.set n (.lst l.dropLast))
   | none=>none
  | _=>none
 | _,_=>none
noncomputable def kK(f:W->List W->M W)(o:ME)(ms:List ME):ME:=λρ=>bnd (o ρ) λx h=>if (getL h x).isSome=true then bnd (ko ms ρ) (λws=>f x ws) h else none
section
variable{X:Cx}{cl:Cl}{o e:Expr}{es:List Expr}{mo:ME}{ms:List ME}{apos cpos:Pos}{f:W->List W->M W}
inductive rMm(K:PySem.W.Frag)(cl:Cl)(f:W->List W->M W)(x:V)(xs:List V)(H:Hp)(Q:VK):Prop
 | mk (μ:List Addr) (h:MH) (wx:W) (ws:List W) (w:W) (h':MH) (p0:HR K cl μ H h) (p1:RW K μ H wx x) (p2:RWs K μ H ws xs) (p3:f wx ws h=some (w,h')) (p4:KQ K cl μ H h' w Q):rMm K cl f x xs H Q
def nS{H:Hp}(q:tM X.K cl (kK f mo ms) σ H Q):DR X.K "list" (rMm X.K cl f) (tM X.K cl mo) (tMA X.K cl ms) σ H Q:=by
 obtain⟨μ,h,ρ,w,h',R,er,e,k⟩:=q;obtain⟨x,h1,e1,e⟩:=ka e;split at e
 .rename_i hl
  obtain⟨ws,h2,e2,e⟩:=ka e;refine⟨μ,h,ρ,x,h1,R,er,e1,λμ1 H1 vx E1 R1 rx=>?_⟩;obtain⟨l,hl⟩:=qe.mp hl;obtain⟨a,vs,rfl,sa,ra⟩:=y9 R1 rx hl;exact⟨.inl ⟨rfl,vs,sa⟩,μ1,h1,ρ,ws,h2,R1,er.ext R E1,e2,λμ2 H2 xs E2 R2 rs=>⟨μ2,h2,x,ws,w,h',R2,rx.ext R1 E2,rs,e,k.ext (E1.trans E2)⟩⟩
 .cases e
def Z5{H:Hp}(q:tM X.K cl (kK f mo []) σ H Q):Ci X.K "list" (rMm X.K cl f) (tM X.K cl mo) σ H Q:=by
 obtain⟨μ,h,ρ,w,h',R,er,e,k⟩:=q;obtain⟨x,h1,e1,e⟩:=ka e;split at e
 .rename_i hl
  obtain⟨ws,h2,e2,e⟩:=ka e;cases e2;refine⟨μ,h,ρ,x,h1,R,er,e1,λμ1 H1 vx E1 R1 rx=>?_⟩;obtain⟨l,hl⟩:=qe.mp hl;obtain⟨a,vs,rfl,sa,ra⟩:=y9 R1 rx hl;exact⟨.inl ⟨rfl,vs,sa⟩,μ1,h1,x,[],w,h',R1,rx,.nil,e,k.ext E1⟩
 .cases e
theorem KQ.put{K:PySem.W.Frag}{μ:List Addr}{H:Hp}{h:MH}{n:Nat}{a:Addr}(k:KQ K cl μ H (h.set n (.lst l)) w Q)(R:HR K cl μ H h)(hn:μ[n]?=some a)(rs:RWs K μ H l vs)(r:RW K μ H w v):Q v (upd H a (.lst vs)):=
 k μ _ v (.put hn) (R.put hn ⟨vs,qc,rs.ext R (.put hn)⟩) (r.ext R (.put hn))
def Z1:JD X "list.append" (rMm X.K cl qa):=by
 rintro pins s σ H x xs v us Q I rx rs ⟨μ,h,wx,ws,w,h',R,ax,as,e,k⟩;unfold qa at e;split at e
 .rename_i n y
  split at e
  .rename_i l ho
   split at e
   .rename_i hl
    cases e;cases ax with | @ref _ a hn=>
    cases as with | cons r t=>cases t with | nil=>
    obtain⟨vs,hv,rl⟩:=R.ob n a _ hn ho;exact om pins s σ H _ _ v us Q I rx rs ⟨a,vs,_,rfl,rfl,hv,zN (by rw[<-rl.length];exact hl) uh,k.put R hn (rl.append (.cons r .nil)) .non⟩
   .cases e
  .cases e
 .cases e
def XM:JD X "list.pop" (rMm X.K cl uG):=by
 rintro pins s σ H x xs v us Q I rx rs ⟨μ,h,wx,ws,w,h',R,ax,as,e,k⟩;unfold uG at e;split at e
 .rename_i n
  split at e
  .rename_i l ho
   split at e
   .rename_i y hy
    cases e;cases ax with | @ref _ a hn=>
    cases as;obtain⟨vs,hv,rl⟩:=R.ob n a _ hn ho;obtain⟨v',ev,rv⟩:=rl.get hy;exact CI pins s σ H _ _ v us Q I rx rs ⟨a,vs,v',rfl,rfl,hv,by rw[<-rl.length];exact ev,k.put R hn rl.dropLast rv⟩
   .cases e
  .cases e
 .cases e
def pX(T:String)(hT:T="list" \/ T="tuple")(l:Addr)(items:Array Value)(n:Nat)(b:Addr)(items2:Array Value)(n2:Nat)(dd2:Option Addr)(sl2:Array (Option Value))(hc0:¬(!items.isEmpty&&Builtin.List.listTooLong (items.size+items2.size))=true)(hc1:items.size<=sizeLine)(hs2:items.size+items2.size<=sizeLine+1) :
  Meets (Builtin.«list.extend» ⟨[.ref l,.ref b],[]⟩) (λ_ R s=>s.heap.get? l=some { cls:=.type "list",dict:=none,data:=.seq items n,slots:=#[] }/\s.heap.get? b=some { cls:=.type T,dict:=dd2,data:=.seq items2 n2,slots:=sl2 }/\R (.ok (.ret Value.none)) { s with heap:=s.heap.update l (Obj.mapSeq λx=>x++items2),toks:=s.toks }):=by
 rcases hT with rfl | rfl
 .exact .of_wp λprog w A R s h=>by
   obtain⟨hp,g,d,tk,os⟩:=s;obtain⟨hl,hb,h⟩:=h;have f1:=vK;have f2:=xK;have f3:=AutoSeq1.sub_list_list;have f4:=AutoSeq1.sub_tuple_list;have f5:=AutoSeq1.sub_list_tuple;have hz':(items++items2).size<=sizeLine+1:=by rw[Array.size_append];exact hs2
   wp_walk using (vQ hl rfl (hz:=hc1) (_hz':=hz')),wpAny_loadPart' hl,wpAny_loadPart' hb;exact⟨_,rfl,h⟩
 .exact .of_wp λprog w A R s h=>by
   obtain⟨hp,g,d,tk,os⟩:=s;obtain⟨hl,hb,h⟩:=h;have f1:=vK;have f2:=xK;have f3:=AutoSeq1.sub_list_list;have f4:=AutoSeq1.sub_tuple_list;have f5:=AutoSeq1.sub_list_tuple;have hz':(items++items2).size<=sizeLine+1:=by rw[Array.size_append];exact hs2
   wp_walk using (vQ hl rfl (hz:=hc1) (_hz':=hz')),wpAny_loadPart' hl,wpAny_loadPart' hb;exact⟨_,rfl,h⟩
def Kk{H:Hp}{xs zs:List V}(I:Inv X pins σ H s)(rx:RelV (.ref l) v)(ru:RelV (.ref b) u)(hH:H l=some (.lst xs))(hB:SqL X.K H b zs\/SqT X.K H b zs)(hz:xs.length+zs.length<=sizeLine)
  (q:Q .non (upd H l (.lst (xs++zs)))):wpAny (model X.prog X.w) X.A (call (.builtin "list.extend") [v,u]) (EP X pins σ Q) X.xe s:=by
 cases rx;cases ru;obtain⟨z,its,n,r,hl,e⟩:=I.lstM hH;have go:∀{T:String} {its2:List Value} {n2:Nat} {dd2:Option Addr} {sl2:Array (Option Value)},(T="list" \/ T="tuple")->Vals zs its2->s.heap.get? b=some { cls:=.type T,dict:=dd2,data:=.seq its2.toArray n2,slots:=sl2 }->
   wpAny (model X.prog X.w) X.A (call (.builtin "list.extend") [.ref l,.ref b]) (EP X pins σ Q) X.xe s:=by
  intro T its2 n2 dd2 sl2 hT r2 e2;have hl2:=r2.length;have hsz:its.toArray.size+its2.toArray.size<=sizeLine:=by rw[zM,zM];omega
  have hlong:¬(!its.toArray.isEmpty&&Builtin.List.listTooLong (its.toArray.size+its2.toArray.size))=true:=by
   rw[VU hsz,Bool.and_false];exact kh
  refine vq F.slot_list_extend ⟨_,e,rfl⟩ F.entry_list_extend (F.args_list_extend_2 _ _) (pX T hT l its.toArray n b its2.toArray n2 dd2 sl2 hlong (by rw[zM];omega) ∅) ⟨e,e2,?_⟩;refine⟨.non,_,I.lset (its':=its++its2) hH e (by simp) (r.append r2) ?_,rfl,q⟩;rw[zK];omega
 rcases hB with hB | hB
 .obtain⟨its2,r2,⟨⟨c2,d2,dt2,sl2⟩,n2,h1,h2,h3,h4⟩,_⟩:=I.list hB
  simp only at h2 h4;subst h2 h4;exact go (.inl rfl) r2 h1
 .obtain⟨its2,r2,⟨⟨c2,d2,dt2,sl2⟩,h1,h2,n2,h4⟩,_⟩:=I.tuple hB
  simp only at h2 h4;subst h2 h4;exact go (.inr rfl) r2 h1
def Z9:JD X "list.extend" (rMm X.K cl uK):=by
 rintro pins s σ H x xs v us Q I rx rs ⟨μ,h,wx,ws,w,h',R,ax,as,e,k⟩;unfold uK at e;split at e
 .rename_i n y
  split at e
  .rename_i l l' ho el
   split at e
   .rename_i hl
    cases e;cases ax with | @ref _ a hn=>
    cases as with | cons r t=>cases t with | nil=>
    obtain⟨vs,hv,rl⟩:=R.ob n a _ hn ho;obtain⟨b,zs,rfl,sb,rb⟩:=f7 R r el;obtain⟨u,rfl,ru⟩:=rs.one;exact Kk I rx ru hv sb (zT (by rw[<-rl.length,<-rb.length];exact hl) uh) (k.put R hn (rl.append rb) .non)
   .cases e
  .cases e
 .cases e
def JS(ho:SE X cl o mo)(ha:SA X cl (e::es) ms)(hbase:↥(attributeBase o "append" X.env (eval o X.env)=eval o X.env))
  (hfew:((backTo cpos (starEach (e::es) X.env)).all (λx=>!x.1)&&(backToKw cpos (keywordEach [] X.env)).all (λx=>x.1.isSome)
   && decide ((e::es).length+([]:List Keyword).length+(if ([]:List Keyword).isEmpty then 0 else 1)<30))=true:=by rfl)
  (hline:↥((apos.endLine==cpos.line)=true)) (hs:↥(starEach (e::es) X.env=(false,eval e X.env)::starEach es X.env)) (hplain:↥((backTo cpos (starEach es X.env)).any (·.1)=false)) :
  SE X cl (.Call (.Attribute o "append" apos) (e::es) [] cpos) (kK qa mo ms):=
 PE.wk (Yd vZ PySem.F.slot_list_append PySem.F.type_list_append Z1 ho ha hbase hfew hline hs hplain) λσ H Q q=>nS q
def KY(ho:SE X cl o mo)(ha:SA X cl (e::es) ms)(hbase:↥(attributeBase o "extend" X.env (eval o X.env)=eval o X.env))
  (hfew:((backTo cpos (starEach (e::es) X.env)).all (λx=>!x.1)&&(backToKw cpos (keywordEach [] X.env)).all (λx=>x.1.isSome)
   && decide ((e::es).length+([]:List Keyword).length+(if ([]:List Keyword).isEmpty then 0 else 1)<30))=true:=by rfl)
  (hline:↥((apos.endLine==cpos.line)=true)) (hs:↥(starEach (e::es) X.env=(false,eval e X.env)::starEach es X.env)) (hplain:↥((backTo cpos (starEach es X.env)).any (·.1)=false)) :
  SE X cl (.Call (.Attribute o "extend" apos) (e::es) [] cpos) (kK uK mo ms):=
 PE.wk (Yd vZ PySem.F.slot_list_extend PySem.F.type_list_extend Z9 ho ha hbase hfew hline hs hplain) λσ H Q q=>nS q
def Cv(ho:SE X cl o mo)(hbase:↥(attributeBase o "pop" X.env (eval o X.env)=eval o X.env))(hline:↥((apos.endLine==cpos.line)=true)) :
  SE X cl (.Call (.Attribute o "pop" apos) [] [] cpos) (kK uG mo []):=
 PE.wk (BV vZ PySem.F.slot_list_pop PySem.F.type_list_pop XM ho hbase hline) λσ H Q q=>Z5 q
end
noncomputable def srcOf(x:W):M Src:=λh=>match x with
 | .tup l=>some (.items l,h)
 | .fls l=>some (.items l,h)
 | .ref n=>match h[n]? with
  | some (.lst _)=>some (.live n,h)
  | _=>none
 | _=>none
noncomputable def qS(m:ME):MI:=λρ=>bnd (m ρ) srcOf
noncomputable def upto(n:Nat):List W:=(_root_.List.range n).map λ(i:Nat)=>W.int (i:Int)
noncomputable def ae(ws:List W):M Src:=λh=>match ws with
 | [.int j]=>if -(2 ^ 62)<=j/\j<2 ^ 62 then some (.items (upto j.toNat),h) else none
 | _=>none
noncomputable def qk(ms:List ME):MI:=λρ=>bnd (ko ms ρ) ae
section
variable{X:Cx}{cl:Cl}{tg e:Expr}{m:ME}{ms:List ME}{p pos:Pos}
def Cc(hl:PE X e tl):PI X tg e (λσ H R=>tl σ H λx H1=>∃a,x=.ref a/\(((∃xs,SqL X.K H1 a xs)/\R (Yr X.K a) H1)\/((∃xs,SqT X.K H1 a xs)/\R (CC X.K a) H1))):=by
 intro pins s σ H R I h;refine kC (hl pins s σ H _ I h) λv s1 ⟨x,H1,I1,r1,q1⟩=>?_
 obtain⟨a,e,q1⟩:=q1;subst e;cases r1;rcases q1 with ⟨⟨xs,hq⟩,q⟩ | ⟨⟨xs,hq⟩,q⟩
 .obtain⟨its,rv,p,hz⟩:=I1.list hq
  refine vo p.isList ?_;refine⟨s1.heap.objs.size,[s1.heap.objs.size],_,_,H1,rfl,I1.kept (t':=s1.toks) λb o e=>zf _ e,Ju a _,⟨_,zO _ rfl,rfl,rfl⟩,λb hb=>?_,q⟩;have e:b=s1.heap.objs.size:=by simpa using hb
  subst e;exact I1.fpOk (zg _) (I1.hok.fresh (zg _))
 .obtain⟨its,rv,p,hz⟩:=I1.tuple hq
  refine ym (show s1.heap.IsTuple a its.toArray from p) ?_;refine⟨s1.heap.objs.size,[s1.heap.objs.size],_,_,H1,rfl,I1.kept (t':=s1.toks) λb o e=>zf _ e,Kd a _,⟨_,zO _ rfl,rfl,rfl⟩,λb hb=>?_,q⟩;have e:b=s1.heap.objs.size:=by simpa using hb
  subst e;exact I1.fpOk (zg _) (I1.hok.fresh (zg _))
def BD{K:PySem.W.Frag}{μ:List Addr}{H:Hp}{h:MH}(R:HR K cl μ H h)(sa:SqT K H a vs)(ra:RWs K μ H l vs):JR K cl (CC K a) (.items l) μ H:=by
 intro μ2 H2 h2 E2 R2 i;have sa2:=SqT.ext R E2 sa;have ra2:=ra.ext R E2;refine⟨λw ew=>?_,λes=>?_⟩
 .have ew':l[i]?=some w:=zZ ew
  obtain⟨v,ev,rv⟩:=ra2.get ew';refine⟨⟨vs,v,sa2,ev⟩,λx H3 y=>?_⟩;obtain⟨rfl,y⟩:=y;have:=y vs sa2;rw[ev] at this;cases this;exact⟨.refl,R2,rv⟩
 .have es':l[i]?=none:=zZ es
  exact⟨vs,sa2,by rw[<-ra.length];exact jK.mp es'⟩
def BK{K:PySem.W.Frag}{μ:List Addr}{H:Hp}{h:MH}(R:HR K cl μ H h)(sa:SqF K μ H a vs)(ra:RWs K μ H l vs):JR K cl (Yr K a) (.items l) μ H:=by
 intro μ2 H2 h2 E2 R2 i;have sa2:=(SqF.ext E2 sa).sq;have ra2:=ra.ext R E2;refine⟨λw ew=>?_,λes=>?_⟩
 .have ew':l[i]?=some w:=zZ ew
  obtain⟨v,ev,rv⟩:=ra2.get ew';refine⟨⟨vs,v,sa2,ev⟩,λx H3 y=>?_⟩;obtain⟨rfl,y⟩:=y;have:=y vs sa2;rw[ev] at this;cases this;exact⟨.refl,R2,rv⟩
 .have es':l[i]?=none:=zZ es
  exact⟨vs,sa2,by rw[<-ra.length];exact jK.mp es'⟩
def X8{K:PySem.W.Frag}{μ:List Addr}{H:Hp}(hn:μ[n]?=some a):JR K cl (Yr K a) (.live n) μ H:=by
 intro μ2 H2 h2 E2 R2 i;have hn2:=E2.get hn;refine⟨λw ew=>?_,λes=>?_⟩
 .unfold xt at ew
  dsimp only at ew;split at ew
  .rename_i l ho
   have ew':l[i]?=some w:=zZ ew;obtain⟨vs,hv,ra⟩:=R2.ob n a _ hn2 ho;obtain⟨v,ev,rv⟩:=ra.get ew';refine⟨⟨vs,v,SqL.of hv,ev⟩,λx H3 y=>?_⟩;obtain⟨rfl,y⟩:=y;have:=y vs (SqL.of hv);rw[ev] at this;cases this;exact⟨.refl,R2,rv⟩
  .cases ew
 .unfold xt at es
  dsimp only at es;split at es
  .rename_i l ho
   have es':l[i]?=none:=zZ es;obtain⟨vs,hv,ra⟩:=R2.ob n a _ hn2 ho;exact⟨vs,SqL.of hv,by rw[<-ra.length];exact jK.mp es'⟩
  .cases es
def BB(he:SE X cl e m):SI X cl tg e (qS m):=PI.wk (Cc he) λσ H Q q0=>by
 obtain⟨μ,h,ρ,src,h',R,er,e,k⟩:=q0;obtain⟨x,h1,e1,e⟩:=ka e;refine⟨μ,h,ρ,x,h1,R,er,e1,λμ1 H1 v E1 R1 r=>?_⟩;unfold srcOf at e;split at e
 .cases e
  obtain⟨a,vs,rfl,sa,ra⟩:=r.tup_of;exact⟨a,rfl,.inr ⟨⟨vs,sa⟩,k μ1 H1 _ E1 R1 (BD R1 sa ra)⟩⟩
 .cases e
  cases r with | @fls a vs l sa ra=>
  exact⟨a,rfl,.inl ⟨⟨vs,sa.sq⟩,k μ1 H1 _ E1 R1 (BK R1 sa ra)⟩⟩
 .rename_i n
  split at e
  .rename_i l ho
   cases e;cases r with | @ref _ a hn=>
   obtain⟨vs,hv,ra⟩:=R1.ob n a _ hn ho;exact⟨a,rfl,.inl ⟨⟨vs,SqL.of hv⟩,k μ1 H1 _ E1 R1 (X8 hn)⟩⟩
  .cases e
 .cases e
def UD{K:PySem.W.Frag}{μ:List Addr}{H:Hp}:JR K cl (Ye 0 n) (.items (upto n)) μ H:=by
 intro μ2 H2 h2 E2 R2 i;refine⟨λw ew=>?_,λes=>?_⟩
 .have ew':(upto n)[i]?=some w:=zZ ew
  unfold upto at ew';rw[jb] at ew';by_cases hi:i<n
  .rw[List.getElem?_range hi] at ew'
   cases ew';refine⟨hi,λx H3 y=>?_⟩;obtain⟨rfl,rfl⟩:=y;exact⟨.refl,R2,by rw[Int.zero_add];exact .int _⟩
  .rw[jV (by simpa using hi)] at ew'
   cases ew'
 .have es':(upto n)[i]?=none:=zZ es
  have:=jK.mp es';unfold upto at this;rw[zB,jF] at this;exact this
def UY(hm:X.mg "range" = none)(ha:SA X cl [e] ms)(hg:↥(Gl X "range"))(hs:↥(starEach [e] X.env=[(false,eval e X.env)])):SI X cl tg (.Call (.Name "range" p) [e] [] pos) (qk ms):=
 PI.wk (Qn hg hm ha hs) λσ H Q q0=>by
  obtain⟨μ,h,ρ,src,h',R,er,e,k⟩:=q0;obtain⟨ws,h1,e1,e⟩:=ka e;refine⟨μ,h,ρ,ws,h1,R,er,e1,λμ1 H1 vs E1 R1 rs=>?_⟩;unfold ae at e;split at e
  .rename_i j
   split at e
   .rename_i hj
    cases e;cases rs with | cons r t=>cases t with | nil=>
    cases r.int_of;exact⟨j,rfl,hj.1,hj.2,k μ1 H1 _ E1 R1 UD⟩
   .cases e
  .cases e
end
noncomputable def gM(sc scope:Scope):Scope:={ scope with names:=scope.names.map λ(n,k)=>if (k==.free&&sc.kind==.function&&sc.names.lookup n==some .cell) then (n,.cell) else (n,k) }
noncomputable def hZ(sc:Scope)(x:Str):Bool:=sc.names.lookup x==some .cell||sc.names.lookup x==some .free
noncomputable def ux(sc:Scope)(N:List Str)(scope:Scope)(N':List Str)(nl:Nat)(ks:List Nat):Bool:=
 scope.kind==.function&&scope.names.all (λy=>y.2 != .cell)&&scope.names.all (λy=>y.2 != .local||scope.names.lookup y.1==some .local)
 && N'.length==nl+ks.length&&scope.names.all (λy=>y.2 != .free||hZ sc y.1)
 && (List.range ks.length).all λj=>match ks[j]?,N'[nl+j]? with
  | some k,some x=>N[k]?==some x&&hZ sc x&&hZ (gM sc scope) x
  | _,_=>false
structure CompOk(sc:Scope)(N:List Str)(scope:Scope)(N':List Str)(nl:Nat)(ks:List Nat):Prop where
 kind:scope.kind=.function
 ncell:∀y∈scope.names,y.2≠.cell
 names:∀y∈scope.names,y.2=.local->scope.names.lookup y.1=some .local
 len:N'.length=nl+ks.length
 fall:∀y∈scope.names,y.2=.free->hZ sc y.1=true
 fr:∀j k,ks[j]?=some k->∃x,N[k]?=some x/\N'[nl+j]?=some x/\hZ sc x=true/\hZ (gM sc scope) x=true
def u3(h:ux sc N scope N' nl ks=true):CompOk sc N scope N' nl ks:=by
 unfold ux at h;simp only[zx] at h;obtain⟨⟨⟨⟨⟨h1,h2⟩,h3⟩,h4⟩,h5⟩,h6⟩:=h;refine⟨by simpa using h1,λy hy=>?_,λy hy e=>?_,by simpa using h4,λy hy e=>?_,λj k e=>?_⟩
 .have:=kJ.mp h2 y hy;simpa using this
 .have:=kJ.mp h3 y hy;simpa[e] using this
 .have:=kJ.mp h5 y hy;simpa[e] using this
 .have hj:j<ks.length:=(zU.mp e).1
  have:=kJ.mp h6 j (yE.mpr hj);rw[e] at this;cases e2:N'[nl+j]? with
  | none=>rw[e2] at this;simp at this
  | some x=>
   rw[e2] at this;simp only[zx] at this;exact⟨x,by simpa using this.1.1,rfl,this.1.2,this.2⟩
def gN{sc:Scope}(h:hZ sc x=true):sc.names.lookup x=some .cell\/sc.names.lookup x=some .free:=by
 unfold hZ at h;rcases xu.mp h with h | h
 .exact .inl (by simpa using h)
 .exact .inr (by simpa using h)
noncomputable def wq(X:Cx)(scope:Scope)(cs:List (Str×Addr))(C:Addr)(N:List Str)(s₀:Shared)(H₀:Hp)(ex:List Addr):Cx:=
 { X with N:=N,s₀:=s₀,H₀:=H₀,env:=compEnvC scope cs C X.env,outer:=X.stack,ex:=ex,fn:=λ_=>false,pn:=[],xe:=λ_ _=>False }
def Z3{env:Env}(names:List (Str×NameKind))(h:∀y∈names,y.2=.free->∃c,env.cells.lookup y.1=some c):∀cs0:List (Str×Addr),(∀x c,cs0.lookup x=some c->env.cells.lookup x=some c)->
  ∃cs,(forIn names cs0 λ(x:Str×NameKind) (r:List (Str×Addr))=>if (x.2==NameKind.free)=true then do
    let a <-cellOf env x.1
    pure (ForInStep.yield ((x.1,a)::r)) else pure (ForInStep.yield r):Sem (List (Str×Addr)))=pure cs/\(∀x c,cs.lookup x=some c->env.cells.lookup x=some c)/\(∀y∈names,y.2=.free->∃c,cs.lookup y.1=some c)/\∀x c,cs0.lookup x=some c->∃c',cs.lookup x=some c':=by
 induction names with
 | nil=>intro cs0 h0;exact⟨cs0,by simp,h0,λy hy=>by simp at hy,λx c e=>⟨c,e⟩⟩
 | cons y r ih=>
  intro cs0 h0;have hr:∀z∈r,z.2=.free->∃c,env.cells.lookup z.1=some c:=λz hz=>h z (zP _ hz)
  by_cases hy:(y.2==NameKind.free)=true
  .obtain⟨c,hc⟩:=h y z9 (by simpa using hy)
   have h1:∀x c',((y.1,c)::cs0).lookup x=some c'->env.cells.lookup x=some c':=λx c' e=>by
    rw[kI] at e;split at e
    .rename_i q
     have:x=y.1:=by simpa using q
     subst this;rw[<-e];exact hc
    .exact h0 x c' e
   obtain⟨cs,e1,e2,e3,e4⟩:=ih hr ((y.1,c)::cs0) h1;have hself:∃c',cs.lookup y.1=some c':=e4 y.1 c (by rw[kI];simp);refine⟨cs,?_,e2,λz hz e=>?_,λx c' e=>?_⟩
   .rw[qX,zY hy]
    have:cellOf env y.1=pure c:=by unfold cellOf;rw[hc]
    rw[this];simp only[pure_bind];exact e1
   .rcases zb.mp hz with rfl | hz
    .exact hself
    .exact e3 z hz e
   .by_cases q:x=y.1
    .subst q;exact hself
    .refine e4 x c' ?_
     rw[kI];have:(x==y.1)=false:=by simpa using q
     rw[this];exact e
  .obtain⟨cs,e1,e2,e3,e4⟩:=ih hr cs0 h0
   refine⟨cs,?_,e2,λz hz e=>?_,e4⟩
   .rw[qX,jc hy]
    simp only[pure_bind];exact e1
   .rcases zb.mp hz with rfl | hz
    .exact absurd (by simpa using e) hy
    .exact e3 z hz e
theorem oz{env:Env}{scope:Scope}(h:∀y∈scope.names,y.2=.free->∃c,env.cells.lookup y.1=some c) :
  ∃cs,closureFor scope env=pure cs/\(∀x c,cs.lookup x=some c->env.cells.lookup x=some c)/\(∀y∈scope.names,y.2=.free->∃c,cs.lookup y.1=some c):=by
 obtain⟨cs,e1,e2,e3,_⟩:=Z3 scope.names h [] (λx c e=>by simp at e);refine⟨cs,?_,e2,e3⟩
 have q:closureFor scope env=((forIn scope.names ([]:List (Str×Addr)) λ(x:Str×NameKind) (r:List (Str×Addr))=>if (x.2==NameKind.free)=true then do
    let a <-cellOf env x.1
    pure (ForInStep.yield ((x.1,a)::r)) else pure (ForInStep.yield r):Sem (List (Str×Addr))) >>= λcs=>pure cs):=rfl
 rw[q,e1];rfl
section
variable{X:Cx}{pins:List (Addr×Obj)}{σ:L2.St}{H:Hp}{s:Shared}
def rS{scope:Scope}(nc:∀y∈scope.names,y.2≠.cell)(h:hZ (gM sc scope) x=true):∃y∈scope.names,y.1=x/\y.2=.free:=by
 have go:∀l:List (Str×NameKind),(∀y∈l,y.2≠.cell)->∀k:NameKind,(k=.cell\/k=.free)->(l.map λ(n,k)=>if (k==NameKind.free&&sc.kind==ScopeKind.function&&sc.names.lookup n==some NameKind.cell) then (n,NameKind.cell) else (n,k)).lookup x=some k->∃y∈l,y.1=x/\y.2=.free:=by
  intro l;induction l with
  | nil=>intro _ k _ e;simp at e
  | cons y r ih=>
   obtain⟨n,k0⟩:=y;intro nc k hk e;rw[zq,kI] at e;have fstq:(if (k0==NameKind.free&&sc.kind==ScopeKind.function&&sc.names.lookup n==some NameKind.cell)=true then (n,NameKind.cell) else (n,k0)).1=n:=by split<;>rfl
   by_cases q:x=n
   .refine⟨(n,k0),z9,q.symm,?_⟩
    have:(x==n)=true:=by simpa using q
    simp only[fstq,this] at e;split at e
    .rename_i c
     simp only[zx] at c;simpa using c.1.1
    .have e':k0=k:=by simpa using e
     rcases hk with rfl | rfl
     .exact absurd e' (nc (n,k0) z9)
     .exact e'
   .have:(x==n)=false:=by simpa using q
    simp only[fstq,this] at e;obtain⟨y,hy,e1,e2⟩:=ih (λy hy=>nc y (zP _ hy)) k hk e;exact⟨y,zP _ hy,e1,e2⟩
 rcases gN h with h | h
 .exact go scope.names nc _ (.inl rfl) h
 .exact go scope.names nc _ (.inr rfl) h
def Bn{scope:Scope}{cs:List (Str×Addr)}(I:Inv X pins σ H s)(hsc:X.env.scope=sc)(ok:CompOk sc N scope N' nl ks)
  (hcs:∀x c,cs.lookup x=some c->X.env.cells.lookup x=some c) (hall:∀y∈scope.names,y.2=.free->∃c,cs.lookup y.1=some c) (hC:s.heap.objs.size<=C) (hex:∀b∈ex,uN X pins H b) (hob:∀b∈ex,b<s.heap.objs.size):(wq X scope cs C N' s H ex).Ok:=by
 subst hsc;refine⟨I.ok.mod,ok.kind,I.ok.glob,I.ok.blt,hC,λx y c h1 h2=>I.ok.inj x y c (hcs x c h1) (hcs y c h2),λx hx=>?_,λx c h=>?_,I.ok.hd,I.ok.frames,.inl rfl,λb hb=>?_,I.bs,zT I.ok.bsz I.sz,λb o e hb=>?_,λb hb z=>?_,I.stack,I.stkFree⟩
 .have hc:hZ (gM X.env.scope scope) x=true:=by
   unfold hZ;rcases hx with hx | hx
   .rw[show(gM X.env.scope scope).names.lookup x=some .cell from hx];rfl
   .rw[show(gM X.env.scope scope).names.lookup x=some .free from hx];rfl
  obtain⟨y,hy,rfl,e⟩:=rS ok.ncell hc;exact hall y hy e
 .cases h
 .obtain⟨h0,h1,h2,h3,h4,h5⟩:=hex b hb
  exact⟨λz=>absurd (zN (hob b hb) (z▸hC)) (jE _),λx c e=>h4 x c (hcs x c e)⟩
 .obtain⟨h0,h1,h2,h3,h4,h5⟩:=hex b hb
  rcases h3 with h3 | h3
  .exact I.ok.noex b o e h3
  .exact absurd (zN (zF e) (zT I.ok.bsz h3)) (jE _)
 .obtain⟨h0,h1,h2,h3,h4,h5⟩:=hex b hb
  rcases zb.mp (I.stkSub b z) with e | e
  .exact h1 e
  .exact h2 e
end
section
variable{prog:Program}{w:World}{A:Around}{R:Result->Shared->Prop}{s:Shared}
noncomputable def tX(ifs:List Expr)(env:Env):Sem Bool:=forIn ifs true λc r=>if r=true then do let ok <-isTrue c env (eval c env);pure (ForInStep.yield ok) else pure (ForInStep.yield r)
def rA(I:Nat->Shared->Prop)
  (turn:∀n s,I n s->wpAny (model prog w) A (pyNext it) (λr s₁=>match r with
   | none=>R (.ok .next) s₁
   | some v=>wpAny (model prog w) A (letOwnedTupleGo target it v) (λ_ s₁'=>wpAny (model prog w) A (assign target env v) (λ_ s₂=>
     wpAny (model prog w) A (tX ifs env) (λok s₃=>
      if ok=true then wpAny (model prog w) A (eval elt env) (λx s₄=>
       wpAny (model prog w) A (call (.builtin "list.append") [acc,x]) (λ_ s₅=>∃m,m<n/\I m s₅) (λ_ _=>False) s₄) (λ_ _=>False) s₃
      else ∃m,m<n/\I m s₃) (λ_ _=>False) s₂) (λ_ _=>False) s₁') (λ_ _=>False) s₁) (λ_ _=>False) s)
  (n:Nat) (h:I n s) :
  codeAny (model prog w) A (.compLoop (.ListComp elt [⟨target,iter,ifs,0⟩] scope pos) 0 it acc env) R s:=by
 refine codeAny_loop rfl I (λn s hI=>?_) n h;show wpAny _ A ((compTurn (.ListComp elt [⟨target,iter,ifs,0⟩] scope pos) 0 it acc env).onRaise (λx=>do noteFrame x env;theTreesLotGoes x)) _ _ s
 refine wpAny_noted ?_;rw[compTurn_list];refine za (yj (za (qR (turn n s hI) (λr s₁ h₁=>?_) λ_ _ h'=>h'.elim)));cases r with
 | none=>exact zu h₁
 | some v=>
  refine za (qR h₁ (λ_ s₁' h₁'=>?_) λ_ _ h'=>h'.elim);refine za (qR h₁' (λ_ s₂ h₂=>za (qR h₂ (λok s₃ h₃=>?_) λ_ _ h'=>h'.elim)) λ_ _ h'=>h'.elim);cases ok with
  | false=>exact zu ⟨rfl,h₃⟩
  | true=>
   exact za (za (qR h₃ (λx s₄ h₄=>za (qR h₄ (λ_ s₅ h₅=>zu (zu ⟨rfl,h₅⟩)) λ_ _ h'=>h'.elim)) λ_ _ h'=>h'.elim))
end
noncomputable def hU(X:Cx)(cl:Cl)(ifs:List Expr)(t:MT):Prop:=∀(pins:List (Addr×Obj)) (s:Shared) (σ:L2.St) (H:Hp) (Q:Bool->Hp->Prop),Inv X pins σ H s->tMT X.K cl t σ H Q->wpAny (model X.prog X.w) X.A (tX ifs X.env) (TP X pins σ Q) X.xe s
noncomputable def kG:MT:=λ_ h=>some (true,h)
section
variable{X:Cx}{cl:Cl}{c:Expr}{t:MT}
def YA:hU X cl [] kG:=λpins s σ H Q I q0=>by
 obtain⟨μ,h,ρ,b,h',R,er,e,k⟩:=q0;cases e;exact wpAny_tests_nil ⟨H,I,k μ H .refl R⟩
def XH(h:ST X cl c t):hU X cl [c] t:=λpins s σ H Q I q=>wpAny_tests_one (h pins s σ H Q I q)
end
noncomputable def blank(nl:Nat)(ρ:En):En:=List.replicate nl none++ρ.drop nl
noncomputable def xA(src:Src)(nl:Nat)(g:MG)(t:MT)(m:ME)(n0:Nat):Nat->Nat->En->MH->Option MH
 | 0,_,_,_=>none
 | k+1,i,ρ,h=>match xt src i h with
  | none=>none
  | some none=>some h
  | some (some w)=>match g w ρ h with
   | none=>none
   | some (ρ1,h1)=>match t ρ1 h1 with
    | none=>none
    | some (false,h2)=>xA src nl g t m n0 k (i+1) (blank nl ρ1) h2
    | some (true,h2)=>match m ρ1 h2 with
     | none=>none
     | some (y,h3)=>match h3[n0]? with
      | some (.lst acc)=>if acc.length<cap then xA src nl g t m n0 k (i+1) (blank nl ρ1) (h3.set n0 (.lst (acc++[y]))) else none
      | _=>none
noncomputable def vw(nl:Nat)(g:MG)(t:MT)(m:ME)(n0:Nat):List W->En->MH->Option MH
 | [],_,h=>some h
 | w::r,ρ,h=>match g w ρ h with
   | none=>none
   | some (ρ1,h1)=>match t ρ1 h1 with
    | none=>none
    | some (false,h2)=>vw nl g t m n0 r (blank nl ρ1) h2
    | some (true,h2)=>match m ρ1 h2 with
     | none=>none
     | some (y,h3)=>match h3[n0]? with
      | some (.lst acc)=>if acc.length<cap then vw nl g t m n0 r (blank nl ρ1) (h3.set n0 (.lst (acc++[y]))) else none
      | _=>none
theorem dy{t:MT}(l:List W):∀(k i:Nat) (ρ:En) (h:MH),l.length+1<=i+k->i<=l.length->xA (.items l) nl g t m n0 k i ρ h=vw nl g t m n0 (l.drop i) ρ h
 | 0,i,ρ,h,hk,hi=>by omega
 | k+1,i,ρ,h,hk,hi=>by
  by_cases hl:i<l.length
  .rw[qN hl]
   unfold xA vw;simp only[xt,zE hl];cases e1:g l[i] ρ h with
   | none=>rfl
   | some p=>
    obtain⟨ρ1,h1⟩:=p;simp only;cases e2:t ρ1 h1 with
    | none=>rfl
    | some q=>
     obtain⟨b,h2⟩:=q;cases b with
     | false=>exact dy l k (i+1) _ h2 ∅ hl
     | true=>
      simp only;cases e3:m ρ1 h2 with
      | none=>rfl
      | some q3=>
       obtain⟨y,h3⟩:=q3;simp only;split
       .split
        .exact dy l k (i+1) _ _ ∅ hl
        .rfl
       .rfl
  .have hi':i=l.length:=by omega
   subst hi';rw[yh];unfold xA vw;simp[xt]
noncomputable def uS(mi:MI)(nl:Nat)(ks:List Nat)(g:MG)(t:MT)(m:ME):En->MH->Option (Nat×MH×MH):=λρ h=>match mi ρ h with
 | none=>none
 | some (.items l,h1)=>match vw nl g t m h1.length l (List.replicate nl none++ks.map λk=>(ρ[k]?).join) (h1++[.lst []]) with
  | some h2=>some (h1.length,h1,h2)
  | none=>none
 | some (.live n,h1)=>match xA (.live n) nl g t m h1.length (eT (.live n) h1+1) 0 (List.replicate nl none++ks.map λk=>(ρ[k]?).join) (h1++[.lst []]) with
  | some h2=>some (h1.length,h1,h2)
  | none=>none
noncomputable def xD(mi:MI)(nl:Nat)(ks:List Nat)(g:MG)(t:MT)(m:ME):ME:=λρ h=>match uS mi nl ks g t m ρ h with
 | some (n,_,h2)=>some (.ref n,h2)
 | none=>none
open Classical in
noncomputable def ja(mi:MI)(nl:Nat)(ks:List Nat)(g:MG)(t:MT)(m:ME):ME:=λρ h=>match uS mi nl ks g t m ρ h with
 | some (n,h1,h2)=>match h2[n]? with
  | some (.lst l)=>if h1<+:h2/\lows h1.length l=true then some (.fls l,h1) else none
  | _=>none
 | none=>none
theorem ER.blank{K:PySem.W.Frag}{μ:List Addr}{H:Hp}{ρ:En}(er:ER K μ H ρ σ)(hl:nl<=ρ.length):ER K μ H (ML.blank nl ρ) σ:=by
 unfold ML.blank;refine⟨by simp;rw[<-er.len];omega,λi w e=>?_⟩;by_cases hi:i<nl
 .rw[zA (by simpa using hi),qm] at e
  split at e<;>cases e
 .rw[zH (by simpa using hi),qC,List.getElem?_drop] at e
  exact er.at_ i w (by rw[<-e];congr 1;omega)
section
variable{X:Cx}{cl:Cl}{pins:List (Addr×Obj)}{σ:L2.St}
noncomputable def σC(nl:Nat)(ks:List Nat)(σ:L2.St):L2.St:=List.replicate nl none++ks.map λk=>(σ[k]?).join
noncomputable def ρC(nl:Nat)(ks:List Nat)(ρ:En):En:=List.replicate nl none++ks.map λk=>(ρ[k]?).join
def FW{K:PySem.W.Frag}{μ:List Addr}{H:Hp}(er:ER K μ H ρ σ):ER K μ H (ρC nl ks ρ) (σC nl ks σ):=by
 unfold ρC σC;refine⟨by simp,λi w e=>?_⟩;by_cases hi:i<nl
 .rw[zA (by simpa using hi),qm] at e
  split at e<;>cases e
 .rw[zH (by simpa using hi),qC,jb] at e
  rw[zH (by simpa using hi),qC,jb];cases e1:ks[i-nl]? with
  | none=>rw[e1] at e;cases e
  | some k=>
   rw[e1] at e;have e2:(ρ[k]?).join=some w:=zZ e;have e3:ρ[k]?=some (some w):=by
    cases q:ρ[k]? with
    | none=>rw[q] at e2;cases e2
    | some o=>rw[q] at e2;cases o with
     | none=>cases e2
     | some z=>cases e2;rfl
   obtain⟨v,ev,r⟩:=er.at_ k w e3;exact⟨v,by simp[ev],r⟩
def JH{scope:Scope}{cs:List (Str×Addr)}{H:Hp}{s:Shared}{h₁:Heap}(I:Inv X pins σ H s)(hsc:X.env.scope=sc)(hN:X.N=N)(ok:CompOk sc N scope N' nl ks)
  (hcs:∀x c,cs.lookup x=some c->X.env.cells.lookup x=some c) (hall:∀y∈scope.names,y.2=.free->∃c,cs.lookup y.1=some c) (hex:∀b∈ex,uN X pins H b) (hob:∀b∈ex,b<s.heap.objs.size)
   (hns:h₁.Ns (s.heap.objs.size+1) m0) (old:∀b o,s.heap.get? b=some o->h₁.get? b=some o) (hD:h₁.get? s.heap.objs.size=some { cls:=.type "list",data:=.seq ([]:List Value).toArray }) :
  Inv (wq X scope cs (s.heap.objs.size+1) N' s H ex) [] (σC nl ks σ) (upd H s.heap.objs.size (.lst [])) { s with heap:=h₁,toks:=tk }:=by
 have hfr:H s.heap.objs.size=none:=I.hok.fresh (zg _);have ltD:∀{b:Addr} {o:Obj},s.heap.get? b=some o->b≠s.heap.objs.size:=λe=>zX (zF e)
 refine⟨Bn I hsc ok hcs hall (vB _) hex hob,rfl,I.bare,Un.laid old (zg _) hfr,⟨m0,hns,λi x v e1 e2 e3=>?_⟩,λx c e=>?_,?_,λx c e=>?_,λp hp=>absurd (show p∈([]:List (Addr×Obj)) from hp) (by simp),I.hok.laid old (zg _) ⟨by simp,[],_,.nil,hD⟩,?_⟩
 .have e1':N'[i]?=some x:=e1
  unfold σC at e2;by_cases hi:i<nl
  .rw[zA (by simpa using hi),qm] at e2
   split at e2<;>cases e2
  .rw[zH (by simpa using hi),qC,jb] at e2
   cases q1:ks[i-nl]? with
   | none=>rw[q1] at e2;cases e2
   | some k=>
    rw[q1] at e2;have q2:(σ[k]?).join=some v:=zZ e2;have q3:σ[k]?=some (some v):=by
     cases q:σ[k]? with
     | none=>rw[q] at q2;cases q2
     | some o=>rw[q] at q2;cases o with
      | none=>cases q2
      | some z=>cases q2;rfl
    obtain⟨x',hx1,hx2,hx3,hx4⟩:=ok.fr (i-nl) k q1;have:x'=x:=by
     rw[show nl+(i-nl)=i by omega,e1'] at hx2;exact(zZ hx2).symm
    subst this;subst hsc;obtain⟨m,hn,hl⟩:=I.loc;have vis:Jq X.env.scope x':=by rcases gN hx3 with z | z;exact .inr (.inl z);exact .inr (.inr z)
    obtain⟨u,ru,lk⟩:=hl k x' v (by rw[hN];exact hx1) q3 vis;refine⟨u,ru,?_⟩;rcases lk with ⟨z,_⟩ | ⟨_,c,hc,ic⟩
    .rcases gN hx3 with y | y<;>(rw[show X.env.kindOf x'=X.env.scope.names.lookup x' from rfl,y] at z;cases z)
    .refine .inr ⟨gN hx4,?_⟩
     obtain⟨y,hy,rfl,hyf⟩:=rS ok.ncell hx4;obtain⟨c',hc'⟩:=hall y hy hyf;have:=hcs _ _ hc';rw[hc] at this;cases this;obtain⟨o,ho,hd⟩:=ic;exact⟨c,hc',o,old _ _ ho,hd⟩
 .obtain⟨v,o,ho,hd⟩:=I.cell x c (hcs x c e)
  exact⟨v,o,old _ _ ho,hd⟩
 .show(upd H s.heap.objs.size (.lst [])) (s.heap.objs.size+1)=none
  rw[kQ (Nat.succ_ne_self _)];exact I.hok.fresh (vB _)
 .obtain⟨v,o,ho,hd⟩:=I.cell x c (hcs x c e)
  rw[kQ (ltD ho)];exact I.freeC x c (hcs x c e)
 .show(σC nl ks σ).length=N'.length
  unfold σC;rw[ok.len];simp
def K6{elt tg iter:Expr}{ifs:List Expr}{scope sc:Scope}{pos:Pos}{N N':List Str}{nl:Nat}{ks:List Nat}{cs:List (Str×Addr)}{J:It}{it:Addr}{fp:List Addr}{tn:Nat->Heap->Prop}{g:MG}{t:MT}{m:ME}{src:Src}{k0:Nat}
  {H2:Hp} {s2:Shared} {μ:List Addr} {h h':MH} {ρ:En} {RR:Value->Addr->Result->Shared->Prop} {E:Value->Shared->Prop}
  (hc:X.calm=true) (hsc:X.env.scope=sc) (hN:X.N=N) (ok:CompOk sc N scope N' nl ks)
  (hg:∀cs C s₀ H₀ ex,SG (wq X scope cs C N' s₀ H₀ ex) cl tg g) (ht:∀cs C s₀ H₀ ex,hU (wq X scope cs C N' s₀ H₀ ex) cl ifs t) (he:∀cs C s₀ H₀ ex,SE (wq X scope cs C N' s₀ H₀ ex) cl elt m)
  (I2:Inv X pins σ H2 s2) (T:Turn X.prog X.w X.K tg J fp it tn) (st2:tn 0 s2.heap) (f2:∀b∈fp,uN X pins H2 b)
  (hcs:∀x c,cs.lookup x=some c->X.env.cells.lookup x=some c) (hall:∀y∈scope.names,y.2=.free->∃c,cs.lookup y.1=some c)
  (R2:HR X.K cl μ H2 h) (er:ER X.K μ H2 ρ σ) (j:JR X.K cl J src μ H2) (e:xA src nl g t m h.length k0 0 (ρC nl ks ρ) (h++[.lst []])=some h')
  (hRR:∀D C s' H' μ' m',D≠C->s'.heap.Ns C m'->Inv X pins σ H' s'->H' C=none->s2.heap.objs.size<=C->Ext μ H2 μ' H'->HR X.K cl μ' H' h'->μ'[h.length]?=some D->RR (.ref D) C (.ok .next) s') :
  wpAny (model X.prog X.w) X.A (newList []) (λacc s₃=>wpAny (model X.prog X.w) X.A (newFunctionEnv scope X.env.globals cs [] X.env.qual none .none (some X.env)) (λcenv s₄=>
   codeAny (model X.prog X.w) X.A (.compStart (.ListComp elt [⟨tg,iter,ifs,0⟩] scope pos) 0 (.ref it) acc { cenv with scope:=relabel scope X.env }) (RR acc cenv.locals) s₄) E s₃) E s2:=by
 refine jm (wpAny_newFunctionEnv ok.ncell (by intro y hy;simp at hy) (λh₁ hns₁ hsb₁=>?_) ok.kind);dsimp only at hns₁ hsb₁ ⊢;generalize hP:s2.heap.push { cls:=.type "list",dict:=none,data:=.seq ([]:List Value).toArray }=P at hns₁ hsb₁ ⊢;have hC:P.objs.size=s2.heap.objs.size+1:=by rw[<-hP,j9]
 rw[hC] at hns₁ hsb₁ ⊢;have old:∀b o,s2.heap.get? b=some o->h₁.get? b=some o:=λb o e=>hsb₁.extBut b o (zX (vY (zF e))) (zf _ (hP▸zf _ e))
 have hD:h₁.get? s2.heap.objs.size=some { cls:=.type "list",data:=.seq ([]:List Value).toArray }:=hsb₁.extBut _ _ (zX (jY _)) (zf _ (hP▸zO _ rfl));have hob:∀b∈fp,b<s2.heap.objs.size:=λb hb=>by
  obtain⟨o,ho,_⟩:=T.obj 0 _ st2 b hb;exact zF ho
 have fr2:H2 s2.heap.objs.size=none:=I2.hok.fresh (zg _);have I3:=JH (X:=X) (tk:=s2.toks+([]:List (Str×Value)).length) I2 hsc hN ok hcs hall f2 hob hns₁ old hD;have st3:tn 0 h₁:=T.keep 0 _ _ st2 λb _ o e=>old b o e
 have fr3:∀b∈fp,(upd H2 s2.heap.objs.size (.lst [])) b=none:=λb hb=>by
  rw[kQ (zX (hob b hb))];exact(f2 b hb).1
 have fpk:∀{H:Hp},(∀b∈fp,H b=none)->∀b∈fp,uN (wq X scope cs (s2.heap.objs.size+1) N' s2 H2 fp) [] H b:=λhn b hb=>by
  obtain⟨g0,g1,g2,g3,g4,g5⟩:=f2 b hb;refine⟨hn b hb,zX (vY (hob b hb)),λz=>?_,.inl hb,λx c e=>g4 x c (hcs x c e),λp hp=>absurd (show p∈([]:List (Addr×Obj)) from hp) (by simp)⟩;rcases zb.mp (I2.stkSub b z) with q | q
  .exact g1 q
  .exact g2 q
 have loop:∀s:Shared,s={ s2 with heap:=h₁,toks:=s2.toks+([]:List (Str×Value)).length }->
   codeAny (model X.prog X.w) X.A (.compLoop (.ListComp elt [⟨tg,iter,ifs,0⟩] scope pos) 0 (.ref it) (.ref s2.heap.objs.size) (compEnvC scope cs (s2.heap.objs.size+1) X.env)) (RR (.ref s2.heap.objs.size) (s2.heap.objs.size+1)) s:=by
  rintro s rfl
  refine rA (λn s=>∃i σ' H ρ' μ' hh,Inv (wq X scope cs (s2.heap.objs.size+1) N' s2 H2 fp) [] σ' H s/\tn i s.heap/\(∀b∈fp,H b=none)/\HR X.K cl μ' H hh/\ER X.K μ' H ρ' σ'/\Ext μ H2 μ' H/\nl<=ρ'.length/\μ'[h.length]?=some s2.heap.objs.size /\
   xA src nl g t m h.length n i ρ' hh=some h') ?_ k0 ?_
  .rintro n s ⟨i,σ',H,ρ',μ',hh,I,st,fr,R,er',E',hl,hm,e⟩
   cases n with
   | zero=>cases e
   | succ n=>
    unfold xA at e;obtain⟨jg,js⟩:=j μ' H hh E' R i;cases es:xt src i hh with
    | none=>rw[es] at e;cases e
    | some o=>
     rw[es] at e;cases o with
     | none=>
      cases e;refine kC (T.done (wq X scope cs (s2.heap.objs.size+1) N' s2 H2 fp) rfl rfl rfl hc i [] s σ' H _ I (fpk fr) st (js es)) λr s1 ⟨hr,I1⟩=>?_
      subst hr;obtain⟨m1,hn1,_⟩:=I1.loc;refine hRR _ _ s1 H μ' m1 (zX (jY _)) hn1 ?_ I1.free (vB _) E' R hm;exact I2.call' I1.os I1.base I1.hok I1.bare λb hb=>⟨(f2 b hb).2.2.2.1,(f2 b hb).2.1,(f2 b hb).2.2.2.2.1,(f2 b hb).2.2.2.2.2⟩
     | some w=>
      obtain⟨go,yl⟩:=jg w es;simp only at e;cases e1:g w ρ' hh with
      | none=>rw[e1] at e;cases e
      | some p=>
       obtain⟨ρ1,h1⟩:=p;rw[e1] at e;simp only at e;refine kC (T.item (wq X scope cs (s2.heap.objs.size+1) N' s2 H2 fp) rfl rfl rfl hc i [] s σ' H _ I (fpk fr) st go) λr s1 ⟨u,hr,q1⟩=>?_
       subst hr;refine kC q1 λ_ s5 ⟨x,H5,I5,r5,y5,st5,fr5⟩=>?_
       obtain⟨E5,R5,rx⟩:=yl x H5 y5;have I5':=I5.pinned (fpk fr5) (T.obj _ _ st5);refine kC (hg cs _ s2 H2 fp _ s5 σ' H5 x u (λσ6 H6=>∃μ6,Ext μ' H5 μ6 H6/\HR X.K cl μ6 H6 h1/\ER X.K μ6 H6 ρ1 σ6) I5' r5 ⟨μ',hh,ρ',w,ρ1,h1,R5,er'.ext R E5,rx,e1,λμ6 H6 σ6 E6 R6 er6=>⟨μ6,E6,R6,er6⟩⟩) λ_ s6 ⟨σ6,H6,I6,μ6,E6,R6,er6⟩=>?_
       have hl6:nl<=ρ1.length:=by
        rw[er6.len,I6.len];show nl<=N'.length
        rw[ok.len];omega
       have E06:Ext μ H2 μ6 H6:=E'.trans (E5.trans E6);have fin:∀{s9:Shared} {H9:Hp} {μ9:List Addr} {h9:MH},Inv (wq X scope cs (s2.heap.objs.size+1) N' s2 H2 fp) ([]++ie fp s5.heap) σ6 H9 s9->Ext μ6 H6 μ9 H9->HR X.K cl μ9 H9 h9->xA src nl g t m h.length n (i+1) (ML.blank nl ρ1) h9=some h'->
         ∃k,k<n+1/\∃i σ' H ρ' μ' hh,Inv (wq X scope cs (s2.heap.objs.size+1) N' s2 H2 fp) [] σ' H s9/\tn i s9.heap/\(∀b∈fp,H b=none)/\HR X.K cl μ' H hh/\ER X.K μ' H ρ' σ'/\Ext μ H2 μ' H/\nl<=ρ'.length/\μ'[h.length]?=some s2.heap.objs.size/\xA src nl g t m h.length k i ρ' hh=some h':=by
        intro s9 H9 μ9 h9 I9 E9 R9 e9;refine⟨n,jY n,i+1,σ6,H9,ML.blank nl ρ1,μ9,h9,I9.unpinned,T.keep _ _ _ st5 λb hb o e=>(I9.pin (b,o) (jh _ (jh _ (ar hb e)))).1,λb hb=>?_,R9,(er6.ext R6 E9).blank hl6,E06.trans E9,?_,E9.get (E6.get (E5.get hm)),e9⟩
        .obtain⟨o,e,d⟩:=T.obj _ _ st5 b hb
         exact(I9.pin (b,o) (jh _ (jh _ (ar hb e)))).2.1
        .unfold ML.blank;simp
       cases e2:t ρ1 h1 with
       | none=>rw[e2] at e;cases e
       | some p2=>
        obtain⟨bb,h2⟩:=p2;rw[e2] at e;refine kC (ht cs _ s2 H2 fp _ s6 σ6 H6 (λb' H7=>b'=bb/\∃μ7,Ext μ6 H6 μ7 H7/\HR X.K cl μ7 H7 h2) I6 ⟨μ6,h1,ρ1,bb,h2,R6,er6,e2,λμ7 H7 E7 R7=>⟨rfl,μ7,E7,R7⟩⟩) λb' s7 ⟨H7,I7,hb',μ7,E7,R7⟩=>?_
        subst hb';cases b' with
        | false=>
         rw[jc kh];exact fin I7 E7 R7 e
        | true=>
         rw[zY rfl];simp only at e;cases e3:m ρ1 h2 with
         | none=>rw[e3] at e;cases e
         | some p3=>
          obtain⟨y,h3⟩:=p3;rw[e3] at e;simp only at e;refine kC (he cs _ s2 H2 fp _ s7 σ6 H7 (λv H8=>∃μ8,Ext μ7 H7 μ8 H8/\HR X.K cl μ8 H8 h3/\RW X.K μ8 H8 y v) I7 ⟨μ7,h2,ρ1,y,h3,R7,er6.ext R6 E7,e3,λμ8 H8 v E8 R8 r8=>⟨μ8,E8,R8,r8⟩⟩) λxv s8 ⟨v,H8,I8,rv,μ8,E8,R8,r8⟩=>?_
          split at e
          .rename_i acc ho
           split at e
           .rename_i hlt
            have hm8:μ8[h.length]?=some s2.heap.objs.size:=E8.get (E7.get (E6.get (E5.get hm)));obtain⟨vs,hv,ra⟩:=R8.ob _ _ _ hm8 ho;refine kC (om (X:=wq X scope cs (s2.heap.objs.size+1) N' s2 H2 fp) _ s8 σ6 H8 (.ref s2.heap.objs.size) [v] (.ref s2.heap.objs.size) [xv] (λ_ H9=>H9=upd H8 s2.heap.objs.size (.lst (vs++[v]))) I8 rfl (.cons rv .nil) ⟨_,vs,v,rfl,rfl,hv,zN (by rw[<-ra.length];exact hlt) uh,rfl⟩) λ_ s9 ⟨_,H9,I9,_,hH9⟩=>?_
            subst hH9;exact fin I9 (E7.trans (E8.trans (.put hm8))) (R8.put (o:=.lst (acc++[y])) hm8 ⟨vs++[v],qc,(ra.append (.cons r8 .nil)).ext R8 (.put hm8)⟩) e
           .cases e
          .cases e
  .have R3:HR X.K cl (μ++[s2.heap.objs.size]) (upd H2 s2.heap.objs.size (.lst [])) (h++[.lst []]):=R2.new fr2 ⟨[],qc,.nil⟩
   exact⟨0,σC nl ks σ,_,ρC nl ks ρ,_,_,I3,st3,fr3,R3,(FW er).ext R2 (.new fr2),.new fr2,by unfold ρC;simp,by rw[<-R2.len];simp,e⟩
 exact codeAny_compStart_list (loop _ rfl) (T.self _ 0 _ _ _ st3 (loop _ rfl))
def iY{t:MT}{H:Hp}{h1:MH}
  (hc:X.calm=true) (hsc:X.env.scope=sc) (hN:X.N=N) (ok:CompOk sc N scope N' nl ks) (hi:SI X cl tg iter mi)
  (hg:∀cs C s₀ H₀ ex,SG (wq X scope cs C N' s₀ H₀ ex) cl tg g) (ht:∀cs C s₀ H₀ ex,hU (wq X scope cs C N' s₀ H₀ ex) cl ifs t) (he:∀cs C s₀ H₀ ex,SE (wq X scope cs C N' s₀ H₀ ex) cl elt m)
  (I:Inv X pins σ H s) (R:HR X.K cl μ H h) (er:ER X.K μ H ρ σ) (e:uS mi nl ks g t m ρ h=some (n0,h1,h2)) (hs:∀x,foldedSetIterable iter X.env x=pure x)
  (k:∀D C s' H' μ' m' s2 H1 μ1,D≠C->s'.heap.Ns C m'->Inv X pins σ H' s'->H' C=none->X.env.locals≠C->(∀x c,X.env.cells.lookup x=some c->c≠C)->(X.s₀.heap.objs.size<=C)->(∀p∈X.pn++pins,p.1≠C)->Inv X pins σ H1 s2->Ext μ H μ1 H1->HR X.K cl μ1 H1 h1->Ext μ1 H1 μ' H'->HR X.K cl μ' H' h2->h1.length=n0->μ'[n0]?=some D->
   compPost (model X.prog X.w) X.A X.xe use Q (.ref D) C (.ok .next) s') :
  wpAny (model X.prog X.w) X.A (comprehension (.ListComp elt [⟨tg,iter,ifs,0⟩] scope pos) scope X.env p2 (newList []) false (eval iter X.env) use) Q X.xe s:=by
 subst hsc;have hcell:∀y∈scope.names,y.2=.free->∃c,X.env.cells.lookup y.1=some c:=λy hy e=>I.ok.has y.1 (gN (ok.fall y hy e))
 obtain⟨cs,hclos,hcs,hall⟩:=oz hcell;have key:∀{src:Src} {k0:Nat},mi ρ h=some (src,h1)->xA src nl g t m h1.length k0 0 (ρC nl ks ρ) (h1++[.lst []])=some h2->n0=h1.length->
   wpAny (model X.prog X.w) X.A (comprehension (.ListComp elt [⟨tg,iter,ifs,0⟩] scope pos) scope X.env p2 (newList []) false (eval iter X.env) use) Q X.xe s:=by
  intro src k0 e1 e2 hn0;subst hn0;refine wpAny_comprehension_free (use:=use) rfl hs hclos ok.kind ok.names ?_;refine kC (hi pins s σ H (λJ H1=>∃μ1,Ext μ H μ1 H1/\HR X.K cl μ1 H1 h1/\JR X.K cl J src μ1 H1) I ⟨μ,h,ρ,src,h1,R,er,e1,λμ1 H1 J E1 R1 j=>⟨μ1,E1,R1,j⟩⟩) λv s1 q1=>kC q1 λitv s2 q2=>?_
  obtain⟨it,fp,tn,J,H2,rfl,I2,T,st2,f2,μ2,E2,R2,j⟩:=q2;refine K6 (RR:=λacc C=>compPost (model X.prog X.w) X.A X.xe use Q acc C) hc rfl hN ok hg ht he I2 T st2 f2 hcs hall R2 (er.ext R E2) j e2 ?_;intro D C s' H' μ' m' hDC hns I' hfC hC E' R' hm;refine k D C s' H' μ' m' s2 H2 μ2 hDC hns I' hfC (zX (zN I2.lt hC)) (λx c e z=>?_) (zT I2.sz hC) (λp hp z=>?_) I2 E2 R2 E' R' rfl hm
  .obtain⟨v,o,ho,_⟩:=I2.cell x c e
   exact absurd (zN (zF ho) (z▸hC)) (jE _)
  .exact absurd (zN (zF (I2.pin p hp).1) (z▸hC)) (jE _)
 unfold uS at e;split at e
 .cases e
 .rename_i l h1' e1
  split at e
  .rename_i h2' e2
   cases e;have q:=dy (nl:=nl) (g:=g) (t:=t) (m:=m) (n0:=h1.length) l (l.length+1) 0 (ρC nl ks ρ) (h1++[.lst []]) ∅ ∅;rw[wI] at q;exact key e1 (q.trans e2) rfl
  .cases e
 .rename_i n h1' e1
  split at e
  .rename_i h2' e2
   cases e;exact key e1 e2 rfl
  .cases e
def VJ(sc:Scope)(N N':List Str)(nl:Nat)(ks:List Nat){t:MT}(hc:X.calm=true)(ok:ux sc N scope N' nl ks=true)(hi:SI X cl tg iter mi)
  (hg:∀cs C s₀ H₀ ex,SG (wq X scope cs C N' s₀ H₀ ex) cl tg g) (ht:∀cs C s₀ H₀ ex,hU (wq X scope cs C N' s₀ H₀ ex) cl ifs t) (he:∀cs C s₀ H₀ ex,SE (wq X scope cs C N' s₀ H₀ ex) cl elt m)
  (hsc:↥(X.env.scope=sc)) (hN:↥(X.N=N)) (hs:∀x,foldedSetIterable iter X.env x=pure x:=by intro _;rfl):SE X cl (.ListComp elt [⟨tg,iter,ifs,0⟩] scope pos) (xD mi nl ks g t m):=by
 rintro pins s σ H Q I ⟨μ,h,ρ,w,h',R,er,e,k⟩;unfold xD at e;split at e
 .rename_i n0 h1 h2 e1
  cases e;rw[eval_ListComp];refine iY (use:=none) hc hsc hN (u3 ok) hi hg ht he I R er e1 hs λD C s' H' μ' m' s2 H1 μ1 hDC hns I' hfC hL hcl hs0 hpn I2 E1 R1 E' R' hn hm=>?_
  exact⟨m',hns,λh'' hsb=>⟨.ref D,H',I'.turned (t':=s'.toks) (λb o hb e=>(hsb.2 b hb).trans e) hfC (kY hL) (.inr hs0) hcl hpn,rfl,k μ' H' _ (E1.trans E') R' (.ref hm)⟩⟩
 .cases e
def lW{K:PySem.W.Frag}{μ μ1 μ':List Addr}{H H1 H':Hp}{h1 h2:MH}{D:Addr}(k:KQ K cl μ H h1 (.fls l) Q)(E1:Ext μ H μ1 H1)(R1:HR K cl μ1 H1 h1)(E':Ext μ1 H1 μ' H')(R':HR K cl μ' H' h2)(hn:h1.length=n0)(hm:μ'[n0]?=some D)
  (ho:h2[n0]?=some (.lst l)) (pre:h1<+:h2) (lo:lows h1.length l=true):Q (.ref D) H':=by
 obtain⟨vs,hv,rv⟩:=R'.ob _ _ _ hm ho;have cut:Ext μ1 H1 μ1 H':=⟨zR _,λb o e n=>⟨(E'.fr b o e n).1,n⟩⟩;refine k μ1 H' _ (E1.trans cut) (R1.cut E' R' pre) (.fls (.inl ⟨.inl hv,λz=>?_⟩) (RWs.cut E'.pre (by rw[R1.len];exact lo) rv));obtain⟨q,hq⟩:=jB.mp z;have h3:=E'.get hq;have hlt:q<μ1.length:=(zU.mp hq).1;obtain⟨z1,z2⟩:=zU.mp h3;obtain⟨z3,z4⟩:=zU.mp hm;have:q=n0:=(vh R'.nd).mp (z2.trans z4.symm);subst this;rw[R1.len] at hlt;omega
def YT(sc:Scope)(N N':List Str)(nl:Nat)(ks:List Nat){t:MT}(hc:X.calm=true)(ok:ux sc N scope N' nl ks=true)(hi:SI X cl tg iter mi)
  (hg:∀cs C s₀ H₀ ex,SG (wq X scope cs C N' s₀ H₀ ex) cl tg g) (ht:∀cs C s₀ H₀ ex,hU (wq X scope cs C N' s₀ H₀ ex) cl ifs t) (he:∀cs C s₀ H₀ ex,SE (wq X scope cs C N' s₀ H₀ ex) cl elt m)
  (hsc:↥(X.env.scope=sc)) (hN:↥(X.N=N)) (hs:∀x,foldedSetIterable iter X.env x=pure x:=by intro _;rfl):SE X cl (.ListComp elt [⟨tg,iter,ifs,0⟩] scope pos) (ja mi nl ks g t m):=by
 rintro pins s σ H Q I ⟨μ,h,ρ,w,h',R,er,e,k⟩;unfold ja at e;split at e
 .rename_i n0 h1 h2 e1
  split at e
  .rename_i l ho
   split at e
   .rename_i c
    cases e;rw[eval_ListComp];refine iY (use:=none) hc hsc hN (u3 ok) hi hg ht he I R er e1 hs λD C s' H' μ' m' s2 H1 μ1 hDC hns I' hfC hL hcl hs0 hpn I2 E1 R1 E' R' hn hm=>?_
    exact⟨m',hns,λh'' hsb=>⟨.ref D,H',I'.turned (t':=s'.toks) (λb o hb e=>(hsb.2 b hb).trans e) hfC (kY hL) (.inr hs0) hcl hpn,rfl,lW k E1 R1 E' R' hn hm ho c.1 c.2⟩⟩
   .cases e
  .cases e
 .cases e
def mm{spos:Pos}{t:MT}{H:Hp}{h1:MH}{i:Nat}{D:Ends}
  (hNd:X.N.Nodup) (hix:X.N[i]?=some x) (hx:X.env.kindOf x=some .local) (hsw:swapsWith (.ListComp elt [⟨tg,iter,ifs,0⟩] scope pos) (some (.Name x px)) spos.line X.env=pure true)
  (hc:X.calm=true) (hsc:X.env.scope=sc) (hN:X.N=N) (ok:CompOk sc N scope N' nl ks) (hi:SI X cl tg iter mi)
  (hg:∀cs C s₀ H₀ ex,SG (wq X scope cs C N' s₀ H₀ ex) cl tg g) (ht:∀cs C s₀ H₀ ex,hU (wq X scope cs C N' s₀ H₀ ex) cl ifs t) (he:∀cs C s₀ H₀ ex,SE (wq X scope cs C N' s₀ H₀ ex) cl elt m)
  (I:Inv X pins σ H s) (R:HR X.K cl μ H h) (er:ER X.K μ H ρ σ) (e:uS mi nl ks g t m ρ h=some (n0,h1,h2)) (hs:∀x,foldedSetIterable iter X.env x=pure x)
  (k:∀A H' μ' H1 μ1,Ext μ H μ1 H1->HR X.K cl μ1 H1 h1->Ext μ1 H1 μ' H'->HR X.K cl μ' H' h2->h1.length=n0->μ'[n0]?=some A->D.nx (σ.set i (some (.ref A))) H') :
  wpAny (model X.prog X.w) X.A (exec (.Assign [.Name x px] (.ListComp elt [⟨tg,iter,ifs,0⟩] scope pos) spos) X.env) (SP X pins D) X.xe s:=by
 rw[exec_Assign_Name_used _ _ _ _ hsw];refine za (yj (za ?_));show wpAny _ X.A (do let _ <-comprehension (.ListComp elt [⟨tg,iter,ifs,0⟩] scope pos) scope X.env _ (newList []) false (eval iter X.env) (some (assign (.Name x px) X.env))) _ _ s
 refine za (qR (iY (use:=some (assign (.Name x px) X.env)) (Q:=λ_ s'=>SP X pins D .next s') hc hsc hN ok hi hg ht he I R er e hs ?_) (λ_ s' hq=>zu (zu hq)) λ_ _ e=>e);intro A C s' H' μ' m' s2 H1 μ1 hDC hns I' hfC hL hcl hs0 hpn I2 E1 R1 E' R' hn hm;show wpAny _ X.A (assign (.Name x px) X.env (.ref A)) _ _ _
 refine wpAny_assign_Name (nY (v:=.ref A) I' hNd hix (.inl hx) rfl (λs'' I'' hsb=>?_) (.inr hx));obtain⟨a,sb,ha⟩:=hsb;have hCa:C≠a:=by
  rcases ha with rfl | ha
  .exact kY hL
  .exact λz=>hcl x a ha z.symm
 refine⟨m',hns.sameBut sb hCa,λh3 sb3=>⟨_,H',I''.turned (t':=s''.toks) (λb o hb e=>(sb3.2 b hb).trans e) hfC (kY hL) (.inr hs0) hcl hpn,k A H' μ' H1 μ1 E1 R1 E' R' hn hm⟩⟩
def QH(i:Nat)(sc:Scope)(N N':List Str)(nl:Nat)(ks:List Nat){spos:Pos}{t:MT}(hNd:X.N.Nodup)(hc:X.calm=true)(ok:ux sc N scope N' nl ks=true)(hi:SI X cl tg iter mi)
  (hg:∀cs C s₀ H₀ ex,SG (wq X scope cs C N' s₀ H₀ ex) cl tg g) (ht:∀cs C s₀ H₀ ex,hU (wq X scope cs C N' s₀ H₀ ex) cl ifs t) (he:∀cs C s₀ H₀ ex,SE (wq X scope cs C N' s₀ H₀ ex) cl elt m)
  (hsc:↥(X.env.scope=sc)) (hN:↥(X.N=N)) (hs:∀x,foldedSetIterable iter X.env x=pure x:=by intro _;rfl) (hix:↥(X.N[i]?=some x)) (hx:↥(X.env.kindOf x=some .local))
  (hsw:↥(swapsWith (.ListComp elt [⟨tg,iter,ifs,0⟩] scope pos) (some (.Name x px)) spos.line X.env=pure true)):SS X cl (.Assign [.Name x px] (.ListComp elt [⟨tg,iter,ifs,0⟩] scope pos) spos) (zI (xD mi nl ks g t m) (zC i)):=by
 rintro pins s σ H D I ⟨μ,h,ρ,fl,h',R,er,e,k⟩;unfold zI at e;split at e
 .rename_i w h2 e1
  split at e
  .rename_i ρ2 h3 e2
   cases e;unfold xD at e1;split at e1
   .rename_i n0 h1 h2' e0
    cases e1;unfold zC at e2;split at e2
    .rename_i hi'
     cases e2;exact mm hNd hix hx hsw hc hsc hN (u3 ok) hi hg ht he I R er e0 hs λA H' μ' H1 μ1 E1 R1 E' R' hn hm=>k μ' H' (E1.trans E') R' _ ((er.ext R (E1.trans E')).set hi' (.ref hm))
    .cases e2
   .cases e1
  .cases e
 .cases e
def Xl(i:Nat)(sc:Scope)(N N':List Str)(nl:Nat)(ks:List Nat){elt tg iter:Expr}{ifs:List Expr}{scope:Scope}{pos spos px:Pos}{x:Str}{t:MT}(hNd:X.N.Nodup)(hc:X.calm=true)(ok:ux sc N scope N' nl ks=true)(hi:SI X cl tg iter mi)
  (hg:∀cs C s₀ H₀ ex,SG (wq X scope cs C N' s₀ H₀ ex) cl tg g) (ht:∀cs C s₀ H₀ ex,hU (wq X scope cs C N' s₀ H₀ ex) cl ifs t) (he:∀cs C s₀ H₀ ex,SE (wq X scope cs C N' s₀ H₀ ex) cl elt m)
  (hsc:↥(X.env.scope=sc)) (hN:↥(X.N=N)) (hs:∀x,foldedSetIterable iter X.env x=pure x:=by intro _;rfl) (hix:↥(X.N[i]?=some x)) (hx:↥(X.env.kindOf x=some .local))
  (hsw:↥(swapsWith (.ListComp elt [⟨tg,iter,ifs,0⟩] scope pos) (some (.Name x px)) spos.line X.env=pure true)):SS X cl (.Assign [.Name x px] (.ListComp elt [⟨tg,iter,ifs,0⟩] scope pos) spos) (zI (ja mi nl ks g t m) (zC i)):=by
 rintro pins s σ H D I ⟨μ,h,ρ,fl,h',R,er,e,k⟩;unfold zI at e;split at e
 .rename_i w h2 e1
  split at e
  .rename_i ρ2 h3 e2
   cases e;unfold ja at e1;split at e1
   .rename_i n0 h1 h2' e0
    split at e1
    .rename_i l ho
     split at e1
     .rename_i c
      cases e1;unfold zC at e2;split at e2
      .rename_i hi'
       cases e2;refine mm hNd hix hx hsw hc hsc hN (u3 ok) hi hg ht he I R er e0 hs λA H' μ' H1 μ1 E1 R1 E' R' hn hm=>?_
       exact lW (Q:=λv H'=>D.nx (σ.set i (some v)) H') (λμ3 H3 v E3 R3 r3=>k μ3 H3 E3 R3 _ ((er.ext R E3).set hi' r3)) E1 R1 E' R' hn hm ho c.1 c.2
      .cases e2
     .cases e1
    .cases e1
   .cases e1
  .cases e
 .cases e
end
def KH{X:Cx}{pins:List (Addr×Obj)}{σ:L2.St}{H:Hp}{s:Shared}{h':Heap}{t':Nat}{fp:List Addr}(I:Inv X pins σ H s)(k:∀b o,b∉fp->s.heap.get? b=some o->h'.get? b=some o)(hf:∀b∈fp,uN X pins H b) :
  Inv X pins σ H { s with heap:=h',toks:=t' }:=by
 have away:∀b u,H b=some u->b∉fp:=λb u e z=>by rw[(hf b z).1] at e;cases e
 refine I.step (g':=s.gens) (d':=s.drawn) (ch:=fp) (λb hb=>⟨(hf b hb).2.2.2.1,(hf b hb).2.1,(hf b hb).2.2.2.2.1,(hf b hb).2.2.2.2.2⟩) (λb o _ _ hc e _=>k b o hc e) (λb o _ _ hc e _=>⟨o.slots,k b o hc e⟩) (λ_ _ _ _ n=>n)
  (λb o hc e=>⟨o,k b o hc e⟩) (λ_ _ e=>e) (λ_ _ _ e=>e) (λb ps e=>⟨#[],by rw[e];simp⟩) (λm hm=>?_) (λb u e=>?_) I.bare
 .obtain⟨o,es,ep,ho,r⟩:=hm
  exact⟨o,es,ep,k _ o (λz=>(hf _ z).2.1 rfl) ho,r⟩
 .refine(I.hok b u e).stay (λc v hc q=>k c v ?_ q) (λ_ q=>q) λ_ _ q=>q
  rcases hc with z | z
  .rw[z];exact away b u e
  .exact away c _ z
structure Stp(it a:Addr)(P:Nat->Heap->Prop)(C:Heap->List Value->Prop):Prop where
 keep:∀{i:Nat} {h h':Heap},P i h->(∀o,h.get? it=some o->h'.get? it=some o)->P i h'
 keepC:∀{h h':Heap} {l:List Value},C h l->(∀o,h.get? a=some o->h'.get? a=some o)->C h' l
 obj:∀{i:Nat} {h:Heap},P i h->∃o,h.get? it=some o/\∀v,o.data≠.cell v
 item:∀{prog:Program} {w:World} {A:Around} {E:Value->Shared->Prop} {s:Shared} {i:Nat} {l:List Value} {x:Value} {Q:Value->Shared->Prop},P i s.heap->C s.heap l->l[i]?=some x->
  (∀h',P (i+1) h'->Heap.SameBut it s.heap h'->Q x { s with heap:=h' })->wpAny (model prog w) A (Builtin.SmallTypes.nextOf (.ref it)) Q E s
 last:∀{prog:Program} {w:World} {A:Around} {E:Value->Shared->Prop} {s:Shared} {i:Nat} {l:List Value} {Q:Value->Shared->Prop},A.handled=none->P i s.heap->C s.heap l->l[i]?=none->
  (∀h' e,Heap.ExtBut it s.heap h'->(∃o,h'.get? e=some o/\o.cls=.type "StopIteration")->E (.ref e) { s with heap:=h' })->wpAny (model prog w) A (Builtin.SmallTypes.nextOf (.ref it)) Q E s
noncomputable def ox(x y:Value):Prop:=x=y\/∃z t t',x=.str z t/\y=.str z t'
structure StpT(it a:Addr)(P:Nat->Heap->Prop)(C:Heap->List Value->Prop):Prop where
 keep:∀{i:Nat} {h h':Heap},P i h->(∀o,h.get? it=some o->h'.get? it=some o)->P i h'
 keepC:∀{h h':Heap} {l:List Value},C h l->(∀o,h.get? a=some o->h'.get? a=some o)->C h' l
 obj:∀{i:Nat} {h:Heap},P i h->∃o,h.get? it=some o/\∀v,o.data≠.cell v
 item:∀{prog:Program} {w:World} {A:Around} {E:Value->Shared->Prop} {s:Shared} {i:Nat} {l:List Value} {x:Value} {Q:Value->Shared->Prop},P i s.heap->C s.heap l->l[i]?=some x->
  (∀h' x' tk,ox x x'->P (i+1) h'->Heap.SameBut it s.heap h'->Q x' { s with heap:=h',toks:=tk })->wpAny (model prog w) A (Builtin.SmallTypes.nextOf (.ref it)) Q E s
 last:∀{prog:Program} {w:World} {A:Around} {E:Value->Shared->Prop} {s:Shared} {i:Nat} {l:List Value} {Q:Value->Shared->Prop},A.handled=none->P i s.heap->C s.heap l->l[i]?=none->
  (∀h' e,Heap.ExtBut it s.heap h'->(∃o,h'.get? e=some o/\o.cls=.type "StopIteration")->E (.ref e) { s with heap:=h' })->wpAny (model prog w) A (Builtin.SmallTypes.nextOf (.ref it)) Q E s
def Stp.t(S:Stp it a P C):StpT it a P C:=⟨S.keep,S.keepC,S.obj,λp c e q=>S.item p c e λh' r e=>q h' _ _ (.inl rfl) r e,S.last⟩
def VS(it a:Addr):Stp it a (λi h=>h.IsListIter it a i) (λh l=>h.IsList a l.toArray) where
 keep:=λp k=>p.at λo e=>k o e
 keepC:=λp k=>p.at λo e=>k o e
 obj:=λ⟨o,e,_,d⟩=>⟨o,e,λv z=>by rw[d] at z;cases z⟩
 item:=λp c e q=>wpAny_nextOf_list_item p c (by simpa using e) q
 last:=λhh p c e q=>wpAny_nextOf_list_end hh p c (by simpa using e) q
section
variable{prog:Program}{w:World}{A:Around}{E:Value->Shared->Prop}{s:Shared}
def iM{t:Addr}{i:Nat}{items:Array Value}(hit:s.heap.IsTupleIter it t i)(ht:s.heap.IsTuple t items)(hx:items[i]?=some x)
  (hQ:∀h',h'.IsTupleIter it t (i+1)->Heap.SameBut it s.heap h'->Q x { s with heap:=h' }):wpAny (model prog w) A (Builtin.SmallTypes.nextOf (.ref it)) Q E s:=by
 obtain⟨oi,gi,ci,di⟩:=id hit;obtain⟨ot,gt,_,nt,dt⟩:=ht;unfold Builtin.SmallTypes.nextOf;refine za (jn (name:=Str.ofString "__next__") hit.typeIs qU (jy qU hit.typeIs yX ?_ (yQ _)));show wpAny _ _ (field (.ref it) 0 >>= _) _ _ s;refine za (jl gi di (x:=.ref t) rfl ?_)
 show wpAny _ _ (if (Value.ref t==Value.none)=true then _ else _) _ _ s;rw[jc (show ¬((Value.ref t==Value.none)=true) from kh)]
 show wpAny _ _ (field (.ref it) 1 >>= _) _ _ s;refine za (jl gi di (x:=.int i 0) rfl ?_)
 show wpAny _ _ (seqItems? (.ref t) >>= _) _ _ s;refine za (jL gt dt ?_)
 simp only[jw,hx];refine za (wg gi di (by simp) (zu ⟨x,rfl,zu (hQ _ ?_ (qx ..))⟩));exact⟨_,jT _ gi (wU (qH di _)),(Obj.cls_mapFields ..).trans ci,by rw[qH di];simp[rawInt]⟩
def lA{t:Addr}{i:Nat}{items:Array Value}(hh:A.handled=none)(hit:s.heap.IsTupleIter it t i)(ht:s.heap.IsTuple t items)(hx:items[i]?=none)
  (hE:∀h' e,Heap.ExtBut it s.heap h'->(∃o,h'.get? e=some o/\o.cls=.type "StopIteration")->E (.ref e) { s with heap:=h' }):wpAny (model prog w) A (Builtin.SmallTypes.nextOf (.ref it)) Q E s:=by
 obtain⟨oi,gi,ci,di⟩:=id hit;obtain⟨ot,gt,_,nt,dt⟩:=ht;unfold Builtin.SmallTypes.nextOf;refine za (jn (name:=Str.ofString "__next__") hit.typeIs qU (jy qU hit.typeIs yX ?_ (yQ _)));show wpAny _ _ (field (.ref it) 0 >>= _) _ _ s;refine za (jl gi di (x:=.ref t) rfl ?_)
 show wpAny _ _ (if (Value.ref t==Value.none)=true then _ else _) _ _ s;rw[jc (show ¬((Value.ref t==Value.none)=true) from kh)]
 show wpAny _ _ (field (.ref it) 1 >>= _) _ _ s;refine za (jl gi di (x:=.int i 0) rfl ?_)
 show wpAny _ _ (seqItems? (.ref t) >>= _) _ _ s;refine za (jL gt dt ?_)
 simp only[jw,hx];refine za (qD (za (wg gi di (by simp) ?_)));show wpAny _ _ (newExc (.type "StopIteration") [] >>= _) _ _ _
 refine za ?_;simp only[newExc,newTuple];refine za (jm ?_ (by size_fits));refine za (m:=firstArgMember _ _) (jW (a:=Value.none) (by first | rfl | (simp only[firstArgMember];rfl)) ?_);refine jm ?_ (by size_fits);simp only[raiseNew];refine za (wpAny_handled ?_);first | rw[show A.in1.handled=none from hh] | rw[hh]
 refine za (zu (wD ?_));exact hE _ _ (((qx ..).extBut.push _).push _) ⟨_,zO _ rfl,rfl⟩
end
def Qz(it a:Addr):Stp it a (λi h=>h.IsTupleIter it a i) (λh l=>h.IsTuple a l.toArray) where
 keep:=λp k=>p.at λo e=>k o e
 keepC:=λp k=>p.at λo e=>k o e
 obj:=λ⟨o,e,_,d⟩=>⟨o,e,λv z=>by rw[d] at z;cases z⟩
 item:=λp c e q=>iM p c (by simpa using e) q
 last:=λhh p c e q=>lA hh p c (by simpa using e) q
structure ZApart(z TI TO i1 i2 a1 a2:Addr):Prop where
 nd:[z,TI,TO,i1,i2].Nodup
 f1:a1∉[z,TI,TO,i1,i2]
 f2:a2∉[z,TI,TO,i1,i2]
noncomputable def rY(z TI TO i1 i2:Addr)(P1 P2:Nat->Heap->Prop)(f0:Value)(k1 k2:Nat)(h:Heap):Prop:=IsZip h z TI TO f0/\IsPair h TI (.ref i1) (.ref i2)/\(∃a b,IsPair h TO a b)/\P1 k1 h/\P2 k2 h
section
variable{prog:Program}{w:World}{A:Around}{E:Value->Shared->Prop}{s:Shared}{z TI TO i1 i2 a1 a2:Addr}{P1 P2:Nat->Heap->Prop}{C1 C2:Heap->List Value->Prop}
def rV(S1:StpT i1 a1 P1 C1)(S2:Stp i2 a2 P2 C2)(D:ZApart z TI TO i1 i2 a1 a2){l1 l2:List Value}(st:rY z TI TO i1 i2 P1 P2 .none k k s.heap)(c1:C1 s.heap l1)(c2:C2 s.heap l2)(hx:l1[k]?=some x)(hy:l2[k]?=some y)
  (hQ:∀h' x' tk,ox x x'->rY z TI TO i1 i2 P1 P2 (rawInt s.heap.objs.size) (k+1) (k+1) h'->h'.get? s.heap.objs.size=some { cls:=.type "tuple",data:=.seq #[x',y] }->(∀c o,c∉[z,TI,TO,i1,i2]->s.heap.get? c=some o->h'.get? c=some o)->Q (some (.ref s.heap.objs.size)) { s with heap:=h',toks:=tk }) :
  wpAny (model prog w) A (pyNext (.ref z)) Q E s:=by
 obtain⟨hz,hTI,⟨a,b,hTO⟩,p1,p2⟩:=st;have n:=D.nd;simp only[jA,zb,zc,zQ,j8] at n;obtain⟨⟨n1,n2,n3,n4⟩,⟨n5,n6,n7⟩,⟨n8,n9⟩,n10,_⟩:=n;have g1:=D.f1;have g2:=D.f2;simp only[zb,zc,zQ,j8] at g1 g2;obtain⟨g11,g12,g13,g14,g15⟩:=g1;obtain⟨g21,g22,g23,g24,g25⟩:=g2;have hT:s.TypeIs (.ref z) "zip":=⟨_,hz,rfl⟩;unfold pyNext;refine za (j6 (jn (name:=Str.ofString "__next__") hT qu (jy qu hT wJ ?_ (wC _))));show wpAny _ _ (field (.ref z) 2 >>= _) _ _ _;refine za (jl hz rfl (x:=.bool false) rfl ?_)
 show wpAny _ _ (field (.ref z) 3 >>= _) _ _ _;refine za (jl hz rfl (x:=.ref TI) rfl ?_)
 refine za (jL hTI rfl ?_);show wpAny _ _ (Builtin.SmallTypes.ownedTupleIsFree (.ref z) >>= _) _ _ _
 refine za ?_;unfold Builtin.SmallTypes.ownedTupleIsFree;refine za (jl hz rfl (x:=.none) rfl (zu ?_));simp only[kW];refine za (qD ?_);refine za (jl hz rfl (x:=.ref TO) rfl ?_);refine za (qb hz (by simp) λh1 q1 e1=>?_);replace q1:IsZip h1 z TI TO .ellipsis:=q1;refine za ?_;simp only[List.zipIdx_cons,List.zipIdx_nil,qX,wG];refine za (za (yo ?_));show wpAny _ _ (Builtin.SmallTypes.nextOf (.ref i1) >>= _) _ _ _
 refine za (S1.item (S1.keep p1 λo e=>e1.extBut _ _ (kY n3) e) (S1.keepC c1 λo e=>e1.extBut _ _ g11 e) hx λh2 x' tk tx r1 e2=>zu ?_);have t2:IsPair h2 TO a b:=e2.extBut _ _ n8 (e1.extBut _ _ (kY n2) hTO);refine za (jL t2 rfl ?_);refine za (wY t2 λh3 t3 e3=>?_);replace t3:IsPair h3 TO x' b:=t3
 refine za (yR (zu ?_));refine za (za (yo ?_));show wpAny _ _ (Builtin.SmallTypes.nextOf (.ref i2) >>= _) _ _ _
 refine za (S2.item (S2.keep p2 λo e=>e3.extBut _ _ (kY n9) (e2.extBut _ _ (kY n10) (e1.extBut _ _ (kY n4) e))) (S2.keepC c2 λo e=>e3.extBut _ _ g23 (e2.extBut _ _ g24 (e1.extBut _ _ g21 e))) hy λh4 r2 e4=>zu ?_);have t4:IsPair h4 TO x' b:=e4.extBut _ _ n9 t3;refine za (jL t4 rfl ?_);refine za (wY t4 λh5 t5 e5=>?_);replace t5:IsPair h5 TO x' y:=t5
 refine za (yR (zu (zu ?_)));refine za (jL t5 rfl ?_);refine za (wpAny_newTuple ?_);have sz:h5.objs.size=s.heap.objs.size:=by rw[e5.1,e4.1,e3.1,e2.1,e1.1]
 have all:∀c o,c∉[z,TI,TO,i1,i2]->s.heap.get? c=some o->h5.get? c=some o:=λc o hc e=>by
  simp only[zb,zc,zQ,j8] at hc;exact e5.extBut _ _ hc.2.2.1 (e4.extBut _ _ hc.2.2.2.2 (e3.extBut _ _ hc.2.2.1 (e2.extBut _ _ hc.2.2.2.1 (e1.extBut _ _ hc.1 e))))
 have z5:IsZip h5 z TI TO .ellipsis:=e5.extBut _ _ n2 (e4.extBut _ _ n4 (e3.extBut _ _ n2 (e2.extBut _ _ n3 q1)));have ti5:IsPair h5 TI (.ref i1) (.ref i2):=e5.extBut _ _ n5 (e4.extBut _ _ n7 (e3.extBut _ _ n5 (e2.extBut _ _ n6 (e1.extBut _ _ (kY n1) hTI))));have u1:P1 (k+1) h5:=S1.keep r1 λo e=>e5.extBut _ _ (kY n8) (e4.extBut _ _ n10 (e3.extBut _ _ (kY n8) e))
 have u2:P2 (k+1) h5:=S2.keep r2 λo e=>e5.extBut _ _ (kY n9) e
 have zlt:z<h5.objs.size:=zF z5;show wpAny _ _ (Builtin.SmallTypes.ownedTupleHandOut (.ref z) (.ref h5.objs.size) >>= _) _ _ _
 refine za ?_;unfold Builtin.SmallTypes.ownedTupleHandOut;have z6:IsZip (h5.push { cls:=.type "tuple",data:=.seq #[x',y] }) z TI TO .ellipsis:=zf _ z5;refine za (qb z6 (by simp) λh7 z7 e7=>?_);replace z7:IsZip h7 z TI TO (rawInt h5.objs.size):=z7;refine qb z7 (by simp) λh8 z8 e8=>?_
 replace z8:IsZip h8 z TI TO (rawInt h5.objs.size):=z8
 have up:∀c o,c≠z->h5.get? c=some o->h8.get? c=some o:=λc o c1 e=>e8.extBut _ _ c1 (e7.extBut _ _ c1 (zf _ e))
 have t8:h8.get? h5.objs.size=some { cls:=.type "tuple",data:=.seq #[x',y] }:=e8.extBut _ _ (ql zlt) (e7.extBut _ _ (ql zlt) (zO _ rfl));rw[sz] at z8 t8;refine zu ⟨_,rfl,zu ?_⟩;show Q (some (.ref h5.objs.size)) _
 rw[sz];exact hQ h8 x' _ tx ⟨z8,up _ _ (kY n1) ti5,⟨x',y,up _ _ (kY n2) t5⟩,S1.keep u1 λo e=>up _ o (kY n3) e,S2.keep u2 λo e=>up _ o (kY n4) e⟩ t8 λc o hc e=>up c o (λq=>hc (by simp[q])) (all c o hc e)
def pW(S1:StpT i1 a1 P1 C1)(S2:Stp i2 a2 P2 C2)(D:ZApart z TI TO i1 i2 a1 a2){l1 l2:List Value}(hh:A.handled=none)(st:rY z TI TO i1 i2 P1 P2 .none k k s.heap)(c1:C1 s.heap l1)(c2:C2 s.heap l2)(he:l1[k]?=none\/l2[k]?=none)
  (hQ:∀h' tk,(∀c o,c∉[z,TI,TO,i1,i2]->s.heap.get? c=some o->h'.get? c=some o)->Q none { s with heap:=h',toks:=tk }):wpAny (model prog w) A (pyNext (.ref z)) Q E s:=by
 obtain⟨hz,hTI,⟨a,b,hTO⟩,p1,p2⟩:=st;have n:=D.nd;simp only[jA,zb,zc,zQ,j8] at n;obtain⟨⟨n1,n2,n3,n4⟩,⟨n5,n6,n7⟩,⟨n8,n9⟩,n10,_⟩:=n;have g1:=D.f1;have g2:=D.f2;simp only[zb,zc,zQ,j8] at g1 g2;obtain⟨g11,g12,g13,g14,g15⟩:=g1;obtain⟨g21,g22,g23,g24,g25⟩:=g2;have hT:s.TypeIs (.ref z) "zip":=⟨_,hz,rfl⟩;have stop:∀{h':Heap} {tk:Tok} {e:Addr},(∃o,h'.get? e=some o/\o.cls=.type "StopIteration")->(∀c o,c∉[z,TI,TO,i1,i2]->s.heap.get? c=some o->h'.get? c=some o)->
   wpAny (model prog w) A (isInstance (.ref e) (.type "StopIteration") >>= λx=>if x=true then pure none else throw (.ref e)) Q E { s with heap:=h',toks:=tk }:=λ{h' tk e} ⟨o,ho,hc⟩ kk=>
  za (j4 (T:="StopIteration") (b:=true) ⟨o,ho,hc⟩ xn (zu (hQ _ _ kk)))
 unfold pyNext;refine za (j6 (jn (name:=Str.ofString "__next__") hT qu (jy qu hT wJ ?_ (wC _))));show wpAny _ _ (field (.ref z) 2 >>= _) _ _ _;refine za (jl hz rfl (x:=.bool false) rfl ?_)
 show wpAny _ _ (field (.ref z) 3 >>= _) _ _ _;refine za (jl hz rfl (x:=.ref TI) rfl ?_)
 refine za (jL hTI rfl ?_);show wpAny _ _ (Builtin.SmallTypes.ownedTupleIsFree (.ref z) >>= _) _ _ _
 refine za ?_;unfold Builtin.SmallTypes.ownedTupleIsFree;refine za (jl hz rfl (x:=.none) rfl (zu ?_));simp only[kW];refine za (qD ?_);refine za (jl hz rfl (x:=.ref TO) rfl ?_);refine za (qb hz (by simp) λh1 q1 e1=>?_);replace q1:IsZip h1 z TI TO .ellipsis:=q1;refine za ?_;simp only[List.zipIdx_cons,List.zipIdx_nil,qX,wG];refine za (za (yo ?_));show wpAny _ _ (Builtin.SmallTypes.nextOf (.ref i1) >>= _) _ _ _
 have p1':=S1.keep (h':=h1) p1 λo e=>e1.extBut _ _ (kY n3) e
 have c1':=S1.keepC (h':=h1) c1 λo e=>e1.extBut _ _ g11 e
 cases hx:l1[k]? with
 | none=>
  refine za (S1.last hh p1' c1' hx λh2 e e2 ⟨oe,ge,ce⟩=>?_);have z2:IsZip h2 z TI TO .ellipsis:=e2 _ _ n3 q1;have ne:e≠z:=λq=>by subst q;rw[z2] at ge;cases ge;simp at ce
  refine qb z2 (by simp) λh3 _ e3=>?_
  refine stop ⟨oe,e3.extBut _ _ ne ge,ce⟩ λc o hc g=>?_
  simp only[zb,zc,zQ,j8] at hc;exact e3.extBut _ _ hc.1 (e2 _ _ hc.2.2.2.1 (e1.extBut _ _ hc.1 g))
 | some x=>
  have hy:l2[k]?=none:=by rcases he with h | h;rw[hx] at h;cases h;exact h
  refine za (S1.item p1' c1' hx λh2 x' tk tx r1 e2=>zu ?_);have t2:IsPair h2 TO a b:=e2.extBut _ _ n8 (e1.extBut _ _ (kY n2) hTO);refine za (jL t2 rfl ?_);refine za (wY t2 λh3 t3 e3=>?_);refine za (yR (zu ?_));refine za (za (yo ?_));show wpAny _ _ (Builtin.SmallTypes.nextOf (.ref i2) >>= _) _ _ _
  refine za (S2.last hh (S2.keep p2 λo e=>e3.extBut _ _ (kY n9) (e2.extBut _ _ (kY n10) (e1.extBut _ _ (kY n4) e))) (S2.keepC c2 λo e=>e3.extBut _ _ g23 (e2.extBut _ _ g24 (e1.extBut _ _ g21 e))) hy λh4 e e4 ⟨oe,ge,ce⟩=>?_);have z4:IsZip h4 z TI TO .ellipsis:=e4 _ _ n4 (e3.extBut _ _ n2 (e2.extBut _ _ n3 q1));have ne:e≠z:=λq=>by subst q;rw[z4] at ge;cases ge;simp at ce
  refine qb z4 (by simp) λh5 _ e5=>?_
  refine stop ⟨oe,e5.extBut _ _ ne ge,ce⟩ λc o hc g=>?_
  simp only[zb,zc,zQ,j8] at hc;exact e5.extBut _ _ hc.1 (e4 _ _ hc.2.2.2.2 (e3.extBut _ _ hc.2.2.1 (e2.extBut _ _ hc.2.2.2.1 (e1.extBut _ _ hc.1 g))))
end
noncomputable def nN(v:Value)(o:Obj)(C:Heap->Prop):Prop:=∀(prog:Program) (w:World) (A:Around) (E:Value->Shared->Prop) (s:Shared) (Q:Value->Shared->Prop),C s.heap->Q (.ref s.heap.objs.size) { s with heap:=s.heap.push o }->wpAny (model prog w) A (pyIter v) Q E s
def Wn(a:Addr)(l:List Value):nN (.ref a) { cls:=.type "list_iterator",data:=.fields #[.ref a,.int 0 0] } (λh=>h.IsList a l.toArray):=λ_ _ _ _ _ _ c q=>vo c q
def Jt(a:Addr)(l:List Value):nN (.ref a) { cls:=.type "tuple_iterator",data:=.fields #[.ref a,.int 0 0] } (λh=>h.IsTuple a l.toArray):=λ_ _ _ _ _ _ c q=>ym c q
section
variable{v1 v2:Value}{o1 o2:Obj}{C1 C2:Heap->Prop}
abbrev WP(h:Heap)(o1:Obj):Heap:=h.push o1
abbrev Yi(h:Heap)(o1 o2:Obj):Heap:=(WP h o1).push o2
abbrev WL(h:Heap)(o1 o2:Obj):Heap:=(Yi h o1 o2).push { cls:=.type "tuple",data:=.seq #[.ref h.objs.size,.ref (WP h o1).objs.size] }
abbrev WJ(h:Heap)(o1 o2:Obj):Heap:=(WL h o1 o2).push { cls:=.type "tuple",data:=.seq #[.none,.none] }
abbrev Zp(h:Heap)(o1 o2:Obj):Heap:=(WJ h o1 o2).push { cls:=.type "zip",data:=.fields #[.none,.bool false,.bool false,.ref (Yi h o1 o2).objs.size,.ref (WL h o1 o2).objs.size] }
def YD(r1:nN v1 o1 C1)(r2:nN v2 o2 C2) :
  Meets (Builtin.«zip.__new__» ⟨[.type "zip",v1,v2],[]⟩) (λ_ R s=>C1 s.heap/\C2 (s.heap.push o1)/\R (.ok (.ret (.ref (WJ s.heap o1 o2).objs.size))) { s with heap:=Zp s.heap o1 o2 }):=
 .of_wp λprog w A R s h=>by
  obtain⟨hp,g,d,tk,os⟩:=s;obtain⟨k1,k2,h⟩:=h;have hsub:=sub_zip;have q1:∀{A:Around} {E:Value->Shared->Prop} {Q:Value->Shared->Prop},Q (.ref hp.objs.size) ⟨hp.push o1,g,d,tk,os⟩->wpAny (model prog w) A (pyIter v1) Q E ⟨hp,g,d,tk,os⟩:=λq=>r1 prog w _ _ _ _ k1 q
  have q2:∀{A:Around} {E:Value->Shared->Prop} {Q:Value->Shared->Prop},Q (.ref (hp.push o1).objs.size) ⟨(hp.push o1).push o2,g,d,tk,os⟩->wpAny (model prog w) A (pyIter v2) Q E ⟨hp.push o1,g,d,tk,os⟩:=λq=>r2 prog w _ _ _ _ k2 q
  wp_walk using q1,q2
  exact⟨_,rfl,h⟩
end
section
variable{prog:Program}{w:World}{A:Around}{E:Value->Shared->Prop}{s:Shared}{v1 v2:Value}{o1 o2:Obj}{C1 C2:Heap->Prop}
def pe(r1:nN v1 o1 C1)(r2:nN v2 o2 C2)(k1:C1 s.heap)(k2:C2 (s.heap.push o1))(hf1:o1.isFreed=false)(hf2:o2.isFreed=false)
  (h:∀h',IsZip h' (s.heap.objs.size+4) (s.heap.objs.size+2) (s.heap.objs.size+3) .none->IsPair h' (s.heap.objs.size+2) (.ref s.heap.objs.size) (.ref (s.heap.objs.size+1))->
   IsPair h' (s.heap.objs.size+3) .none .none->h'.get? s.heap.objs.size=some o1->h'.get? (s.heap.objs.size+1)=some o2->(∀c o,s.heap.get? c=some o->h'.get? c=some o)->Q (.ref (s.heap.objs.size+4)) { s with heap:=h' }) :
  wpAny (model prog w) A (call (.type "zip") [v1,v2]) Q E s:=by
 refine callType_new F.called_zip (by decide) (F.typeCall_zip_2 _ _) (F.newCall_zip_2 _ _) (λobj=>F.args_object_init_3 obj _ _) F.entry_zip_new (YD r1 r2) ⟨k1,k2,?_⟩;have y1:(WP s.heap o1).objs.size=s.heap.objs.size+1:=j9 ..;have y2:(Yi s.heap o1 o2).objs.size=s.heap.objs.size+2:=by rw[j9,y1]
 have y3:(WL s.heap o1 o2).objs.size=s.heap.objs.size+3:=by rw[j9,y2]
 have y4:(WJ s.heap o1 o2).objs.size=s.heap.objs.size+4:=by rw[j9,y3]
 have b5:(Zp s.heap o1 o2).get? (WJ s.heap o1 o2).objs.size=some _:=zO _ rfl;have b4:(Zp s.heap o1 o2).get? (WL s.heap o1 o2).objs.size=some _:=zf _ (zO _ rfl);have b3:(Zp s.heap o1 o2).get? (Yi s.heap o1 o2).objs.size=some _:=zf _ (zf _ (zO _ rfl));have b2:(Zp s.heap o1 o2).get? (WP s.heap o1).objs.size=some _:=zf _ (zf _ (zf _ (zO _ hf2)));have b1:(Zp s.heap o1 o2).get? s.heap.objs.size=some _:=zf _ (zf _ (zf _ (zf _ (zO _ hf1))));show _/\_
 rw[y2,y3,y4] at b5;rw[y1,y2] at b3;rw[y3] at b4;rw[y1] at b2;rw[y4];exact⟨⟨_,b5,rfl⟩,h _ b5 b3 b4 b1 b2 λc o x=>zf _ (zf _ (zf _ (zf _ (zf _ x))))⟩
end
def mC{X:Cx}{pins:List (Addr×Obj)}{σ:L2.St}{H:Hp}{s:Shared}{h':Heap}{t':Nat}{fp:List Addr}{p:Addr}{o:HO}(I:Inv X pins σ H s)(k:∀b o,b∉fp->s.heap.get? b=some o->h'.get? b=some o)(hf:∀b∈fp,uN X pins H b)
  (hp:s.heap.objs.size<=p) (new:ObjOk X.prog X.w (upd H p o) h' p o):Inv X pins σ (upd H p o) { s with heap:=h',toks:=t' }:=by
 have hn:H p=none:=I.hok.fresh hp;have away:∀b u,H b=some u->b∉fp:=λb u e z=>by rw[(hf b z).1] at e;cases e
 have lt:∀b u,s.heap.get? b=some u->b≠p:=λb u e=>zX (zN (zF e) hp)
 refine I.step (g':=s.gens) (d':=s.drawn) (ch:=fp) (λb hb=>⟨(hf b hb).2.2.2.1,(hf b hb).2.1,(hf b hb).2.2.2.2.1,(hf b hb).2.2.2.2.2⟩) (λb o _ _ hc e _=>k b o hc e) (λb o _ _ hc e _=>⟨o.slots,k b o hc e⟩) (λb u _ e n=>by rw[kQ (lt b u e)];exact n)
  (λb o hc e=>⟨o,k b o hc e⟩) (λb xs e=>by rw[kQ (qr e hn)];exact e) (λb u v e=>by rw[kQ (qr e hn)];exact e) (λb ps e=>⟨#[],by rw[kQ (qr e hn),e];simp⟩) (λm hm=>?_) (λb u e=>?_) I.bare
 .obtain⟨o,es,ep,ho,r⟩:=hm
  exact⟨o,es,ep,k _ o (λz=>(hf _ z).2.1 rfl) ho,r⟩
 .by_cases hb:b=p
  .subst hb;rw[qc] at e;cases e;exact new
  .rw[kQ hb] at e
   refine(I.hok b u e).stay (λc v hc q=>k c v ?_ q) (λc q=>by rw[kQ (qr q hn)];exact q) λc xs q=>by rw[kQ (qr q hn)];exact q
   rcases hc with z | z
   .rw[z];exact away b u e
   .exact away c _ z
def tR(r:RelV v x)(h:ox x y):RelV v y:=by
 rcases h with rfl | ⟨z,t,t',rfl,rfl⟩
 .exact r
 .cases v with
  | str w=>obtain⟨t,e⟩:=r;cases e;exact⟨_,rfl⟩
  | int i | byt i | flt i=>exact absurd r (λ⟨_,e⟩=>nomatch e)
  | _=>cases r
noncomputable def gE(K:PySem.W.Frag)(tp:Bool)(H:Hp)(a:Addr)(xs:List V):Prop:=if tp=true then SqT K H a xs else SqL K H a xs
noncomputable def Za(tp:Bool)(a:Addr)(h:Heap)(l:List Value):Prop:=if tp=true then h.IsTuple a l.toArray else h.IsList a l.toArray
noncomputable def Qc(tp:Bool)(it a:Addr)(i:Nat)(h:Heap):Prop:=if tp=true then h.IsTupleIter it a i else h.IsListIter it a i
noncomputable def W7(tp:Bool)(a:Addr):Obj:=if tp=true then { cls:=.type "tuple_iterator",data:=.fields #[.ref a,.int 0 0] } else { cls:=.type "list_iterator",data:=.fields #[.ref a,.int 0 0] }
def xk(tp:Bool)(it a:Addr):Stp it a (Qc tp it a) (Za tp a):=by
 cases tp
 .exact VS it a
 .exact Qz it a
def oQ(tp:Bool)(a:Addr)(l:List Value):nN (.ref a) (W7 tp a) (λh=>Za tp a h l):=by
 cases tp
 .exact Wn a l
 .exact Jt a l
theorem fN(tp:Bool)(a:Addr):(W7 tp a).isFreed=false:=by cases tp<;>rfl
def io{h:Heap}(e:h.get? it=some (W7 tp a)):Qc tp it a 0 h:=by
 cases tp
 .exact⟨_,e,rfl,rfl⟩
 .exact⟨_,e,rfl,rfl⟩
section
variable{X:Cx}{pins:List (Addr×Obj)}{σ:L2.St}{H:Hp}{s:Shared}
def uz(I:Inv X pins σ H s)(h:gE X.K tp H a xs):∃l,Vals xs l/\Za tp a s.heap l:=by
 cases tp
 .obtain⟨its,r,p,_⟩:=I.list (show SqL X.K H a xs from h)
  exact⟨its,r,p.isList⟩
 .obtain⟨its,r,p,_⟩:=I.tuple (show SqT X.K H a xs from h)
  exact⟨its,r,p⟩
def Zb(I:Inv X pins σ H s)(h:gE X.K tp H a xs)(h':gE X.K tp H a ys):xs=ys:=by
 cases tp
 .exact I.list_inj (show SqL X.K H a xs from h) h'
 .exact I.tuple_inj (show SqT X.K H a xs from h) h'
def fv(I:Inv X pins σ H s)(h:gE X.K tp H a xs)(f:uN X pins H b):a≠b:=by
 have k:∀o,X.K.lookup a=some o->a≠b:=λo e z=>by
  subst z;have eb:X.base.get? a=some o:=I.mod.kin _ _ e;rcases f.2.2.2.1 with q | q
  .exact I.ok.noex _ _ eb q
  .exact absurd (zN (zF eb) (zT I.ok.bsz q)) (jE _)
 have r:∀u,Rd H a u->a≠b:=λu q=>by
  rcases q with q | ⟨o,q⟩<;>exact qr q f.1
 cases tp
 .rcases(show SqL X.K H a xs from h) with q | ⟨o,_,_,e,_⟩
  .exact r _ q
  .exact k o e
 .rcases(show SqT X.K H a xs from h) with q | ⟨o,_,_,e,_⟩
  .exact r _ q
  .exact k o e
end
noncomputable def FS (K : PySem.W.Frag) (t1 t2 : Bool) (a1 a2 : Addr) : It :=
  ⟨λi H => ∃ xs ys x y, gE K t1 H a1 xs /\ gE K t2 H a2 ys /\ xs[i]? = some x /\ ys[i]? = some y,
   λi H v H' => ∃ p x y, H p = none /\ v = .ref p /\ H' = upd H p (.tup [x, y]) /\ (∀ xs, gE K t1 H a1 xs -> xs[i]? = some x) /\ ∀ ys, gE K t2 H a2 ys -> ys[i]? = some y,
   λi H => ∃ xs ys, gE K t1 H a1 xs /\ gE K t2 H a2 ys /\ (xs.length <= i \/ ys.length <= i)⟩
def Wy{P:Program}{w:World}{K:PySem.W.Frag}{elts:List Expr}{n:Nat}{tpos:Pos}(t1 t2:Bool)(z TI TO i1 i2 a1 a2:Addr)(nd:[z,TI,TO,i1,i2].Nodup) :
  Turn P w K (.Tuple elts n tpos) (FS K t1 t2 a1 a2) [z,TI,TO,i1,i2] z (λi h=>rY z TI TO i1 i2 (Qc t1 i1 a1) (Qc t2 i2 a2) .none i i h) where
 mem:=by simp
 obj:=λi h st b hb=>by
  obtain⟨hz,hTI,⟨a,b',hTO⟩,p1,p2⟩:=st;simp only[zb,zc,zQ] at hb;rcases hb with rfl | rfl | rfl | rfl | rfl
  .exact⟨_,hz,λv q=>by cases q⟩
  .exact⟨_,hTI,λv q=>by cases q⟩
  .exact⟨_,hTO,λv q=>by cases q⟩
  .exact(xk t1 _ a1).obj p1
  .exact(xk t2 _ a2).obj p2
 keep:=λi h h' st k=>by
  obtain⟨hz,hTI,⟨a,b',hTO⟩,p1,p2⟩:=st;exact⟨k z (by simp) _ hz,k TI (by simp) _ hTI,⟨a,b',k TO (by simp) _ hTO⟩,(xk t1 i1 a1).keep p1 λo e=>k i1 (by simp) o e,(xk t2 i2 a2).keep p2 λo e=>k i2 (by simp) o e⟩
 item:=by
  intro X hP hw hK hc i pins s σ H E I hf st hg;subst hP hw hK;obtain⟨xs,ys,x,y,d1,d2,hx,hy⟩:=hg;obtain⟨l1,r1,c1⟩:=uz I d1;obtain⟨l2,r2,c2⟩:=uz I d2;obtain⟨u1,e1,ru1⟩:=r1.get hx;obtain⟨u2,e2,ru2⟩:=r2.get hy;have D:ZApart z TI TO i1 i2 a1 a2:=⟨nd,λq=>fv I d1 (hf _ q) rfl,λq=>fv I d2 (hf _ q) rfl⟩;refine rV (xk t1 i1 a1).t (xk t2 i2 a2) D st c1 c2 e1 e2 λh' u1' tk tx st' ht kp=>⟨_,rfl,?_⟩
  have ru1:=tR ru1 tx;obtain⟨hz,hTI,⟨a,b',hTO⟩,p1,p2⟩:=st';have n:=nd;simp only[jA,zb,zc,zQ,j8] at n;obtain⟨⟨n1,n2,n3,n4⟩,_⟩:=n;refine wpAny_letOwnedTupleGo_zip hz λh2 hz2 sb=>?_
  have zlt:z<s.heap.objs.size:=by obtain⟨q,_⟩:=st;exact zF q
  have ht2:h2.get? s.heap.objs.size=some { cls:=.type "tuple",data:=.seq #[u1',u2] }:=sb.extBut _ _ (ql zlt) ht;have I2:Inv X pins σ (upd H s.heap.objs.size (.tup [x,y])) { s with heap:=h2,toks:=tk }:=mC (t':=tk) (fp:=[z,TI,TO,i1,i2]) I (λb o hb e=>sb.extBut _ _ (λq=>hb (by simp[q])) (kp b o hb e)) hf (zg _)
   ⟨by show 2<=sizeLine;decide,[u1',u2],.cons ru1 (.cons ru2 .nil),⟨_,ht2,rfl,_,rfl⟩,⟨_,ht2,rfl⟩⟩
  refine⟨.ref s.heap.objs.size,_,I2,rfl,⟨_,x,y,I.hok.fresh (zg _),rfl,rfl,λxs' q=>by rw[Zb I q d1];exact hx,λys' q=>by rw[Zb I q d2];exact hy⟩,?_,λb hb=>?_⟩
  .exact⟨hz2,sb.extBut _ _ (kY n1) hTI,⟨a,b',sb.extBut _ _ (kY n2) hTO⟩,(xk t1 i1 a1).keep p1 λo e=>sb.extBut _ _ (kY n3) e,(xk t2 i2 a2).keep p2 λo e=>sb.extBut _ _ (kY n4) e⟩
  .obtain⟨o,ho,_⟩:∃o,s.heap.get? b=some o/\True:=by
    obtain⟨hz0,hTI0,⟨a0,b0,hTO0⟩,p10,p20⟩:=st;simp only[zb,zc,zQ] at hb;rcases hb with rfl | rfl | rfl | rfl | rfl
    .exact⟨_,hz0,trivial⟩
    .exact⟨_,hTI0,trivial⟩
    .exact⟨_,hTO0,trivial⟩
    .obtain⟨o,q,_⟩:=(xk t1 _ a1).obj p10;exact⟨o,q,trivial⟩
    .obtain⟨o,q,_⟩:=(xk t2 _ a2).obj p20;exact⟨o,q,trivial⟩
   rw[kQ (zX (zF ho))];exact(hf b hb).1
 done:=by
  intro X hP hw hK hc i pins s σ H E I hf st hg;subst hP hw hK;obtain⟨xs,ys,d1,d2,he⟩:=hg;obtain⟨l1,r1,c1⟩:=uz I d1;obtain⟨l2,r2,c2⟩:=uz I d2;have D:ZApart z TI TO i1 i2 a1 a2:=⟨nd,λq=>fv I d1 (hf _ q) rfl,λq=>fv I d2 (hf _ q) rfl⟩;refine pW (xk t1 i1 a1).t (xk t2 i2 a2) D (I.ok.hd hc) st c1 c2 ?_ λh' tk kp=>⟨rfl,KH (t':=tk) I kp hf⟩
  rcases he with he | he
  .exact .inl (jV (by rw[<-r1.length];exact he))
  .exact .inr (jV (by rw[<-r2.length];exact he))
 self:=λ_ _ _ _ _ st h=>yI st.1 h
noncomputable def uE(h:MH)(w:W):Option (List W):=match w with
 | .tup l=>some l
 | .fls l=>some l
 | _=>none
noncomputable def oS(ws:List W):M Src:=λh=>match ws with
 | [x,y]=>match uE h x,uE h y with
  | some l,some l'=>some (.items ((l.zip l').map λp=>.tup [p.1,p.2]),h)
  | _,_=>none
 | _=>none
noncomputable def dA(ms:List ME):MI:=λρ=>bnd (ko ms ρ) oS
section
variable{X:Cx}{cl:Cl}{elts:List Expr}{n:Nat}{tpos p pos:Pos}{e1 e2:Expr}{ms:List ME}
def fz{K:PySem.W.Frag}{μ:List Addr}{H:Hp}{h:MH}(r:RW K μ H w v)(e:uE h w=some l):∃tp a vs,v=.ref a/\RWs K μ H l vs/\gE K tp H a vs/\(∀μ2 H2 h2,HR K cl μ H h->Ext μ H μ2 H2->HR K cl μ2 H2 h2->gE K tp H2 a vs):=by
 unfold uE at e;split at e
 .cases e
  obtain⟨a,vs,rfl,sa,ra⟩:=r.tup_of;exact⟨true,a,vs,rfl,ra,sa,λμ2 H2 h2 R E R2=>SqT.ext R E sa⟩
 .cases e
  cases r with | @fls a vs l sa ra=>
  exact⟨false,a,vs,rfl,ra,sa.sq,λμ2 H2 h2 R E R2=>(SqF.ext E sa).sq⟩
 .cases e
def U0(hm:X.mg "zip" = none)(ha:SA X cl [e1,e2] ms)(hg:↥(Gl X "zip"))(hst:↥(starEach [e1,e2] X.env=(false,eval e1 X.env)::starEach [e2] X.env))(hpl:↥((backTo pos (starEach [e2] X.env)).any (·.1)=false)) :
  SI X cl (.Tuple elts n tpos) (.Call (.Name "zip" p) [e1,e2] [] pos) (dA ms):=by
 rintro pins s σ H R I ⟨μ,h,ρ,src,h',R0,er,e,k⟩;obtain⟨ws,h1,e1',e⟩:=ka e;have hv:bootBuiltins "zip" = some (.type "zip"):=by decide +kernel
 refine jz (ug I hg hm hv ?_ (by decide) (by decide));refine jo (kC (ha pos pins s σ H (λvs H1=>∃μ1,Ext μ H μ1 H1/\HR X.K cl μ1 H1 h1/\RWs X.K μ1 H1 ws vs) I ⟨μ,h,ρ,ws,h1,R0,er,e1',λμ1 H1 vs E1 R1 rs=>⟨μ1,E1,R1,rs⟩⟩) λus s1 ⟨vs,H1,I1,r1,μ1,E1,R1,rs⟩=>?_) hst hpl;unfold oS at e;split at e
 .rename_i x y
  split at e
  .rename_i l l' q1 q2
   cases e;cases rs with | cons rx t=>cases t with | cons ry t=>cases t with | nil=>
   obtain⟨t1,a1,xs,rfl,ra1,d1,f1⟩:=fz (cl:=cl) rx q1;obtain⟨t2,a2,ys,rfl,ra2,d2,f2⟩:=fz (cl:=cl) ry q2;obtain⟨u1,u2,rfl,ru1,ru2⟩:=vals2 r1;cases ru1;cases ru2;obtain⟨l1,v1,c1⟩:=uz I1 d1;obtain⟨l2,v2,c2⟩:=uz I1 d2;refine pe (oQ t1 a1 l1) (oQ t2 a2 l2) c1 ((xk t2 0 a2).keepC c2 λo e=>zf _ e) (fN t1 a1) (fN t2 a2) λh2 b5 b3 b4 b1 b2 kp=>?_
   refine yI b5 ?_;have nd:[s1.heap.objs.size+4,s1.heap.objs.size+2,s1.heap.objs.size+3,s1.heap.objs.size,s1.heap.objs.size+1].Nodup:=by
    simp only[jA,zb,zc,zQ,j8,vO,and_true,not_false_eq_true];omega
   refine⟨_,_,_,_,H1,rfl,I1.kept (t':=s1.toks) kp,Wy t1 t2 _ _ _ _ _ a1 a2 nd,⟨b5,b3,⟨_,_,b4⟩,io b1,io b2⟩,λb hb=>?_,k μ1 H1 _ E1 R1 ?_⟩
   .have hge:s1.heap.objs.size<=b:=by
     simp only[zb,zc,zQ] at hb;rcases hb with rfl | rfl | rfl | rfl | rfl<;>omega
    exact I1.fpOk hge (I1.hok.fresh hge)
   .intro μ2 H2 h3 E2 R2 i
    have d1':=f1 μ2 H2 h3 R1 E2 R2;have d2':=f2 μ2 H2 h3 R1 E2 R2;have ra1':=ra1.ext R1 E2;have ra2':=ra2.ext R1 E2;refine⟨λw ew=>?_,λes=>?_⟩
    .have ew':((l.zip l').map λp=>W.tup [p.1,p.2])[i]?=some w:=zZ ew
     rw[jb] at ew';cases ez:(l.zip l')[i]? with
     | none=>rw[ez] at ew';cases ew'
     | some pr=>
      rw[ez] at ew';cases ew';obtain⟨ea,eb⟩:=List.getElem?_zip_eq_some.mp ez;obtain⟨vx,evx,rvx⟩:=ra1'.get ea;obtain⟨vy,evy,rvy⟩:=ra2'.get eb;refine⟨⟨xs,ys,vx,vy,d1',d2',evx,evy⟩,λv H3 yl=>?_⟩;obtain⟨pp,x',y',hp,rfl,rfl,w1,w2⟩:=yl;have z1:=w1 xs d1';have z2:=w2 ys d2';rw[evx] at z1;rw[evy] at z2;cases z1;cases z2;exact⟨.side hp,R2.side hp,.tup (SqT.of qc) (.cons (rvx.ext R2 (.side hp)) (.cons (rvy.ext R2 (.side hp)) .nil))⟩
    .have es':((l.zip l').map λp=>W.tup [p.1,p.2])[i]?=none:=zZ es
     have hl:=jK.mp es';rw[zB,qz] at hl;refine⟨xs,ys,d1',d2',?_⟩;rw[<-ra1.length,<-ra2.length];omega
  .cases e
 .cases e
end
noncomputable def intsOf:List W->Option (List Int)
 | []=>some []
 | .int b::r=>match intsOf r with
  | some l=>some (b::l)
  | none=>none
 | _=>none
noncomputable def uM:List Int->Int
 | []=>0
 | i::r=>i+uM r
noncomputable def gS(ws:List W):M W:=λh=>match ws with
 | [w]=>match xS h w with
  | some l=>match intsOf l with
   | some bs=>some (.int (uM bs),h)
   | none=>none
  | none=>none
 | _=>none
section
variable{K:PySem.W.Frag}{μ:List Addr}{H:Hp}
theorem oo:∀{l:List W} {vs:List V} {us:List Value} {bs:List Int},intsOf l=some bs->RWs K μ H l vs->Vals vs us->us.length=bs.length/\∀i u,us[i]?=some u->∃t,u=Value.int (bs.getD i 0) t
 | [],_,_,_,e,.nil,.nil=>by cases e;exact⟨rfl,λi u e=>by simp at e⟩
 | .int b::r,_,_,_,e,.cons rb rr,.cons tb tr=>by
  unfold intsOf at e;split at e
  .rename_i l e'
   cases e;cases rb;obtain⟨t,rfl⟩:=tb;obtain⟨h1,h2⟩:=oo e' rr tr;refine⟨by simp[h1],λi u e=>?_⟩;cases i with
   | zero=>simp at e;subst e;exact⟨t,rfl⟩
   | succ i=>simpa using h2 i u (by simpa using e)
  .cases e
 | .non::r,_,_,_,e,_,_=>by cases e
 | .bl _::r,_,_,_,e,_,_=>by cases e
 | .str _::r,_,_,_,e,_,_=>by cases e
 | .tup _::r,_,_,_,e,_,_=>by cases e
 | .fls _::r,_,_,_,e,_,_=>by cases e
 | .ref _::r,_,_,_,e,_,_=>by cases e
 | .fdc _::r,_,_,_,e,_,_=>by cases e
 | .fn _::r,_,_,_,e,_,_=>by cases e
end
def tL(a b:List Int):uM (a++b)=uM a+uM b:=by
 induction a with
 | nil=>simp[uM]
 | cons x r ih=>simp only[jk,uM,ih];omega
theorem preSum_eq(bs:List Int):∀n,n<=bs.length->preSum (λi=>bs.getD i 0) n=uM (bs.take n)
 | 0,_=>by simp[preSum,uM]
 | n+1,h=>by
  have ih:=preSum_eq bs n ∅;have:preSum (λi=>bs.getD i 0) (n+1)=preSum (λi=>bs.getD i 0) n+bs.getD n 0:=rfl;rw[this,ih,List.take_succ,tL];simp[zE (show n<bs.length by omega),uM]
section
variable{X:Cx}{cl:Cl}
def VC{s:Shared}{H:Hp}{A:Around}(I:Inv X pins σ H s)(sq:SqL X.K H a vs\/SqT X.K H a vs)(hh:A.handled=none)
  (k:∀(us:List Value) (it:Addr) (fp wr:List Addr) (St:Nat->Heap->Prop) (h1:Heap),Vals vs us->Walks X.prog X.w A it fp wr us.length (λi v=>us[i]?=some v) St->St 0 h1->(∀b∈fp,b<h1.objs.size)->
   (∀b∈wr,s.heap.objs.size<=b)->(∀b o,s.heap.get? b=some o->h1.get? b=some o)->R (.ref it) { s with heap:=h1 }) :
  wpAny (model X.prog X.w) A (pyIter (.ref a)) R E s:=by
 rcases sq with sq | sq
 .obtain⟨its,rv,p,hz⟩:=I.list sq
  refine vo p.isList ?_;have hlt:a<s.heap.objs.size:=by obtain⟨o,ho,_⟩:=p.isList;exact zF ho
  have W0:=xx (prog:=X.prog) (w:=X.w) hh s.heap.objs.size a (zX hlt) its.toArray;have W1:Walks X.prog X.w A s.heap.objs.size [s.heap.objs.size,a] [s.heap.objs.size] its.length (λi v=>its[i]?=some v) (λi h=>h.IsListIter s.heap.objs.size a i/\h.IsList a its.toArray):=by simpa using W0
  refine k its _ _ _ _ _ rv W1 ⟨⟨_,zO _ rfl,rfl,rfl⟩,p.isList.at λo e=>zf _ e⟩ (λb hb=>?_) (λb hb=>?_) λb o e=>zf _ e
  .simp only[zb,zc,zQ] at hb
   simp only[j9];rcases hb with rfl | rfl
   .exact jY _
   .exact vY hlt
  .simp only[zb,zc,zQ] at hb
   rw[hb];exact zg _
 .obtain⟨its,rv,p,hz⟩:=I.tuple sq
  refine ym (show s.heap.IsTuple a its.toArray from p) ?_;have hlt:a<s.heap.objs.size:=by obtain⟨o,ho,_⟩:=id p;exact zF ho
  have p':s.heap.IsTuple a its.toArray:=p;have W0:=Walks.tuple (prog:=X.prog) (w:=X.w) hh s.heap.objs.size a (zX hlt) its.toArray;have W1:Walks X.prog X.w A s.heap.objs.size [s.heap.objs.size,a] [s.heap.objs.size] its.length (λi v=>its[i]?=some v) (λi h=>h.IsTupleIter s.heap.objs.size a i/\h.IsTuple a its.toArray):=by simpa using W0
  refine k its _ _ _ _ _ rv W1 ⟨⟨_,zO _ rfl,rfl,rfl⟩,p'.at λo e=>zf _ e⟩ (λb hb=>?_) (λb hb=>?_) λb o e=>zf _ e
  .simp only[zb,zc,zQ] at hb
   simp only[j9];rcases hb with rfl | rfl
   .exact jY _
   .exact vY hlt
  .simp only[zb,zc,zQ] at hb
   rw[hb];exact zg _
def Kb{pins:List (Addr×Obj)}{s:Shared}{σ:L2.St}{H:Hp}{h1 h2:Heap}{tk:Nat}{wr:List Addr}(I:Inv X pins σ H s)(k1:∀b o,s.heap.get? b=some o->h1.get? b=some o)(hw:∀b∈wr,s.heap.objs.size<=b)(k2:∀b o,b∉wr->h1.get? b=some o->h2.get? b=some o) :
  Inv X pins σ H { s with heap:=h2,toks:=tk }:=
 I.kept (t':=tk) λb o e=>k2 b o (λz=>absurd (zF e) (Nat.not_lt.mpr (hw b z))) (k1 b o e)
def JY(hc:X.calm=true):yB X (.builtin "sum") (rMs X.K cl gS):=by
 rintro pins s σ H xs us Q I rs ⟨μ,h,ws,w,h',R,ax,e,k⟩;unfold gS at e;split at e
 .split at e
  .rename_i l el
   split at e
   .rename_i bs eb
    cases e;cases ax with | cons r t=>cases t with | nil=>
    obtain⟨a,vs,rfl,sa,ra⟩:=f7 R r el;obtain⟨u,rfl,ru⟩:=rs.one;cases ru;have hh:=I.ok.hd hc;refine call_sum_walkG (VC (A:=X.A.in1) I sa hh λus it fp wr St h1 rv W hst hfp hwr k1=>?_);obtain⟨hl,hv⟩:=oo eb ra rv;refine⟨it,fp,wr,_,_,St,λi=>bs.getD i 0,rfl,W,hst,hfp,hv,λh2 tk t' k2=>?_⟩;rw[hl,preSum_eq bs _ (zg _),yg];exact⟨.int _,H,(show Inv X pins σ H { s with heap:=h2,toks:=tk } from Kb I k1 hwr k2),⟨t',rfl⟩,k.pure R (.int _)⟩
   .cases e
  .cases e
 .cases e
def boot_sum:bootBuiltins "sum" = some (.builtin "sum"):=by decide +kernel
def nL:bootBuiltins "tuple" = some (.type Ty.tuple.name):=by decide +kernel
def VI:bootBuiltins "list" = some (.type Ty.list.name):=by decide +kernel
def sQ:bootBuiltins "dict" = some (.type Ty.dict.name):=by decide +kernel
end
noncomputable abbrev ii:W->W->M W:=vT λi j=>decide (i<j)
noncomputable abbrev W9:W->W->M W:=vT λi j=>decide (i<=j)
noncomputable abbrev Yb:W->W->M W:=vT λi j=>decide (j<i)
noncomputable abbrev mW:W->W->M W:=λx y=>match x,y with | .int i,.int j=>λh=>some (.int (i+j),h) | _,_=>λ_=>none
noncomputable def DQ(x:Str):It:=
 ⟨λi _=>i<x.cps.size,λi H v H'=>H'=H/\∃c,x.cps[i]?=some c/\v=.str ⟨#[c]⟩,λi _=>x.cps.size<=i⟩
section
variable{P:Program}{w:World}{K:PySem.W.Frag}{tg:Expr}
def JA{T:String}(hn:["enumerate","zip","dict_itemiterator","dict_reverseitemiterator","odict_iterator","itertools.zip_longest","itertools.pairwise"].contains T=false)(it:Addr)(x:Str)(t:Tok)
  (W:∀A:Around,A.handled=none->Walks P w A it [it] [it] x.cps.size (SignAt x) (λi h=>h.IsStrIter it T x t i))
  (sf:∀(A:Around) (i:Nat) (s:Shared) (Q:Value->Shared->Prop) (E:Value->Shared->Prop),s.heap.IsStrIter it T x t i->Q (.ref it) s->wpAny (model P w) A (pyIter (.ref it)) Q E s) :
  Turn P w K tg (DQ x) [it] it (λi h=>i<=x.cps.size/\h.IsStrIter it T x t i) where
 mem:=by simp
 obj:=λi h st b hb=>by
  have e:b=it:=by simpa using hb
  subst e;obtain⟨_,o,e,c,d⟩:=st;exact⟨o,e,λv z=>by rw[d] at z;cases z⟩
 keep:=λi h h' st k=>by
  obtain⟨hi,o,e,c,d⟩:=st;exact⟨hi,o,k it (by simp) o e,c,d⟩
 item:=by
  intro X hP hw hK hc i pins s σ H E I hf st hg;subst hP hw hK;obtain⟨f0,f1,f2,f3,f4,f5⟩:=hf it (by simp);refine(W X.A (I.ok.hd hc)).item i s _ _ hg st.2 λv h' tk hv st' kk=>?_
  obtain⟨c,u,hcx,rfl⟩:=hv;have I1:Inv X pins σ H { s with heap:=h',toks:=tk }:=I.turned (t':=tk) (λb o hb e=>kk b o (by simpa using hb) e) f0 f1 f3 f4 f5;obtain⟨o,e,cc,d⟩:=id st';exact⟨_,rfl,l3 (s:={ s with heap:=h',toks:=tk }) e cc d hn ⟨.str ⟨#[c]⟩,H,I1,⟨u,rfl⟩,⟨rfl,c,hcx,rfl⟩,⟨hg,st'⟩,λb hb=>(hf b hb).1⟩⟩
 done:=by
  intro X hP hw hK hc i pins s σ H E I hf st hg;subst hP hw hK;obtain⟨f0,f1,f2,f3,f4,f5⟩:=hf it (by simp);have hi:i=x.cps.size:=Nat.le_antisymm st.1 hg;have st2:=st.2;rw[hi] at st2;exact(W X.A (I.ok.hd hc)).done s _ _ st2 λh' tk kk=>⟨rfl,I.turned (t':=tk) (λb o hb e=>kk b o (by simpa using hb) e) f0 f1 f3 f4 f5⟩
 self:=λA i s Q E st h=>sf A i s Q E st.2 h
end
noncomputable def signs(x:Str):List W:=x.cps.toList.map λc=>.str ⟨#[c]⟩
noncomputable def rq(m:ME):MI:=λρ=>bnd (m ρ) λw h=>match w with
 | .str x=>some (.items (signs x),h)
 | _=>none
section
variable{X:Cx}{cl:Cl}{tg e:Expr}{m:ME}
def Xm{K:PySem.W.Frag}{μ:List Addr}{H:Hp}:JR K cl (DQ x) (.items (signs x)) μ H:=by
 intro μ2 H2 h2 E2 R2 i;refine⟨λw ew=>?_,λes=>?_⟩
 .have ew':(signs x)[i]?=some w:=zZ ew
  unfold signs at ew';rw[jb] at ew';cases ec:x.cps.toList[i]? with
  | none=>rw[ec] at ew';cases ew'
  | some c=>
   rw[ec] at ew';cases ew';have ec':x.cps[i]?=some c:=by rw[<-vf];exact ec
   refine⟨(yz.mp ec').1,λv H3 y=>?_⟩;obtain⟨rfl,c',hc',rfl⟩:=y;rw[ec'] at hc';cases hc';exact⟨.refl,R2,.str _⟩
 .have es':(signs x)[i]?=none:=zZ es
  have:=jK.mp es';unfold signs at this;rw[zB,vI] at this;exact this
def By(he:SE X cl e m):SI X cl tg e (rq m):=by
 rintro pins s σ H R I ⟨μ,h,ρ,src,h',R0,er,e,k⟩;obtain⟨x,h1,e1,e⟩:=ka e;refine kC (he pins s σ H (λv H1=>∃μ1,Ext μ H μ1 H1/\HR X.K cl μ1 H1 h1/\RW X.K μ1 H1 x v) I ⟨μ,h,ρ,x,h1,R0,er,e1,λμ1 H1 v E1 R1 r=>⟨μ1,E1,R1,r⟩⟩) λu s1 ⟨v,H1,I1,r1,μ1,E1,R1,rv⟩=>?_
 cases x with
 | str z=>
  cases e;cases rv.str_of;obtain⟨tk,rfl⟩:=r1;have fin:∀{o:Obj} {T:String},["enumerate","zip","dict_itemiterator","dict_reverseitemiterator","odict_iterator","itertools.zip_longest","itertools.pairwise"].contains T=false->(∀A:Around,A.handled=none->Walks X.prog X.w A s1.heap.objs.size [s1.heap.objs.size] [s1.heap.objs.size] z.cps.size (SignAt z) (λi h=>h.IsStrIter s1.heap.objs.size T z tk i))->
    (∀(A:Around) (i:Nat) (s:Shared) (Q:Value->Shared->Prop) (E:Value->Shared->Prop),s.heap.IsStrIter s1.heap.objs.size T z tk i->Q (.ref s1.heap.objs.size) s->wpAny (model X.prog X.w) A (pyIter (.ref s1.heap.objs.size)) Q E s)->
    (s1.heap.push o).IsStrIter s1.heap.objs.size T z tk 0->PIE X pins σ tg R (.ref s1.heap.objs.size) { s1 with heap:=s1.heap.push o }:=λ{o T} hn W sf st=>
   ⟨_,[s1.heap.objs.size],_,_,H1,rfl,I1.kept (t':=s1.toks) λb o e=>zf _ e,JA hn _ z tk W sf,⟨qy _,st⟩,λb hb=>by
    have e:b=s1.heap.objs.size:=by simpa using hb
    subst e
    exact I1.fpOk (zg _) (I1.hok.fresh (zg _)),k μ1 H1 _ E1 R1 Xm⟩
  cases ha:z.cps.all (· < 128)
  .exact wpAny_pyIter_wide ha (fin (T:="str_iterator") (by decide) (λA' hA=>Walks.strWide hA _ z tk) (λA i s Q E st q=>wpAny_pyIter_striter_wide st q) ⟨_,zO _ rfl,rfl,rfl⟩)
  .exact wpAny_pyIter_ascii ha (fin (T:="str_ascii_iterator") (by decide) (λA' hA=>Walks.strAscii hA _ z tk) (λA i s Q E st q=>wpAny_pyIter_striter_ascii st q) ⟨_,zO _ rfl,rfl,rfl⟩)
 | _=>cases e
end
structure Glob(K:PySem.W.Frag)(mg:Str->Option Value)(x:Str)(w:W):Prop where
 ex:∃(v:V) (u:Value),mg x=some u/\RelV v u/\∀μ H,RW K μ H w v
def Glob.se{X:Cx}(G:Glob X.K X.mg x w)(hg:↥(Gl X x))(hd:⇑((x==("__debug__":Str))=false)):SE X cl (.Name x pos) (eC w):=by
 obtain⟨v,u,hm,r,rw⟩:=G.ex;exact YG hm r rw hg hd
mutual
inductive KW(K:PySem.W.Frag):W->Value->Prop
 | int {i:Int} {t:Tok}:KW K (.int i) (.int i t)
 | str {i:Str} {t:Tok}:KW K (.str i) (.str i t)
 | fn {a:Addr}:KW K (.fn a) (.ref a)
 | tup {a:Addr} {l:List W} {o:Obj} {its:Array Value} {n:Nat}:K.lookup a=some o->(o.cls=.type "tuple" /\ o.dict=none)->o.data=.seq its n->its.size<=sizeLine->KWs K l its.toList->KW K (.tup l) (.ref a)
inductive KWs(K:PySem.W.Frag):List W->List Value->Prop
 | nil:KWs K [] []
 | cons {w:W} {v:Value} {l:List W} {vs:List Value}:KW K w v->KWs K l vs->KWs K (w::l) (v::vs)
end
mutual
theorem KW.rw{K:PySem.W.Frag}:∀{w:W} {u:Value},KW K w u->∃v,RelV v u/\∀μ H,RW K μ H w v
 | _,_,.int (i:=i) (t:=t)=>⟨.int i,⟨t,rfl⟩,λ_ _=>.int _⟩
 | _,_,.str (i:=i) (t:=t)=>⟨.str i,⟨t,rfl⟩,λ_ _=>.str _⟩
 | _,_,.fn (a:=a)=>⟨.ref a,rfl,λ_ _=>.fn⟩
 | _,_,.tup (a:=a) e c d z r=>by
  obtain⟨vs,rv,rr⟩:=KWs.rw r;exact⟨.ref a,rfl,λμ H=>.tup (.inr ⟨_,_,_,e,c,d,z,rv⟩) (rr μ H)⟩
theorem KWs.rw{K:PySem.W.Frag}:∀{l:List W} {us:List Value},KWs K l us->∃vs,Vals vs us/\∀μ H,RWs K μ H l vs
 | _,_,.nil=>⟨[],.nil,λ_ _=>.nil⟩
 | _,_,.cons r t=>by
  obtain⟨v,r1,r2⟩:=KW.rw r;obtain⟨vs,t1,t2⟩:=KWs.rw t;exact⟨v::vs,.cons r1 t1,λμ H=>.cons (r2 μ H) (t2 μ H)⟩
end
def KW.glob{K:PySem.W.Frag}{mg:Str->Option Value}{x:Str}(hm:mg x=some u)(k:KW K w u):Glob K mg x w:=by
 obtain⟨v,r1,r2⟩:=k.rw;exact⟨v,u,hm,r1,r2⟩
inductive TabRel(K:PySem.W.Frag):List (Str×W)->List DictEntry->Prop
 | nil:TabRel K [] []
 | cons {k:Str} {t:Tok} {w:W} {hs:Int} {v:Value} {l:List (Str×W)} {es:List DictEntry} {e:DictEntry}:e.key=.str k t->KW K w e.val->TabRel K l es->TabRel K ((k,w)::l) (e::es)
structure TabOk(K:PySem.W.Frag)(P:Params)(mg:Str->Option Value)(x:Str)(l:List (Str×W)):Prop where
 ex:∃(a:Addr) (es:Array DictEntry) (n:Nat),mg x=some (.ref a)/\K.lookup a=some ⟨.type "dict",none,.dict es n,#[]⟩/\PySem.W.KeysLit P es.toList/\(a==sysModules)=false/\TabRel K l es.toList
theorem TabRel.find{K:PySem.W.Frag}:∀{l:List (Str×W)} {es:List DictEntry},TabRel K l es->match l.lookup k with
  | some w=>∃v,(es.find? λe=>Value.isStrOf k e.key).map (·.val)=some v/\KW K w v
  | none=>(es.find? λe=>Value.isStrOf k e.key).map (·.val)=none
 | _,_,.nil=>rfl
 | _,_,.cons (k:=k') (l:=l) (es:=es) (e:=e) hk r t=>by
  have ih:=TabRel.find (k:=k) t;rw[kI];by_cases q:k=k'
  .subst q
   have e1:(k==k)=true:=by simp
   have e2:Value.isStrOf k e.key=true:=by rw[hk];simp[Value.isStrOf]
   simp only[e1,jC,e2];exact⟨_,rfl,r⟩
  .have e1:(k==k')=false:=by simpa using q
   have e2:Value.isStrOf k e.key=false:=by rw[hk];simp[Value.isStrOf];exactλz=>q z.symm
   simp only[e1,jC,e2];exact ih
noncomputable def bp(l:List (Str×W))(w:W):M W:=λh=>match w with
 | .str k=>match l.lookup k with
  | some v=>some (v,h)
  | none=>none
 | _=>none
section
variable{X:Cx}{cl:Cl}{a:Expr}{ma:ME}{x:Str}{l:List (Str×W)}{p pos:Pos}
def TabOk.at{s:Shared}{H:Hp}{es:Array DictEntry}(I:Inv X pins σ H s)(hl:X.K.lookup d=some ⟨.type "dict",none,.dict es n,#[]⟩)(hk:PySem.W.KeysLit X.w.params es.toList) :
  s.heap.MapOf (strKind X.prog X.w) d (λk=>findBy Value.isStrOf es k):=PySem.W.mapOf_K I.kIn hl hk
def nH(hu:X.A.units+64<cLine)(T:TabOk X.K X.w.params X.mg x l)(ha:SE X cl a ma)(hs:uI a:=by exactλ_ _=>rfl)(hg:↥(Gl X x))(hd:⇑((x==("__debug__":Str))=false)):SE X cl (.Subscript (.Name x p) a pos) (uf (bp l) ma):=by
 obtain⟨d,es,n,e1,e2,e3,e4,e5⟩:=T.ex;have hix:rR X (λx y H Q=>∃k w,x=.ref d/\y=.str k/\l.lookup k=some w/\∀v,(∀μ H,RW X.K μ H w v)->Q v H):=by
  rintro value slice pins s σ H x y v u Q I rx ry ⟨k,w,rfl,rfl,el,q⟩ hs;cases rx;obtain⟨t,rfl⟩:=ry;have hm:=TabOk.at I e2 e3;have:=e5.find (k:=k);rw[el] at this;obtain⟨v0,ev,kw⟩:=this;obtain⟨v1,r1,r2⟩:=kw.rw;refine tail_any hm.typeIs slot_dict_getitem.lookup (wpAny_getItem_of (v:=v0) (strKind_is X.prog X.w k t) hm ?_ ⟨v1,H,I.tok _,r1,q v1 r2⟩) hs;unfold findBy;rw[<-wX];exact ev
 refine PE.wk (ZO hix (t6 hg e1 (show RelV (.ref d) (.ref d) from rfl) hd) ha hs) λσ H Q ⟨μ,h,ρ,w,h',R,er,e,k⟩=>?_
 obtain⟨y,h1,f1,e⟩:=ka e;refine⟨μ,h,ρ,y,h1,R,er,f1,λμ1 H1 vx E1 R1 rx=>?_⟩;unfold bp at e;split at e
 .split at e
  .rename_i k' w' el
   cases e;exact⟨_,_,rfl,rx.str_of,el,λv hv=>k μ1 H1 _ E1 R1 (hv μ1 H1)⟩
  .cases e
 .cases e
end
noncomputable def keyOf:W->Option Key
 | .int i=>some (.inl i)
 | .str x=>some (.inr x)
 | _=>none
noncomputable def vS(l:List (Key×W))(k:Key):Option W:=(l.find? λkv=>decide (kv.1=k)).map (·.2)
noncomputable def jS(l:List (Key×W))(k:Key)(v:W):List (Key×W):=
 if (l.any λkv=>decide (kv.1=k))=true then l.map (λkv=>if kv.1=k then (kv.1,v) else kv) else l++[(k,v)]
noncomputable def qB(l more:List (Key×W)):List (Key×W):=more.foldl (λacc kv=>jS acc kv.1 kv.2) l
noncomputable def yT(h:MH):W->Option (List (Key×W))
 | .fdc l=>some l
 | .ref n=>match h[n]? with
  | some (.dic l)=>some l
  | _=>none
 | _=>none
inductive PR(K:PySem.W.Frag)(μ:List Addr)(H:Hp):List (Key×W)->List (Key×V)->Prop
 | nil:PR K μ H [] []
 | cons {k:Key} {w:W} {v:V} {l:List (Key×W)} {l':List (Key×V)}:RW K μ H w v->PR K μ H l l'->PR K μ H ((k,w)::l) ((k,v)::l')
section
variable{K:PySem.W.Frag}{cl:Cl}{μ μ':List Addr}{H H':Hp}{h:MH}
theorem RKs.pr:∀{l:List (Key×W)} {l':List (Key×V)},RKs K μ H l l'->PR K μ H l l'
 | [],[],_=>.nil
 | [],_::_,⟨k,_⟩=>by simp at k
 | _::_,[],⟨k,_⟩=>by simp at k
 | (k1,w)::l,(k2,v)::l',⟨k,r⟩=>by
  simp only[zq,jR] at k;obtain⟨rfl,k⟩:=k;simp only[zq] at r;cases r with | cons r t=>exact .cons r (RKs.pr ⟨k,t⟩)
theorem PR.rk:∀{l:List (Key×W)} {l':List (Key×V)},PR K μ H l l'->RKs K μ H l l'
 | _,_,.nil=>⟨rfl,.nil⟩
 | _,_,.cons r t=>⟨by simp[t.rk.1],.cons r t.rk.2⟩
theorem PR.len:∀{l:List (Key×W)} {l':List (Key×V)},PR K μ H l l'->l.length=l'.length
 | _,_,.nil=>rfl
 | _,_,.cons _ t=>jX (· + 1) t.len
theorem PR.val:∀{l:List (Key×W)} {l':List (Key×V)},PR K μ H l l'->match vS l k with
  | some w=>∃v,xW l' k=some v/\RW K μ H w v
  | none=>xW l' k=none
 | _,_,.nil=>rfl
 | _,_,.cons (k:=k') (l:=l) (l':=l') (w:=w) (v:=v) r t=>by
  have ih:=PR.val (k:=k) t;by_cases q:k'=k
  .have e1:vS ((k',w)::l) k=some w:=by simp[vS,jC,q]
   rw[e1];exact⟨v,by simp[xW,jC,q],r⟩
  .have e1:vS ((k',w)::l) k=vS l k:=by simp[vS,jC,q]
   have e2:xW ((k',v)::l') k=xW l' k:=by simp[xW,jC,q]
   rw[e1,e2];exact ih
theorem PR.any:∀{l:List (Key×W)} {l':List (Key×V)},PR K μ H l l'->(l.any λkv=>decide (kv.1=k))=(l'.any λkv=>decide (kv.1=k))
 | _,_,.nil=>rfl
 | _,_,.cons _ t=>by simp only[v8];rw[t.any]
theorem PR.map(r:RW K μ H w v):∀{l:List (Key×W)} {l':List (Key×V)},PR K μ H l l'->PR K μ H (l.map λkv=>if kv.1=k then (kv.1,w) else kv) (l'.map λkv=>if kv.1=k then (kv.1,v) else kv)
 | _,_,.nil=>.nil
 | _,_,.cons (k:=k') q t=>by
  simp only[zq];by_cases z:k'=k
  .simp only[z,kW];exact .cons r (t.map r)
  .simp only[z,jq];exact .cons q (t.map r)
theorem PR.app:∀{l m:List (Key×W)} {l' m':List (Key×V)},PR K μ H l l'->PR K μ H m m'->PR K μ H (l++m) (l'++m')
 | _,_,_,_,.nil,s=>s
 | _,_,_,_,.cons r t,s=>.cons r (t.app s)
def PR.put(p:PR K μ H l l')(r:RW K μ H w v):PR K μ H (jS l k w) (putK l' k v):=by
 unfold jS putK;rw[<-p.any (k:=k)];split
 .exact p.map r
 .exact p.app (.cons r .nil)
def PR.merge{more:List (Key×W)}(q:PR K μ H more more')(p:PR K μ H l l'):PR K μ H (qB l more) (x9 l' more'):=by
 induction q generalizing l l' with
 | nil=>exact p
 | cons r t ih=>exact ih (p.put r)
theorem PR.ext(R:HR K cl μ H h)(E:Ext μ H μ' H'):∀{l:List (Key×W)} {l':List (Key×V)},PR K μ H l l'->PR K μ' H' l l'
 | _,_,.nil=>.nil
 | _,_,.cons r t=>.cons (r.ext R E) (t.ext R E)
def bE(R:HR K cl μ H h)(r:RW K μ H w v)(e:yT h w=some l):∃a l',v=.ref a/\Rd H a (.dK l')/\PR K μ H l l':=by
 cases r with
 | @fdc a l0 l' ws vs s kk e1 e2 rs=>cases e;subst e1;subst e2;exact⟨a,l',rfl,s.1,RKs.pr ⟨kk,rs⟩⟩
 | @ref n a hn=>
  simp only[yT] at e;split at e
  .rename_i l' ho
   cases e;obtain⟨l2,hv,rs⟩:=R.ob n a _ hn ho;exact⟨a,l2,rfl,.inl hv,RKs.pr rs⟩
  .cases e
 | _=>cases e
theorem u0(r:RW K μ H w v)(e:keyOf w=some k):v=kV k:=by
 cases r<;>cases e<;>rfl
theorem KQ.fdc{l:List (Key×W)}{l':List (Key×V)}{Q:VK}{p:Addr}(k:KQ K cl μ H h (.fdc l) Q)(R:HR K cl μ H h)(pr:PR K μ H l l')(hp:H p=none):Q (.ref p) (upd H p (.dK l')):=
 k μ _ _ (.side hp) (R.side hp) (.fdc ⟨.inl qc,R.fresh hp⟩ (pr.rk.1) rfl rfl ((pr.ext R (.side hp)).rk.2))
end
noncomputable def lM(md mk mv:ME):ME:=λρ=>bnd (md ρ) λx h=>if (yT h x).isSome=true then bnd (mk ρ) (λy=>bnd (mv ρ) λz h=>match yT h x,keyOf y with
  | some l,some k=>some ((vS l k).getD z,h)
  | _,_=>none) h else none
section
variable{X:Cx}{cl:Cl}{o a b:Expr}{mo ma mb:ME}{apos cpos pos:Pos}
def Wh(hu:X.A.units+64<cLine)(ho:SE X cl o mo)(ha:SE X cl a ma)(hb:SE X cl b mb)(m:M2 X o "get" apos a b cpos:=by exact⟨rfl,rfl,rfl,rfl⟩):SE X cl (.Call (.Attribute o "get" apos) [a,b] [] cpos) (lM mo ma mb):=
 PE.wk (Vo ∅ ho ha hb m) λσ H Q q0=>by
  obtain⟨μ,h,ρ,w,h',R,er,e,k⟩:=q0;obtain⟨x,h1,e1,e⟩:=ka e;split at e
  .rename_i hd
   obtain⟨y,h2,e2,e⟩:=ka e;obtain⟨z,h3,e3,e⟩:=ka e;refine⟨μ,h,ρ,x,h1,R,er,e1,λμ1 H1 vx E1 R1 rx=>?_⟩;obtain⟨l0,hd⟩:=qe.mp hd;obtain⟨d,l',rfl,rd,_⟩:=bE R1 rx hd;refine⟨d,rfl,.inl ⟨l',rd⟩,μ1,h1,ρ,y,h2,R1,er.ext R E1,e2,λμ2 H2 vy E2 R2 ry=>⟨μ2,h2,ρ,z,h3,R2,(er.ext R E1).ext R1 E2,e3,λμ3 H3 vz E3 R3 rz=>?_⟩⟩;split at e
   .rename_i l k' el ek
    cases e;obtain⟨d2,l2,ed,rd2,pr⟩:=bE R3 ((rx.ext R1 E2).ext R2 E3) el;cases ed;have hk:=u0 ry ek;subst hk;refine⟨xW l2 k',.inl ⟨l2,k',rd2,rfl,rfl⟩,?_⟩;have E:=E1.trans (E2.trans E3);have:=pr.val (k:=k');cases ev:vS l k' with
    | none=>rw[ev] at this k;rw[this];exact k μ3 H3 _ E R3 rz
    | some w0=>rw[ev] at this k;obtain⟨v0,e0,r0⟩:=this;rw[e0];exact k μ3 H3 _ E R3 r0
   .cases e
  .cases e
def YL:SE X cl (.Dict [] [] pos) (eC (.fdc [])):=
 PE.wk Vy λσ H Q q0=>by
  obtain⟨μ,h,ρ,w,h',R,er,e,k⟩:=q0;cases e;exactλp hp=>k.fdc R .nil hp
end
end ML
section
namespace ML
open PySem PySem.Spec PyProof.Rows L2
end ML
namespace ML
open PySem PySem.Spec PyProof.Rows L2
end ML
end
section
namespace ML
open PySem PySem.Spec PyProof.Rows L2
noncomputable def keysOf:List (W×W)->Option (List (Key×W))
 | []=>some []
 | (x,y)::r=>match keyOf x,keysOf r with
  | some k,some l=>some ((k,y)::l)
  | _,_=>none
noncomputable def pairsOf:List W->Option (List (W×W))
 | []=>some []
 | .tup [x,y]::r=>match pairsOf r with
  | some l=>some ((x,y)::l)
  | none=>none
 | _=>none
noncomputable def iu(ws:List W):M W:=λh=>match ws with
 | [w]=>match yT h w with
  | some l=>some (.fdc l,h)
  | none=>match getL h w with
   | some l=>match pairsOf l with
    | some ps=>match keysOf ps with
     | some ks=>if ks.length<=1000 then some (.fdc (qB [] ks),h) else none
     | none=>none
    | none=>none
   | none=>none
 | _=>none
end ML
end
namespace ML
open PySem PySem.Spec PyProof.Rows L2
def tU{T:String}(h:T="list" \/ T="tuple" \/ T="zip"):typeLookup (.type T) "keys" = pure none:=by
 rcases h with rfl | rfl | rfl<;>(rw[qp,jN];kernel_rfl)
def Zl{T:String}(h:T="list" \/ T="tuple" \/ T="zip"):typeLookup (.type T) "__getattr__" = pure none:=by
 rcases h with rfl | rfl | rfl<;>(rw[qp,jN];kernel_rfl)
def bq:isSubtype (.type "AttributeError") (.type "AttributeError")=pure true:=by rw[wj];kernel_rfl
section
variable{prog:Program}{w:World}{A:Around}{E:Value->Shared->Prop}{s:Shared}
theorem YE{name:Value}(he:s.heap.get? e=some { cls:=.type "AttributeError",data:=.fields #[v0,v1,v2,v3,v4,v5,rawInt 0,rawInt 0] })
  (hq:∀h' ob,Heap.ExtBut e s.heap h'->h'.get? e=some ob->ob.cls=.type "AttributeError"->Q () { s with heap:=h' }):wpAny (model prog w) A (noteAttr (.ref e) o name) Q E s:=by
 have hT:s.TypeIs (.ref e) "AttributeError":=⟨_,he,rfl⟩;unfold noteAttr;refine za ?_;unfold lacksNameAndObj;refine za (j4 hT bq ?_);simp only[Bool.not_true,jJ,jq];refine za (wpAny_load he ?_);refine zu ?_;simp only[kW];refine za (qD (za (j7 hT ?_)));show wpAny _ _ (layMembers e 6 #[name,o]) _ _ s
 unfold layMembers;refine za (wpAny_load he ?_);refine wpAny_update he (hq _ _ (qx ..).extBut (jT _ he ?_) ?_)
 .rfl
 .rfl
def mB{α:Type}{o:Value}{x msg:Str}{Q:α->Shared->Prop}(hh:A.handled=none)(hm:msg.length<=sizeLine)
  (hq:∀h' tk' e,(∀b ob,s.heap.get? b=some ob->h'.get? b=some ob)->(∃ob,h'.get? e=some ob/\ob.cls=.type "AttributeError")->E (.ref e) { s with heap:=h',toks:=tk' }):wpAny (model prog w) A (raiseAttrError o x msg:Sem α) Q E s:=by
 unfold raiseAttrError;refine za (wpAny_mkStr (za ?_) hm);unfold newExc newTuple;refine za (jm ?_);refine za (m:=firstArgMember _ _) (jW (a:=Value.none) (by first | rfl | kernel_rfl) ?_);refine jm ?_;refine za (wpAny_mkText (za ?_));refine YE (zO _ rfl) λh' ob hx ho hc=>?_
 unfold raiseNew;refine za (wpAny_handled ?_);rw[hh];first
  | refine wD ?_
  | refine za (zu (wD ?_))
 refine hq _ _ _ (λb ob' hb=>hx b ob' ?_ (zf _ (zf _ hb))) ⟨ob,ho,hc⟩;refine zX (zN (zF hb) ?_);simp
end
section
variable{prog:Program}{w:World}{A:Around}{E:Value->Shared->Prop}{h:Heap}{g:Array GenState}{d:Drawn}{t:Nat}{os:OsState}{a:Addr}{items:Array Value}{n:Nat}{sl:Array (Option Value)}{dd:Option Addr}
noncomputable def Ki(h:Heap)(g:Array GenState)(d:Drawn)(os:OsState)(E:Value->Shared->Prop):Prop:=∀h' tk' e,(∀b ob,h.get? b=some ob->h'.get? b=some ob)->(∃ob,h'.get? e=some ob/\ob.cls=.type "AttributeError")->E (.ref e) ⟨h',g,d,tk',os⟩
set_option maxHeartbeats 1000000 in
def K3(hh:A.handled=none)(hx:h.get? a=some { cls:=.type "list",dict:=none,data:=.seq items n,slots:=sl })(hq:Ki h g d os E) :
  wpAny (model prog w) A (Builtin.«object.__getattribute__» ⟨[.ref a,.str "keys" tk],[]⟩) Q E ⟨h,g,d,t,os⟩:=by
 have hT:(⟨h,g,d,t,os⟩:Shared).TypeIs (.ref a) "list":=⟨_,hx,rfl⟩;have f4:=tU (T:="list") (.inl rfl);repeat (any_goals (first | assumption | wp_step))
 refine mB hh ⋯ λh' tk' e k1 k2=>hq h' tk' e k1 k2
def pJ(hh:A.handled=none)(hx:h.get? a=some { cls:=.type "list",dict:=none,data:=.seq items n,slots:=sl })(hq:Ki h g d os E):wpAny (model prog w) A (getAttrBy (.ref a) (.str "keys" tk) false) Q E ⟨h,g,d,t,os⟩:=by
 have hT:(⟨h,g,d,t,os⟩:Shared).TypeIs (.ref a) "list":=⟨_,hx,rfl⟩;have f2:=wB.lookup;have f3:=wB.bind (.ref a);unfold getAttrBy;refine jf (za (j7 hT (za (jW f2 ?_))));show wpAny _ _ (getAttrByItsOwn (.ref a) (.str "keys" tk) (.type "list") (.builtin "list.__getattribute__") false false) _ _ _
 unfold getAttrByItsOwn;refine za (zu ?_);refine za (j6 ?_);refine jf ?_;show wpAny _ _ (boundAndCalled (.builtin "list.__getattribute__") (.ref a) (.str "keys" tk)) _ _ _
 unfold boundAndCalled;refine za (jW f3 ?_);refine jy wB hT F.entry_list_ga ?_ (F.args_list_getattribute_2 _ _);refine K3 hh hx λh' tk' e k1 k2=>?_
 obtain⟨ob,ho,hc⟩:=k2;have hTe:(⟨h',g,d,tk',os⟩:Shared).TypeIs (.ref e) "AttributeError":=⟨_,ho,hc⟩;show wpAny _ _ (getattributeRaised (.ref a) (.str "keys" tk) (.type "list") (.ref e) none false false) _ _ _
 unfold getattributeRaised;refine za (j4 hTe bq ?_);simp only[kW];refine za (jW (show hookBehind (.type "list") none=pure none from Zl (.inl rfl)) ?_);show wpAny _ _ (attributeErrorLeaves (.ref a) (.str "keys" tk) (.ref e) false false) _ _ _
 unfold attributeErrorLeaves;simp only[Bool.not_false,kW];exact wD (hq h' tk' e k1 ⟨ob,ho,hc⟩)
def rN(hh:A.handled=none)(hx:h.get? a=some { cls:=.type "list",dict:=none,data:=.seq items n,slots:=sl })(hq:∀h' tk',(∀b ob,h.get? b=some ob->h'.get? b=some ob)->Q none ⟨h',g,d,tk',os⟩):wpAny (model prog w) A (getAttr? (.ref a) "keys") Q E ⟨h,g,d,t,os⟩:=by
 unfold getAttr? getAttrBy?;refine za (wpAny_mkText ?_);refine za (j6 (pJ hh hx λh' tk' e k1 k2=>?_));obtain⟨ob,ho,hc⟩:=k2;refine za (j4 (T:="AttributeError") (b:=true) ⟨ob,ho,hc⟩ bq ?_);exact zu (hq h' tk' k1)
end
def cv:entryFor table "dict.update.loop" = some Builtin.«dict.update.loop»:=entryFor_of_tree (by kernel_rfl)
def xp:plainId "dict.update.loop" = true:=by decide +kernel
section
variable{prog:Program}{w:World}{A:Around}{R:Result->Shared->Prop}{I D:Addr}{fp wr:List Addr}{n:Nat}{P:Nat->Value->Prop}{St:Nat->Heap->Prop}{h0:Heap}{us:List Value}{kvs:List (Key×Value)}
noncomputable def mR(knd:KeyKind prog w Key)(h:Heap)(us:List Value)(kvs:List (Key×Value)):Prop:=us.length=kvs.length/\∀(i:Nat) (u:Value) (kv:Key×Value),us[i]?=some u->kvs[i]?=some kv->∃T k,u=.ref T/\IsTup h T #[k,kv.2]/\knd.is kv.1 k=true
def Wm(knd:KeyKind prog w Key)(W:Walks prog w A.in1 I fp wr us.length (λi v=>us[i]?=some v) St)(hDf:D∉fp)(hD0:h0.get? D=none)(hw0:∀b∈wr,h0.get? b=none)(hp:mR knd h0 us kvs)(hz:kvs.length<=1000) :
  ∀(k i:Nat) (tk:Tok) (s:Shared),us.length-i=k->i<=us.length->St i s.heap->s.heap.DictOf knd D (merged [] (kvs.take i))->(∀b o,h0.get? b=some o->s.heap.get? b=some o)->
   (∀h' tk',h'.DictOf knd D (merged [] kvs)->(∀b o,h0.get? b=some o->h'.get? b=some o)->R (.ok (.ret .none)) { s with heap:=h',toks:=tk' })->
   codeAny (model prog w) A (.builtin "dict.update.loop" ⟨[.ref D,.ref I,.int i tk,.none],[]⟩) R s:=by
 have hDw:D∉wr:=λh=>hDf (W.sub _ h)
 intro k;induction k with
 | zero=>
  intro i tk s hk hi hst hd h0k hR;obtain rfl:i=us.length:=by omega
  refine vV cv ?_;rw[qW xp _];show wpAny _ A.in1 (pyNext (.ref I) >>= _) _ _ s;refine za (W.done s _ _ hst λh' tk' kk=>?_)
  show wpAny _ A.in1 (Builtin.Dict.addKeywords D [] >>= _) _ _ _
  refine za (zu (zu (hR h' tk' ?_ λb o e=>kk b o (λz=>by rw[hw0 b z] at e;cases e) (h0k b o e))));rw[hp.1,yg] at hd;obtain⟨o,es,ep,ho,rest⟩:=hd;exact⟨o,es,ep,kk D o hDw ho,rest⟩
 | succ k ih=>
  intro i tk s hk hi hst hd h0k hR;have hlt:i<us.length:=by omega
  refine vV cv ?_;rw[qW xp _];show wpAny _ A.in1 (pyNext (.ref I) >>= _) _ _ s;refine za (W.item i s _ _ hlt hst λv h' tk' hv hst' kk=>?_)
  have hkl:i<kvs.length:=by rw[<-hp.1];exact hlt
  obtain⟨T,key,rfl,hT,hk1⟩:=hp.2 i v kvs[i] hv (zE hkl);have keep:∀b o,h0.get? b=some o->h'.get? b=some o:=λb o e=>kk b o (λz=>by rw[hw0 b z] at e;cases e) (h0k b o e)
  have hT':IsTup h' T #[key,kvs[i].2]:=by obtain⟨o,ho,r⟩:=hT;exact⟨o,keep T o ho,r⟩
  have hd':h'.DictOf knd D (merged [] (kvs.take i)):=by obtain⟨o,es,ep,ho,rest⟩:=hd;exact⟨o,es,ep,kk D o hDw ho,rest⟩
  show wpAny _ A.in1 (holding [Value.ref T] _ >>= _) _ _ _
  refine za (jf (za (wpAny_tryCatch ?_)));unfold Builtin.Dict.pairItems;refine za (j7 hT'.typeIs ?_);rw[zY (by decide)];obtain⟨oT,hoT,hcT,nT,hdT⟩:=hT';refine za (jL hoT hdT (zu ?_));show wpAny _ _ (holding [key,kvs[i].2] (dictSet D key kvs[i].2)) _ _ _
  refine jf ?_;unfold dictSet;try with_reducible refine jf ?_
  refine za (knd.pyHash hk1 ?_);refine xj (s:={ s with heap:=h',toks:=tk'+1 }) hk1 hd' (λh2 hd2 sb=>?_) (by have:=merged_length_le ([]:List (Key×Value)) (kvs.take i);rw[qQ] at this;simp at this;exact zT (zT this ∅) (show 1000<=sizeLine by decide));refine zu ⟨q9 xp _,ih (i+1) _ _ ∅ hlt (W.frame _ _ _ hst' λb hb o e=>?_) ?_ (λb o e=>?_) λh3 tk3 hd3 k3=>?_⟩
  .rw[sb.2 b (λz:b=D=>hDf (by rw[<-z];exact hb))];exact e
  .rw[merged_take_succ [] kvs i kvs[i] (zE hkl)];exact hd2
  .rw[sb.2 b (λz:b=D=>by rw[z,hD0] at e;cases e)];exact keep b o e
  .exact hR h3 tk3 hd3 k3
end
section
variable{prog:Program}{w:World}{A:Around}{E:Value->Shared->Prop}{s:Shared}{us:List Value}{kvs:List (Key×Value)}{l:Addr}{n:Nat}{sl:Array (Option Value)}
def m9(knd:KeyKind prog w Key)(hh:A.handled=none)(hl:s.heap.get? l=some { cls:=.type "list",dict:=none,data:=.seq us.toArray n,slots:=sl })(hp:mR knd s.heap us kvs)(hz:kvs.length<=1000)
  (h:∀h' tk',h'.DictOf knd s.heap.objs.size (merged [] kvs)->(∀b o,s.heap.get? b=some o->h'.get? b=some o)->Q (.ref s.heap.objs.size) { s with heap:=h',toks:=tk' }):wpAny (model prog w) A (call (.type "dict") [.ref l]) Q E s:=by
 refine yf (Q₁:=λobj s₁=>obj=.ref s.heap.objs.size/\s₁={ s with heap:=s.heap.push { cls:=.type "dict",data:=.dict #[] } }) F.kt_called_dict (F.kt_typeCall_dict_1 _) F.entry_dict_init (kt_code_dict_new _ ⟨rfl,rfl⟩) ?_;rintro obj s₁ ⟨rfl,rfl⟩;have hnew:(s.heap.push { cls:=.type "dict",data:=.dict #[] }).DictOf knd s.heap.objs.size []:=yW s.heap;refine⟨hnew.typeIs,F.args_dict_init_2 _ _,?_⟩;unfold Builtin.«dict.__init__»;refine za ?_;unfold Builtin.Dict.selfAndRest;refine za (wpAny_notOrdered_dict hnew.typeIs ?_);show wpAny _ _ (pure (s.heap.objs.size,[Value.ref l])) _ _ _
 refine zu ?_;show wpAny _ _ (Builtin.Dict.updateFrom "dict.__init__" s.heap.objs.size (.ref l) [] .none) _ _ _
 unfold Builtin.Dict.updateFrom;have hl1:(s.heap.push { cls:=.type "dict",data:=.dict #[] }).get? l=some _:=zf _ hl;refine za (j7 (T:="list") ⟨_,hl1,rfl⟩ ?_);rw[zY (by decide)];have hh2:A.in1.in1.handled=none:=by simpa using hh
 refine za (rN hh2 hl1 λh1 tk1 k1=>?_);simp only[xG,kW];have hl2:=k1 _ _ hl1;have hL:h1.IsList l us.toArray:=⟨_,hl2,rfl,n,rfl⟩;refine za (qD ?_);refine za (vo hL ?_);have k0:∀b o,s.heap.get? b=some o->h1.get? b=some o:=λb o e=>k1 b o (zf _ e)
 have hDlt:s.heap.objs.size<h1.objs.size:=by obtain⟨o,es,ep,ho,_⟩:=hnew;exact zF (k1 _ _ ho)
 have hllt:l<s.heap.objs.size:=zF hl;have hd1:h1.DictOf knd s.heap.objs.size []:=by obtain⟨o,es,ep,ho,rest⟩:=hnew;exact⟨o,es,ep,k1 _ _ ho,rest⟩
 have hne:l≠h1.objs.size:=zX (Nat.lt_trans hllt hDlt);have W0:=xx (prog:=prog) (w:=w) (A:=A.in1.in1) (by simpa using hh) h1.objs.size l hne us.toArray;have W1:Walks prog w A.in1.in1 h1.objs.size [h1.objs.size,l] [h1.objs.size] us.length (λi v=>us[i]?=some v) (λi h=>h.IsListIter h1.objs.size l i/\h.IsList l us.toArray):=by simpa using W0
 refine zu ⟨q9 xp _,Wm (h0:=s.heap) knd W1 ?_ ?_ ?_ hp hz us.length 0 _ _ rfl (qy _) ⟨⟨_,zO _ rfl,rfl,rfl⟩,hL.at λo e=>zf _ e⟩ ?_ (λb o e=>zf _ (k0 b o e)) λh' tk' hd' k'=>?_⟩
 .simp only[zb,zc,zQ,j8]
  exact⟨zX hDlt,ql hllt⟩
 .exact vN (zg _)
 .intro b hb
  simp only[zb,zc,zQ] at hb;rw[hb];exact vN (wA hDlt)
 .obtain⟨o,es,ep,ho,rest⟩:=hd1
  exact⟨o,es,ep,zf _ ho,rest⟩
 .exact⟨rfl,h h' tk' hd' k'⟩
end
end ML
namespace ML
open PySem PySem.Spec PyProof.Rows L2
section
variable{X:Cx}{cl:Cl}
theorem pz{K:PySem.W.Frag}{μ:List Addr}{H:Hp}:∀{l:List W} {vs:List V} {ps:List (W×W)} {ks:List (Key×W)},RWs K μ H l vs->pairsOf l=some ps->keysOf ps=some ks->
  ∃ks':List (Key×V),PR K μ H ks ks'/\vs.length=ks'.length/\∀(i:Nat) (v:V) (kv:Key×V),vs[i]?=some v->ks'[i]?=some kv->∃T,v=.ref T/\SqT K H T [kV kv.1,kv.2]
 | [],_,_,_,.nil,e1,e2=>by
  cases e1;cases e2;exact⟨[],.nil,rfl,λi v kv e=>by simp at e⟩
 | w::l,_,ps,ks,.cons (v:=v) r t,e1,e2=>by
  have hw:∃x y,w=.tup [x,y]:=by
   unfold pairsOf at e1;split at e1
   .rename_i hd;cases hd
   .rename_i x y r' hd;cases hd;exact⟨x,y,rfl⟩
   .cases e1
  obtain⟨x,y,rfl⟩:=hw;unfold pairsOf at e1;split at e1
  .rename_i l' e3
   cases e1;unfold keysOf at e2;split at e2
   .rename_i k lk e4 e5
    cases e2;obtain⟨ks',p,hl,hi⟩:=pz t e3 e5;obtain⟨T,vs2,rfl,sq,rr⟩:=r.tup_of;cases rr with | cons r1 rr=>cases rr with | @cons _ v2 _ _ r2 rr=>cases rr with | nil=>
    have:=u0 r1 e4;subst this;refine⟨(k,v2)::ks',.cons r2 p,by simp[hl],λi v kv ev ek=>?_⟩;cases i with
    | zero=>simp at ev ek;subst ev;subst ek;exact⟨T,rfl,sq⟩
    | succ i=>exact hi i v kv (by simpa using ev) (by simpa using ek)
   .cases e2
  .cases e1
theorem pairs_at{s:Shared}{H:Hp}(I:Inv X pins σ H s):∀{vs:List V} {its:List Value} {ks':List (Key×V)},Vals vs its->vs.length=ks'.length->
  (∀(i:Nat) (v:V) (kv:Key×V),vs[i]?=some v->ks'[i]?=some kv->∃T,v=.ref T/\SqT X.K H T [kV kv.1,kv.2])->∃kvs,KV ks' kvs/\mR (qA X.prog X.w) s.heap its kvs
 | _,_,[],.nil,_,_=>⟨[],.nil,rfl,λi u kv e=>by simp at e⟩
 | _,_,_::_,.nil,hl,_=>by simp at hl
 | _,_,[],.cons _ _,hl,_=>by simp at hl
 | _,_,(k,v2)::ks',.cons (a:=v) (b:=u) r t,hl,hi=>by
  obtain⟨kvs,q1,q2,q3⟩:=pairs_at I t (by simpa using hl) λi v kv e1 e2=>hi (i+1) v kv (by simpa using e1) (by simpa using e2)
  obtain⟨T,rfl,sq⟩:=hi 0 v (k,v2) (by simp) (by simp);obtain⟨it2,rv,ht,_⟩:=I.tuple sq;obtain⟨u1,u2,rfl,ru1,ru2⟩:=vals2 rv;cases r;refine⟨(k,u2)::kvs,.cons ⟨rfl,ru2⟩ q1,by simp[q2],λi u kv e1 e2=>?_⟩;cases i with
  | zero=>simp at e1 e2;subst e1;subst e2;exact⟨T,u1,rfl,ht,il ru1⟩
  | succ i=>exact q3 i u kv (by simpa using e1) (by simpa using e2)
def Kl(hc:X.calm=true):yB X (.type "dict") (rMs X.K cl iu):=by
 rintro pins s σ H xs us Q I rs ⟨μ,h,ws,w,h',R,ax,e,k⟩;unfold iu at e;split at e
 .cases ax with | cons r t=>cases t with | nil=>
  obtain⟨u,rfl,ru⟩:=rs.one;split at e
  .rename_i l el
   cases e;obtain⟨a,l',rfl,rd,pr⟩:=bE R r el;cases ru;exact rn I rd λp s' hp I'=>⟨.ref p,_,I',rfl,k.fdc R pr hp⟩
  .split at e
   .rename_i l el
    split at e
    .rename_i ps ep
     split at e
     .rename_i ks ek
      split at e
      .rename_i hlen
       cases e;obtain⟨a,vs,rfl,sa,ra⟩:=y9 R r el;cases ru;obtain⟨ks',pr,hl,hi⟩:=pz ra ep ek;obtain⟨its,rv,⟨⟨oc,od,odt,osl⟩,n,g1,g2,g3,g4⟩,_⟩:=I.list sa;simp only at g2 g3 g4;subst g2 g3 g4;obtain⟨kvs,q1,q2⟩:=pairs_at I rv hl hi;have hkl:ks'.length=kvs.length:=q1.length;refine m9 (qA X.prog X.w) (I.ok.hd hc) g1 q2 (by rw[<-hkl,<-pr.len];exact hlen) λh2 tk dd kp=>?_
       have rel:KV (x9 [] ks') (merged [] kvs):=q1.merge .nil;have hz:(x9 [] ks').length<=sizeLine:=by
        have h1:=af ks' [];rw[zV] at h1;rw[vp];have:=pr.len;omega
       exact⟨.ref _,_,I.laid (a:=s.heap.objs.size) (o:=.dK (x9 [] ks')) (t':=tk) kp (zg _) (lS hz (jr.mpr (kY (zX I.big))) rel dd),rfl,k.fdc R (pr.merge .nil) (I.hok.fresh (zg _))⟩
      .cases e
     .cases e
    .cases e
   .cases e
 .cases e
end
end ML
section
namespace ML
open PySem PySem.Spec PyProof.Rows L2
def Uo{P:Program}{w:World}{K:PySem.W.Frag}{mg:Str->Option Value}{base:Heap}{cl:Cl}{x qual:Str}{st:Stmt}{f:Addr}{N ps:List Str}(F:Fun K x qual st f fd)(hsc:kD st=sc)(hbd:kU st=bd)(S:FnScope N ps sc)(hnp:ps.length=np)(hns:N.length-np=ns)
  (hb:∀(cdv:Value) (A:Around) (outer:List Env) (s:Shared) (H:Hp) (E:XK),Room k (A.deeper (envOfC qual sc s.heap.objs.size f cdv))->
   SB (hW x8 P w K mg base N qual sc f cdv A outer s H E).nox cl bd b):FnOk P w K mg base x8 (k+1) f fd ps (xh K cl (gc (kd np ns b))):=by
 subst hsc hbd;exact Ds F S hnp hns hb
noncomputable def V3(sc:Scope)(x:Str):Bool:=match sc.names.lookup x with
 | some .local=>true
 | some .cell=>true
 | some .free=>true
 | _=>false
noncomputable def Kh(sc:Scope)(x:Str):Bool:=match sc.names.lookup x with
 | some .local=>true
 | some .cell=>true
 | _=>false
noncomputable def Vc(sc:Scope)(N:List Str)(i:Nat)(x:Str):Bool:=N[i]?==some x&&V3 sc x && !(x==("__debug__":Str)) && !(x==("__classdict__":Str))
noncomputable def setB(sc:Scope)(N:List Str)(i:Nat)(x:Str):Bool:=N[i]?==some x&&Kh sc x
noncomputable def setC(sc:Scope)(N:List Str)(i:Nat)(x:Str):Bool:=N[i]?==some x&&sc.names.lookup x==some .local
noncomputable def xT(sc:Scope)(x:Str):Bool:=sc.names.lookup x==some .globalImplicit && !(x==("__debug__":Str)) && !(x==("__name__":Str))
section
variable{X:Cx}{cl:Cl}{x:Str}{pos pos' p:Pos}{sc:Scope}{N:List Str}{i:Nat}{e:Expr}{m:ME}
def Y3(h:V3 sc x=true):Jq sc x:=by
 unfold V3 at h;split at h
 .rename_i q;exact .inl q
 .rename_i q;exact .inr (.inl q)
 .rename_i q;exact .inr (.inr q)
 .cases h
def mJ(h:Kh sc x=true):Loc sc x:=by
 unfold Kh at h;split at h
 .rename_i q;exact .inl q
 .rename_i q;exact .inr q
 .cases h
def v_(h:Vc sc N i x=true)(hs:↥(X.env.scope=sc))(hN:↥(X.N=N)):SE X cl (.Name x pos) (ze i):=by
 unfold Vc at h;simp only[zx,qd,q8] at h;exact BU i (by rw[hN];exact h.1.1.1) (by rw[hs];exact Y3 h.1.1.2) h.1.2 h.2
def g_(h:setB sc N i x=true)(hNd:N.Nodup)(hs:↥(X.env.scope=sc))(hN:↥(X.N=N))(hf:↥(X.fn x=true)):SG X cl (.Name x pos) (zC i):=by
 unfold setB at h;simp only[zx,qd] at h;exact ZJ i (by rw[hN];exact hNd) (by rw[hN];exact h.1) (by rw[hs];exact mJ h.2) (.inl hf)
def FH(h:setC sc N i x=true)(hNd:N.Nodup)(hs:↥(X.env.scope=sc))(hN:↥(X.N=N)):SG X cl (.Name x pos) (zC i):=by
 unfold setC at h;simp only[zx,qd] at h;exact ZJ i (by rw[hN];exact hNd) (by rw[hN];exact h.1) (by rw[hs];exact .inl h.2) (.inr (by rw[hs];exact h.2))
def s_(h:setB sc N i x=true)(hNd:N.Nodup)(he:SE X cl e m)(hs:↥(X.env.scope=sc))(hN:↥(X.N=N))(hf:↥(X.fn x=true))(hsw:↥(swapsWith e (some (.Name x pos')) pos.line X.env=pure false)):SS X cl (.Assign [.Name x pos'] e pos) (zI m (zC i)):=by
 unfold setB at h;simp only[zx,qd] at h;exact BW i (by rw[hN];exact hNd) he (by rw[hN];exact h.1) (by rw[hs];exact mJ h.2) hsw (.inl hf)
def j3(h:xT sc x=true)(hs:X.env.scope=sc):Gl X x/\(x==("__debug__":Str))=false/\x≠"__name__":=by
 unfold xT at h;simp only[zx,qd,q8] at h;refine⟨?_,h.1.2,λz=>?_⟩
 .show X.env.scope.names.lookup x=_
  rw[hs];exact h.1.1
 .have:=h.2;rw[z] at this;simp at this
variable{k:Nat}{f:Addr}{fd:FuncData}{ps:List Str}{es:List Expr}{g:List W->M W}{ms:List ME}{id:String}
def c_(h:xT sc x=true)(F:FnOk X.prog X.w X.K X.mg X.base x8 k f fd ps (xh X.K cl g))(hr:Room k X.A)(hm:X.mg x=some (.ref f))(hk:PySem.W.keepIn X.K (.ref f)=true)(hb:Binds X.K fd ps [])
  (ha:SA X cl (e::es) ms) (hs:↥(X.env.scope=sc)) (hst:↥(starEach (e::es) X.env=(false,eval e X.env)::starEach es X.env)) (hpl:↥((backTo pos (starEach es X.env)).any (·.1)=false)):SE X cl (.Call (.Name x p) (e::es) [] pos) (zh g ms):=
 XD F hr hm hk hb ha (j3 h hs).1 (j3 h hs).2.1 hst hpl
def FY(h:xT sc x=true)(F:FnOk X.prog X.w X.K X.mg X.base x8 k f fd ps (xh X.K cl g))(hr:Room k X.A)(hm:X.mg x=some (.ref f))(hk:PySem.W.keepIn X.K (.ref f)=true)(hb:Binds X.K fd ps [])
 (hs:↥(X.env.scope=sc)):SE X cl (.Call (.Name x p) [] [] pos) (zh g []):=WA F hr hm hk hb (j3 h hs).1 (j3 h hs).2.1
def WK(h:xT sc x=true)(hc:yB X (.builtin id) (rMs X.K cl g))(hm:X.mg x=none)(hv:bootBuiltins x=some (.builtin id))(ha:SA X cl (e::es) ms)(hs:↥(X.env.scope=sc))(hst:↥(starEach (e::es) X.env=(false,eval e X.env)::starEach es X.env))(hpl:↥((backTo pos (starEach es X.env)).any (·.1)=false)) :
 SE X cl (.Call (.Name x p) (e::es) [] pos) (zh g ms):=QZ hc hm hv ha (j3 h hs).1 (j3 h hs).2.2 (j3 h hs).2.1 hst hpl
def WD(h:xT sc x=true)(hc:yB X (.type id) (rMs X.K cl g))(hm:X.mg x=none)(hv:bootBuiltins x=some (.type id))(ha:SA X cl (e::es) ms)(hs:↥(X.env.scope=sc))(hst:↥(starEach (e::es) X.env=(false,eval e X.env)::starEach es X.env))(hpl:↥((backTo pos (starEach es X.env)).any (·.1)=false)) :
 SE X cl (.Call (.Name x p) (e::es) [] pos) (zh g ms):=JO hc hm hv ha (j3 h hs).1 (j3 h hs).2.2 (j3 h hs).2.1 hst hpl
def FP(h:xT sc x=true)(G:Glob X.K X.mg x w)(hs:↥(X.env.scope=sc)):SE X cl (.Name x pos) (eC w):=G.se (j3 h hs).1 (j3 h hs).2.1
def Fk(T:Ty)(h:xT sc "isinstance" = true)(h2:xT sc y=true)(ha:SE X cl a ma)(hi:X.mg "isinstance" = none)(ht:X.mg y=none)(hv:bootBuiltins y=some (.type T.name))(hs:↥(X.env.scope=sc))
  (hs1:↥(starEach [a,.Name y p2] X.env=(false,eval a X.env)::starEach [.Name y p2] X.env)) (hs2:↥(starEach [.Name y p2] X.env=(false,eval (.Name y p2) X.env)::starEach [] X.env))
  (hpl:↥((backTo pos (starEach [.Name y p2] X.env)).any (·.1)=false)):SE X cl (.Call (.Name "isinstance" p) [a,.Name y p2] [] pos) (uf (isW T) ma):=
 BC T ha hi ht hv (j3 h hs).1 (j3 h2 hs).1 (j3 h2 hs).2.2 (j3 h2 hs).2.1 hs1 hs2 hpl
variable{a:Expr}{ma:ME}{l:List (Str×W)}
def FZ(h:xT sc x=true)(hu:X.A.units+64<cLine)(T:TabOk X.K X.w.params X.mg x l)(ha:SE X cl a ma)(hs:↥(X.env.scope=sc))(hp:uI a:=by exactλ_ _=>rfl):SE X cl (.Subscript (.Name x p) a pos) (uf (bp l) ma):=nH hu T ha hp (j3 h hs).1 (j3 h hs).2.1
def DU(h:xT sc "range" = true)(hm:X.mg "range" = none)(ha:SA X cl [e] ms)(hs:↥(X.env.scope=sc))(hst:↥(starEach [e] X.env=[(false,eval e X.env)])):SI X cl tg (.Call (.Name "range" p) [e] [] pos) (qk ms):=UY hm ha (j3 h hs).1 hst
def D3(h:xT sc "zip" = true)(hm:X.mg "zip" = none)(ha:SA X cl [e,e2] ms)(hs:↥(X.env.scope=sc))(hst:↥(starEach [e,e2] X.env=(false,eval e X.env)::starEach [e2] X.env))(hpl:↥((backTo pos (starEach [e2] X.env)).any (·.1)=false)) :
 SI X cl (.Tuple elts n tpos) (.Call (.Name "zip" p) [e,e2] [] pos) (dA ms):=U0 hm ha (j3 h hs).1 hst hpl
end
end ML
namespace ML
open PySem PySem.Spec PyProof.Rows L2
section
variable{X:Cx}{cl:Cl}{a:Expr}{ma:ME}{x:Str}{l:List (Str×W)}{p pos:Pos}{sc:Scope}
end
end ML
end
namespace ML
open PySem PySem.Spec PyProof.Rows L2
noncomputable def oV(l:List Str):Bool:=decide l.Nodup
def Ym{l:List Str}(h:oV l=true:=by kernel_rfl):l.Nodup:=qF h
noncomputable def qv(x y:W):M W:=λh=>match yT h x,keyOf y with
 | some l,some k=>match vS l k with
  | some w=>some (w,h)
  | none=>none
 | _,_=>none
section
variable{X:Cx}{cl:Cl}{a b:Expr}{ma mb:ME}{pos:Pos}
def D8(hu:X.A.units+64<cLine):rR X (rM X.K cl qv):=by
 rintro value slice pins s σ H x y v u Q I rx ry ⟨μ,h,wx,wy,w,h',R,ax,ay,e,k⟩ hs;unfold qv at e;split at e
 .rename_i l kk el ek
  split at e
  .rename_i w' ev
   cases e;obtain⟨d,l',rfl,rd,pr⟩:=bE R ax el;have hk:=u0 ay ek;subst hk;have hv:=pr.val (k:=kk);rw[ev] at hv;obtain⟨v0,e0,r0⟩:=hv;have g:oW H d (kV kk) (some v0):=.inl ⟨l',kk,rd,rfl,e0.symm⟩;cases rx;exact tail_any (tE I g) PySem.F.slot_dict_getitem.lookup (QA ∅ I g ry λw' s3 I3 rw'=>⟨v0,H,I3,rw',k.pure R r0⟩) hs
  .cases e
 .cases e
def UE(hu:X.A.units+64<cLine)(ha:SE X cl a ma)(hb:SE X cl b mb)(hs:uI b):SE X cl (.Subscript a b pos) (zi qv ma mb):=
 PE.wk (ZO (D8 hu) ha hb hs) λσ H Q q=>bi q
end
noncomputable def bg(x y v:W):M W:=λh=>match x with
 | .ref n=>match h[n]? with
  | some (.dic l)=>match keyOf y with
   | some k=>if l.length<cap then some (.non,h.set n (.dic (jS l k v))) else none
   | none=>none
  | some (.lst l)=>match y with
   | .int i=>match xl l.length i with
    | some j=>some (.non,h.set n (.lst (l.set j v)))
    | none=>none
   | _=>none
  | _=>none
 | _=>none
noncomputable def uk(mo mi:ME):MG:=λv ρ=>bnd (mo ρ) λx=>bnd (mi ρ) λy=>bnd (bg x y v) λ_ h=>some (ρ,h)
section
variable{X:Cx}{cl:Cl}{o i:Expr}{mo mi:ME}{pos:Pos}
inductive rPut(K:PySem.W.Frag)(cl:Cl)(o:V)(i:V)(v:V)(H:Hp)(Q:Hp->Prop):Prop
 | mk (μ:List Addr) (h:MH) (wo:W) (wi:W) (wv:W) (w:W) (h':MH) (p0:HR K cl μ H h) (p1:RW K μ H wo o) (p2:RW K μ H wi i) (p3:RW K μ H wv v) (p4:bg wo wi wv h=some (w,h')) (p5:∀μ' H',Ext μ H μ' H'->HR K cl μ' H' h'->Q H'):rPut K cl o i v H Q
def CW(hu:X.A.units+64<cLine):QM X (rPut X.K cl):=by
 rintro pins s σ H o i v ov iv u Q I ro ri rv ⟨μ,h,wo,wi,wv,w,h',R,ao,ai,av,e,k⟩;unfold bg at e;split at e
 .rename_i n
  cases ao with | @ref _ p hn=>
  split at e
  .rename_i l ho
   split at e
   .rename_i kk ek
    split at e
    .rename_i hl
     cases e;obtain⟨l',hp,rk⟩:=R.ob n p _ hn ho;have pr:=RKs.pr rk;have hk:=u0 ai ek;subst hk;cases ro;have hl':l'.length<sizeLine:=by rw[<-pr.len];exact zN hl uh
     refine qR (JP ∅ I (.inl ⟨l',kk,hp,rfl,hl',rfl⟩) ri rv λs' I'=>?_) (λ_ _ z=>z) λ_ _ z=>z
     have E:Ext μ H μ (upd H p (.dK (putK l' kk v))):=Ext.put hn;exact⟨_,I',k μ _ E (R.put hn ⟨_,qc,((pr.put av).ext R E).rk⟩)⟩
    .cases e
   .cases e
  .rename_i l ho
   split at e
   .rename_i j
    split at e
    .rename_i j' ej
     cases e;obtain⟨vs,hp,rs⟩:=R.ob n p _ hn ho;have hi:=ai.int_of;subst hi;have E:Ext μ H μ (upd H p (.lst (vs.set j' v))):=Ext.put hn;refine set_list pins s σ H _ _ v ov iv u Q I ro ri rv ⟨p,vs,j,j',rfl,rfl,hp,by rw[<-rs.length];exact ej,k μ _ E (R.put hn ⟨_,qc,(RWs.set av _ rs).ext R E⟩)⟩
    .cases e
   .cases e
  .cases e
 .cases e
def UV(hu:X.A.units+64<cLine)(ho:SE X cl o mo)(hi:SE X cl i mi)
  (ha:∀v,assign (.Subscript o i pos) X.env v=(do
   let ov <-holding [v] (eval o X.env)
   let iv <-holding [v,ov] (eval i X.env)
   standAt pos
   holding [v,ov,iv] (setItem ov iv v)
   release [v,ov,iv] []):=by intro _;rfl):SG X cl (.Subscript o i pos) (uk mo mi):=
 PG.wk (US ho hi (CW hu) ha) λv σ H Q q0=>by
  obtain⟨μ,h,ρ,w,ρ',h',R,er,rv,e,k⟩:=q0;obtain⟨x,h1,e1,e⟩:=ka e;obtain⟨y,h2,e2,e⟩:=ka e;obtain⟨z,h3,e3,e⟩:=ka e;cases e;refine⟨μ,h,ρ,x,h1,R,er,e1,λμ1 H1 vx E1 R1 rx=>⟨μ1,h1,ρ,y,h2,R1,er.ext R E1,e2,λμ2 H2 vy E2 R2 ry=>?_⟩⟩;refine⟨μ2,h2,x,y,w,z,_,R2,rx.ext R1 E2,ry,(rv.ext R E1).ext R1 E2,e3,λμ3 H3 E3 R3=>?_⟩;exact k μ3 H3 σ (E1.trans (E2.trans E3)) R3 (((er.ext R E1).ext R1 E2).ext R2 E3)
end
noncomputable def vc(fl:List (Nat×List Str))(c:Nat)(f:Str):Bool:=fl.any λp=>p.1==c&&p.2.any (· == f)
noncomputable def cq(K:PySem.W.Frag)(cl:Cl)(fl:List (Nat×List Str)):Prop:=∀c f,vc fl c f=true->Cls K (cl.c c)/\NoAttr K (cl.c c) f
noncomputable def xP(f:Str)(v:W):List (Str×W)->List (Str×W)
 | []=>[(f,v)]
 | (g,x)::r=>if g=f then (g,v)::r else (g,x)::xP f v r
noncomputable def xc(fl:List (Nat×List Str))(f:Str)(x:W):M W:=λh=>match x with
 | .ref n=>match h[n]? with
  | some (.ins c fs)=>if vc fl c f=true then (match fs.lookup f with
   | some w=>some (w,h)
   | none=>none) else none
  | _=>none
 | _=>none
noncomputable def fi(fl:List (Nat×List Str))(f:Str)(x v:W):M W:=λh=>match x with
 | .ref n=>match h[n]? with
  | some (.ins c fs)=>if vc fl c f=true then (if fs.length<1000 then some (.non,h.set n (.ins c (xP f v fs))) else none) else none
  | _=>none
 | _=>none
noncomputable def kN(fl:List (Nat×List Str))(f:Str)(mo:ME):ME:=λρ=>bnd (mo ρ) (xc fl f)
noncomputable def x6(fl:List (Nat×List Str))(f:Str)(mo:ME):MG:=λv ρ=>bnd (mo ρ) λx=>bnd (fi fl f x v) λ_ h=>some (ρ,h)
noncomputable def clsOf(x:W)(h:MH):Option Nat:=match x with
 | .ref n=>match h[n]? with
  | some (.ins c _)=>some c
  | _=>none
 | _=>none
noncomputable def lX(fl:List (Nat×List Str))(f:Str)(g:W->W->M W)(mo m:ME):MS:=λρ=>bnd (mo ρ) λx h0=>bnd (xc fl f x) (λv=>bnd (m ρ) λy=>bnd (g v y) λz h1=>if clsOf x h1=clsOf x h0 then bnd (fi fl f x z) (λ_ h=>some (.nx ρ,h)) h1 else none) h0
section
variable{K:PySem.W.Frag}{cl:Cl}{μ μ':List Addr}{H H':Hp}{h:MH}{f:Str}
theorem RKs.look:∀{fs:List (Str×W)} {fs':List (Str×V)},RKs K μ H fs fs'->fs.lookup f=some w->∃v,fs'.lookup f=some v/\RW K μ H w v
 | [],_,_,e=>by cases e
 | (g,x)::fs,[],r,e=>by have:=r.1;simp at this
 | (g,x)::fs,(g',x')::fs',r,e=>by
  obtain⟨r1,r2⟩:=r;simp only[zq,jR] at r1;obtain⟨rfl,r1⟩:=r1;cases r2 with | cons q t=>
  rw[kI] at e ⊢;cases z:f==g with
  | true=>rw[z] at e;cases e;exact⟨_,rfl,q⟩
  | false=>rw[z] at e;exact RKs.look ⟨r1,t⟩ e
theorem RKs.miss:∀{fs:List (Str×W)} {fs':List (Str×V)},RKs K μ H fs fs'->fs.lookup f=none->fs'.lookup f=none
 | [],[],_,_=>rfl
 | [],_::_,r,_=>by have:=r.1;simp at this
 | (g,x)::fs,[],r,e=>by have:=r.1;simp at this
 | (g,x)::fs,(g',x')::fs',r,e=>by
  obtain⟨r1,r2⟩:=r;simp only[zq,jR] at r1;obtain⟨rfl,r1⟩:=r1;cases r2 with | cons q t=>
  rw[kI] at e ⊢;cases z:f==g with
  | true=>rw[z] at e;cases e
  | false=>rw[z] at e;exact RKs.miss ⟨r1,t⟩ e
def RKs.len{fs:List (Str×W)}{fs':List (Str×V)}(r:RKs K μ H fs fs'):fs.length=fs'.length:=by
 have:=jX List.length r.1;simpa using this
theorem RKs.putF(q:RW K μ H w v):∀{fs:List (Str×W)} {fs':List (Str×V)},RKs K μ H fs fs'->RKs K μ H (xP f w fs) (L2.putF f v fs')
 | [],[],_=>⟨rfl,.cons q .nil⟩
 | [],_::_,r=>by have:=r.1;simp at this
 | (g,x)::fs,[],r=>by have:=r.1;simp at this
 | (g,x)::fs,(g',x')::fs',r=>by
  obtain⟨r1,r2⟩:=r;simp only[zq,jR] at r1;obtain⟨rfl,r1⟩:=r1;cases r2 with | cons p t=>
  unfold xP L2.putF;by_cases z:g=f
  .rw[zY z,zY z]
   exact⟨by simp[r1],.cons q t⟩
  .rw[jc z,jc z]
   have ih:=RKs.putF q (fs:=fs) (fs':=fs') ⟨r1,t⟩;exact⟨by simp[ih.1],.cons p ih.2⟩
theorem RKs.ext{κ:Type}(R:HR K cl μ H h)(E:Ext μ H μ' H'){fs:List (κ×W)}{fs':List (κ×V)}(r:RKs K μ H fs fs'):RKs K μ' H' fs fs':=⟨r.1,r.2.ext R E⟩
def Zj(C:cq K cl fl)(R:HR K cl μ H h)(r:RW K μ H x v)(e:xc fl f x h=some (w,h')):h'=h/\∃a c dx fs y,clsOf x h=some c/\v=.ref a/\H a=some (.ins (cl.c c) dx fs)/\Cls K (cl.c c)/\NoAttr K (cl.c c) f/\fs.lookup f=some y/\RW K μ H w y:=by
 unfold xc at e;split at e
 .rename_i n
  split at e
  .rename_i c fs ho
   split at e
   .rename_i hc
    split at e
    .rename_i w' ew
     cases e;cases r with | @ref _ a hn=>
     obtain⟨dx,fs',hH,rk⟩:=R.ob n a _ hn ho;obtain⟨y,ey,ry⟩:=rk.look ew;exact⟨rfl,a,c,dx,fs',y,by simp only[clsOf,ho],rfl,hH,(C c f hc).1,(C c f hc).2,ey,ry⟩
    .cases e
   .cases e
  .cases e
 .cases e
def Zv(C:cq K cl fl)(R:HR K cl μ H h)(r:RW K μ H x v)(ry:RW K μ H u y)(e:fi fl f x u h=some (w,h')):∃a c dx fs,clsOf x h=some c/\v=.ref a/\H a=some (.ins (cl.c c) dx fs)/\Cls K (cl.c c)/\NoAttr K (cl.c c) f/\fs.length<1000/\Ext μ H μ (upd H a (.ins (cl.c c) dx (L2.putF f y fs)))/\HR K cl μ (upd H a (.ins (cl.c c) dx (L2.putF f y fs))) h':=by
 unfold fi at e;split at e
 .rename_i n
  split at e
  .rename_i c fs ho
   split at e
   .rename_i hc
    split at e
    .rename_i hl
     cases e;cases r with | @ref _ a hn=>
     obtain⟨dx,fs',hH,rk⟩:=R.ob n a _ hn ho;have E:Ext μ H μ (upd H a (.ins (cl.c c) dx (L2.putF f y fs'))):=Ext.put hn;exact⟨a,c,dx,fs',by simp only[clsOf,ho],rfl,hH,(C c f hc).1,(C c f hc).2,by rw[<-rk.len];exact hl,E,R.put hn ⟨dx,_,qc,(RKs.putF ry rk).ext R E⟩⟩
    .cases e
   .cases e
  .cases e
 .cases e
end
section
variable{X:Cx}{cl:Cl}{o e:Expr}{mo m:ME}{pos pos':Pos}{f:Str}{fl:List (Nat×List Str)}
def Cz(C:cq X.K cl fl)(ho:SE X cl o mo)(hb:attributeBase o f X.env (eval o X.env)=eval o X.env):SE X cl (.Attribute o f pos) (kN fl f mo):=
 PE.wk (CJ ho hb) λσ H Q q0=>by
  obtain⟨μ,h,ρ,w,h',R,er,e,k⟩:=q0;obtain⟨x,h1,e1,e⟩:=ka e;refine⟨μ,h,ρ,x,h1,R,er,e1,λμ1 H1 vx E1 R1 rx=>?_⟩;obtain⟨rfl,a,c,dx,fs,y,-,q1,q2,q3,q4,q5,q6⟩:=Zj C R1 rx e;exact⟨a,cl.c c,dx,fs,y,q1,q2,q3,q4,q5,k μ1 H1 _ E1 R1 q6⟩
def Cq(C:cq X.K cl fl)(he:SE X cl e m)(ho:SE X cl o mo)(hs:swapsWith e (some (.Attribute o f pos')) pos.line X.env=pure false):SS X cl (.Assign [.Attribute o f pos'] e pos) (zI m (x6 fl f mo)):=
 PS.wk (CD ho he hs) λD σ H q0=>by
  obtain⟨μ,h,ρ,fl',h',R,er,e,k⟩:=q0;unfold zI at e;split at e
  .rename_i w h1 e1
   split at e
   .rename_i ρ2 h2 e2
    cases e;obtain⟨x,h3,e3,e2⟩:=ka e2;obtain⟨z,h4,e4,e2⟩:=ka e2;cases e2;refine⟨μ,h,ρ,w,h1,R,er,e1,λμ1 H1 vy E1 R1 ry=>⟨μ1,h1,ρ,x,h3,R1,er.ext R E1,e3,λμ2 H2 vx E2 R2 rx=>?_⟩⟩;obtain⟨a,c,dx,fs,-,q1,q2,q3,q4,q5,E3,R3⟩:=Zv C R2 rx (ry.ext R1 E2) e4;exact⟨a,cl.c c,dx,fs,q1,q2,q3,q4,q5,(k.ext (E1.trans (E2.trans E3))).nx R3 (((er.ext R E1).ext R1 E2).ext R2 E3)⟩
   .cases e
  .cases e
def Jd(C:cq X.K cl fl)(he:SE X cl e m)(ho:SE X cl o mo):SS X cl (.AugAssign (.Attribute o f pos') .Add e pos) (lX fl f mW mo m):=
 PS.wk (J4 ho he UN) λD σ H q0=>by
  obtain⟨μ,h,ρ,fl',h',R,er,e,k⟩:=q0;obtain⟨x,h1,e1,e⟩:=ka e;obtain⟨v,h2,e2,e⟩:=ka e;obtain⟨y,h3,e3,e⟩:=ka e;obtain⟨z,h4,e4,e⟩:=ka e;split at e
  .rename_i hcc
   obtain⟨u,h5,e5,e⟩:=ka e;cases e;refine⟨μ,h,ρ,x,h1,R,er,e1,λμ1 H1 vx E1 R1 rx=>?_⟩;obtain⟨rfl,a,c,dx,fs,v0,q0,q1,q2,q3,q4,q5,q6⟩:=Zj C R1 rx e2;refine⟨a,cl.c c,dx,fs,v0,q1,q2,q3,q4,q5,μ1,_,ρ,y,h3,R1,er.ext R E1,e3,λμ2 H2 vy E2 R2 ry=>?_⟩;unfold mW at e4;split at e4
   .rename_i i j _
    cases e4;obtain⟨a',c',dx',fs',p0,p1,p2,p3,p4,p5,E3,R3⟩:=Zv C R2 (rx.ext R1 E2) (RW.int (i+j)) e5;rw[p0,q0] at hcc;cases hcc;subst q1;cases p1;exact⟨i,j,q6.int_of,ry.int_of,dx',fs',p2,p5,(k.ext (E1.trans (E2.trans E3))).nx R3 (((er.ext R E1).ext R1 E2).ext R2 E3)⟩
   .cases e4
  .cases e
end
abbrev mI:=List ((Nat×Str)×(List W->M W))
noncomputable def kb(mt:mI)(m:Str)(mo:ME)(ms:List ME):ME:=λρ=>bnd (mo ρ) λx h=>match x with
 | .ref n=>match h[n]? with
  | some (.ins c fs)=>match fs.lookup m,mt.lookup (c,m) with
   | none,some g=>bnd (ko ms ρ) (λws=>g (x::ws)) h
   | _,_=>none
  | _=>none
 | _=>none
noncomputable def mM(P:Program)(w:World)(K:PySem.W.Frag)(mg:Str->Option Value)(base:Heap)(cl:Cl)(k:Nat)(c:Nat)(m:Str)(g:List W->M W):Prop:=
 ∃f fd ps,Cls K (cl.c c)/\Meth K (cl.c c) m f/\FnOk P w K mg base x8 k f fd ps (xh K cl g)/\Binds K fd ps []
section
variable{X:Cx}{cl:Cl}{k:Nat}{o e:Expr}{es:List Expr}{mo:ME}{ms:List ME}{pos apos:Pos}{m:Str}{mt:mI}
theorem nK{args:List Expr}(hb:attributeBase o m env (eval o env)=eval o env)(hfew:((backTo pos (starEach args env)).all (λx=>!x.1)&&(backToKw pos (keywordEach [] env)).all (λx=>x.1.isSome)
   && decide (args.length+([]:List Keyword).length+(if ([]:List Keyword).isEmpty then 0 else 1)<30))=true) (hline:(apos.endLine==pos.line)=true):eval (.Call (.Attribute o m apos) args [] pos) env=(do
   let ov <-eval o env
   standAt apos.atName
   let (f,first) <-holding [ov] (getMethod ov m (do return (<-importBound o env).getD true))
   callWith pos f first (backTo pos (starEach args env)) (backToKw pos (keywordEach [] env))):=by
 have e1:eval (.Call (.Attribute o m apos) args [] pos) env=(do
   let ov <-attributeBase o m env (eval o env)
   standAt apos.atName
   methodCall o m apos pos env ov (args.length+([]:List Keyword).length) (backTo pos (starEach args env)) (backToKw pos (keywordEach [] env))):=by kernel_rfl
 rw[e1,hb];congr 1
 funext ov
 congr 1
 funext _
 unfold methodCall;have hk:backToKw pos (keywordEach [] env)=[]:=by kernel_rfl
 have hf:methodCallForm (args.length+([]:List Keyword).length) (backTo pos (starEach args env)) (backToKw pos (keywordEach [] env))=true:=by
  rw[hk] at hfew ⊢;exact hfew
 have hp:methodCallPos true o env apos pos=pure pos:=by
  unfold methodCallPos;rw[hline];rfl
 rw[hf];congr 1
 funext x
 obtain⟨f,first⟩:=x;show(methodCallPos true o env apos pos >>= λcallPos=>callWith callPos f first (backTo pos (starEach args env)) (backToKw pos (keywordEach [] env)))=_
 rw[hp];rfl
def pk{H:Hp}(MT:∀c g,mt.lookup (c,m)=some g->mM X.prog X.w X.K X.mg X.base cl k c m g)(q:tM X.K cl (kb mt m mo ms) σ H Q) :
  ∃c f fd ps g,Cls X.K (cl.c c)/\Meth X.K (cl.c c) m f/\FnOk X.prog X.w X.K X.mg X.base x8 k f fd ps (xh X.K cl g)/\Binds X.K fd ps []/\Ke (cl.c c) m (xh X.K cl g) [] E0 (tM X.K cl mo) (tMA X.K cl ms) σ H Q:=by
 obtain⟨μ,h,ρ,w,h',R,er,e,kq⟩:=q;obtain⟨x,h1,e1,e⟩:=ka e;split at e
 .rename_i n
  split at e
  .rename_i c fs ho
   split at e
   .rename_i g hmiss hg
    obtain⟨f,fd,ps,c1,c2,F,B⟩:=MT c g hg;refine⟨c,f,fd,ps,g,c1,c2,F,B,μ,h,ρ,_,h1,R,er,e1,λμ1 H1 vx E1 R1 rx=>?_⟩;cases rx with | @ref _ a hn=>
    obtain⟨dx,fs',hH,rk⟩:=R1.ob n a _ hn ho;obtain⟨ws,h2,e2,e⟩:=ka e;refine⟨a,dx,fs',rfl,hH,rk.miss hmiss,μ1,h1,ρ,ws,h2,R1,er.ext R E1,e2,λμ2 H2 vs E2 R2 rs=>?_⟩;show xh X.K cl g (V.ref a::(vs++[])) H2 Q E0
    rw[kj];exact⟨μ2,h2,.ref n::ws,w,h',R2,.cons (.ref (E2.get hn)) rs,e,λμ3 H3 v E3 R3 rv=>kq μ3 H3 v (E1.trans (E2.trans E3)) R3 rv⟩
   .cases e
  .cases e
 .cases e
def Ug(MT:∀c g,mt.lookup (c,m)=some g->mM X.prog X.w X.K X.mg X.base cl k c m g)(hr:Room k X.A)(ho:SE X cl o mo)(ha:SA X cl (e::es) ms)(hb:attributeBase o m X.env (eval o X.env)=eval o X.env)
  (hfew:((backTo pos (starEach (e::es) X.env)).all (λx=>!x.1)&&(backToKw pos (keywordEach [] X.env)).all (λx=>x.1.isSome)&&decide ((e::es).length+([]:List Keyword).length+(if ([]:List Keyword).isEmpty then 0 else 1)<30))=true)
  (hline:(apos.endLine==pos.line)=true) (hst:starEach (e::es) X.env=(false,eval e X.env)::starEach es X.env) (hpl:(backTo pos (starEach es X.env)).any (·.1)=false):SE X cl (.Call (.Attribute o m apos) (e::es) [] pos) (kb mt m mo ms):=by
 intro pins s σ H Q I q;obtain⟨c,f,fd,ps,g,c1,c2,F,B,q⟩:=pk MT q;exact X4 ho c1 c2 F hr B .nil iH ha hst hpl (nK hb hfew hline) pins s σ H Q I q
def Wp(MT:∀c g,mt.lookup (c,m)=some g->mM X.prog X.w X.K X.mg X.base cl k c m g)(hr:Room k X.A)(ho:SE X cl o mo)(hb:attributeBase o m X.env (eval o X.env)=eval o X.env)
  (hline:(apos.endLine==pos.line)=true) (hfew:((backTo pos (starEach [] X.env)).all (λx=>!x.1)&&(backToKw pos (keywordEach [] X.env)).all (λx=>x.1.isSome)&&decide (([]:List Expr).length+([]:List Keyword).length+(if ([]:List Keyword).isEmpty then 0 else 1)<30))=true):SE X cl (.Call (.Attribute o m apos) [] [] pos) (kb mt m mo []):=by
 intro pins s σ H Q I q;obtain⟨c,f,fd,ps,g,c1,c2,F,B,a,b,d,x,h1,R,er,e1,k1⟩:=pk MT q;refine Wg ho c1 c2 F hr B .nil iH (nK hb hfew hline) pins s σ H Q I ⟨a,b,d,x,h1,R,er,e1,λμ1 H1 vx E1 R1 rx=>?_⟩;obtain⟨a',dx,fs,q1,q2,q3,μ2,h2,ρ2,ws,h3,R2,er2,e2,k2⟩:=k1 μ1 H1 vx E1 R1 rx;cases e2;exact⟨a',dx,fs,q1,q2,q3,k2 μ2 H1 [] .refl R2 .nil⟩
noncomputable def xR(c:Nat)(g:List W->M W)(ms:List ME):ME:=λρ=>bnd (ko ms ρ) λws h=>match g (.ref h.length::ws) (h++[.ins c []]) with
 | some (.non,h')=>if h.length<h'.length then some (.ref h.length,h') else none
 | _=>none
noncomputable def rh(P:Program)(w:World)(K:PySem.W.Frag)(mg:Str->Option Value)(base:Heap)(cl:Cl)(k:Nat)(x:Str)(c:Nat)(g:List W->M W):Prop:=
 ∃f fd ps,mg x=some (.ref (cl.c c))/\Mk K (cl.c c) f/\FnOk P w K mg base x8 k f fd ps (xh K cl g)/\Binds K fd ps []
def Vu{c:Nat}{H:Hp}(q:tM X.K cl (xR c g ms) σ H Q):WI (cl.c c) (xh X.K cl g) [] E0 (tMA X.K cl ms) σ H Q:=by
 obtain⟨μ,h,ρ,w,h',R,er,e,kq⟩:=q;obtain⟨ws,h1,e1,e⟩:=ka e;refine⟨μ,h,ρ,ws,h1,R,er,e1,λμ1 H1 vs E1 R1 rs x dx hx hd hne=>?_⟩;show xh X.K cl g (V.ref x::(vs++[])) _ _ E0
 rw[kj];split at e
 .rename_i h2 e2
  split at e
  .rename_i hlt
   cases e;have hx':upd H1 dx (.own x) x=none:=by rw[kQ (kY hne)];exact hx
   have Ea:Ext μ1 H1 μ1 (upd H1 dx (.own x)):=Ext.side hd;have Ra:=R1.side (u:=.own x) hd;have Eb:Ext μ1 (upd H1 dx (.own x)) (μ1++[x]) (upd (upd H1 dx (.own x)) x (.ins (cl.c c) dx [])):=Ext.new hx';have Rb:HR X.K cl (μ1++[x]) (upd (upd H1 dx (.own x)) x (.ins (cl.c c) dx [])) (h1++[.ins c []]):=Ra.new hx' ⟨dx,[],qc,rfl,.nil⟩;have hn:(μ1++[x])[h1.length]?=some x:=by rw[<-R1.len];simp
   refine⟨μ1++[x],_,.ref h1.length::ws,.non,_,Rb,.cons (.ref hn) ((rs.ext R1 Ea).ext Ra Eb),e2,λμ3 H3 v E3 R3 rv=>?_⟩;cases rv;exact⟨rfl,kq μ3 H3 _ (E1.trans (Ea.trans (Eb.trans E3))) R3 (.ref (E3.get hn))⟩
  .cases e
 .cases e
noncomputable def Cp(P:Program)(w:World)(K:PySem.W.Frag)(mg:Str->Option Value)(base:Heap)(cl:Cl)(k:Nat)(x:Str)(c:Nat)(g:List W->M W):Prop:=(∀ws h,g ws h=none)\/∃j,j+1<=k/\rh P w K mg base cl j x c g
def YN{c:Nat}(M:Cp X.prog X.w X.K X.mg X.base cl k x c g)(hr:Room k X.A)(ha:SA X cl (e::es) ms)(hg:Gl X x)(hdb:(x==("__debug__":Str))=false)(hst:starEach (e::es) X.env=(false,eval e X.env)::starEach es X.env)(hpl:(backTo pos (starEach es X.env)).any (·.1)=false) :
  SE X cl (.Call (.Name x p) (e::es) [] pos) (xR c g ms):=by
 intro pins s σ H Q I q;rcases M with no | ⟨j,hj,f,fd,ps,hm,mk,F,B⟩
 .obtain⟨μ,h,ρ,w,h',R,er,e,kq⟩:=q
  obtain⟨ws,h1,e1,e⟩:=ka e;simp only[no] at e;cases e
 .exact Yw mk F (hr.mono hj) hg hm B .nil iH ha hdb hst hpl pins s σ H Q I (Vu q)
end
noncomputable def Kt(ws:List (Str×(List W->M W)))(ma:ME)(ms:List ME):ME:=λρ=>bnd (ma ρ) λx h=>match x with
 | .str k=>match ws.lookup k with
  | some g=>bnd (ko ms ρ) g h
  | none=>none
 | _=>none
noncomputable def KI(P:Program)(w:World)(K:PySem.W.Frag)(mg:Str->Option Value)(base:Heap)(cl:Cl)(k:Nat)(x:Str)(ws:List (Str×(List W->M W))):Prop:=
 ∃l,TabOk K w.params mg x l/\∀y g,ws.lookup y=some g->∃f fd ps,l.lookup y=some (.fn f)/\FnOk P w K mg base x8 k f fd ps (xh K cl g)/\PySem.W.keepIn K (.ref f)=true/\Binds K fd ps []
section
variable{X:Cx}{cl:Cl}{k:Nat}{x:Str}{p p2 pos:Pos}{a e:Expr}{es:List Expr}{ma:ME}{ms:List ME}{ws:List (Str×(List W->M W))}
theorem QR:eval (.Call (.Subscript (.Name x p) a p2) args [] pos) env=(do callWith pos (<-eval (.Subscript (.Name x p) a p2) env) [] (backTo pos (starEach args env)) (backToKw pos (keywordEach [] env))):=by kernel_rfl
def Ba(hu:X.A.units+64<cLine)(T:KI X.prog X.w X.K X.mg X.base cl k x ws)(hr:Room k X.A)(ha:SE X cl a ma)(hs:SA X cl (e::es) ms)(hp:uI a)(hg:Gl X x)(hd:(x==("__debug__":Str))=false)(hst:starEach (e::es) X.env=(false,eval e X.env)::starEach es X.env)(hpl:(backTo pos (starEach es X.env)).any (·.1)=false) :
  SE X cl (.Call (.Subscript (.Name x p) a p2) (e::es) [] pos) (Kt ws ma ms):=by
 obtain⟨l,T,TW⟩:=T;intro pins s σ H Q I q;obtain⟨μ,h,ρ,w,h',R,er,e0,kq⟩:=q;obtain⟨y,h1,e1,e0⟩:=ka e0;split at e0
 .rename_i key
  split at e0
  .rename_i g eg
   obtain⟨f,fd,ps,el,F,hk,hb⟩:=TW key g eg;obtain⟨vs,h2,e2,e0⟩:=ka e0;rw[QR];refine za (kC (nH hu T ha hp hg hd pins s σ H (λv H1=>v=.ref f/\∃μ1,Ext μ H μ1 H1/\HR X.K cl μ1 H1 h1) I ⟨μ,h,ρ,.fn f,h1,R,er,?_,λμ1 H1 v E1 R1 rv=>?_⟩) λu s1 ⟨v,H1,I1,r1,z,μ1,E1,R1⟩=>?_)
   .unfold uf
    rw[Vq e1];simp only[bp,el]
   .cases rv
    exact⟨rfl,μ1,E1,R1⟩
   .subst z
    cases r1;show wpAny _ _ (callWith pos (.ref f) [] _ []) _ _ _
    refine vL (h₀:=X.base) I1.ok.mod.kin hk (kC (hs pos pins s1 σ H1 (λvs H2=>xh X.K cl g (vs++[]) H2 Q E0) I1 ⟨μ1,h1,ρ,vs,h2,R1,er.ext R E1,e2,λμ2 H2 us E2 R2 rs=>?_⟩) λus s2 ⟨vs,H2,I2,r,q⟩=>⟨I2.kIn,?_⟩) hst hpl
    .rw[kj]
     exact⟨μ2,h2,vs,w,h',R2,rs,e0,λμ3 H3 v E3 R3 rv=>kq μ3 H3 v (E1.trans (E2.trans E3)) R3 rv⟩
    .exact gT F hr hb .nil iH I2 r q
  .cases e0
 .cases e0
end
end ML
namespace ML
open PySem PySem.W PySem.Spec PyProof.Rows
theorem nE:Manifest.owners.lookup (String.ofList ['d','e','s','r','e','v','e','r'].reverse)=some Manifest.sig_reversed:=by kernel_rfl
def slot_rev_next:Slot "reversed" "__next__" "reversed.__next__":=
 .of (owner:="reversed") (n:="__next__") (by rw[qp,jN];kernel_rfl) ⋯ ⋯ ⋯
  (by first | exact .inl ⋯ | exact .inr ⋯) (by rw[wj];kernel_rfl)
def eD:entryFor table "reversed.__next__" = some Builtin.«reversed.__next__»:=entryFor_of_tree (by kernel_rfl)
def gI(a:Value):argsOk "reversed.__next__" ⟨[a],[]⟩:=by
 unfold argsOk;rw[signature?_of (id:="reversed.__next__") (n:=['_','_','t','x','e','n','_','_']) (o:=['d','e','s','r','e','v','e','r']) (by kernel_rfl) nE];kernel_rfl
def gG:Slot "reversed" "__iter__" "reversed.__iter__":=
 .of (owner:="reversed") (n:="__iter__") (by rw[qp,jN];kernel_rfl) ⋯ ⋯ ⋯
  (by first | exact .inl ⋯ | exact .inr ⋯) (by rw[wj];kernel_rfl)
def oy(a:Value):argsOk "reversed.__iter__" ⟨[a],[]⟩:=by
 unfold argsOk;rw[signature?_of (id:="reversed.__iter__") (n:=['_','_','r','e','t','i','_','_']) (o:=['d','e','s','r','e','v','e','r']) (by kernel_rfl) nE];kernel_rfl
def mZ:entryFor table "reversed.__iter__" = some Builtin.«dict_keyiterator.__iter__»:=
 entryFor_alias (id':="dict_keyiterator.__iter__") (by kernel_rfl) (by first | rfl | decide +kernel | (unfold String.splitOn;simp +decide [String.splitOnAux])) ⋯ (by kernel_rfl)
def slot_rev_init:Slot "reversed" "__init__" "object.__init__":=
 .of (owner:="object") (n:="__init__") (by rw[qp,jN];kernel_rfl) ⋯ ⋯ ⋯
  (by first | exact .inl ⋯ | exact .inr ⋯) (by rw[wj];kernel_rfl)
def ZS:TypeCalled "reversed" "reversed.__new__" "object.__init__":=
 ⟨by decide +kernel,F.create_reversed,⟨_,_,F.mro_reversed⟩,F.made_reversed,yd,F.sub_reversed_self,slot_rev_init⟩
def Jk:typeLookup (.type "tuple") "__reversed__" = pure none:=by rw[qp,jN];kernel_rfl
def Z8:isSubtype (.type "tuple") (.type "dict")=pure false:=by rw[wj];kernel_rfl
section
variable{prog:Program}{w:World}{A:Around}{E:Value->Shared->Prop}{s:Shared}
def sR(t:Addr)(i:Int):Obj:={ cls:=.type "reversed",data:=.fields #[.ref t,rawInt i] }
def VZ{t:Addr}{items:Array Value}(ht:s.heap.IsTuple t items)(hn:items.size<=sizeLine)
  (h:∀tk,Q₁ (.ref s.heap.objs.size) { s with heap:=s.heap.push (sR t ((items.size:Int)-1)),toks:=tk }) :
  codeAny (model prog w) A (.call (.builtin "reversed.__new__") ⟨[.type "reversed",.ref t],[]⟩) (wants Q₁ E) s:=by
 refine codeAny_of_tree ?_;show wpAny _ A.in1 (do checkBuiltinCall "reversed.__new__" ⟨[.type "reversed",.ref t],[]⟩;again (.builtin "reversed.__new__" ⟨[.type "reversed",.ref t],[]⟩)) _ _ s
 refine za (jW (F.newCall_reversed_1 _) (zu ⟨q9 yd _,vV F.entry_reversed_new ?_⟩));rw[qW yd _];unfold Builtin.«reversed.__new__»;refine za (jW (newClass_reversed _) ?_);try dsimp only
 refine za (jW (a:=()) (by first | rfl | kernel_rfl) ?_);refine za (jW (a:=()) (by first | rfl | kernel_rfl) ?_);try dsimp only
 refine za (vR ht.typeIs Jk ?_);try dsimp only
 refine za ?_;show wpAny _ _ (isInstance (.ref t) (.type "dict") >>= _) _ _ _
 refine za (j4 ht.typeIs Z8 ?_);try dsimp only
 first | rw[jc (by decide)] | skip
 refine za (vR ht.typeIs jD.lookup ?_);try dsimp only
 rw[zY (by decide)];refine zu ?_;show wpAny _ _ (call (.builtin "len") [.ref t] >>= _) _ _ _
 have hfit:(items.size:Int)<2 ^ 63:=by
  have:sizeLine<2 ^ 62:=by decide +kernel
  omega
 refine za (len_tuple ht hfit ?_);show wpAny _ _ (Builtin.SmallTypes.newRecord (.type "reversed") [.ref t,rawInt ((items.size:Int)-1)] >>= _) _ _ _
 unfold Builtin.SmallTypes.newRecord;refine za (jm ?_ (by size_fits));exact zu (h _)
def QF{t:Addr}{items:Array Value}(ht:s.heap.IsTuple t items)(hn:items.size<=sizeLine)
  (h:∀tk,Q (.ref s.heap.objs.size) { s with heap:=s.heap.push (sR t ((items.size:Int)-1)),toks:=tk }):wpAny (model prog w) A (call (.type "reversed") [.ref t]) Q E s:=by
 refine yf ZS (F.typeCall_reversed_1 _) F.entry_object_init (Q₁:=λobj s₁=>obj=.ref s.heap.objs.size/\∃tk,s₁={ s with heap:=s.heap.push (sR t ((items.size:Int)-1)),toks:=tk }) (VZ ht hn λtk=>⟨rfl,tk,rfl⟩) ?_;rintro obj s₁ ⟨rfl,tk,rfl⟩;have hT:Shared.TypeIs { s with heap:=s.heap.push (sR t ((items.size:Int)-1)),toks:=tk } (.ref s.heap.objs.size) "reversed":=⟨_,zO _ rfl,rfl⟩;refine⟨hT,F.args_object_init_2 _ _,?_⟩;exact(object_init_meets (self:=.ref s.heap.objs.size) (rest:=[.ref t]) slot_rev_init.lookup F.made_reversed (by decide)) prog w A.in1 _ _ ⟨hT,rfl,h tk⟩
def IsRevT(h:Heap)(a t:Addr)(i:Int):Prop:=∃o,h.get? a=some o/\o.cls=.type "reversed" /\ o.data=.fields #[.ref t,rawInt i]
def IsRevT.typeIs{i:Int}(x:IsRevT s.heap a l i):s.TypeIs (.ref a) "reversed":=let ⟨o,ho,hc,_⟩:=x;⟨o,ho,hc⟩
def IsRevT.at{h h':Heap}{i:Int}(x:IsRevT h a l i)(e:∀o,h.get? a=some o->h'.get? a=some o):IsRevT h' a l i:=let ⟨o,ho,r⟩:=x;⟨o,e _ ho,r⟩
def Wx{i:Nat}{items:Array Value}(hit:IsRevT s.heap it l (i:Int))(hl:s.heap.IsTuple l items)(hn:items.size<=sizeLine)(hx:items[i]?=some x)
  (hQ:∀h' tk,IsRevT h' it l ((i:Int)-1)->Heap.SameBut it s.heap h'->Q (some x) { s with heap:=h',toks:=tk }):wpAny (model prog w) A (pyNext (.ref it)) Q E s:=by
 obtain⟨o,ho,hc,hd⟩:=id hit;have hb:sizeLine<2 ^ 62:=by decide +kernel
 have hi:i<items.size:=(yz.mp hx).1;unfold pyNext
 refine za (j6 (jn (name:=Str.ofString "__next__") hit.typeIs slot_rev_next
  (jy slot_rev_next hit.typeIs eD ?_ (gI _))))
 unfold Builtin.«reversed.__next__»;refine za (jW (a:=(Value.ref it,[])) rfl ?_);try dsimp only
 refine za (jl ho hd (x:=.ref l) rfl ?_);refine za (jl ho hd (x:=rawInt (i:Int)) rfl ?_);show wpAny _ _ (if (i:Int)<0 then _ else _) _ _ s
 rw[jc ∅];show wpAny _ _ (specialOf (.ref l) "__getitem__" >>= _) _ _ s
 refine za (vR hl.typeIs jD.lookup ?_);try dsimp only
 rw[jc (by simp)];refine za (wpAny_mkInt ?_);refine za (j6 (getItem_tuple (j:=i) hl ∅ ∅ (by simp[seqIndex?];omega) hx ?_));try dsimp only
 refine za (jl (s:={ s with toks:=s.toks+1 }) ho hd (x:=rawInt (i:Int)) rfl ?_);show wpAny _ _ (setField (.ref it) 1 (rawInt ((i:Int)-1)) >>= _) _ _ _
 refine za (wg (s:={ s with toks:=s.toks+1 }) ho hd (by simp) ?_);refine zu ⟨x,rfl,zu (hQ _ _ ?_ (qx ..))⟩
 exact⟨_,jT _ ho (wU (qH hd _)),(Obj.cls_mapFields ..).trans hc,by
  rw[qH hd];simp⟩
def YK(hh:A.handled=none)(hit:IsRevT s.heap it l (-1))
  (hQ:∀h',Heap.ExtBut it s.heap h'->Q none { s with heap:=h' }):wpAny (model prog w) A (pyNext (.ref it)) Q E s:=by
 obtain⟨o,ho,hc,hd⟩:=id hit;unfold pyNext
 refine za (j6 (jn (name:=Str.ofString "__next__") hit.typeIs slot_rev_next
  (jy slot_rev_next hit.typeIs eD ?_ (gI _))))
 unfold Builtin.«reversed.__next__»;refine za (jW (a:=(Value.ref it,[])) rfl ?_);try dsimp only
 refine za (jl ho hd (x:=.ref l) rfl ?_);refine za (jl ho hd (x:=rawInt (-1)) rfl ?_);show wpAny _ _ (if (-1:Int)<0 then _ else _) _ _ s
 rw[zY (by decide)];refine za (qD ?_);show wpAny _ _ ((setField (.ref it) 1 (rawInt (-1)) >>= λ_=>setField (.ref it) 0 .none) >>= _) _ _ _
 refine za (za (wg ho hd (by simp) ?_));have ho2:=jT (Obj.mapFields λx=>x.setIfInBounds 1 (rawInt (-1))) ho (wU (qH hd _));have hd2:=qH hd (λx=>x.setIfInBounds 1 (rawInt (-1)));refine wg ho2 hd2 (by simp) ?_;try dsimp only
 refine za ?_;show wpAny _ _ (newExc (.type "StopIteration") [] >>= _) _ _ _
 refine za ?_;simp only[newExc,newTuple];refine za (jm ?_ (by size_fits));refine za (m:=firstArgMember _ _) (jW (a:=Value.none) (by first | rfl | (simp only[firstArgMember];rfl)) ?_);refine jm ?_ (by size_fits);simp only[raiseNew];refine za (wpAny_handled ?_);first | rw[show A.in1.handled=none from hh] | rw[hh]
 refine za (zu (wD ?_));refine za (j4 (T:="StopIteration") (b:=true) ⟨_,zO _ rfl,rfl⟩ xn ?_);have x1:Heap.ExtBut it s.heap (s.heap.update it (Obj.mapFields λx=>x.setIfInBounds 1 (rawInt (-1)))):=(qx ..).extBut;have x2:Heap.ExtBut it s.heap ((s.heap.update it (Obj.mapFields λx=>x.setIfInBounds 1 (rawInt (-1)))).update it (Obj.mapFields λx=>x.setIfInBounds 0 .none)):=λb o hb e=>(qx ..).extBut b o hb (x1 b o hb e)
 exact zu (hQ _ ((x2.push _).push _))
def sI{i:Int}(hit:IsRevT s.heap it l i)(h:Q (.ref it) s):wpAny (model prog w) A (pyIter (.ref it)) Q E s:=by
 refine wpAny_pyIter_slot hit.typeIs gG (jy gG hit.typeIs mZ ?_ (oy _));show wpAny _ _ (ret (.ref it)) _ _ s
 exact zu ⟨_,rfl,"reversed",_,hit.typeIs,slot_rev_next.lookup,h⟩
end
end ML
namespace ML
open PySem PySem.Spec PyProof.Rows L2
noncomputable def DP(K:PySem.W.Frag)(a:Addr)(n:Nat):It:=
 ⟨λi H=>∃xs x,SqT K H a xs/\xs.length=n/\i<n/\xs[n-1-i]?=some x,λi H x H'=>H'=H/\∀xs,SqT K H a xs->xs[n-1-i]?=some x,λi H=>∃xs,SqT K H a xs/\xs.length=n/\n<=i⟩
def Vt{P:Program}{w:World}{K:PySem.W.Frag}{tg:Expr}(a it:Addr)(n:Nat):Turn P w K tg (DP K a n) [it] it (λi h=>i<=n/\IsRevT h it a ((n:Int)-1-(i:Int))) where
 mem:=by simp
 obj:=λi h st b hb=>by
  have e:b=it:=by simpa using hb
  subst e;obtain⟨_,o,e,c,d⟩:=st;exact⟨o,e,λv z=>by rw[d] at z;cases z⟩
 keep:=λi h h' st k=>⟨st.1,st.2.at λo e=>k it (by simp) o e⟩
 item:=by
  intro X hP hw hK hc i pins s σ H E I hf st hg;subst hP hw hK;obtain⟨xs,x,hq,hn,hi,hx⟩:=hg;obtain⟨its,rv,p,hz⟩:=I.tuple hq;obtain⟨u,hu,ru⟩:=rv.get hx;obtain⟨f0,f1,f2,f3,f4,f5⟩:=hf it (by simp);have e0:(n:Int)-1-(i:Int)=((n-1-i:Nat):Int):=by omega
  have st2:=st.2;rw[e0] at st2;refine Wx st2 (show s.heap.IsTuple a its.toArray from p) (by rw[zM,<-rv.length];exact hz) (x:=u) (by simpa using hu) λh' tk st' sb=>?_
  have I1:Inv X pins σ H { s with heap:=h',toks:=tk }:=I.turned (t':=tk) (λb o hb e=>(sb.2 b hb).trans e) f0 f1 f3 f4 f5;have e1:((n-1-i:Nat):Int)-1=(n:Int)-1-((i+1:Nat):Int):=by omega
  rw[e1] at st';obtain⟨o,e,c,d⟩:=id st';exact⟨u,rfl,l3 (s:={ s with heap:=h',toks:=tk }) e c d (by decide) ⟨x,H,I1,ru,⟨rfl,λys hy=>by rw[I.tuple_inj hy hq];exact hx⟩,⟨by omega,st'⟩,λb hb=>(hf b hb).1⟩⟩
 done:=by
  intro X hP hw hK hc i pins s σ H E I hf st hg;subst hP hw hK;obtain⟨xs,hq,hn,hi⟩:=hg;obtain⟨f0,f1,f2,f3,f4,f5⟩:=hf it (by simp);have e0:(n:Int)-1-(i:Int) = -1:=by have:=st.1;omega
  have st2:=st.2;rw[e0] at st2;exact YK (I.ok.hd hc) st2 λh' eb=>⟨rfl,I.turned (t':=s.toks) (λb o hb e=>eb b o hb e) f0 f1 f3 f4 f5⟩
 self:=λ_ _ _ _ _ st h=>sI st.2 h
noncomputable def VE(ws:List W):M Src:=λh=>match ws with
 | [.tup l]=>some (.items l.reverse,h)
 | _=>none
noncomputable def nh(ms:List ME):MI:=λρ=>bnd (ko ms ρ) VE
section
variable{X:Cx}{cl:Cl}{tg e:Expr}{p pos:Pos}{ms:List ME}
def Cr{K:PySem.W.Frag}{μ:List Addr}{H:Hp}{h:MH}{vs:List V}{l:List W}(R:HR K cl μ H h)(sa:SqT K H a vs)(ra:RWs K μ H l vs):JR K cl (DP K a vs.length) (.items l.reverse) μ H:=by
 intro μ2 H2 h2 E2 R2 i;have sa2:=SqT.ext R E2 sa;have ra2:=ra.ext R E2;have ll:=ra.length;refine⟨λw ew=>?_,λes=>?_⟩
 .have ew':l.reverse[i]?=some w:=zZ ew
  have hi:i<l.length:=by
   have:=(zU.mp ew').1;rwa [j5] at this
  rw[List.getElem?_reverse hi] at ew';obtain⟨v,ev,rv⟩:=ra2.get ew';rw[ll] at ev;refine⟨⟨vs,v,sa2,rfl,by omega,ev⟩,λx H3 y=>?_⟩;obtain⟨rfl,y⟩:=y;have:=y vs sa2;rw[ev] at this;cases this;exact⟨.refl,R2,rv⟩
 .have es':l.reverse[i]?=none:=zZ es
  have:=jK.mp es';rw[j5] at this;exact⟨vs,sa2,rfl,by omega⟩
def Cm(hm:X.mg "reversed" = none)(ha:SA X cl [e] ms)(hg:Gl X "reversed")(hst:starEach [e] X.env=(false,eval e X.env)::starEach [] X.env):SI X cl tg (.Call (.Name "reversed" p) [e] [] pos) (nh ms):=by
 rintro pins s σ H R I ⟨μ,h,ρ,src,h',R0,er,e,k⟩;obtain⟨ws,h1,e1',e⟩:=ka e;have hv:bootBuiltins "reversed" = some (.type "reversed"):=by decide +kernel
 refine jz (ug I hg hm hv ?_ (by decide) (by decide));refine jo (kC (ha pos pins s σ H (λvs H1=>∃μ1,Ext μ H μ1 H1/\HR X.K cl μ1 H1 h1/\RWs X.K μ1 H1 ws vs) I ⟨μ,h,ρ,ws,h1,R0,er,e1',λμ1 H1 vs E1 R1 rs=>⟨μ1,E1,R1,rs⟩⟩) λus s1 ⟨vs,H1,I1,r1,μ1,E1,R1,rs⟩=>?_) hst (by kernel_rfl);unfold VE at e;split at e
 .cases e
  cases rs with | cons rx t=>cases t with | nil=>
  obtain⟨a,xs,rfl,sa,ra⟩:=rx.tup_of;cases r1 with | cons r1 r2=>
  cases r2;cases r1;obtain⟨its,rv,pt,hz⟩:=I1.tuple sa;have hl:its.length=xs.length:=rv.length.symm;refine QF (show s1.heap.IsTuple a its.toArray from pt) (by rw[zM,<-rv.length];exact hz) λtk=>?_
  have e0:((its.toArray.size:Nat):Int)-1=(xs.length:Int)-1-((0:Nat):Int):=by simp[hl]
  rw[e0];have st:IsRevT (s1.heap.push (sR a ((xs.length:Int)-1-((0:Nat):Int)))) s1.heap.objs.size a ((xs.length:Int)-1-((0:Nat):Int)):=⟨_,zO _ rfl,rfl,rfl⟩;refine sI st ?_;refine⟨s1.heap.objs.size,[s1.heap.objs.size],_,_,H1,rfl,I1.kept (t':=tk) λb o e=>zf _ e,Vt a _ xs.length,⟨qy _,st⟩,λb hb=>?_,k μ1 H1 _ E1 R1 (Cr R1 sa ra)⟩;have e:b=s1.heap.objs.size:=by simpa using hb
  subst e;exact I1.fpOk (zg _) (I1.hok.fresh (zg _))
 .cases e
end
noncomputable def lJ(ws:List W):M W:=λh=>match ws with
 | [w]=>match yT h w with
  | some l=>some (.ref h.length,h++[.dic l])
  | none=>none
 | _=>none
section
variable{X:Cx}{cl:Cl}
theorem KQ.dic{K:PySem.W.Frag}{μ:List Addr}{H:Hp}{h:MH}(k:KQ K cl μ H (h++[.dic l]) (.ref h.length) Q)(R:HR K cl μ H h)(pr:PR K μ H l l')(hp:H p=none):Q (.ref p) (upd H p (.dK l')):=
 k (μ++[p]) _ _ (.new hp) (R.new hp ⟨l',qc,(pr.ext R (.new hp)).rk⟩) (.ref (by rw[<-R.len];simp))
def Ka:yB X (.type "dict") (rMs X.K cl lJ):=by
 rintro pins s σ H xs us Q I rs ⟨μ,h,ws,w,h',R,ax,e,k⟩;unfold lJ at e;split at e
 .cases ax with | cons r t=>cases t with | nil=>
  obtain⟨u,rfl,ru⟩:=rs.one;split at e
  .rename_i l el
   cases e;obtain⟨a,l',rfl,rd,pr⟩:=bE R r el;cases ru;exact rn I rd λp s' hp I'=>⟨.ref p,_,I',rfl,k.dic R pr hp⟩
  .cases e
 .cases e
end
def VT{M:Model}{s:Shared}(h:Q (s.heap.get? a) s):wpAny M A (loadIfAlive a) Q E s:=λΓ p _=>by
 show Sem.wp M Γ (.loadIfAlive a _) _ _ _ _
 rw[Sem.wp_loadIfAlive];exact(Sem.wp_pure ..).mpr h
noncomputable def ZB(h:Heap)(z TI TO T:Addr)(b:Bool):Prop:=h.get? z=some { cls:=.type "zip",dict:=none,data:=.fields #[rawInt T,.bool b,.bool false,.ref TI,.ref TO],slots:=#[] }
noncomputable def ZN(z TI TO T i1 i2:Addr)(P1 P2:Nat->Heap->Prop)(k:Nat)(h:Heap):Prop:=(∃b,ZB h z TI TO T b)/\(∃o,h.get? T=some o)/\IsPair h TI (.ref i1) (.ref i2)/\P1 k h/\P2 k h
structure ZApart2(z TI T i1 i2 a1 a2:Addr):Prop where
 nd:[z,TI,T,i1,i2].Nodup
 f1:a1∉[z,TI,i1,i2]
 f2:a2∉[z,TI,i1,i2]
section
variable{prog:Program}{w:World}{A:Around}{E:Value->Shared->Prop}{s:Shared}{z TI TO T i1 i2 a1 a2:Addr}{P1 P2:Nat->Heap->Prop}{C1 C2:Heap->List Value->Prop}
def ZI(hz:ZB s.heap z TI TO T b)(ho:s.heap.get? T=some o)(hQ:∀h',ZB h' z TI TO T true->Heap.SameBut z s.heap h'->Q false { s with heap:=h' }):wpAny (model prog w) A (Builtin.SmallTypes.ownedTupleIsFree (.ref z)) Q E s:=by
 unfold ZB at hz;unfold Builtin.SmallTypes.ownedTupleIsFree;refine za (jl hz rfl (x:=rawInt T) rfl ?_);show wpAny _ _ (loadIfAlive (T:Int).toNat >>= _) _ _ _
 rw[jw];refine za (VT ?_);rw[ho];simp only[Option.isNone_some,jJ,jq];refine za (jl hz rfl (x:=.bool b) rfl ?_);cases b with
 | true=>
  rw[jc (by decide)];exact zu (hQ _ hz (Heap.SameBut.refl _ _))
 | false=>
  rw[zY (by decide)];refine za (qb hz (by simp) λh' q e=>?_);exact zu (hQ h' q e)
def Jv(S1:StpT i1 a1 P1 C1)(S2:Stp i2 a2 P2 C2)(D:ZApart2 z TI T i1 i2 a1 a2){l1 l2:List Value}(st:ZN z TI TO T i1 i2 P1 P2 k s.heap)(c1:C1 s.heap l1)(c2:C2 s.heap l2)(hx:l1[k]?=some x)(hy:l2[k]?=some y)
  (hQ:∀h' x' tk,ox x x'->ZN z TI TO T i1 i2 P1 P2 (k+1) h'->h'.get? s.heap.objs.size=some { cls:=.type "tuple",data:=.seq #[x',y] }->(∀c o,c∉[z,i1,i2]->s.heap.get? c=some o->h'.get? c=some o)->Q (some (.ref s.heap.objs.size)) { s with heap:=h',toks:=tk }) :
  wpAny (model prog w) A (pyNext (.ref z)) Q E s:=by
 obtain⟨⟨b,hz⟩,⟨o,ho⟩,hTI,p1,p2⟩:=st;have n:=D.nd;simp only[jA,zb,zc,zQ,j8] at n;obtain⟨⟨n1,n2,n3,n4⟩,⟨n5,n6,n7⟩,⟨n8,n9⟩,n10,_⟩:=n;have g1:=D.f1;have g2:=D.f2;simp only[zb,zc,zQ,j8] at g1 g2;have hz':=hz;unfold ZB at hz';have hT:s.TypeIs (.ref z) "zip":=⟨_,hz',rfl⟩;unfold pyNext;refine za (j6 (jn (name:=Str.ofString "__next__") hT qu (jy qu hT wJ ?_ (wC _))));show wpAny _ _ (field (.ref z) 2 >>= _) _ _ _;refine za (jl hz' rfl (x:=.bool false) rfl ?_)
 show wpAny _ _ (field (.ref z) 3 >>= _) _ _ _;refine za (jl hz' rfl (x:=.ref TI) rfl ?_)
 refine za (jL hTI rfl ?_);show wpAny _ _ (Builtin.SmallTypes.ownedTupleIsFree (.ref z) >>= _) _ _ _
 refine za (ZI hz ho λh1 q1 e1=>?_);simp only[jJ,jq];have fa:∀{β:Type} (b0:β) (f:Value->β->Sem (ForInStep β)),forIn #[Value.ref i1,Value.ref i2] b0 f=forIn [Value.ref i1,Value.ref i2] b0 f:=λb0 f=>by rw[<-xM]
 rw[fa];simp only[qX,wG];refine za (za (za (jf ?_)));show wpAny _ _ (Builtin.SmallTypes.nextOf (.ref i1) >>= _) _ _ _
 refine za (S1.item (S1.keep p1 λo e=>e1.extBut _ _ (kY n3) e) (S1.keepC c1 λo e=>e1.extBut _ _ g1.1 e) hx λh2 x' tk tx r1 e2=>zu (zu ?_));refine za (za (jf ?_));show wpAny _ _ (Builtin.SmallTypes.nextOf (.ref i2) >>= _) _ _ _
 refine za (S2.item (S2.keep p2 λo e=>e2.extBut _ _ (kY n10) (e1.extBut _ _ (kY n4) e)) (S2.keepC c2 λo e=>e2.extBut _ _ g2.2.2.1 (e1.extBut _ _ g2.1 e)) hy λh3 r2 e3=>zu (zu (zu ?_)));show wpAny _ _ (newTuple [x',y] >>= _) _ _ _
 refine za (wpAny_newTuple ?_);have sz:h3.objs.size=s.heap.objs.size:=by rw[e3.1,e2.1,e1.1]
 have all:∀c o,c∉[z,i1,i2]->s.heap.get? c=some o->h3.get? c=some o:=λc o hc e=>by
  simp only[zb,zc,zQ,j8] at hc;exact e3.extBut _ _ hc.2.2 (e2.extBut _ _ hc.2.1 (e1.extBut _ _ hc.1 e))
 refine zu ⟨_,rfl,zu ?_⟩;show Q (some (.ref h3.objs.size)) _
 rw[sz];have up:∀c o,h3.get? c=some o->(h3.push { cls:=.type "tuple",data:=.seq #[x',y] }).get? c=some o:=λc o e=>zf _ e
 have tn:(h3.push { cls:=.type "tuple",data:=.seq #[x',y] }).get? h3.objs.size=some _:=zO _ rfl;rw[sz] at tn;refine hQ _ x' _ tx ⟨⟨true,?_⟩,⟨o,up _ _ (all _ _ (by simp only[zb,zc,zQ,j8];exact⟨kY n2,n8,n9⟩) ho)⟩,up _ _ (all _ _ (by simp only[zb,zc,zQ,j8];exact⟨kY n1,n6,n7⟩) hTI),S1.keep r1 λo e=>up _ _ (e3.extBut _ _ n10 e),S2.keep r2 λo e=>up _ _ e⟩ tn λc o hc e=>up _ _ (all c o hc e)
 exact up _ _ (e3.extBut _ _ n4 (e2.extBut _ _ n3 q1))
def Qm(S1:StpT i1 a1 P1 C1)(S2:Stp i2 a2 P2 C2)(D:ZApart2 z TI T i1 i2 a1 a2){l1 l2:List Value}(hh:A.handled=none)(st:ZN z TI TO T i1 i2 P1 P2 k s.heap)(c1:C1 s.heap l1)(c2:C2 s.heap l2)(he:l1[k]?=none\/l2[k]?=none)
  (hQ:∀h' tk,(∀c o,c∉[z,i1,i2]->s.heap.get? c=some o->h'.get? c=some o)->Q none { s with heap:=h',toks:=tk }):wpAny (model prog w) A (pyNext (.ref z)) Q E s:=by
 obtain⟨⟨b,hz⟩,⟨o,ho⟩,hTI,p1,p2⟩:=st;have n:=D.nd;simp only[jA,zb,zc,zQ,j8] at n;obtain⟨⟨n1,n2,n3,n4⟩,⟨n5,n6,n7⟩,⟨n8,n9⟩,n10,_⟩:=n;have g1:=D.f1;have g2:=D.f2;simp only[zb,zc,zQ,j8] at g1 g2;have hz':=hz;unfold ZB at hz';have hT:s.TypeIs (.ref z) "zip":=⟨_,hz',rfl⟩;have stop:∀{h':Heap} {tk:Tok} {e:Addr},(∃o,h'.get? e=some o/\o.cls=.type "StopIteration")->(∀c o,c∉[z,i1,i2]->s.heap.get? c=some o->h'.get? c=some o)->
   wpAny (model prog w) A (isInstance (.ref e) (.type "StopIteration") >>= λx=>if x=true then pure none else throw (.ref e)) Q E { s with heap:=h',toks:=tk }:=λ{h' tk e} ⟨o,ho,hc⟩ kk=>
  za (j4 (T:="StopIteration") (b:=true) ⟨o,ho,hc⟩ xn (zu (hQ _ _ kk)))
 unfold pyNext;refine za (j6 (jn (name:=Str.ofString "__next__") hT qu (jy qu hT wJ ?_ (wC _))));show wpAny _ _ (field (.ref z) 2 >>= _) _ _ _;refine za (jl hz' rfl (x:=.bool false) rfl ?_)
 show wpAny _ _ (field (.ref z) 3 >>= _) _ _ _;refine za (jl hz' rfl (x:=.ref TI) rfl ?_)
 refine za (jL hTI rfl ?_);show wpAny _ _ (Builtin.SmallTypes.ownedTupleIsFree (.ref z) >>= _) _ _ _
 refine za (ZI hz ho λh1 q1 e1=>?_);simp only[jJ,jq];have fa:∀{β:Type} (b0:β) (f:Value->β->Sem (ForInStep β)),forIn #[Value.ref i1,Value.ref i2] b0 f=forIn [Value.ref i1,Value.ref i2] b0 f:=λb0 f=>by rw[<-xM]
 rw[fa];simp only[qX,wG];refine za (za (za (jf ?_)));show wpAny _ _ (Builtin.SmallTypes.nextOf (.ref i1) >>= _) _ _ _
 have p1':=S1.keep (h':=h1) p1 λo e=>e1.extBut _ _ (kY n3) e
 have c1':=S1.keepC (h':=h1) c1 λo e=>e1.extBut _ _ g1.1 e
 cases hx:l1[k]? with
 | none=>
  refine za (S1.last hh p1' c1' hx λh2 e e2 ⟨oe,ge,ce⟩=>?_);refine stop ⟨oe,ge,ce⟩ λc o hc g=>?_
  simp only[zb,zc,zQ,j8] at hc;exact e2 _ _ hc.2.1 (e1.extBut _ _ hc.1 g)
 | some x=>
  have hy:l2[k]?=none:=by rcases he with h | h;rw[hx] at h;cases h;exact h
  refine za (S1.item p1' c1' hx λh2 x' tk tx r1 e2=>zu (zu ?_));refine za (za (jf ?_));show wpAny _ _ (Builtin.SmallTypes.nextOf (.ref i2) >>= _) _ _ _
  refine za (S2.last hh (S2.keep p2 λo e=>e2.extBut _ _ (kY n10) (e1.extBut _ _ (kY n4) e)) (S2.keepC c2 λo e=>e2.extBut _ _ g2.2.2.1 (e1.extBut _ _ g2.1 e)) hy λh3 e e3 ⟨oe,ge,ce⟩=>?_);refine stop ⟨oe,ge,ce⟩ λc o hc g=>?_
  simp only[zb,zc,zQ,j8] at hc;exact e3 _ _ hc.2.2 (e2.extBut _ _ hc.2.1 (e1.extBut _ _ hc.1 g))
end
def rE:entryFor table "zip.__getattribute__" = some Builtin.«object.__getattribute__»:=
 entryFor_alias (id':="object.__getattribute__") (by kernel_rfl) (by first | rfl | decide +kernel) ⋯ (by kernel_rfl)
section
variable{prog:Program}{w:World}{A:Around}{E:Value->Shared->Prop}{h:Heap}{g:Array GenState}{d:Drawn}{t:Nat}{os:OsState}{a:Addr}{vs:Array Value}
set_option maxHeartbeats 1000000 in
def fk(hh:A.handled=none)(hx:h.get? a=some { cls:=.type "zip",dict:=none,data:=.fields vs,slots:=#[] })(hq:Ki h g d os E) :
  wpAny (model prog w) A (Builtin.«object.__getattribute__» ⟨[.ref a,.str "keys" tk],[]⟩) Q E ⟨h,g,d,t,os⟩:=by
 have hT:(⟨h,g,d,t,os⟩:Shared).TypeIs (.ref a) "zip":=⟨_,hx,rfl⟩;have f4:=tU (T:="zip") (.inr (.inr rfl));repeat (any_goals (first | assumption | wp_step))
 refine mB hh ⋯ λh' tk' e k1 k2=>hq h' tk' e k1 k2
def tF(hh:A.handled=none)(hx:h.get? a=some { cls:=.type "zip",dict:=none,data:=.fields vs,slots:=#[] })(hq:Ki h g d os E):wpAny (model prog w) A (getAttrBy (.ref a) (.str "keys" tk) false) Q E ⟨h,g,d,t,os⟩:=by
 have hT:(⟨h,g,d,t,os⟩:Shared).TypeIs (.ref a) "zip":=⟨_,hx,rfl⟩;have f2:=wF.lookup;have f3:=wF.bind (.ref a);unfold getAttrBy;refine jf (za (j7 hT (za (jW f2 ?_))));show wpAny _ _ (getAttrByItsOwn (.ref a) (.str "keys" tk) (.type "zip") (.builtin "zip.__getattribute__") false false) _ _ _
 unfold getAttrByItsOwn;refine za (zu ?_);refine za (j6 ?_);refine jf ?_;show wpAny _ _ (boundAndCalled (.builtin "zip.__getattribute__") (.ref a) (.str "keys" tk)) _ _ _
 unfold boundAndCalled;refine za (jW f3 ?_);refine jy wF hT rE ?_ (F.args_zip_getattribute_2 _ _);refine fk hh hx λh' tk' e k1 k2=>?_
 obtain⟨ob,ho,hc⟩:=k2;have hTe:(⟨h',g,d,tk',os⟩:Shared).TypeIs (.ref e) "AttributeError":=⟨_,ho,hc⟩;show wpAny _ _ (getattributeRaised (.ref a) (.str "keys" tk) (.type "zip") (.ref e) none false false) _ _ _
 unfold getattributeRaised;refine za (j4 hTe bq ?_);simp only[kW];refine za (jW (show hookBehind (.type "zip") none=pure none from Zl (.inr (.inr rfl))) ?_);show wpAny _ _ (attributeErrorLeaves (.ref a) (.str "keys" tk) (.ref e) false false) _ _ _
 unfold attributeErrorLeaves;simp only[Bool.not_false,kW];exact wD (hq h' tk' e k1 ⟨ob,ho,hc⟩)
def tG(hh:A.handled=none)(hx:h.get? a=some { cls:=.type "zip",dict:=none,data:=.fields vs,slots:=#[] })(hq:∀h' tk',(∀b ob,h.get? b=some ob->h'.get? b=some ob)->Q none ⟨h',g,d,tk',os⟩):wpAny (model prog w) A (getAttr? (.ref a) "keys") Q E ⟨h,g,d,t,os⟩:=by
 unfold getAttr? getAttrBy?;refine za (wpAny_mkText ?_);refine za (j6 (tF hh hx λh' tk' e k1 k2=>?_));obtain⟨ob,ho,hc⟩:=k2;refine za (j4 (T:="AttributeError") (b:=true) ⟨ob,ho,hc⟩ bq ?_);exact zu (hq h' tk' k1)
end
section
variable{prog:Program}{w:World}{A:Around}{E:Value->Shared->Prop}{s:Shared}{z TI TO i1 i2 a1 a2 D:Addr}{P1 P2:Nat->Heap->Prop}{C1 C2:Heap->List Value->Prop}
noncomputable def Zan(D z TI TO i1 i2 a1 a2:Addr)(P1 P2:Nat->Heap->Prop)(i:Nat)(h:Heap):Prop:=(i=0/\rY z TI TO i1 i2 P1 P2 .none 0 0 h)\/∃T,ZApart2 z TI T i1 i2 a1 a2/\T≠D/\ZN z TI TO T i1 i2 P1 P2 i h
def Zan.frame(S1:StpT i1 a1 P1 C1)(S2:Stp i2 a2 P2 C2){i:Nat}{h h':Heap}(hD:D∉[z,TI,TO,i1,i2])(q:Zan D z TI TO i1 i2 a1 a2 P1 P2 i h)(k:∀b o,b≠D->h.get? b=some o->h'.get? b=some o):Zan D z TI TO i1 i2 a1 a2 P1 P2 i h':=by
 simp only[zb,zc,zQ,j8] at hD;obtain⟨d1,d2,d3,d4,d5⟩:=hD;rcases q with ⟨rfl,r1,r2,⟨a,b,r3⟩,r4,r5⟩ | ⟨T,ap,nT,⟨b,r1⟩,⟨o,r2⟩,r3,r4,r5⟩
 .exact .inl ⟨rfl,k _ _ (kY d1) r1,k _ _ (kY d2) r2,⟨a,b,k _ _ (kY d3) r3⟩,S1.keep r4 λo e=>k _ _ (kY d4) e,S2.keep r5 λo e=>k _ _ (kY d5) e⟩
 .exact .inr ⟨T,ap,nT,⟨b,k _ _ (kY d1) r1⟩,⟨o,k _ _ nT r2⟩,k _ _ (kY d2) r3,S1.keep r4 λo e=>k _ _ (kY d4) e,S2.keep r5 λo e=>k _ _ (kY d5) e⟩
def Ws(S1:StpT i1 a1 P1 C1)(S2:Stp i2 a2 P2 C2)(ap:ZApart z TI TO i1 i2 a1 a2){i:Nat}{l1 l2:List Value}(hD:D<s.heap.objs.size)(st:Zan D z TI TO i1 i2 a1 a2 P1 P2 i s.heap)(c1:C1 s.heap l1)(c2:C2 s.heap l2)(hx:l1[i]?=some x)(hy:l2[i]?=some y)
  (hQ:∀h' x' tk,ox x x'->Zan D z TI TO i1 i2 a1 a2 P1 P2 (i+1) h'->h'.get? s.heap.objs.size=some { cls:=.type "tuple",data:=.seq #[x',y] }->(∀c o,c∉[z,TI,TO,i1,i2]->s.heap.get? c=some o->h'.get? c=some o)->Q (some (.ref s.heap.objs.size)) { s with heap:=h',toks:=tk }) :
  wpAny (model prog w) A (pyNext (.ref z)) Q E s:=by
 rcases st with ⟨rfl,st⟩ | ⟨T,ap2,nT,st⟩
 .have lz:=zF st.1
  have lTI:=zF st.2.1;have l1':i1<s.heap.objs.size:=by obtain⟨o,e,_⟩:=S1.obj st.2.2.2.1;exact zF e
  have l2':i2<s.heap.objs.size:=by obtain⟨o,e,_⟩:=S2.obj st.2.2.2.2;exact zF e
  have nd:=ap.nd;simp only[jA,zb,zc,zQ,j8] at nd;have f1:=ap.f1;have f2:=ap.f2;simp only[zb,zc,zQ,j8] at f1 f2;refine rV S1 S2 ap st c1 c2 hx hy λh' x' tk tx q1 q2 q3=>hQ h' x' tk tx (.inr ⟨s.heap.objs.size,⟨?_,?_,?_⟩,ql hD,⟨false,q1.1⟩,⟨_,q2⟩,q1.2.1,q1.2.2.2.1,q1.2.2.2.2⟩) q2 q3
  .simp only[jA,zb,zc,zQ,j8]
   exact⟨⟨nd.1.1,zX lz,nd.1.2.2.1,nd.1.2.2.2⟩,⟨zX lTI,nd.2.1.2.1,nd.2.1.2.2⟩,⟨ql l1',ql l2'⟩,nd.2.2.2.1,not_false,vO⟩
  .simp only[zb,zc,zQ,j8]
   exact⟨f1.1,f1.2.1,f1.2.2.2.1,f1.2.2.2.2⟩
  .simp only[zb,zc,zQ,j8]
   exact⟨f2.1,f2.2.1,f2.2.2.2.1,f2.2.2.2.2⟩
 .refine Jv S1 S2 ap2 st c1 c2 hx hy λh' x' tk tx q1 q2 q3=>hQ h' x' tk tx (.inr ⟨T,ap2,nT,q1⟩) q2 λc o hc e=>q3 c o (λm=>hc ?_) e
  simp only[zb,zc,zQ] at m ⊢;rcases m with m | m | m
  .exact .inl m
  .exact .inr (.inr (.inr (.inl m)))
  .exact .inr (.inr (.inr (.inr m)))
def QV(S1:StpT i1 a1 P1 C1)(S2:Stp i2 a2 P2 C2)(ap:ZApart z TI TO i1 i2 a1 a2){i:Nat}{l1 l2:List Value}(hh:A.handled=none)(st:Zan D z TI TO i1 i2 a1 a2 P1 P2 i s.heap)(c1:C1 s.heap l1)(c2:C2 s.heap l2)(he:l1[i]?=none\/l2[i]?=none)
  (hQ:∀h' tk,(∀c o,c∉[z,TI,TO,i1,i2]->s.heap.get? c=some o->h'.get? c=some o)->Q none { s with heap:=h',toks:=tk }):wpAny (model prog w) A (pyNext (.ref z)) Q E s:=by
 rcases st with ⟨rfl,st⟩ | ⟨T,ap2,nT,st⟩
 .exact pW S1 S2 ap hh st c1 c2 he hQ
 .refine Qm S1 S2 ap2 hh st c1 c2 he λh' tk q=>hQ h' tk λc o hc e=>q c o (λm=>hc ?_) e
  simp only[zb,zc,zQ] at m ⊢;rcases m with m | m | m
  .exact .inl m
  .exact .inr (.inr (.inr (.inl m)))
  .exact .inr (.inr (.inr (.inr m)))
end
section
variable{prog:Program}{w:World}{A:Around}{R:Result->Shared->Prop}{z TI TO i1 i2 a1 a2 D:Addr}{P1 P2:Nat->Heap->Prop}{C1 C2:Heap->List Value->Prop}{h0:Heap}{l1 l2:List Value}{kvs:List (Key×Value)}
def Vk(knd:KeyKind prog w Key)(hh:A.in1.handled=none)(S1:StpT i1 a1 P1 C1)(S2:Stp i2 a2 P2 C2)(ap:ZApart z TI TO i1 i2 a1 a2)(hDf:D∉[z,TI,TO,i1,i2])(hD0:h0.get? D=none)(hw0:∀b∈[z,TI,TO,i1,i2],h0.get? b=none)(c1:C1 h0 l1)(c2:C2 h0 l2)
  (hp:∀i,(hi:i<kvs.length)->∃x,l1[i]?=some x/\(∀x',ox x x'->knd.is kvs[i].1 x'=true)/\l2[i]?=some kvs[i].2) (he:l1[kvs.length]?=none\/l2[kvs.length]?=none) (hz:kvs.length<=1000) :
  ∀(k i:Nat) (tk:Tok) (s:Shared),kvs.length-i=k->i<=kvs.length->Zan D z TI TO i1 i2 a1 a2 P1 P2 i s.heap->s.heap.DictOf knd D (merged [] (kvs.take i))->(∀b o,h0.get? b=some o->s.heap.get? b=some o)->
   (∀h' tk',h'.DictOf knd D (merged [] kvs)->(∀b o,h0.get? b=some o->h'.get? b=some o)->R (.ok (.ret .none)) { s with heap:=h',toks:=tk' })->
   codeAny (model prog w) A (.builtin "dict.update.loop" ⟨[.ref D,.ref z,.int i tk,.none],[]⟩) R s:=by
 intro k;induction k with
 | zero=>
  intro i tk s hk hi hst hd h0k hR;obtain rfl:i=kvs.length:=by omega
  refine vV cv ?_;rw[qW xp _];show wpAny _ A.in1 (pyNext (.ref z) >>= _) _ _ s
  refine za (QV S1 S2 ap hh hst (S1.keepC c1 λo e=>h0k _ _ e) (S2.keepC c2 λo e=>h0k _ _ e) he λh' tk' kk=>?_);show wpAny _ A.in1 (Builtin.Dict.addKeywords D [] >>= _) _ _ _
  refine za (zu (zu (hR h' tk' ?_ λb o e=>kk b o (λz=>by rw[hw0 b z] at e;cases e) (h0k b o e))));rw[yg] at hd;obtain⟨o,es,ep,ho,rest⟩:=hd;exact⟨o,es,ep,kk D o hDf ho,rest⟩
 | succ k ih=>
  intro i tk s hk hi hst hd h0k hR;have hlt:i<kvs.length:=by omega
  obtain⟨x,hx,hk1,hy⟩:=hp i hlt;have hDs:D<s.heap.objs.size:=by obtain⟨o,es,ep,ho,rest⟩:=hd;exact zF ho
  refine vV cv ?_;rw[qW xp _];show wpAny _ A.in1 (pyNext (.ref z) >>= _) _ _ s
  refine za (Ws S1 S2 ap hDs hst (S1.keepC c1 λo e=>h0k _ _ e) (S2.keepC c2 λo e=>h0k _ _ e) hx hy λh' key tk' tx hst' hT kk=>?_);replace hk1:=hk1 key tx
  have keep:∀b o,h0.get? b=some o->h'.get? b=some o:=λb o e=>kk b o (λz=>by rw[hw0 b z] at e;cases e) (h0k b o e)
  have hT':IsTup h' s.heap.objs.size #[key,kvs[i].2]:=⟨_,hT,rfl,_,rfl⟩;have hd':h'.DictOf knd D (merged [] (kvs.take i)):=by obtain⟨o,es,ep,ho,rest⟩:=hd;exact⟨o,es,ep,kk D o hDf ho,rest⟩
  show wpAny _ A.in1 (holding [Value.ref s.heap.objs.size] _ >>= _) _ _ _
  refine za (jf (za (wpAny_tryCatch ?_)));unfold Builtin.Dict.pairItems;refine za (j7 hT'.typeIs ?_);rw[zY (by decide)];refine za (jL hT rfl (zu ?_));show wpAny _ _ (holding [key,kvs[i].2] (dictSet D key kvs[i].2)) _ _ _
  refine jf ?_;unfold dictSet;try with_reducible refine jf ?_
  refine za (knd.pyHash hk1 ?_);refine xj (s:={ s with heap:=h',toks:=tk'+1 }) hk1 hd' (λh2 hd2 sb=>?_) (by have:=merged_length_le ([]:List (Key×Value)) (kvs.take i);rw[qQ] at this;simp at this;exact zT (zT this ∅) (show 1000<=sizeLine by decide));refine zu ⟨q9 xp _,ih (i+1) _ _ ∅ hlt (hst'.frame S1 S2 hDf λb o hb e=>?_) ?_ (λb o e=>?_) λh3 tk3 hd3 k3=>?_⟩
  .rw[sb.2 b hb];exact e
  .rw[merged_take_succ [] kvs i kvs[i] (zE hlt)];exact hd2
  .rw[sb.2 b (λz:b=D=>by rw[z,hD0] at e;cases e)];exact keep b o e
  .exact hR h3 tk3 hd3 k3
end
section
variable{prog:Program}{w:World}{A:Around}{E:Value->Shared->Prop}{s:Shared}{z TI TO i1 i2 a1 a2:Addr}{P1 P2:Nat->Heap->Prop}{C1 C2:Heap->List Value->Prop}{h0:Heap}{l1 l2:List Value}{kvs:List (Key×Value)}
def oB(knd:KeyKind prog w Key)(hh:A.handled=none)(S1:StpT i1 a1 P1 C1)(S2:Stp i2 a2 P2 C2)(ap:ZApart z TI TO i1 i2 a1 a2)(st:rY z TI TO i1 i2 P1 P2 .none 0 0 s.heap)(k0:∀b o,h0.get? b=some o->s.heap.get? b=some o)(hw0:∀b∈[z,TI,TO,i1,i2],h0.get? b=none)(c1:C1 h0 l1)(c2:C2 h0 l2)
  (hp:∀i,(hi:i<kvs.length)->∃x,l1[i]?=some x/\(∀x',ox x x'->knd.is kvs[i].1 x'=true)/\l2[i]?=some kvs[i].2) (he:l1[kvs.length]?=none\/l2[kvs.length]?=none) (hz:kvs.length<=1000) 
  (h:∀h' tk',h'.DictOf knd s.heap.objs.size (merged [] kvs)->(∀b o,h0.get? b=some o->h'.get? b=some o)->Q (.ref s.heap.objs.size) { s with heap:=h',toks:=tk' }):wpAny (model prog w) A (call (.type "dict") [.ref z]) Q E s:=by
 refine yf (Q₁:=λobj s₁=>obj=.ref s.heap.objs.size/\s₁={ s with heap:=s.heap.push { cls:=.type "dict",data:=.dict #[] } }) F.kt_called_dict (F.kt_typeCall_dict_1 _) F.entry_dict_init (kt_code_dict_new _ ⟨rfl,rfl⟩) ?_;rintro obj s₁ ⟨rfl,rfl⟩;have hnew:(s.heap.push { cls:=.type "dict",data:=.dict #[] }).DictOf knd s.heap.objs.size []:=yW s.heap;refine⟨hnew.typeIs,F.args_dict_init_2 _ _,?_⟩;unfold Builtin.«dict.__init__»;refine za ?_;unfold Builtin.Dict.selfAndRest;refine za (wpAny_notOrdered_dict hnew.typeIs ?_);show wpAny _ _ (pure (s.heap.objs.size,[Value.ref z])) _ _ _
 refine zu ?_;show wpAny _ _ (Builtin.Dict.updateFrom "dict.__init__" s.heap.objs.size (.ref z) [] .none) _ _ _
 unfold Builtin.Dict.updateFrom;have hl1:(s.heap.push { cls:=.type "dict",data:=.dict #[] }).get? z=some _:=zf _ st.1;refine za (j7 (T:="zip") ⟨_,hl1,rfl⟩ ?_);rw[zY (by decide)];have hh2:A.in1.in1.handled=none:=by simpa using hh
 refine za (tG hh2 hl1 λh1 tk1 k1=>?_);simp only[xG,kW];have kk:∀b o,s.heap.get? b=some o->h1.get? b=some o:=λb o e=>k1 b o (zf _ e)
 have st1:rY z TI TO i1 i2 P1 P2 .none 0 0 h1:=by
  obtain⟨r1,r2,⟨a,b,r3⟩,r4,r5⟩:=st;exact⟨kk _ _ r1,kk _ _ r2,⟨a,b,kk _ _ r3⟩,S1.keep r4 λo e=>kk _ _ e,S2.keep r5 λo e=>kk _ _ e⟩
 refine za (qD ?_);refine za (yI st1.1 ?_);have hd1:h1.DictOf knd s.heap.objs.size []:=by obtain⟨o,es,ep,ho,rest⟩:=hnew;exact⟨o,es,ep,k1 _ _ ho,rest⟩
 have lt:∀b∈[z,TI,TO,i1,i2],b<s.heap.objs.size:=λb hb=>by
  simp only[zb,zc,zQ] at hb;obtain⟨r1,r2,⟨a,c,r3⟩,r4,r5⟩:=st;rcases hb with rfl | rfl | rfl | rfl | rfl
  .exact zF r1
  .exact zF r2
  .exact zF r3
  .obtain⟨o,e,_⟩:=S1.obj r4;exact zF e
  .obtain⟨o,e,_⟩:=S2.obj r5;exact zF e
 have hD0:h0.get? s.heap.objs.size=none:=by
  cases q:h0.get? s.heap.objs.size with
  | none=>rfl
  | some o=>exact absurd (zF (k0 _ _ q)) (jE _)
 refine zu ⟨q9 xp _,Vk (h0:=h0) knd (by simpa using hh) S1 S2 ap (λm=>jE _ (lt _ m)) hD0 hw0 c1 c2 hp he hz kvs.length 0 _ _ rfl (qy _) (.inl ⟨rfl,st1⟩) hd1 (λb o e=>kk b o (k0 b o e)) λh' tk' hd' k'=>?_⟩;exact⟨rfl,h h' tk' hd' k'⟩
end
noncomputable def iB(h:MH):W->Option (List W)
 | .str z=>if z.cps.all (· < 128)=true then some (signs z) else none
 | w=>uE h w
noncomputable def g8(ws:List W):M W:=λh=>match ws with
 | [x,y]=>match iB h x,uE h y with
  | some l,some l'=>match keysOf (l.zip l') with
   | some ks=>if ks.length<=1000 then some (.ref h.length,h++[.dic (qB [] ks)]) else none
   | none=>none
  | _,_=>none
 | _=>none
noncomputable def aI(ms:List ME):ME:=zh g8 ms
section
variable{X:Cx}{cl:Cl}{e1 e2:Expr}{ms:List ME}{p p2 p3 pos:Pos}
theorem Jj{K:PySem.W.Frag}{μ:List Addr}{H:Hp}:∀{l l':List W} {vs vs':List V} {ks:List (Key×W)},RWs K μ H l vs->RWs K μ H l' vs'->keysOf (l.zip l')=some ks->
  ∃ks':List (Key×V),PR K μ H ks ks'/\vs.zip vs'=ks'.map λkv=>(kV kv.1,kv.2)
 | [],_,_,_,_,.nil,_,e=>by cases e;exact⟨[],.nil,rfl⟩
 | _::_,[],_,_,_,.cons _ _,.nil,e=>by cases e;exact⟨[],.nil,rfl⟩
 | x::l,y::l',_,_,ks,.cons r t,.cons r' t',e=>by
  rw[jO] at e;unfold keysOf at e;split at e
  .rename_i k lk e4 e5
   cases e;obtain⟨ks',pr,ez⟩:=Jj t t' e5;have:=u0 r e4;subst this;exact⟨(k,_)::ks',.cons r' pr,by rw[jO,ez];rfl⟩
  .cases e
end
def KZ{h:Heap}(c:Za tp a h l):a<h.objs.size:=by
 unfold Za at c;split at c
 .obtain⟨o,e,_⟩:=c;exact zF e
 .obtain⟨o,e,_⟩:=c;exact zF e
theorem JJ:∀{xs ys:List V} {l1 l2:List Value} {ks':List (Key×V)},Vals xs l1->Vals ys l2->xs.zip ys=ks'.map (λkv=>(kV kv.1,kv.2))->
  ∃kvs:List (Key×Value),KV ks' kvs/\(∀i,(hi:i<kvs.length)->∃x,l1[i]?=some x/\(∀x',ox x x'->(qA P w).is kvs[i].1 x'=true)/\l2[i]?=some kvs[i].2)/\(l1[kvs.length]?=none\/l2[kvs.length]?=none)
 | _,_,_,_,[],.nil,_,_=>⟨[],.nil,λi hi=>by simp at hi,.inl rfl⟩
 | _,_,_,_,[],.cons _ _,.nil,_=>⟨[],.nil,λi hi=>by simp at hi,.inr rfl⟩
 | _,_,_,_,[],.cons _ _,.cons _ _,e=>by simp at e
 | _,_,_,_,_::_,.nil,_,e=>by simp at e
 | _,_,_,_,_::_,.cons _ _,.nil,e=>by simp at e
 | _,_,_,_,(k,v)::ks',.cons (b:=u1) r t,.cons (b:=u2) r' t',e=>by
  rw[jO,zq] at e;injection e with e0 e1;injection e0 with e2 e3;subst e2 e3;obtain⟨kvs,q1,q2,q3⟩:=JJ (P:=P) (w:=w) t t' e1;refine⟨(k,u2)::kvs,.cons ⟨rfl,r'⟩ q1,λi hi=>?_,by simpa using q3⟩;cases i with
  | zero=>exact⟨u1,rfl,λx' tx=>il (tR r tx),rfl⟩
  | succ i=>
   obtain⟨x,a,b,c⟩:=q2 i (by simpa using hi);exact⟨x,by simpa using a,b,by simpa using c⟩
structure Fst(u:Value)(h:Heap)(xs:List V)(o:Obj)(a:Addr)(l:List Value)(P:Addr->Nat->Heap->Prop)(C:Heap->List Value->Prop):Prop where
 v:Vals xs l
 r:nN u o (λh=>C h l)
 f:o.isFreed=false
 s:∀i,StpT i a (P i) C
 n:∀i h,h.get? i=some o->P i 0 h
 c:C h l
 lt:a<h.objs.size
def Vi(z:Str)(t:Tok)(it a:Addr):StpT it a (λi h=>h.IsStrIter it "str_ascii_iterator" z t i) (λ_ l=>l=z.cps.toList.map λc=>Value.str ⟨#[c]⟩ 0) where
 keep:=λ⟨o,e,r⟩ k=>⟨o,k o e,r⟩
 keepC:=λc _=>c
 obj:=λ⟨o,e,_,d⟩=>⟨o,e,λv z=>by rw[d] at z;cases z⟩
 item:=λp c e q=>by
  subst c;rw[jb,zj] at e;obtain⟨c,e,rfl⟩:=e;exact wpAny_nextOf_ascii_item p (by rw[<-vf];exact e) λh' r sb=>q h' _ _ (.inr ⟨_,_,_,rfl,rfl⟩) r sb
 last:=λhh p c e q=>by
  subst c;rw[jb,Option.map_eq_none_iff] at e;exact wpAny_nextOf_ascii_end hh p (by rw[<-vf];exact e) q
def BM{X:Cx}{cl:Cl}{H:Hp}{s:Shared}(I:Inv X pins σ H s)(rx:RW X.K μ H x v)(ru:RelV v u)(e:iB h x=some l) :
  ∃xs o a l1 P C,RWs X.K μ H l xs/\Fst u s.heap xs o a l1 P C:=by
 have seq:uE h x=some l->∃xs o a l1 P C,RWs X.K μ H l xs/\Fst u s.heap xs o a l1 P C:=λe=>by
  obtain⟨t1,a1,xs,rfl,ra1,d1,f1⟩:=fz (cl:=cl) rx e;cases ru;obtain⟨l1,v1,c1⟩:=uz I d1;exact⟨xs,W7 t1 a1,a1,l1,λi=>Qc t1 i a1,Za t1 a1,ra1,v1,oQ t1 a1 l1,fN t1 a1,λi=>(xk t1 i a1).t,λi h q=>io q,c1,KZ c1⟩
 cases x with
 | str z=>
  by_cases ha:z.cps.all (· < 128)=true
  .have e:some (signs z)=some l:=(zY ha).symm.trans e
   cases e;cases rx.str_of;obtain⟨t,rfl⟩:=ru;refine⟨z.cps.toList.map λc=>V.str ⟨#[c]⟩,_,sysModules,_,_,_,?_,?_,λ_ _ _ _ _ _ _ q=>wpAny_pyIter_ascii ha q,rfl,λi=>Vi z t i sysModules,λi h q=>⟨_,q,rfl,rfl⟩,rfl,I.big⟩
   .unfold signs
    generalize z.cps.toList=cs;induction cs with
    | nil=>exact .nil
    | cons c r ih=>exact .cons (.str _) ih
   .generalize z.cps.toList=cs
    induction cs with
    | nil=>exact .nil
    | cons c r ih=>exact .cons ⟨_,rfl⟩ ih
  .have e:none=some l:=(jc ha).symm.trans e
   cases e
 | _=>exact seq e
section
variable{X:Cx}{cl:Cl}{e1 e2:Expr}{ms:List ME}{p p2 p3 pos:Pos}
def Xq(hc:X.calm=true)(hm:X.mg "dict" = none)(hs:X.mg "zip" = none)(ha:SA X cl [e1,e2] ms)(hg:Gl X "dict")(hg2:Gl X "zip")
  (hst:starEach [e1,e2] X.env=(false,eval e1 X.env)::starEach [e2] X.env) (hpl:(backTo p3 (starEach [e2] X.env)).any (·.1)=false)
  (he2:starEach [.Call (.Name "zip" p2) [e1,e2] [] p3] X.env=(false,eval (.Call (.Name "zip" p2) [e1,e2] [] p3) X.env)::starEach [] X.env) (hpl2:(backTo pos (starEach [] X.env)).any (·.1)=false) :
  SE X cl (.Call (.Name "dict" p) [.Call (.Name "zip" p2) [e1,e2] [] p3] [] pos) (aI ms):=by
 rintro pins s σ H Q I ⟨μ,h,ρ,w,h',R,er,e,k⟩;obtain⟨ws,h1,e1',e⟩:=ka e;have hv:bootBuiltins "zip" = some (.type "zip"):=by decide +kernel
 have hv2:bootBuiltins "dict" = some (.type "dict"):=by decide +kernel
 refine jz (ug I hg hm hv2 ?_ (by decide) (by decide));refine jo ?_ he2 hpl2;rw[he2];show wpAny _ _ (spliced ((false,eval (.Call (.Name "zip" p2) [e1,e2] [] p3) X.env)::backTo pos (starEach [] X.env))) _ _ s
 have h0:∀{q:Pos},backTo q (starEach [] X.env)=[]:=λ{q}=>rfl
 rw[h0];refine qI ?_;refine jz (ug I hg2 hs hv ?_ (by decide) (by decide));refine jo (kC (ha p3 pins s σ H (λvs H1=>∃μ1,Ext μ H μ1 H1/\HR X.K cl μ1 H1 h1/\RWs X.K μ1 H1 ws vs) I ⟨μ,h,ρ,ws,h1,R,er,e1',λμ1 H1 vs E1 R1 rs=>⟨μ1,E1,R1,rs⟩⟩) λus s1 ⟨vs,H1,I1,r1,μ1,E1,R1,rs⟩=>?_) hst hpl;unfold g8 at e;split at e
 .rename_i x y
  split at e
  .rename_i l l' q1 q2
   split at e
   .rename_i ks ek
    split at e
    .rename_i hlen
     cases e;cases rs with | cons rx t=>cases t with | cons ry t=>cases t with | nil=>
     obtain⟨t2,a2,ys,rfl,ra2,d2,f2⟩:=fz (cl:=cl) ry q2;obtain⟨u1,u2,rfl,ru1,ru2⟩:=vals2 r1;cases ru2;obtain⟨xs,o1,a1,l1,P1,C1,ra1,F1⟩:=BM (cl:=cl) I1 rx ru1 q1;have v1:=F1.v;have c1:=F1.c;obtain⟨l2,v2,c2⟩:=uz I1 d2;obtain⟨ks',pr,ez⟩:=Jj ra1 ra2 ek;obtain⟨kvs,kv,hp,he⟩:=JJ (P:=X.prog) (w:=X.w) v1 v2 ez;have n1:=F1.lt;have n2:=KZ c2;refine pe F1.r (oQ t2 a2 l2) c1 ((xk t2 0 a2).keepC c2 λo e=>zf _ e) F1.f (fN t2 a2) λh2 b5 b3 b4 b1 b2 kp=>?_
     have nd:[s1.heap.objs.size+4,s1.heap.objs.size+2,s1.heap.objs.size+3,s1.heap.objs.size,s1.heap.objs.size+1].Nodup:=by
      simp only[jA,zb,zc,zQ,j8,vO,and_true,not_false_eq_true];omega
     have ge:∀b∈[s1.heap.objs.size+4,s1.heap.objs.size+2,s1.heap.objs.size+3,s1.heap.objs.size,s1.heap.objs.size+1],s1.heap.objs.size<=b:=λb hb=>by
      simp only[zb,zc,zQ] at hb;rcases hb with rfl | rfl | rfl | rfl | rfl<;>omega
     have hkl:ks'.length=kvs.length:=kv.length;refine vA (oB (s:={ s1 with heap:=h2 }) (h0:=s1.heap) (qA X.prog X.w) (I1.ok.hd hc) (F1.s _) (xk t2 _ a2) ⟨nd,λm=>jE _ (zN n1 (ge _ m)),λm=>jE _ (zN n2 (ge _ m))⟩ ⟨b5,b3,⟨_,_,b4⟩,F1.n _ _ b1,io b2⟩ kp (λb hb=>vN (ge b hb)) c1 c2 hp he (by rw[<-hkl,<-pr.len];exact hlen) λh3 tk dd kp3=>?_);have rel:KV (x9 [] ks') (merged [] kvs):=kv.merge .nil;have hz:(x9 [] ks').length<=sizeLine:=by
      have h1:=af ks' [];rw[zV] at h1;rw[vp];have:=pr.len;omega
     have le:s1.heap.objs.size<=h2.objs.size:=zT (Nat.le_add_right _ 4) (wA (zF b5));have big:h2.objs.size≠sysModules:=kY (zX (zN I1.big le));exact⟨.ref _,_,I1.laid (a:=h2.objs.size) (o:=.dK (x9 [] ks')) (t':=tk) kp3 le (lS hz (jr.mpr big) rel dd),rfl,KQ.dic (k.ext E1) R1 (pr.merge .nil) (I1.hok.fresh le)⟩
    .cases e
   .cases e
  .cases e
 .cases e
end
noncomputable def noStar:Expr->Bool
 | .Starred ..=>false
 | _=>true
noncomputable def gU:Expr->Bool
 | .ListComp ..=>false
 | .SetComp ..=>false
 | .DictComp ..=>false
 | _=>true
noncomputable def oO:Expr->Bool
 | .Set ..=>false
 | _=>true
noncomputable def WH:Expr->Bool
 | .Tuple ..=>false
 | _=>true
noncomputable def be:Expr->Bool
 | .Slice ..=>false
 | _=>true
noncomputable def plainT:Expr->Bool
 | .UnaryOp ..=>false
 | .BoolOp ..=>false
 | .IfExp ..=>false
 | .Compare ..=>false
 | _=>true
noncomputable def pC:Expr->Bool
 | .Call ..=>false
 | _=>true
section
variable{e tg o:Expr}{es:List Expr}{env:Env}{pos:Pos}
def kM(h:noStar e=true):starEach (e::es) env=(false,eval e env)::starEach es env:=by
 cases e<;>first | (cases h;done) | kernel_rfl
theorem fF:starEach [] env=[]:=by kernel_rfl
theorem de(h:noStar e=true):backTo pos (starEach (e::es) env)=(false,eval e env)::backTo pos (starEach es env):=by
 rw[kM h];rfl
theorem j2:∀{es:List Expr},es.all noStar=true->(backTo pos (starEach es env)).any (·.1)=false
 | [],_=>by rw[fF];rfl
 | e::es,h=>by
  rw[ju,zx] at h;rw[de h.1,v8,j2 h.2];rfl
theorem pY:∀{es:List Expr},es.all noStar=true->(backTo pos (starEach es env)).all (λx=>!x.1)=true
 | [],_=>by rw[fF];rfl
 | e::es,h=>by
  rw[ju,zx] at h;rw[de h.1,ju,pY h.2];rfl
def ij(h:es.all noStar=true)(hl:decide (es.length<30)=true):((backTo pos (starEach es env)).all (λx=>!x.1)&&(backToKw pos (keywordEach [] env)).all (λx=>x.1.isSome)
   && decide (es.length+([]:List Keyword).length+(if ([]:List Keyword).isEmpty then 0 else 1)<30))=true:=by
 rw[pY h];have:(keywordEach [] env)=[]:=by kernel_rfl
 rw[this];simpa[backToKw] using hl
theorem fT{t:Option Expr}(h:gU e=true):swapsWith e t l env=pure false:=by
 cases e<;>first | (cases h;done) | rfl
theorem Ky(h:WH e=true):swappedStores [.Tuple ts n p] e env=pure none:=by
 cases e<;>first | (cases h;done) | rfl
def ue(h:noStar e=true):assignEach (e::es) env=(false,assign e env)::assignEach es env:=by
 cases e<;>first | (cases h;done) | kernel_rfl
theorem aS:assignEach [] env=[]:=by kernel_rfl
theorem mf:∀{es:List Expr},es.all noStar=true->(assignEach es env).length=es.length
 | [],_=>by rw[aS];rfl
 | e::es,h=>by
  rw[ju,zx] at h;rw[ue h.1,zm,mf h.2];rfl
theorem iP:∀{es:List Expr},es.all noStar=true->(assignEach es env).findIdx? (·.1)=none
 | [],_=>by rw[aS];rfl
 | e::es,h=>by
  rw[ju,zx] at h;rw[ue h.1,List.findIdx?_cons,iP h.2];rfl
theorem u6(h:oO e=true):∀x,foldedSetIterable e env x=pure x:=by
 intro x;cases e<;>first | (cases h;done) | rfl
theorem uJ(h:pC o=true):attributeBase o a env whole=whole:=by
 cases o<;>first | (cases h;done) | rfl
def QT(h:plainT e=true):∀whole,isTrue e env whole=(do let v <-whole;standAt e.pos;holding [v] (truthy v)):=by
 intro whole;cases e<;>first | (cases h;done) | kernel_rfl
theorem oN(h:be e=true):uI e:=by
 intro o i;cases e<;>first | (cases h;done) | rfl
end
structure RC where
 sc:Scope
 N:List Str
 inC:Bool
 fns:List (Str×(List W->M W))
 con:List (Str×W)
 tab:List (Str×List (Str×W))
 bin:List Str
 own:List Str
 txt:List Str
 cmp:List ((Nat×Nat)×List Str)
 dic:List Str
 fld:List (Nat×List Str)
 mt:mI
 mks:List (Str×(Nat×(List W->M W)))
 mka:List (Nat×Nat)
 way:List (Str×List (Str×(List W->M W)))
noncomputable def FnAt(P:Program)(w:World)(K:PySem.W.Frag)(mg:Str->Option Value)(base:Heap)(cl:Cl)(k:Nat)(x:Str)(g:List W->M W):Prop:=
 ∃f fd ps,FnOk P w K mg base x8 k f fd ps (xh K cl g)/\mg x=some (.ref f)/\PySem.W.keepIn K (.ref f)=true/\Binds K fd ps []
noncomputable def AllOf{α:Type}(P:Str->α->Prop):List (Str×α)->Prop
 | []=>True
 | (x,g)::r=>P x g/\AllOf P r
theorem AllOf.at{α:Type}{P:Str->α->Prop}{x:Str}{g:α}:∀{l:List (Str×α)},AllOf P l->l.lookup x=some g->P x g
 | [],_,e=>by cases e
 | (y,g')::r,h,e=>by
  rw[kI] at e;cases q:x==y with
  | true=>rw[q] at e;cases e;rw[eq_of_beq q];exact h.1
  | false=>rw[q] at e;exact AllOf.at h.2 e
noncomputable def AllNone(mg:Str->Option Value):List Str->Prop
 | []=>True
 | x::r=>mg x=none/\AllNone mg r
theorem AllNone.at:∀{l:List Str},AllNone mg l->x∈l->mg x=none
 | y::r,h,e=>by
  rcases zb.mp e with rfl | e
  .exact h.1
  .exact AllNone.at h.2 e
structure BaseOk(P:Program)(w:World)(K:PySem.W.Frag)(mg:Str->Option Value)(base:Heap)(cl:Cl)(k:Nat)(Γ:RC):Prop where
 fns:AllOf (FnAt P w K mg base cl k) Γ.fns
 con:AllOf (Glob K mg) Γ.con
 tab:AllOf (TabOk K w.params mg) Γ.tab
 bin:AllNone mg Γ.bin
 pw:cl.P=P/\cl.w=w
 cls:cq K cl Γ.fld
 mts:∀c m g,Γ.mt.lookup (c,m)=some g->mM P w K mg base cl k c m g
 mks:AllOf (λx p=>Cp P w K mg base cl k x p.1 p.2) Γ.mks
 way:AllOf (KI P w K mg base cl k) Γ.way
structure Fits(Γ:RC)(cl:Cl)(k:Nat)(X:Cx):Prop where
 sc:X.env.scope=Γ.sc
 N:X.N=Γ.N
 nd:X.N.Nodup
 fn:Γ.inC=false->∀x,X.fn x=true
 kind:Γ.sc.kind=.function
 calm:X.calm=true
 pass:PassesOwn (model X.prog X.w) X.A X.env X.xe
 room:Room k X.A
 base:BaseOk X.prog X.w X.K X.mg X.base cl k Γ
noncomputable def pE(x:Str):List Str->Option Nat
 | []=>none
 | y::r=>if y==x then some 0 else (pE x r).map (· + 1)
noncomputable def ZY(Γ:RC)(x:Str):Option ME:=match pE x Γ.N with
 | some i=>if Vc Γ.sc Γ.N i x=true then some (ze i) else none
 | none=>match Γ.con.lookup x with
  | some w=>if xT Γ.sc x=true then some (eC w) else none
  | none=>none
noncomputable def rW:Const->Option ME
 | .none=>some (eC .non)
 | .bool b=>some (eC (.bl b))
 | .int i=>some (eC (.int i))
 | .str x=>some (eC (.str x))
 | _=>none
noncomputable def Ut(mu:Bool):Operator->Option (W->W->M W)
 | .Add=>some addW
 | .Sub=>some xB
 | .Mult=>some kB
 | .Mod=>some yv
 | .FloorDiv=>some uP
 | _=>none
noncomputable def W2:CmpOp->Option (W->W->M W)
 | .Eq=>some (qq false)
 | .NotEq=>some (qq true)
 | .In=>some (gH false)
 | .NotIn=>none
 | .Lt=>some ii
 | .LtE=>some W9
 | .Gt=>some Yb
 | .GtE=>none
 | .Is=>some (yA true)
 | .IsNot=>some (yA false)
noncomputable def rj(Γ:RC):Expr->Option MG
 | .Name x _=>match pE x Γ.N with
  | some i=>match Γ.inC with
   | true=>if setC Γ.sc Γ.N i x=true then some (zC i) else none
   | false=>if setB Γ.sc Γ.N i x=true then some (zC i) else none
  | none=>none
 | _=>none
noncomputable def KR(Γ:RC):Expr->Option MG
 | .Tuple es _ _=>if es.all noStar=true then (vk (rj Γ) es).map cw else none
 | e=>rj Γ e
noncomputable def UG:Expr->Nat
 | .Tuple es _ _=>es.length
 | _=>1
section
variable{Γ:RC}{cl:Cl}{k:Nat}{X:Cx}{x:Str}{m:ME}{pos:Pos}
def V7(F:Fits Γ cl k X)(h:ZY Γ x=some m):SE X cl (.Name x pos) m:=by
 unfold ZY at h;split at h
 .split at h
  .rename_i i _ q
   cases h;exact v_ q F.sc F.N
  .cases h
 .split at h
  .rename_i w e
   split at h
   .rename_i q
    cases h;exact FP q (F.base.con.at e) F.sc
   .cases h
  .cases h
def Qf{c:Const}(h:rW c=some m):SE X cl (.Constant c j pos) m:=by
 unfold rW at h;split at h
 .cases h;exact CF
 .cases h;exact Dy
 .cases h;exact Uv
 .cases h;exact BZ
 .cases h
def Ur{f:W->W->M W}(h:Ut mu op=some f):qo X (binaryOp op) (rM X.K cl f):=by
 unfold Ut at h;split at h
 .cases h;exact Xv
 .cases h;exact Xn
 .cases h;exact Xj
 .cases h;exact Xw
 .cases h;exact Yv
 .cases h
def dQ{f:W->W->M W}(hu:X.A.units+64<cLine)(h:W2 op=some f):qo X (compareOp op) (rM X.K cl f):=by
 cases op<;>cases h
 .exact CO hu
 .exact UW hu
 .exact UT
 .exact Bg
 .exact Bl
 .exact Bx
 .exact K2
 .exact Ck hu
def Zr(F:Fits Γ cl k X)(h:rj Γ e=some g):SG X cl e g:=by
 unfold rj at h;split at h
 .rename_i x p
  split at h
  .rename_i i _
   split at h
   .split at h
    .rename_i q
     cases h;exact FH q (F.N▸F.nd) F.sc F.N
    .cases h
   .rename_i c
    split at h
    .rename_i q
     cases h;exact g_ q (F.N▸F.nd) F.sc F.N (F.fn c _)
    .cases h
  .cases h
 .cases h
def gO{α β:Type}{f:α->Option β}{x:α}{r:List α}{ys:List β}(h:vk f (x::r)=some ys):∃y zs,f x=some y/\vk f r=some zs/\ys=y::zs:=by
 unfold vk at h;split at h
 .rename_i y zs e1 e2
  cases h;exact⟨y,zs,e1,e2,rfl⟩
 .cases h
theorem Zt(F:Fits Γ cl k X):∀{es:List Expr} {gs:List MG},es.all noStar=true->vk (rj Γ) es=some gs->K8 X cl es gs
 | [],gs,_,h=>by cases h;exact XC
 | e::es,gs,hn,h=>by
  obtain⟨g,gs',h1,h2,rfl⟩:=gO h;rw[ju,zx] at hn;exact QQ (Zr F h1) (Zt F hn.2 h2) (by rw[ue hn.1];rfl)
theorem rB{α β:Type}{f:α->Option β}:∀{l:List α} {ys:List β},vk f l=some ys->ys.length=l.length
 | [],ys,h=>by cases h;rfl
 | x::r,ys,h=>by
  obtain⟨y,zs,_,h2,rfl⟩:=gO h;rw[zm,zm,rB h2]
def su(F:Fits Γ cl k X)(h:KR Γ e=some g):SG X cl e g:=by
 unfold KR at h;split at h
 .rename_i es n p
  split at h
  .rename_i hn
   rw[zj] at h;obtain⟨gs,h1,rfl⟩:=h;exact CN F.calm (Zt F hn h1) (by rw[mf hn,rB h1]) (iP hn)
  .cases h
 .exact Zr F h
end
end ML
namespace ML
open PySem PySem.W PySem.Spec PyProof.Rows L2
section
variable{prog:Program}{w:World}{A:Around}{E:Value->Shared->Prop}{s:Shared}{r l:Addr}{items:Array Value}
def lF{α:Type}{c:Bool}{X Y:Sem α}{Q:α->Shared->Prop}(hc:c=false)(h:wpAny (model prog w) A Y Q E s):wpAny (model prog w) A (if c=true then X else Y) Q E s:=by
 rw[hc,jc (by simp)];exact h
def B6{α:Type}{c:Bool}{X Y:Sem α}{Q:α->Shared->Prop}(hc:c=true)(h:wpAny (model prog w) A X Q E s):wpAny (model prog w) A (if c=true then X else Y) Q E s:=by
 rw[hc,zY rfl];exact h
def Xd:typeLookup (.type "list_reverseiterator") "__len__" = pure none:=by rw[qp,jN];kernel_rfl
def Va:typeLookup (.type "list_reverseiterator") "__length_hint__" = pure (some (.builtin "list_reverseiterator.__length_hint__")):=by rw[qp,jN];kernel_rfl
def Vz(hT:s.TypeIs (.ref r) "list_reverseiterator")(h:Q false s):wpAny (model prog w) A (Builtin.List.listLengthHint (.ref r)) Q E s:=by
 unfold Builtin.List.listLengthHint;refine za (vR hT Xd ?_);dsimp only;refine lF ⋯ ?_;refine lF ⋯ ?_;refine wpAny_bind (wpAny_specialOf hT Va ?_);dsimp only;generalize hid:("list_reverseiterator.__length_hint__":String)=idl;rw[show splitId idl=some ("list_reverseiterator","__length_hint__") from by subst hid;decide +kernel];subst hid;dsimp only;refine wpAny_bind (wpAny_isInstance (b:=true) hT (by rw[isSubtype_type];kernel_rfl) ?_);rw[jc (by decide)];refine B6 ⋯ ?_;refine lF ⋯ ?_;exact zu h
def Kg(hh:A.handled=none)(hit:s.heap.IsRevIter r l ((items.size:Int)-1))(hl:s.heap.IsList l items)(hne:l≠r)(S:Addr)(hSr:S≠r)(hSl:S≠l)(c0:Nat)(hS:s.heap.get? S=some { cls:=.type "list",data:=.seq #[] c0 })(hn:items.size<=sizeLine)
  (hR:∀h' tk c',(∀b o,b≠S->b≠r->s.heap.get? b=some o->h'.get? b=some o)->h'.get? S=some { cls:=.type "list",dict:=none,data:=.seq items.reverse c',slots:=#[] }->R (.ok (.ret .none)) { s with heap:=h',toks:=tk }) :
  wpAny (model prog w) A.in1 (Builtin.List.listExtendWith (.ref S) (.ref r) .none)
   (λfin s'=>match fin with | .done f=>R (.ok f) s' | .again c'=>c'.quiet=true/\codeAny (model prog w) A c' R s') (λe s'=>R (.error e) s') s:=by
 have hSf:S∉[r,l]:=by simp only[zb,zc,zQ,j8];exact⟨hSr,hSl⟩
 have W:=Walks.listRev (prog:=prog) (w:=w) (A:=A.in1) hh r l hne items;have e0:(items.size:Int)-1-((0:Nat):Int)=(items.size:Int)-1:=by omega
 have key:∀(h:Heap) (c1:Nat),h.IsRevIter r l ((items.size:Int)-1)->h.IsList l items->(∀b o,b≠S->b≠r->s.heap.get? b=some o->h.get? b=some o)->
   h.get? S=some { cls:=.type "list",data:=.seq #[] c1 }->codeAny (model prog w) A (.builtin "list.extend.loop" ⟨[.ref S,.ref r,.none],[]⟩) R { s with heap:=h }:=by
  intro h c1 q1 q2 hk hS1;refine codeAny_extend_loopS W.toS hn S hSf .none items.size 0 _ #[] c1 rfl (qy _) ⟨qy _,by rw[e0];exact q1,q2⟩ hS1 (ItemsOf.nil _) λs' acc' c' hm hS' hacc=>?_
  rw[Moved.eq_with hm];have er:acc'=items.reverse:=by
   apply Array.ext
   .rw[hacc.1,Array.size_reverse]
   .intro j a1 a2
    have:items[items.size-1-j]?=some acc'[j]:=hacc.2 j acc'[j] (by simp[a1]);rw[Array.getElem_reverse];rw[Array.getElem?_eq_getElem (by rw[hacc.1] at a1;omega)] at this;exact(zZ this).symm
  subst er;refine hR s'.heap s'.toks c' (λb o hb hb2 e=>hm.heap b o (λhmem=>?_) (hk b o hb hb2 e)) hS';rcases zb.mp hmem with e' | hmem
  .exact hb e'
  .exact hb2 (wV.mp hmem)
 unfold Builtin.List.listExtendWith;refine za (j7 hit.typeIs ?_);have h1:Builtin.List.listSameRef (.ref S) (.ref r)=false:=by simp[Builtin.List.listSameRef,hSr]
 refine lF (by rw[h1];rfl) ?_;refine za (wpAny_pyIter_revIter hit ?_);refine za (jf (Vz hit.typeIs ?_));refine wpAny_ite_split (λ_=>?_) (λ_=>zu ⟨q9 yD _,key s.heap c0 hit hl (λb o _ _ e=>e) hS⟩);refine za (qD ?_);refine za ?_;show wpAny _ _ (updateSeq S (·.push .none) >>= λ_=>updateSeq S (·.pop)) _ _ _
 refine za (vQ hS rfl ?_);have hS2:=jT (Obj.mapSeq (·.push Value.none)) hS rfl;refine vQ hS2 rfl ?_;have hS3:=jT (Obj.mapSeq (·.pop)) hS2 rfl;have oth:∀b o,b≠S->s.heap.get? b=some o->((s.heap.update S (Obj.mapSeq (·.push Value.none))).update S (Obj.mapSeq (·.pop))).get? b=some o:=λb o hb e=>(qG _ _ (kY hb)).trans ((qG _ _ (kY hb)).trans e)
 exact zu ⟨q9 yD _,key _ _ (hit.at λo e=>oth _ _ (kY hSr) e) (hl.at λo e=>oth _ _ (kY hSl) e) (λb o hb _ e=>oth b o hb e) hS3⟩
def Ww(hh:A.handled=none)(hit:s.heap.IsRevIter r l ((items.size:Int)-1))(hl:s.heap.IsList l items)(hne:l≠r)(hn:items.size<=sizeLine)
  (hQ:∀h' tk c',(∀b o,b≠r->s.heap.get? b=some o->h'.get? b=some o)->h'.get? s.heap.objs.size=some { cls:=.type "list",dict:=none,data:=.seq items.reverse c',slots:=#[] }->Q (.ref s.heap.objs.size) { s with heap:=h',toks:=tk }) :
  wpAny (model prog w) A (call (.type "list") [.ref r]) Q E s:=by
 have ltr:r<s.heap.objs.size:=by obtain⟨o,e,_⟩:=hit;exact zF e
 have ltl:l<s.heap.objs.size:=by obtain⟨o,e,_⟩:=hl;exact zF e
 refine yf (Q₁:=λobj s1=>obj=.ref s.heap.objs.size/\s1={ s with heap:=s.heap.push { cls:=.type "list",data:=.seq #[] } }) PySem.F.called_list (PySem.F.typeCall_list_1 _) PySem.F.entry_list_init (code_list_new _ ⟨rfl,rfl⟩) λobj s1 h1=>?_
 obtain⟨rfl,rfl⟩:=h1;have hS:(s.heap.push { cls:=.type "list",data:=.seq #[] }).get? s.heap.objs.size=some { cls:=.type "list",data:=.seq #[] }:=zO _ rfl;refine⟨⟨_,hS,rfl⟩,PySem.F.args_list_init_2 _ _,?_⟩;show wpAny _ _ (do let old <-Builtin.List.listItems (.ref s.heap.objs.size);Builtin.List.listUpdate (.ref s.heap.objs.size) (λ_=>#[]);letGo old.toList.reverse;Builtin.List.listExtendWith (.ref s.heap.objs.size) (.ref r) .none) _ _ _
 refine za ?_;unfold Builtin.List.listItems;refine za (jL hS rfl (zu ?_));show wpAny _ _ (updateSeq s.heap.objs.size (λ_=>#[]) >>= λ_=>letGo (#[]:Array Value).toList.reverse >>= λ_=>Builtin.List.listExtendWith (.ref s.heap.objs.size) (.ref r) .none) _ _ _
 refine za (vQ hS rfl ?_);have hS2:=jT (Obj.mapSeq (λ_=>(#[]:Array Value))) hS rfl;have oth:∀b o,b≠s.heap.objs.size->s.heap.get? b=some o->((s.heap.push { cls:=.type "list",data:=.seq #[] }).update s.heap.objs.size (Obj.mapSeq (λ_=>(#[]:Array Value)))).get? b=some o:=
  λb o hb e=>(qG _ _ (kY hb)).trans (zf _ e)
 refine za (yR ?_);refine Kg (A:=A.in1) hh (hit.at λo e=>oth _ _ (zX ltr) e) (hl.at λo e=>oth _ _ (zX ltl) e) hne _ (ql ltr) (ql ltl) _ hS2 hn λh' tk c' hk hS'=>?_
 exact⟨rfl,hQ h' tk c' (λb o hb e=>hk b o (zX (zF e)) hb (oth b o (zX (zF e)) e)) hS'⟩
end
noncomputable def mP(w:W):M W:=λh=>(getL h w).bind λl=>if l.length<=1000 then some (.fls l.reverse,h) else none
theorem RWs.rev{K:PySem.W.Frag}{μ:List Addr}{H:Hp}:∀{l:List W} {vs:List V},RWs K μ H l vs->RWs K μ H l.reverse vs.reverse
 | _,_,.nil=>.nil
 | _,_,.cons r rs=>by
  rw[qZ,qZ];exact(RWs.rev rs).append (.cons r .nil)
theorem pN:∀{vs:List V} {us:List Value},Vals vs us->Vals vs.reverse us.reverse
 | _,_,.nil=>.nil
 | _,_,.cons r rs=>by
  rw[qZ,qZ];exact(pN rs).append (.cons r .nil)
section
variable{X:Cx}{cl:Cl}{a:Expr}{ma:ME}{p p2 p3 pos:Pos}
def YJ(hc:X.calm=true)(hl:X.mg "list" = none)(hs:X.mg "reversed" = none)(ha:SE X cl a ma)(hg:Gl X "list")(hg2:Gl X "reversed")
  (he1:starEach [a] X.env=(false,eval a X.env)::starEach [] X.env) (hpl1:(backTo p3 (starEach [] X.env)).any (·.1)=false)
  (he2:starEach [.Call (.Name "reversed" p2) [a] [] p3] X.env=(false,eval (.Call (.Name "reversed" p2) [a] [] p3) X.env)::starEach [] X.env) (hpl2:(backTo pos (starEach [] X.env)).any (·.1)=false) :
  SE X cl (.Call (.Name "list" p) [.Call (.Name "reversed" p2) [a] [] p3] [] pos) (uf mP ma):=by
 rintro pins s σ H Q I ⟨μ,h,ρ,w,h',R,er,e,k⟩;obtain⟨x,h1,e1,e⟩:=ka e;have hv:bootBuiltins "reversed" = some (.type "reversed"):=by decide +kernel
 have hv2:bootBuiltins "list" = some (.type "list"):=by decide +kernel
 refine jz (ug I hg hl hv2 ?_ (by decide) (by decide));refine jo ?_ he2 hpl2;rw[he2];show wpAny _ _ (spliced ((false,eval (.Call (.Name "reversed" p2) [a] [] p3) X.env)::backTo pos (starEach [] X.env))) _ _ s
 have h0:∀{q:Pos},backTo q (starEach [] X.env)=[]:=λ{q}=>rfl
 rw[h0];refine qI ?_;refine jz (ug I hg2 hs hv ?_ (by decide) (by decide));refine jo ?_ he1 hpl1;rw[he1];show wpAny _ _ (spliced ((false,eval a X.env)::backTo p3 (starEach [] X.env))) _ _ s
 rw[h0];refine qI (kC (ha pins s σ H (λv H1=>∃μ1,Ext μ H μ1 H1/\HR X.K cl μ1 H1 h1/\RW X.K μ1 H1 x v) I ⟨μ,h,ρ,x,h1,R,er,e1,λμ1 H1 v E1 R1 r=>⟨μ1,E1,R1,r⟩⟩) λu s1 ⟨v,H1,I1,r1,μ1,E1,R1,rv⟩=>vA ?_);obtain⟨l,el,e⟩:=zy.mp (show(getL h1 x).bind _=some (w,h') from e);by_cases ok:l.length<=1000
 .rw[zY ok] at e
  cases e;obtain⟨d,vs,rfl,sq,ra⟩:=y9 R1 rv el;cases r1;obtain⟨its,rvs,⟨o,n,g1,g2,g3,g4⟩,_⟩:=I1.list sq;have hl1:s1.heap.IsList d its.toArray:=⟨o,g1,g2,n,g4⟩;have lt:d<s1.heap.objs.size:=zF g1;have lenI:its.length=l.length:=by rw[<-rvs.length,ra.length]
  refine call_reversed_list hl1 ?_;have keep1:∀b ob,s1.heap.get? b=some ob->(s1.heap.push (revObj d ((its.toArray.size:Int)-1))).get? b=some ob:=λb ob q=>zf _ q
  refine vA (Ww (s:={ s1 with heap:=s1.heap.push (revObj d ((its.toArray.size:Int)-1)) }) (items:=its.toArray) (I1.ok.hd hc) ⟨_,zO _ rfl,rfl,rfl⟩ (hl1.push _) (zX lt) (by simp[vp];omega) λh2 tk c' kp ob=>?_);have sz:(s1.heap.push (revObj d ((its.toArray.size:Int)-1))).objs.size=s1.heap.objs.size+1:=j9 ..;have keep2:∀b ob,s1.heap.get? b=some ob->h2.get? b=some ob:=λb ob q=>kp b ob (zX (zF q)) (keep1 b ob q)
  have le1:s1.heap.objs.size<=(s1.heap.push (revObj d ((its.toArray.size:Int)-1))).objs.size:=by rw[sz];exact vB _
  have q2:=pN rvs;refine⟨.ref _,_,I1.laid (o:=.lst vs.reverse) (t':=tk) keep2 le1 ⟨by rw[j5,rvs.length,lenI,vp];omega,_,c',q2,by simpa using ob⟩,rfl,?_⟩;exact KQ.fls (k.ext E1) R1 ra.rev (I1.hok.fresh le1)
 .rw[jc ok] at e;cases e
end
noncomputable def fg(ws:List W):M W:=λh=>match ws with
 | [.int a,.int b]=>some (.int (if b<a then b else a),h)
 | _=>none
noncomputable def gx(ws:List W):M W:=λh=>match ws with
 | [.int a,.int b]=>some (.int (if b>a then b else a),h)
 | _=>none
section
variable{X:Cx}{cl:Cl}
def Ql(hc:X.calm=true):yB X (.builtin "min") (rMs X.K cl fg):=by
 rintro pins s σ H xs us Q I rs ⟨μ,h,ws,w,h',R,ax,e,k⟩;unfold fg at e;split at e
 .cases e
  cases ax with | cons r t=>cases t with | cons r' t=>cases t with | nil=>
  cases r.int_of;cases r'.int_of;obtain⟨u,v,rfl,⟨t,rfl⟩,⟨t',rfl⟩⟩:=rs.two;refine min_two_ints (I.ok.hd hc) λh2 tk hk=>⟨.int _,H,I.kept (t':=tk) hk,?_,k.pure R (.int _)⟩
  split<;>exact⟨_,rfl⟩
 .cases e
def JC(hc:X.calm=true):yB X (.builtin "max") (rMs X.K cl gx):=by
 rintro pins s σ H xs us Q I rs ⟨μ,h,ws,w,h',R,ax,e,k⟩;unfold gx at e;split at e
 .cases e
  cases ax with | cons r t=>cases t with | cons r' t=>cases t with | nil=>
  cases r.int_of;cases r'.int_of;obtain⟨u,v,rfl,⟨t,rfl⟩,⟨t',rfl⟩⟩:=rs.two;refine max_two_ints (I.ok.hd hc) λh2 tk hk=>⟨.int _,H,I.kept (t':=tk) hk,?_,k.pure R (.int _)⟩
  split<;>exact⟨_,rfl⟩
 .cases e
def boot_min:bootBuiltins "min" = some (.builtin "min"):=by decide +kernel
def boot_max:bootBuiltins "max" = some (.builtin "max"):=by decide +kernel
end
end ML
namespace ML
open PySem PySem.Spec PyProof.Rows L2
noncomputable def aE(E:Expr->Option ME)(es:List Expr):Option (List ME):=if es.all noStar=true then vk E es else none
noncomputable def uQ(Γ:RC)(x:Str):Bool:=Γ.bin.any (· == x)
noncomputable def tyOf(x:Str):Option Ty:=if x=="tuple" then some .tuple else none
noncomputable def lm(mu:Bool)(x:Str):Option (List W->M W):=
 if x=="min" then some fg else if x=="max" then some gx else if x=="len" then some kH else if x=="sum" then some gS
 else if x=="tuple" then some xE else if x=="dict" then (match mu with
  | true=>some lJ
  | false=>some iu)
 else if x=="list" then some fy
 else none
noncomputable def ph:List Expr->Option Expr
 | [.Call (.Name y _) [a] [] _]=>if y=="reversed" then some a else none
 | _=>none
noncomputable def pB:List Expr->Option (Expr×Expr)
 | [.Call (.Name y _) [a,b] [] _]=>if y=="zip" then some (a,b) else none
 | _=>none
noncomputable def rf(Γ:RC):List Expr->Option (Expr×Ty)
 | [a,.Name y _]=>if (xT Γ.sc y&&uQ Γ y&&noStar a)=true then (tyOf y).map λT=>(a,T) else none
 | _=>none
noncomputable def sU(Γ:RC)(E:Expr->Option ME)(mu:Bool)(x:Str)(as:List Expr):Option ME:=
 if x=="isinstance" then (rf Γ as).bind λp=>(E p.1).map (uf (isW p.2))
 else match as with
  | []=>none
  | _::_=>(lm mu x).bind λg=>(aE E as).map (zh g)
noncomputable def pS(Γ:RC)(E:Expr->Option ME)(mu:Bool)(x:Str)(as:List Expr):Option ME:=
 if xT Γ.sc x=true then (match Γ.fns.lookup x with
  | some g=>(aE E as).map (zh g)
  | none=>if uQ Γ x=true then (match ph as with
    | some a=>if (x=="list" && xT Γ.sc "reversed" && uQ Γ "reversed" && noStar a)=true then (E a).map (uf mP) else none
    | none=>(match pB as with
     | some p=>if (x=="dict" && xT Γ.sc "zip" && uQ Γ "zip" && noStar p.1&&noStar p.2)=true then (E p.1).bind λm=>(E p.2).map λm2=>aI [m,m2] else none
     | none=>sU Γ E mu x as)) else (match Γ.mks.lookup x,as with
    | some p,_::_=>(aE E as).map (xR p.1 p.2)
    | _,_=>none)) else none
noncomputable def isOwn(Γ:RC)(m:Str):Bool:=Γ.mt.any λp=>p.1.2==m
noncomputable def ZQ(Γ:RC)(E EM:Expr->Option ME)(o:Expr)(m:Str)(apos:Pos)(as:List Expr)(pos:Pos):Option ME:=
 if (pC o&&(apos.endLine==pos.line)&&as.all noStar&&decide (as.length<30))=true then (E o).bind λmo=>if isOwn Γ m=true then (vk E as).map (kb Γ.mt m mo) else match as with
  | []=>if m=="pop" then some (kK uG mo []) else none
  | a::r=>if m=="append" then (vk EM (a::r)).map (kK qa mo)
   else if m=="extend" then (vk E (a::r)).map (kK uK mo)
   else if m=="get" then (match r with
    | [b]=>(E a).bind λma=>(E b).map (lM mo ma)
    | _=>none)
   else none
 else none
section
variable{Γ:RC}{cl:Cl}{k:Nat}{X:Cx}{x:Str}{m:ME}{pos p:Pos}{E:Expr->Option ME}{as:List Expr}{mu:Bool}
theorem uW:∀{es:List Expr} {ms:List ME},(∀e m,E e=some m->SE X cl e m)->es.all noStar=true->vk E es=some ms->SA X cl es ms
 | [],ms,_,_,h=>by cases h;exact gY
 | e::es,ms,hE,hn,h=>by
  obtain⟨m,ms',h1,h2,rfl⟩:=gO h;rw[ju,zx] at hn;exact uL (hE _ _ h1) (uW hE hn.2 h2) (kM hn.1)
def ur{es:List Expr}(hE:∀e m,E e=some m->SE X cl e m)(h:aE E es=some ms):es.all noStar=true/\SA X cl es ms:=by
 unfold aE at h;split at h
 .rename_i hn
  exact⟨hn,uW hE hn h⟩
 .cases h
def ub(F:Fits Γ cl k X)(h:uQ Γ x=true):X.mg x=none:=by
 unfold uQ at h;obtain⟨y,hy,e⟩:=qt.mp h;rw[<-eq_of_beq e];exact F.base.bin.at hy
def Yx{T:Ty}(h:tyOf x=some T):bootBuiltins x=some (.type T.name):=by
 unfold tyOf at h;split at h
 .rename_i q;rw[eq_of_beq q];cases h;exact nL
 .cases h
def tN(F:Fits Γ cl k X)(hg:xT Γ.sc x=true)(hb:uQ Γ x=true)(h:lm mu x=some g)(hn:(e::es).all noStar=true)(ha:SA X cl (e::es) ms):SE X cl (.Call (.Name x p) (e::es) [] pos) (zh g ms):=by
 have hm:=ub F hb;rw[ju,zx] at hn;have h1:=kM (es:=es) (env:=X.env) hn.1;have h2:=j2 (pos:=pos) (env:=X.env) hn.2;unfold lm at h;split at h
 .rename_i q;have q:=eq_of_beq q;subst q;cases h;exact WK hg (Ql F.calm) hm ML.boot_min ha F.sc h1 h2
 split at h
 .rename_i q;have q:=eq_of_beq q;subst q;cases h;exact WK hg (JC F.calm) hm ML.boot_max ha F.sc h1 h2
 split at h
 .rename_i q;have q:=eq_of_beq q;subst q;cases h;exact WK hg Qx hm PySem.boot_len ha F.sc h1 h2
 split at h
 .rename_i q;have q:=eq_of_beq q;subst q;cases h;exact WK hg (JY F.calm) hm ML.boot_sum ha F.sc h1 h2
 split at h
 .rename_i q;have q:=eq_of_beq q;subst q;cases h;exact WD hg tJ hm nL ha F.sc h1 h2
 split at h
 .rename_i q;have q:=eq_of_beq q;subst q
  split at h
  .cases h;exact WD hg Ka hm sQ ha F.sc h1 h2
  .cases h;exact WD hg (Kl F.calm) hm sQ ha F.sc h1 h2
 split at h
 .rename_i q;have q:=eq_of_beq q;subst q;cases h;exact WD hg KP hm VI ha F.sc h1 h2
 .cases h
def JF{T:Ty}(h:rf Γ as=some (a,T)):∃y p2,as=[a,.Name y p2]/\xT Γ.sc y=true/\uQ Γ y=true/\noStar a=true/\tyOf y=some T:=by
 unfold rf at h;split at h
 .rename_i a' y p2
  split at h
  .rename_i q
   rw[zj] at h;obtain⟨T',e,z⟩:=h;cases z;simp only[zx] at q;exact⟨y,p2,rfl,q.1.1,q.1.2,q.2,e⟩
  .cases h
 .cases h
def Jh(F:Fits Γ cl k X)(hE:∀e m,E e=some m->SE X cl e m)(hg:xT Γ.sc x=true)(hb:uQ Γ x=true)(h:sU Γ E mu x as=some m):SE X cl (.Call (.Name x p) as [] pos) m:=by
 unfold sU at h;split at h
 .rename_i q
  have q:=eq_of_beq q;subst q;rw[zy] at h;obtain⟨⟨a,T⟩,e,h⟩:=h;rw[zj] at h;obtain⟨ma,e2,rfl⟩:=h;obtain⟨y,p2,rfl,g2,b2,ns,ty⟩:=JF e;exact Fk T hg g2 (hE _ _ e2) (ub F hb) (ub F b2) (Yx ty) F.sc (kM ns) (kM rfl) (j2 rfl)
 .split at h
  .cases h
  .rw[zy] at h
   obtain⟨g,e,h⟩:=h;rw[zj] at h;obtain⟨ms,e2,rfl⟩:=h;obtain⟨hn,ha⟩:=ur hE e2;exact tN F hg hb e hn ha
def JQ(h:ph as=some a):∃p2 p3,as=[.Call (.Name "reversed" p2) [a] [] p3]:=by
 unfold ph at h;split at h
 .rename_i y p2 a' p3
  split at h
  .rename_i q
   cases h;rw[eq_of_beq q];exact⟨p2,p3,rfl⟩
  .cases h
 .cases h
def K7{q:Expr×Expr}(h:pB as=some q):∃p2 p3,as=[.Call (.Name "zip" p2) [q.1,q.2] [] p3]:=by
 unfold pB at h;split at h
 .rename_i y p2 a b p3
  split at h
  .rename_i z
   cases h;rw[eq_of_beq z];exact⟨p2,p3,rfl⟩
  .cases h
 .cases h
def JZ(F:Fits Γ cl k X)(hE:∀e m,E e=some m->SE X cl e m)(h:pS Γ E mu x as=some m):SE X cl (.Call (.Name x p) as [] pos) m:=by
 unfold pS at h;split at h
 .rename_i hg
  split at h
  .rename_i g e
   rw[zj] at h;obtain⟨ms,e2,rfl⟩:=h;obtain⟨hn,ha⟩:=ur hE e2;obtain⟨f,fd,ps,fo,hm,hk,hb⟩:=F.base.fns.at e;cases as with
   | nil=>
    have:ms=[]:=by
     cases e2;rfl
    subst this;exact FY hg fo F.room hm hk hb F.sc
   | cons a r=>
    rw[ju,zx] at hn;exact c_ hg fo F.room hm hk hb ha F.sc (kM hn.1) (j2 hn.2)
  .split at h
   .rename_i hb
    split at h
    .rename_i a e
     split at h
     .rename_i q
      simp only[zx] at q;rw[zj] at h;obtain⟨ma,e2,rfl⟩:=h;obtain⟨p2,p3,rfl⟩:=JQ e;have hx:=eq_of_beq q.1.1.1;subst hx;exact YJ F.calm (ub F hb) (ub F q.1.2) (hE _ _ e2) (j3 hg F.sc).1 (j3 q.1.1.2 F.sc).1 (kM q.2) (j2 rfl) (kM rfl) (j2 rfl)
     .cases h
    .split at h
     .rename_i pr e
      split at h
      .rename_i q
       simp only[zx] at q;rw[zy] at h;obtain⟨m1,e1,h⟩:=h;rw[zj] at h;obtain⟨m2,e2,rfl⟩:=h;obtain⟨p2,p3,rfl⟩:=K7 e;have hx:=eq_of_beq q.1.1.1.1;subst hx;exact Xq F.calm (ub F hb) (ub F q.1.1.2) (uL (hE _ _ e1) (uL (hE _ _ e2) gY (kM q.2)) (kM q.1.2)) (j3 hg F.sc).1 (j3 q.1.1.1.2 F.sc).1 (kM q.1.2) (j2 (by simp[q.2])) (kM rfl) (j2 rfl)
      .cases h
     .exact Jh F hE hg hb h
   .split at h
    .rename_i p' a r e
     rw[zj] at h;obtain⟨ms,e2,rfl⟩:=h;obtain⟨hn,ha⟩:=ur hE e2;rw[ju,zx] at hn;exact YN (F.base.mks.at e) F.room ha (j3 hg F.sc).1 (j3 hg F.sc).2.1 (kM hn.1) (j2 hn.2)
    .cases h
 .cases h
def Vg(F:Fits Γ cl k X)(hE:∀e m,E e=some m->SE X cl e m)(hM:∀e m,EM e=some m->SE X cl e m)(h:ZQ Γ E EM o nm apos as pos=some m):SE X cl (.Call (.Attribute o nm apos) as [] pos) m:=by
 unfold ZQ at h;split at h
 .rename_i q
  simp only[zx] at q;obtain⟨⟨⟨q1,q2⟩,q3⟩,q4⟩:=q;rw[zy] at h;obtain⟨mo,eo,h⟩:=h;split at h
  .rw[zj] at h
   obtain⟨ms,e2,rfl⟩:=h;have MT:=λc g=>F.base.mts c nm g
   have hr:=F.room;cases as with
   | nil=>cases e2;exact Wp MT hr (hE _ _ eo) (uJ q1) q2 (ij q3 q4)
   | cons a r=>
    have hn:=q3;rw[ju,zx] at hn;exact Ug MT hr (hE _ _ eo) (uW hE q3 e2) (uJ q1) (ij q3 q4) q2 (kM hn.1) (j2 hn.2)
  split at h
  .split at h
   .rename_i z
    rw[eq_of_beq z];cases h;exact Cv (hE _ _ eo) (uJ q1) q2
   .cases h
  .rename_i a r
   have hn:=q3;rw[ju,zx] at hn;split at h
   .rename_i z
    rw[eq_of_beq z];rw[zj] at h;obtain⟨ms,e2,rfl⟩:=h;exact JS (hE _ _ eo) (uW hM q3 e2) (uJ q1) (ij q3 q4) q2 (kM hn.1) (j2 hn.2)
   split at h
   .rename_i z
    rw[eq_of_beq z];rw[zj] at h;obtain⟨ms,e2,rfl⟩:=h;exact KY (hE _ _ eo) (uW hE q3 e2) (uJ q1) (ij q3 q4) q2 (kM hn.1) (j2 hn.2)
   split at h
   .rename_i z
    rw[eq_of_beq z];split at h
    .rename_i b
     rw[zy] at h;obtain⟨ma,e1,h⟩:=h;rw[zj] at h;obtain⟨mb,e2,rfl⟩:=h;have hb:noStar b=true:=by simpa using hn.2
     exact Wh F.room.units (hE _ _ eo) (hE _ _ e1) (hE _ _ e2) ⟨uJ q1,ij q3 q4,q2,by rw[de hn.1,de hb,fF];rfl⟩
    .cases h
   .cases h
 .cases h
end
noncomputable def Qp(Γ:RC):Expr->Bool
 | .Constant (.str _) _ _=>true
 | .Name x _=>Γ.txt.any (· == x)
 | _=>false
noncomputable def WN(Γ:RC):Expr->Bool
 | .Subscript e (.Slice _ _ _ _) _=>Qp Γ e
 | e=>Qp Γ e
noncomputable def isTup:Expr->Bool
 | .Tuple ..=>true
 | _=>false
noncomputable def sA(Γ:RC)(E:Expr->Option ME)(tg:Expr)(x:Str)(as:List Expr):Option MI:=
 if (xT Γ.sc x&&uQ Γ x&&as.all noStar)=true then (match as with
  | [e]=>if x=="range" then (E e).map λm=>qk [m]
   else if x=="reversed" then (E e).map λm=>nh [m]
   else none
  | [e,e2]=>if (x=="zip" && isTup tg)=true then (E e).bind λm=>(E e2).map λm2=>dA [m,m2] else none
  | _=>none) else none
noncomputable def J7(Γ:RC)(E:Expr->Option ME)(tg:Expr):Expr->Option MI
 | .Call (.Name x _) as [] _=>sA Γ E tg x as
 | _=>none
noncomputable def oC(Γ:RC)(E:Expr->Option ME)(tg it:Expr):Option MI:=match J7 Γ E tg it with
 | some m=>some m
 | none=>(E it).map λm=>match WN Γ it with
  | true=>rq m
  | false=>qS m
section
variable{Γ:RC}{cl:Cl}{k:Nat}{X:Cx}{x:Str}{pos p:Pos}{E:Expr->Option ME}{as:List Expr}{tg it:Expr}{mi:MI}
def Vf(h:isTup tg=true):∃es n tp,tg=.Tuple es n tp:=by
 unfold isTup at h;split at h
 .exact⟨_,_,_,rfl⟩
 .cases h
def Jm(F:Fits Γ cl k X)(hE:∀e m,E e=some m->SE X cl e m)(h:sA Γ E tg x as=some mi):SI X cl tg (.Call (.Name x p) as [] pos) mi:=by
 unfold sA at h;split at h
 .rename_i q
  simp only[zx] at q;obtain⟨⟨q1,q2⟩,q3⟩:=q;split at h
  .rename_i e
   have hn:noStar e=true:=by simpa using q3
   split at h
   .rename_i z
    have z:=eq_of_beq z;subst z;rw[zj] at h;obtain⟨m,e1,rfl⟩:=h;exact DU q1 (ub F q2) (uL (hE _ _ e1) gY (kM hn)) F.sc (by rw[kM hn,fF])
   split at h
   .rename_i z
    have z:=eq_of_beq z;subst z;rw[zj] at h;obtain⟨m,e1,rfl⟩:=h;exact Cm (ub F q2) (uL (hE _ _ e1) gY (kM hn)) (j3 q1 F.sc).1 (kM hn)
   .cases h
  .rename_i e e2
   rw[ju,zx] at q3;have hn2:noStar e2=true:=by simpa using q3.2
   split at h
   .rename_i z
    rw[zx] at z;obtain⟨es,n,tp,rfl⟩:=Vf z.2;have z:=eq_of_beq z.1;subst z;rw[zy] at h;obtain⟨m,e1,h⟩:=h;rw[zj] at h;obtain⟨m2,e3,rfl⟩:=h;exact D3 q1 (ub F q2) (uL (hE _ _ e1) (uL (hE _ _ e3) gY (kM hn2)) (kM q3.1)) F.sc (kM q3.1) (j2 q3.2)
   .cases h
  .cases h
 .cases h
def rK(F:Fits Γ cl k X)(hE:∀e m,E e=some m->SE X cl e m)(h:oC Γ E tg it=some mi):SI X cl tg it mi:=by
 unfold oC at h;split at h
 .rename_i m e
  cases h;unfold J7 at e;split at e
  .exact Jm F hE e
  .cases e
 .rw[zj] at h
  obtain⟨m,e1,h⟩:=h;cases q:WN Γ it with
  | true=>rw[q] at h;subst h;exact By (hE _ _ e1)
  | false=>rw[q] at h;subst h;exact BB (hE _ _ e1)
end
noncomputable def oX(T:Expr->Option MT):List Expr->Option MT
 | []=>some kG
 | [c]=>T c
 | _=>none
structure CompR where
 mi:MI
 nl:Nat
 ks:List Nat
 g:MG
 t:MT
 m:ME
noncomputable def RC.inner(Γ:RC)(scope:Scope)(N':List Str):RC:={ Γ with sc:=gM Γ.sc scope,N:=N',inC:=true }
noncomputable def J0(Γ:RC)(E:RC->Bool->Expr->Option ME)(T:RC->Expr->Option MT)(elt tg it:Expr)(ifs:List Expr)(scope:Scope)(N':List Str):Option CompR:=
 if (oO it&&oV N')=true then (vk (λx=>pE x Γ.N) (N'.drop (UG tg))).bind λks=>
  if ux Γ.sc Γ.N scope N' (UG tg) ks=true then (oC Γ (E Γ false) tg it).bind λmi=>(KR (Γ.inner scope N') tg).bind λg=>(oX (T (Γ.inner scope N')) ifs).bind λt=>(E (Γ.inner scope N') false elt).map λm=>⟨mi,UG tg,ks,g,t,m⟩
  else none
 else none
noncomputable def oH(Γ:RC)(E:RC->Bool->Expr->Option ME)(T:RC->Expr->Option MT)(elt:Expr)(gens:List Comprehension)(scope:Scope)(pos:Pos):Option CompR:=match gens with
 | [⟨tg,it,ifs,ia⟩]=>match Γ.cmp.lookup (pos.line,pos.col) with
  | some N'=>if ia=0 then J0 Γ E T elt tg it ifs scope N' else none
  | none=>none
 | _=>none
section
variable{Γ:RC}{cl:Cl}{k:Nat}{X:Cx}{E:RC->Bool->Expr->Option ME}{T:RC->Expr->Option MT}{elt:Expr}{gens:List Comprehension}{scope:Scope}{pos:Pos}{r:CompR}
theorem Fits.inner(F:Fits Γ cl k X){N':List Str}(hN:N'.Nodup)(hk:scope.kind=.function)(cs:List (Str×Addr))(C:Addr)(s₀:Shared)(H₀:Hp)(ex:List Addr):Fits (Γ.inner scope N') cl k (wq X scope cs C N' s₀ H₀ ex) where
 sc:=by
  show relabel scope X.env=gM Γ.sc scope
  rw[<-F.sc];rfl
 N:=rfl
 nd:=hN
 fn:=λh=>by cases h
 kind:=hk
 calm:=F.calm
 pass:=wR
 room:=F.room
 base:=⟨F.base.fns,F.base.con,F.base.tab,F.base.bin,F.base.pw,F.base.cls,F.base.mts,F.base.mks,F.base.way⟩
def K9{t:Expr->Option MT}(hT:∀e m,t e=some m->ST X cl e m)(h:oX t ifs=some m):hU X cl ifs m:=by
 unfold oX at h;split at h
 .cases h;exact YA
 .exact XH (hT _ _ h)
 .cases h
structure CompG(X:Cx)(cl:Cl)(elt:Expr)(gens:List Comprehension)(scope:Scope)(r:CompR):Prop where
 ex:∃tg it ifs N',gens=[⟨tg,it,ifs,0⟩]/\ux X.env.scope X.N scope N' r.nl r.ks=true/\oO it=true/\SI X cl tg it r.mi/\(∀cs C s₀ H₀ ex,SG (wq X scope cs C N' s₀ H₀ ex) cl tg r.g)/\(∀cs C s₀ H₀ ex,hU (wq X scope cs C N' s₀ H₀ ex) cl ifs r.t)/\∀cs C s₀ H₀ ex,SE (wq X scope cs C N' s₀ H₀ ex) cl elt r.m
def pT(F:Fits Γ cl k X)(hE:∀Γ X,Fits Γ cl k X->∀mu e m,E Γ mu e=some m->SE X cl e m)(hT:∀Γ X,Fits Γ cl k X->∀e m,T Γ e=some m->ST X cl e m)(h:oH Γ E T elt gens scope pos=some r):CompG X cl elt gens scope r:=by
 unfold oH at h;split at h
 .rename_i tg it ifs ia
  split at h
  .rename_i N' _
   split at h
   .rename_i z
    subst z;unfold J0 at h;split at h
    .rename_i q
     rw[zx] at q;rw[zy] at h;obtain⟨ks,e1,h⟩:=h;split at h
     .rename_i ok
      rw[zy] at h;obtain⟨mi,e2,h⟩:=h;rw[zy] at h;obtain⟨g,e3,h⟩:=h;rw[zy] at h;obtain⟨t,e4,h⟩:=h;rw[zj] at h;obtain⟨m,e5,rfl⟩:=h;have Fi:=λcs C s₀ H₀ ex=>F.inner (scope:=scope) (Ym q.2) (u3 ok).kind cs C s₀ H₀ ex
      exact⟨tg,it,ifs,N',rfl,by rw[F.sc,F.N];exact ok,q.1,rK F (hE _ _ F false) e2,λcs C s₀ H₀ ex=>su (Fi cs C s₀ H₀ ex) e3,λcs C s₀ H₀ ex=>K9 (hT _ _ (Fi cs C s₀ H₀ ex)) e4,λcs C s₀ H₀ ex=>hE _ _ (Fi cs C s₀ H₀ ex) _ _ _ e5⟩
     .cases h
    .cases h
   .cases h
  .cases h
 .cases h
end
noncomputable def ZV(Γ:RC)(E:Expr->Option ME)(a:Expr)(op:CmpOp)(b:Expr):Option ME:=if behindInMarks op b=true then none else (W2 op).bind λf=>(E a).bind λma=>(E b).map λmb=>zi f ma mb
noncomputable def KD(E:Expr->Option ME)(a:Expr)(op op':CmpOp)(b c:Expr):Option ME:=
 if lastMarks [op,op'] [b,c]=true then none else (W2 op).bind λf=>(W2 op').bind λg=>(E a).bind λma=>(E b).bind λmb=>(E c).map λmc=>u5 f g ma mb mc
noncomputable def ZM(Γ:RC)(E:Expr->Option ME)(a:Expr)(ops:List CmpOp)(bs:List Expr):Option ME:=match ops,bs with
 | [op],[b]=>ZV Γ E a op b
 | [op,op'],[b,c]=>KD E a op op' b c
 | _,_=>none
noncomputable def Kz(E:Expr->Option ME):Option Expr->Option (Option ME)
 | none=>some none
 | some e=>(E e).map some
noncomputable def rO(E:Expr->Option ME)(ma:ME)(lo hi st:Option Expr):Option ME:=match st with
 | none=>(Kz E lo).bind λml=>(Kz E hi).map λmh=>uB ma ml mh
 | _=>none
noncomputable def nk(Γ:RC)(E:Expr->Option ME)(a b:Expr):Option ME:=match a with
 | .Name x _=>if (xT Γ.sc x&&be b)=true then (match Γ.tab.lookup x with
  | some l=>(E b).map (uf (bp l))
  | none=>none) else none
 | _=>none
noncomputable def WW(Γ:RC):Expr->Bool
 | .Name x _=>Γ.dic.any (· == x)
 | .Attribute _ f _=>Γ.dic.any (· == f)
 | _=>false
noncomputable def Z6(Γ:RC)(mu:Bool)(p:Pos):Bool:=mu||Γ.mka.any (· == (p.line,p.col))
noncomputable def Vn(Γ:RC)(E:Expr->Option ME)(a b:Expr):Option ME:=match nk Γ E a b with
 | some m=>some m
 | none=>(E a).bind λma=>match b with
  | .Slice lo hi st _=>rO E ma lo hi st
  | b=>(E b).map (zi (match WW Γ a with
   | true=>qv
   | false=>zv) ma)
noncomputable def lK(op:BoolOp)(T:Expr->Option MT):List Expr->Option MT
 | []=>none
 | [a]=>T a
 | a::r=>(T a).bind λma=>(lK op T r).map λmb=>match op with
  | .And=>uR ma mb
  | .Or=>lq ma mb
noncomputable def KC(E:Expr->Option ME)(mu:Bool)(ks:List (Option Expr))(vs:List Expr):Option ME:=match ks,vs with
 | [],[]=>some (eC (.fdc []))
 | _,_=>none
noncomputable def Wj(Γ:RC)(E:Expr->Option ME)(x:Str)(a:Expr)(as:List Expr):Option ME:=
 if (xT Γ.sc x&&be a)=true then (match Γ.way.lookup x,as with
  | some ws,_::_=>(E a).bind λma=>(aE E as).map (Kt ws ma)
  | _,_=>none) else none
noncomputable def l8(mu:Bool)(r:CompR):ME:=match mu with
 | true=>xD r.mi r.nl r.ks r.g r.t r.m
 | false=>ja r.mi r.nl r.ks r.g r.t r.m
noncomputable def ZU(E:RC->Bool->Expr->Option ME)(T:RC->Expr->Option MT)(Γ:RC)(mu:Bool):Expr->Option ME
 | .Name x _=>ZY Γ x
 | .Constant c _ _=>rW c
 | .UnaryOp .USub a _=>(E Γ false a).map (uf gQ)
 | .BinOp a op b _=>(Ut mu op).bind λf=>(E Γ false a).bind λma=>(E Γ false b).map (zi f ma)
 | .Compare a ops bs _=>ZM Γ (E Γ false) a ops bs
 | .IfExp t a b _=>(T Γ t).bind λmt=>(E Γ false a).bind λma=>(E Γ false b).map (Zc mt ma)
 | .Tuple es _ _=>(aE (E Γ false) es).map (zh zw)
 | .List es p=>match Z6 Γ mu p with
  | true=>(aE (E Γ true) es).map (zh xU)
  | false=>(aE (E Γ false) es).map (zh j1)
 | .Dict ks vs p=>KC (E Γ false) (Z6 Γ mu p) ks vs
 | .Subscript a b _=>Vn Γ (E Γ false) a b
 | .Attribute o f _=>if pC o=true then (E Γ false o).map (kN Γ.fld f) else none
 | .Call (.Subscript (.Name x _) a _) as [] _=>Wj Γ (E Γ false) x a as
 | .Call (.Name x _) as [] p=>pS Γ (E Γ false) (Z6 Γ mu p) x as
 | .Call (.Attribute o nm apos) as [] pos=>ZQ Γ (E Γ false) (E Γ true) o nm apos as pos
 | .ListComp elt gens scope pos=>(oH Γ E T elt gens scope pos).map (l8 (Z6 Γ mu pos))
 | _=>none
noncomputable def stepT(E:RC->Bool->Expr->Option ME)(T:RC->Expr->Option MT)(Γ:RC):Expr->Option MT
 | .BoolOp op vs _=>lK op (T Γ) vs
 | .Compare a ops bs _=>(ZM Γ (E Γ false) a ops bs).map ke
 | e=>if plainT e=true then (E Γ false e).map ke else none
noncomputable def oa:Nat->(RC->Bool->Expr->Option ME)×(RC->Expr->Option MT)
 | 0=>(λ_ _ _=>none,λ_ _=>none)
 | n+1=>(ZU (oa n).1 (oa n).2,stepT (oa n).1 (oa n).2)
section
variable{Γ:RC}{cl:Cl}{k:Nat}{X:Cx}{m:ME}{pos p:Pos}{E:Expr->Option ME}{T:Expr->Option MT}{a b:Expr}{mu:Bool}
def VO(F:Fits Γ cl k X)(hE:∀e m,E e=some m->SE X cl e m)(h:ZV Γ E a op b=some m):SE X cl (.Compare a [op] [b] pos) m/\ST X cl (.Compare a [op] [b] pos) (ke m):=by
 unfold ZV at h;split at h
 .cases h
 .rename_i hm
  rw[Bool.not_eq_true] at hm;rw[zy] at h;obtain⟨f,e0,h⟩:=h;rw[zy] at h;obtain⟨ma,e1,h⟩:=h;rw[zj] at h;obtain⟨mb,e2,rfl⟩:=h;exact⟨CL (dQ F.room.units e0) (hE _ _ e1) (hE _ _ e2) hm,Cj (dQ F.room.units e0) (hE _ _ e1) (hE _ _ e2) hm⟩
def Wi{c:Expr}(F:Fits Γ cl k X)(hE:∀e m,E e=some m->SE X cl e m)(h:KD E a op op' b c=some m):SE X cl (.Compare a [op,op'] [b,c] pos) m/\ST X cl (.Compare a [op,op'] [b,c] pos) (ke m):=by
 unfold KD at h;split at h
 .cases h
 .rename_i hm
  rw[Bool.not_eq_true] at hm;rw[zy] at h;obtain⟨f,e0,h⟩:=h;rw[zy] at h;obtain⟨g,e01,h⟩:=h;rw[zy] at h;obtain⟨ma,e1,h⟩:=h;rw[zy] at h;obtain⟨mb,e2,h⟩:=h;rw[zj] at h;obtain⟨mc,e3,rfl⟩:=h;exact⟨V5 (dQ F.room.units e0) (dQ F.room.units e01) (hE _ _ e1) (hE _ _ e2) (hE _ _ e3) hm,Wv (dQ F.room.units e0) (dQ F.room.units e01) (hE _ _ e1) (hE _ _ e2) (hE _ _ e3) hm⟩
def ZL{bs:List Expr}(F:Fits Γ cl k X)(hE:∀e m,E e=some m->SE X cl e m)(h:ZM Γ E a ops bs=some m):SE X cl (.Compare a ops bs pos) m/\ST X cl (.Compare a ops bs pos) (ke m):=by
 unfold ZM at h;split at h
 .exact VO F hE h
 .exact Wi F hE h
 .cases h
def Zh(hE:∀e m,E e=some m->SE X cl e m)(h:Kz E o=some mo):SO X cl o mo:=by
 unfold Kz at h;split at h
 .cases h;exact XX
 .rw[zj] at h
  obtain⟨m,e1,rfl⟩:=h;exact Yy (hE _ _ e1)
def Jw{ma:ME}{lo hi st:Option Expr}(hE:∀e m,E e=some m->SE X cl e m)(ha:SE X cl a ma)(h:rO E ma lo hi st=some m):SE X cl (.Subscript a (.Slice lo hi st p) pos) m:=by
 unfold rO at h;split at h
 .rw[zy] at h
  obtain⟨ml,e1,h⟩:=h;rw[zj] at h;obtain⟨mh,e2,rfl⟩:=h;exact CV ha (Zh hE e1) (Zh hE e2)
 .cases h
def Z2(F:Fits Γ cl k X)(hE:∀e m,E e=some m->SE X cl e m)(h:nk Γ E a b=some m):SE X cl (.Subscript a b pos) m:=by
 unfold nk at h;split at h
 .split at h
  .rename_i q
   rw[zx] at q;split at h
   .rename_i l e
    rw[zj] at h;obtain⟨mb,e1,rfl⟩:=h;exact FZ q.1 F.room.units (F.base.tab.at e) (hE _ _ e1) F.sc (oN q.2)
   .cases h
  .cases h
 .cases h
def XI(F:Fits Γ cl k X)(hE:∀e m,E e=some m->SE X cl e m)(h:Vn Γ E a b=some m):SE X cl (.Subscript a b pos) m:=by
 unfold Vn at h;split at h
 .rename_i m' e
  cases h;exact Z2 F hE e
 .rw[zy] at h
  obtain⟨ma,e1,h⟩:=h;split at h
  .exact Jw hE (hE _ _ e1) h
  .rename_i hb
   rw[zj] at h;obtain⟨mb,e2,h⟩:=h;have hn:be b=true:=by cases b<;>first | rfl | exact absurd rfl (hb _ _ _ _)
   cases q:WW Γ a with
   | true=>rw[q] at h;subst h;exact UE F.room.units (hE _ _ e1) (hE _ _ e2) (oN hn)
   | false=>rw[q] at h;subst h;exact Dz (hE _ _ e1) (hE _ _ e2) (oN hn)
theorem ou(hT:∀e m,T e=some m->ST X cl e m):∀{vs:List Expr} {m:MT},lK op T vs=some m->SW X cl (.BoolOp op vs pos) m
 | [],m,h=>by cases h
 | [a],m,h=>by
  cases op with
  | And=>exact Uh (hT _ _ h)
  | Or=>exact U3 (hT _ _ h)
 | a::b::r,m,h=>by
  unfold lK at h;rw[zy] at h;obtain⟨ma,e1,h⟩:=h;rw[zj] at h;obtain⟨mb,e2,h⟩:=h;have ih:=ou hT e2;cases op with
  | And=>subst h;exact Bv (hT _ _ e1) ih
  | Or=>subst h;exact Di (hT _ _ e1) ih
def VL(hE:∀e m,E e=some m->SE X cl e m)(h:KC E mu ks vs=some m):SE X cl (.Dict ks vs pos) m:=by
 unfold KC at h;split at h
 .cases h;exact YL
 .cases h
def XF(F:Fits Γ cl k X)(hE:∀e m,E e=some m->SE X cl e m)(h:Wj Γ E x a as=some m):SE X cl (.Call (.Subscript (.Name x p) a p2) as [] pos) m:=by
 unfold Wj at h;split at h
 .rename_i q
  rw[zx] at q;split at h
  .rename_i ws a1 r e0
   rw[zy] at h;obtain⟨ma,e1,h⟩:=h;rw[zj] at h;obtain⟨ms,e2,rfl⟩:=h;obtain⟨hn,ha⟩:=ur hE e2;rw[ju,zx] at hn;exact Ba F.room.units (F.base.way.at e0) F.room (hE _ _ e1) ha (oN q.2) (j3 q.1 F.sc).1 (j3 q.1 F.sc).2.1 (kM hn.1) (j2 hn.2)
  .cases h
 .cases h
end
section
variable{Γ:RC}{cl:Cl}{k:Nat}{X:Cx}{m:ME}{pos p:Pos}{E:RC->Bool->Expr->Option ME}{T:RC->Expr->Option MT}{mu:Bool}
def nO(F:Fits Γ cl k X)(g:CompG X cl elt gens scope r):SE X cl (.ListComp elt gens scope pos) (l8 mu r):=by
 obtain⟨tg,it,ifs,N',rfl,ok,hs,hi,hg,ht,he⟩:=g.ex;cases mu with
 | true=>exact VJ _ _ N' r.nl r.ks F.calm ok hi hg ht he rfl rfl (u6 hs)
 | false=>exact YT _ _ N' r.nl r.ks F.calm ok hi hg ht he rfl rfl (u6 hs)
def Vw(hE:∀Γ X,Fits Γ cl k X->∀mu e m,E Γ mu e=some m->SE X cl e m)(hT:∀Γ X,Fits Γ cl k X->∀e m,T Γ e=some m->ST X cl e m)(F:Fits Γ cl k X)(h:ZU E T Γ mu e=some m):SE X cl e m:=by
 have hE':=hE _ _ F;have hF:=hE' false;have hT':=hT _ _ F;unfold ZU at h;cases e with
 | Name a0 a1=>
  exact V7 F h
 | Constant a0 a1 a2=>
  exact Qf h
 | UnaryOp a0 a1 a2=>
  cases a0 with
  | USub=>
   dsimp only at h;rw[Option.map_eq_some_iff] at h;obtain⟨ma,e1,rfl⟩:=h;exact Du XY (hF _ _ e1)
  | _=>cases h
 | BinOp a0 a1 a2 a3=>
  dsimp only at h;rw[Option.bind_eq_some_iff] at h;obtain⟨f,e0,h⟩:=h;rw[zy] at h;obtain⟨ma,e1,h⟩:=h;rw[zj] at h;obtain⟨mb,e2,rfl⟩:=h;exact C9 (Ur e0) (hF _ _ e1) (hF _ _ e2)
 | Compare a0 a1 a2 a3=>
  exact(ZL F hF h).1
 | IfExp a0 a1 a2 a3=>
  dsimp only at h;rw[Option.bind_eq_some_iff] at h;obtain⟨mt,e0,h⟩:=h;rw[zy] at h;obtain⟨ma,e1,h⟩:=h;rw[zj] at h;obtain⟨mb,e2,rfl⟩:=h;exact Dl (hT' _ _ e0) (hF _ _ e1) (hF _ _ e2)
 | Tuple a0 a1 a2=>
  dsimp only at h;rw[Option.map_eq_some_iff] at h;obtain⟨ms,e1,rfl⟩:=h;exact BS (ur hF e1).2
 | List a0 a1=>
  dsimp only at h;split at h
  .obtain⟨ms,e1,rfl⟩:=zj.mp h
   exact BQ (ur (hE' true) e1).2
  .obtain⟨ms,e1,rfl⟩:=zj.mp h
   exact Br (ur hF e1).2
 | Dict a0 a1 a2=>
  exact VL hF h
 | Subscript a0 a1 a2=>
  exact XI F hF h
 | Attribute a0 a1 a2=>
  dsimp only at h;split at h
  .rename_i q
   rw[zj] at h;obtain⟨mo,e1,rfl⟩:=h;exact Cz F.base.cls (hF _ _ e1) (uJ q)
  .cases h
 | Call a0 a1 a2 a3=>
  cases a0 with
  | Subscript b0 b1 b2=>
   cases b0 with
   | Name c0 c1=>
    cases a2 with
    | nil=>
     exact XF F hF h
    | cons _ _=>cases h
   | _=>cases h
  | Name b0 b1=>
   cases a2 with
   | nil=>
    exact JZ F hF h
   | cons _ _=>cases h
  | Attribute b0 b1 b2=>
   cases a2 with
   | nil=>
    exact Vg F hF (hE' true) h
   | cons _ _=>cases h
  | _=>cases h
 | ListComp a0 a1 a2 a3=>
  dsimp only at h;rw[Option.map_eq_some_iff] at h;obtain⟨r,e1,rfl⟩:=h;exact nO F (pT F hE hT e1)
 | _=>cases h
def V8(hE:∀Γ X,Fits Γ cl k X->∀mu e m,E Γ mu e=some m->SE X cl e m)(hT:∀Γ X,Fits Γ cl k X->∀e m,T Γ e=some m->ST X cl e m)(F:Fits Γ cl k X){t:MT}(h:stepT E T Γ e=some t):ST X cl e t:=by
 have hF:=hE _ _ F false;have hT':=hT _ _ F;unfold stepT at h;split at h
 .exact X1 (ou hT' h)
 .rw[zj] at h
  obtain⟨ma,e1,rfl⟩:=h;exact(ZL F hF e1).2
 .split at h
  .rename_i q
   rw[zj] at h;obtain⟨ma,e1,rfl⟩:=h;exact UH (hF _ _ e1) (QT q)
  .cases h
theorem fb:∀n,(∀Γ X,Fits Γ cl k X->∀mu e m,(oa n).1 Γ mu e=some m->SE X cl e m)/\(∀Γ X,Fits Γ cl k X->∀e m,(oa n).2 Γ e=some m->ST X cl e m)
 | 0=>⟨λ_ _ _ _ _ _ h=>(by cases h),λ_ _ _ _ _ h=>(by cases h)⟩
 | n+1=>⟨λΓ X F mu e m h=>Vw (fb n).1 (fb n).2 F h,λΓ X F e m h=>V8 (fb n).1 (fb n).2 F h⟩
end
def CB{i:Expr}(h:be i=true):∀v,assign (.Subscript o i pos) env v=(do
   let ov <-holding [v] (eval o env)
   let iv <-holding [v,ov] (eval i env)
   standAt pos
   holding [v,ov,iv] (setItem ov iv v)
   release [v,ov,iv] []):=by
 intro v;cases i<;>first | (cases h;done) | kernel_rfl
theorem tH{i:Expr}:swappedStores [.Subscript o i p] e env=pure none:=rfl
noncomputable def oF(Γ:RC)(x:Str):Bool:=Γ.own.any (· == x)
noncomputable def oJ(Γ:RC)(x:Str)(px:Pos)(scope:Scope)(cpos:Pos):Bool:=Γ.sc.names.lookup x==some .local&&px.line==cpos.line && !(scope.names.any λ(n,k)=>n==x&&(k==.local||k==.cell))
noncomputable def KA(Γ:RC)(E:RC->Bool->Expr->Option ME)(T:RC->Expr->Option MT)(x:Str):Expr->Option ME
 | .ListComp elt gens scope cpos=>(oH Γ E T elt gens scope cpos).map (l8 (oF Γ x))
 | v=>if gU v=true then E Γ (oF Γ x) v else none
noncomputable def VB(Γ:RC)(E:RC->Bool->Expr->Option ME)(T:RC->Expr->Option MT)(tg v:Expr):Option MS:=match tg with
 | .Name x _=>match pE x Γ.N with
  | some i=>if (setB Γ.sc Γ.N i x && !Γ.inC)=true then (KA Γ E T x v).map λm=>zI m (zC i) else none
  | none=>none
 | .Subscript o i p=>if (gU v&&be i)=true then (E Γ false v).bind λm=>(E Γ false o).bind λmo=>(E Γ false i).map λmi=>zI m (uk mo mi) else none
 | .Attribute o f _=>if gU v=true then (E Γ (oF Γ f) v).bind λm=>(E Γ false o).map λmo=>zI m (x6 Γ.fld f mo) else none
 | .Tuple es n p=>if WH v=true then (E Γ false v).bind λm=>(KR Γ (.Tuple es n p)).map λg=>zI m g else none
 | _=>none
noncomputable def V6(Γ:RC)(E:RC->Bool->Expr->Option ME)(tg:Expr)(op:Operator)(v:Expr):Option MS:=match tg,op with
 | .Attribute o f _,.Add=>(E Γ false o).bind λmo=>(E Γ false v).map (lX Γ.fld f mW mo)
 | _,_=>none
noncomputable def W5:MS:=λ_ _=>none
def XO{X:Cx}{cl:Cl}{st:Stmt}:SS X cl st W5:=by
 rintro pins s σ H D I ⟨μ,h,ρ,fl,h',R,er,e,k⟩;cases e
noncomputable def ZT(E:RC->Bool->Expr->Option ME)(T:RC->Expr->Option MT)(B:RC->List Stmt->Option MS)(Γ:RC):Stmt->Option MS
 | .Return (some e) _=>(E Γ false e).map ku
 | .Pass _=>some kL
 | .Raise ..=>some W5
 | .Expr e _=>if gU e=true then (E Γ false e).map kx else none
 | .If c a b _=>(T Γ c).bind λt=>(B Γ a).bind λma=>(B Γ b).map (jp t ma)
 | .While c body [] _=>(T Γ c).bind λt=>(B Γ body).map (ua t)
 | .For tg it body [] _=>if oO it=true then (oC Γ (E Γ false) tg it).bind λmi=>(KR Γ tg).bind λg=>(B Γ body).map (yY mi g) else none
 | .Assign [tg] v _=>VB Γ E T tg v
 | .AugAssign tg op v _=>V6 Γ E tg op v
 | _=>none
noncomputable def blk(S:Stmt->Option MS):List Stmt->Option MS
 | []=>some kL
 | [s]=>S s
 | s::r=>(S s).bind λa=>(blk S r).map (zo a)
noncomputable def cS:Nat->RC->Stmt->Option MS
 | 0=>λ_ _=>none
 | n+1=>ZT (oa 40).1 (oa 40).2 (λΓ=>blk (cS n Γ))
noncomputable def cB(Γ:RC)(bd:List Stmt):Option MS:=blk (cS 12 Γ) bd
section
variable{Γ:RC}{cl:Cl}{k:Nat}{X:Cx}{pos p:Pos}{E:RC->Bool->Expr->Option ME}{T:RC->Expr->Option MT}{B:RC->List Stmt->Option MS}{ms:MS}
theorem KN{scope:Scope}{cpos px:Pos}{env:Env}:swapsWith (.ListComp elt gens scope cpos) (some (.Name x px)) l env=pure (env.blockKind==.function&&env.kindOf x==some .local&&px.line==cpos.line && !(scope.names.any λ(n,k)=>n==x&&(k==.local||k==.cell))):=rfl
def Vr(hE:∀Γ X,Fits Γ cl k X->∀mu e m,E Γ mu e=some m->SE X cl e m)(hT:∀Γ X,Fits Γ cl k X->∀e m,T Γ e=some m->ST X cl e m)(F:Fits Γ cl k X)(hc:Γ.inC=false){i:Nat}(hb:setB Γ.sc Γ.N i x=true)(h:KA Γ E T x v=some m):SS X cl (.Assign [.Name x px] v pos) (zI m (zC i)):=by
 have hNd:=F.N▸F.nd;unfold KA at h;split at h
 .rename_i elt gens scope cpos
  rw[zj] at h;obtain⟨r,e1,rfl⟩:=h;have g:=pT F hE hT e1;have hk:X.env.blockKind=.function:=by
   unfold Env.blockKind;rw[F.sc,F.kind];rfl
  have hsw:=KN (elt:=elt) (gens:=gens) (scope:=scope) (cpos:=cpos) (px:=px) (x:=x) (l:=pos.line) (env:=X.env);have he:(X.env.blockKind==.function&&X.env.kindOf x==some .local&&px.line==cpos.line && !(scope.names.any λ(n,k)=>n==x&&(k==.local||k==.cell)))=oJ Γ x px scope cpos:=by
   rw[hk];unfold oJ;rw[<-F.sc];rfl
  rw[he] at hsw;cases q:oJ Γ x px scope cpos with
  | false=>
   rw[q] at hsw;exact s_ hb hNd (nO F g) F.sc F.N (F.fn hc _) hsw
  | true=>
   rw[q] at hsw;obtain⟨tg,it,ifs,N',rfl,ok,hs,hi,hg,ht,hee⟩:=g.ex;have hx:X.env.kindOf x=some .local:=by
    unfold oJ at q;simp only[zx,qd] at q;have:=q.1.1;rw[<-F.sc] at this;exact this
   have hix:X.N[i]?=some x:=by
    unfold setB at hb;simp only[zx,qd] at hb;rw[F.N];exact hb.1
   unfold l8;cases oF Γ x with
   | true=>exact QH i _ _ N' r.nl r.ks F.nd F.calm ok hi hg ht hee rfl rfl (u6 hs) hix hx hsw
   | false=>exact Xl i _ _ N' r.nl r.ks F.nd F.calm ok hi hg ht hee rfl rfl (u6 hs) hix hx hsw
 .split at h
  .rename_i q
   exact s_ hb hNd (hE _ _ F _ _ _ h) F.sc F.N (F.fn hc _) (fT q)
  .cases h
theorem Jf:swapsWith v (some (.Tuple es n p)) l env=pure false:=by
 unfold swapsWith;cases v<;>rfl
def X2(hE:∀Γ X,Fits Γ cl k X->∀mu e m,E Γ mu e=some m->SE X cl e m)(hT:∀Γ X,Fits Γ cl k X->∀e m,T Γ e=some m->ST X cl e m)(F:Fits Γ cl k X)(h:VB Γ E T tg v=some ms):SS X cl (.Assign [tg] v pos) ms:=by
 unfold VB at h;split at h
 .split at h
  .split at h
   .rename_i q
    rw[zx,q8] at q;rw[zj] at h;obtain⟨m,e1,rfl⟩:=h;exact Vr hE hT F q.2 q.1 e1
   .cases h
  .cases h
 .split at h
  .rename_i q
   rw[zx] at q;rw[zy] at h;obtain⟨m,e1,h⟩:=h;rw[zy] at h;obtain⟨mo,e2,h⟩:=h;rw[zj] at h;obtain⟨mi,e3,rfl⟩:=h;exact J8 (hE _ _ F _ _ _ e1) (UV F.room.units (hE _ _ F _ _ _ e2) (hE _ _ F _ _ _ e3) (CB q.2)) ((show swapsWithSole [_] v pos.line X.env=swapsWith v (some _) pos.line X.env from rfl).trans (fT q.1)) tH (by rw[ue rfl,aS];rfl)
  .cases h
 .split at h
  .rename_i q
   rw[zy] at h;obtain⟨m,e1,h⟩:=h;rw[zj] at h;obtain⟨mo,e2,rfl⟩:=h;exact Cq F.base.cls (hE _ _ F _ _ _ e1) (hE _ _ F _ _ _ e2) (fT q)
  .cases h
 .split at h
  .rename_i q
   rw[zy] at h;obtain⟨m,e1,h⟩:=h;rw[zj] at h;obtain⟨g,e2,rfl⟩:=h;exact J8 (hE _ _ F _ _ _ e1) (su F e2) ((show swapsWithSole [_] v pos.line X.env=swapsWith v (some _) pos.line X.env from rfl).trans Jf) (Ky q) (by rw[ue rfl,aS];rfl)
  .cases h
 .cases h
def Xr(hE:∀Γ X,Fits Γ cl k X->∀mu e m,E Γ mu e=some m->SE X cl e m)(F:Fits Γ cl k X)(h:V6 Γ E tg op v=some ms):SS X cl (.AugAssign tg op v pos) ms:=by
 unfold V6 at h;split at h
 .rw[zy] at h
  obtain⟨mo,e1,h⟩:=h;rw[zj] at h;obtain⟨m,e2,rfl⟩:=h;exact Jd F.base.cls (hE _ _ F _ _ _ e2) (hE _ _ F _ _ _ e1)
 .cases h
def Ve(hE:∀Γ X,Fits Γ cl k X->∀mu e m,E Γ mu e=some m->SE X cl e m)(hT:∀Γ X,Fits Γ cl k X->∀e m,T Γ e=some m->ST X cl e m)(hB:∀Γ X,Fits Γ cl k X->∀b m,B Γ b=some m->SB X cl b m)(F:Fits Γ cl k X){st:Stmt}(h:ZT E T B Γ st=some ms):SS X cl st ms:=by
 have hF:=hE _ _ F false;have hT':=hT _ _ F;have hB':=hB _ _ F;unfold ZT at h;cases st with
 | Return a0 a1=>
  cases a0 with
  | none=>cases h
  | some b0=>
   dsimp only at h;rw[Option.map_eq_some_iff] at h;obtain⟨m,e1,rfl⟩:=h;exact Bw (hF _ _ e1)
 | Pass a0=>
  dsimp only at h;cases h;exact Xk
 | Raise a0 a1 a2=>
  dsimp only at h;cases h;exact XO
 | Expr a0 a1=>
  dsimp only at h;split at h
  .rename_i q
   rw[zj] at h;obtain⟨m,e1,rfl⟩:=h;exact Xe (hF _ _ e1) (fT q)
  .cases h
 | If a0 a1 a2 a3=>
  dsimp only at h;rw[Option.bind_eq_some_iff] at h;obtain⟨t,e0,h⟩:=h;rw[zy] at h;obtain⟨ma,e1,h⟩:=h;rw[zj] at h;obtain⟨mb,e2,rfl⟩:=h;exact DF (hT' _ _ e0) (hB' _ _ e1) (hB' _ _ e2)
 | While a0 a1 a2 a3=>
  cases a2 with
  | cons _ _=>cases h
  | nil=>
   dsimp only at h;rw[Option.bind_eq_some_iff] at h;obtain⟨t,e0,h⟩:=h;rw[zj] at h;obtain⟨mb,e2,rfl⟩:=h;exact QK (hT' _ _ e0) (hB' _ _ e2) F.pass
 | For a0 a1 a2 a3 a4=>
  cases a3 with
  | cons _ _=>cases h
  | nil=>
   dsimp only at h;split at h
   .rename_i q
    rw[zy] at h;obtain⟨mi,e0,h⟩:=h;rw[zy] at h;obtain⟨g,e1,h⟩:=h;rw[zj] at h;obtain⟨mb,e2,rfl⟩:=h;exact Ce F.calm (rK F hF e0) (su F e1) (hB' _ _ e2) (u6 q) F.pass
   .cases h
 | Assign a0 a1 a2=>
  cases a0 with
  | nil=>cases h
  | cons b0 b1=>
   cases b1 with
   | cons _ _=>cases h
   | nil=>
    exact X2 hE hT F h
 | AugAssign a0 a1 a2 a3=>
  exact Xr hE F h
 | _=>cases h
theorem sC(hS:∀s m,S s=some m->SS X cl s m):∀{b:List Stmt} {m:MS},blk S b=some m->SB X cl b m
 | [],m,h=>by cases h;exact BR
 | [s],m,h=>B2 (hS _ _ h)
 | s::s'::r,m,h=>by
  unfold blk at h;rw[zy] at h;obtain⟨ma,e1,h⟩:=h;rw[zj] at h;obtain⟨mb,e2,rfl⟩:=h;exact Xf (hS _ _ e1) (sC hS e2)
theorem WB:∀(n:Nat) (Γ:RC) (X:Cx),Fits Γ cl k X->∀s m,cS n Γ s=some m->SS X cl s m
 | 0,_,_,_,_,_,h=>by cases h
 | n+1,Γ,X,F,s,m,h=>Ve (fb 40).1 (fb 40).2 (λΓ X F b m h=>sC (WB n Γ X F) h) F h
def CZ(F:Fits Γ cl k X)(h:cB Γ bd=some ms):SB X cl bd ms:=sC (WB 12 Γ X F) h
end
def UQ{P:Program}{w:World}{K:PySem.W.Frag}{mg:Str->Option Value}{base:Heap}{cl:Cl}{x qual:Str}{st:Stmt}{f:Addr}{fd:FuncData}{ps:List Str}{k np ns:Nat}{b:MS}(Γ:RC){bd:List Stmt}(F:Fun K x qual st f fd)(hsc:kD st=Γ.sc)(hbd:kU st=bd)(S:FnScope Γ.N ps Γ.sc)(hnp:ps.length=np)(hns:Γ.N.length-np=ns)
  (hc:Γ.inC=false) (B:BaseOk P w K mg base cl k Γ) (hb:cB Γ bd=some b):FnOk P w K mg base x8 (k+1) f fd ps (xh K cl (gc (kd np ns b))):=
 Uo F hsc hbd S hnp hns λcdv A outer s H E hr=>CZ (k:=k) ⟨rfl,rfl,S.nd,λ_ _=>rfl,S.kind,rfl,wR,hr,B⟩ hb
structure Def where
 x:Str
 qual:Str
 st:Stmt
 ps:List Str
 N:List Str
 own:List Str
 txt:List Str
 cmp:List ((Nat×Nat)×List Str)
 dic:List Str
 mka:List (Nat×Nat)
noncomputable def ul(N ps:List Str)(sc:Scope):Bool:=sc.kind==.function && !sc.isCoroutine && !sc.isGenerator&&oV N&&N.take ps.length==ps&&ps.all (Kh sc)&&sc.names.all λy=>y.2 != .free
def Kv(h:ul N ps sc=true):FnScope N ps sc:=by
 unfold ul at h;simp only[zx,q8,qd] at h;obtain⟨⟨⟨⟨⟨⟨h1,h2⟩,h3⟩,h4⟩,h5⟩,h6⟩,h7⟩:=h;exact⟨h1,h2,h3,Ym h4,h5,λx hx=>mJ (kJ.mp h6 x hx),λy hy=>by simpa using kJ.mp h7 y hy⟩
noncomputable def HB(x qual:Str)(st:Stmt)(ps:List Str)(us:List Value):Prop:=∀(kV doc pm:Value) (an:Option Addr) (cdv ct:Value),bindArgs (PySem.W.fnOf x qual (va st) (kU st) (kD st) .none kV doc pm an cdv ct) ⟨us,[]⟩=pure (ps.zip us)
noncomputable def ef(x qual:Str)(st:Stmt)(ps:List Str):Prop:=∀us:List Value,us.length=ps.length->HB x qual st ps us
section
variable{x qual:Str}{st:Stmt}{ps:List Str}
def hb1(h:∀a,HB x qual st ps [a])(hl:↥(ps.length=1)):ef x qual st ps:=λus e=>match us,e.trans hl with
 | [_],_=>h _
def hb2(h:∀a b,HB x qual st ps [a,b])(hl:↥(ps.length=2)):ef x qual st ps:=λus e=>match us,e.trans hl with
 | [_,_],_=>h _ _
def hb3(h:∀a b c,HB x qual st ps [a,b,c])(hl:↥(ps.length=3)):ef x qual st ps:=λus e=>match us,e.trans hl with
 | [_,_,_],_=>h _ _ _
def hb4(h:∀a b c d,HB x qual st ps [a,b,c,d])(hl:↥(ps.length=4)):ef x qual st ps:=λus e=>match us,e.trans hl with
 | [_,_,_,_],_=>h _ _ _ _
def hb5(h:∀a b c d e,HB x qual st ps [a,b,c,d,e])(hl:↥(ps.length=5)):ef x qual st ps:=λus e=>match us,e.trans hl with
 | [_,_,_,_,_],_=>h _ _ _ _ _
end
structure DTxt(K:PySem.W.Frag)(d:Def)(a:Addr)(fd:FuncData):Prop where
 F:Fun K d.x d.qual d.st a fd
 B:Binds K fd d.ps []
noncomputable def iC(K:PySem.W.Frag)(mg:Str->Option Value)(d:Def):Prop:=∃a fd,DTxt K d a fd/\mg d.x=some (.ref a)
noncomputable def um(K:PySem.W.Frag)(cl:Cl)(c:Nat)(d:Def):Prop:=∃a fd,DTxt K d a fd/\Meth K (cl.c c) d.x a/\Cls K (cl.c c)
noncomputable def mX(K:PySem.W.Frag)(mg:Str->Option Value)(cl:Cl)(x:Str)(c:Nat)(d:Def):Prop:=∃a fd,DTxt K d a fd/\mg x=some (.ref (cl.c c))/\Mk K (cl.c c) a
def ZH{K:PySem.W.Frag}{d:Def}(hb:ef d.x d.qual d.st d.ps){f:Addr}{kV:Value}
  (l:K.lookup f=some ⟨oc,od,.func (PySem.W.fnOf d.x d.qual (va d.st) (kU d.st) (kD d.st) .none kV doc pm an cdv ct),osl⟩) (c:PySem.W.codeIn K cdv d.qual=true) (k:PySem.W.keepIn K (.ref f)=true):∃fd,DTxt K d f fd:=by
 have F:=BX (st:=d.st) l c k;exact⟨_,F,F.binds λkV doc pm an cdv ct us hl=>hb us hl kV doc pm an cdv ct⟩
noncomputable def V4(P:Def->Prop):List Def->Prop
 | []=>True
 | d::r=>P d/\V4 P r
noncomputable def RC.at(Γ:RC)(d:Def):RC:=⟨kD d.st,d.N,false,Γ.fns,Γ.con,Γ.tab,Γ.bin,d.own,d.txt,d.cmp,d.dic,Γ.fld,Γ.mt,Γ.mks,d.mka,Γ.way⟩
section
variable{P:Program}{w:World}{K:PySem.W.Frag}{mg:Str->Option Value}{base:Heap}{cl:Cl}{n np ns:Nat}{Γ:RC}{d:Def}{b:MS}
def iG(T:DTxt K d a fd)(B:BaseOk P w K mg base cl n Γ)(hsc:ul d.N d.ps (kD d.st)=true)(hnp:d.ps.length=np)(hns:d.N.length-np=ns)(hb:cB (Γ.at d) (kU d.st)=some b):FnOk P w K mg base x8 (n+1) a fd d.ps (xh K cl (gc (kd np ns b))):=
 UQ (Γ.at d) T.F rfl rfl (Kv hsc) hnp hns rfl ⟨B.fns,B.con,B.tab,B.bin,B.pw,B.cls,B.mts,B.mks,B.way⟩ hb
def kP(T:iC K mg d)(B:BaseOk P w K mg base cl n Γ)(hsc:ul d.N d.ps (kD d.st)=true:=by kernel_rfl)(hnp:↥(d.ps.length=np))(hns:↥(d.N.length-np=ns))(hb:cB (Γ.at d) (kU d.st)=some b:=by kernel_rfl):FnAt P w K mg base cl (n+1) d.x (gc (kd np ns b)):=by
 obtain⟨a,fd,T,m⟩:=T;exact⟨a,fd,d.ps,iG T B hsc hnp hns hb,m,T.F.kp,T.B⟩
def mH:FnOk P w K mg base x8 0 a fd ps (xh K cl λ_ _=>none):=by
 have no:∀vs H Q E,¬xh K cl (λ_ _=>none) vs H Q E:=λvs H Q E ⟨μ,h,ws,w,h2,R,rs,e,k⟩=>by cases e
 exact⟨λvs H Q E h=>absurd h (no vs H Q E),λA outer s H args us vs Q E _ _ _ _ h=>absurd h (no vs H Q E)⟩
def kr(T:iC K mg d):FnAt P w K mg base cl 0 d.x λ_ _=>none:=by
 obtain⟨a,fd,T,m⟩:=T;exact⟨a,fd,d.ps,mH,m,T.F.kp,T.B⟩
def uH{c:Nat}(T:um K cl c d)(B:BaseOk P w K mg base cl n Γ)(hsc:ul d.N d.ps (kD d.st)=true:=by kernel_rfl)(hnp:↥(d.ps.length=np))(hns:↥(d.N.length-np=ns))(hb:cB (Γ.at d) (kU d.st)=some b:=by kernel_rfl):mM P w K mg base cl (n+1) c d.x (gc (kd np ns b)):=by
 obtain⟨a,fd,T,m,kc⟩:=T;exact⟨a,fd,d.ps,kc,m,iG T B hsc hnp hns hb,T.B⟩
def we{c:Nat}(T:um K cl c d):mM P w K mg base cl 0 c d.x λ_ _=>none:=by
 obtain⟨a,fd,T,m,kc⟩:=T;exact⟨a,fd,d.ps,kc,m,mH,T.B⟩
def Yl{c:Nat}(T:mX K mg cl x c d)(B:BaseOk P w K mg base cl n Γ)(hsc:ul d.N d.ps (kD d.st)=true:=by kernel_rfl)(hnp:↥(d.ps.length=np))(hns:↥(d.N.length-np=ns))(hb:cB (Γ.at d) (kU d.st)=some b:=by kernel_rfl):rh P w K mg base cl (n+1) x c (gc (kd np ns b)):=by
 obtain⟨a,fd,T,m,mk⟩:=T;exact⟨a,fd,d.ps,m,mk,iG T B hsc hnp hns hb,T.B⟩
end
section
variable{P:Program}{w:World}{K:PySem.W.Frag}{mg:Str->Option Value}{base:Heap}{cl:Cl}{d:Def}
def nQ{c:Nat}(T:mX K mg cl x c d):rh P w K mg base cl 0 x c λ_ _=>none:=by
 obtain⟨a,fd,T,m,mk⟩:=T;exact⟨a,fd,d.ps,m,mk,mH,T.B⟩
end
noncomputable def AllM(P:Nat->Str->(List W->M W)->Prop):mI->Prop
 | []=>True
 | ((c,m),g)::r=>P c m g/\AllM P r
theorem AllM.at{c:Nat}:∀{l:mI},AllM P l->l.lookup (c,m)=some g->P c m g
 | [],_,e=>by cases e
 | ((c',m'),g')::r,h,e=>by
  rw[kI] at e;cases q:((c,m)==(c',m')) with
  | true=>rw[q] at e;cases e;have:=eq_of_beq q;cases this;exact h.1
  | false=>rw[q] at e;exact AllM.at h.2 e
noncomputable def DT(g:List W->M W)(K:PySem.W.Frag):Sp:=λvs H Q E=>∀cl,xh K cl g vs H Q E
def Bo{f:List W->M W}(hf:∀ns:List Int,ns.length<=63->∃h',f [.fls (ns.map W.int)] []=some (.bl true,h'))(K:PySem.W.Frag)(H:Hp)(a:Addr)(ns:List Int)(hl:ns.length<=63)(hS:SqL K H a (ns.map V.int)):DT f K [.ref a] H (λv _=>v=.bl true) λ_ _ _=>False:=by
 intro cl;obtain⟨h',e⟩:=hf ns hl;refine⟨[],[],[.fls (ns.map W.int)],.bl true,h',⟨rfl,vO,λn a o e=>by simp at e⟩,.cons (.fls ?_ (RWs.ints ns)) .nil,e,λμ' H' v E R r=>r.bl_of⟩;rcases hS with hS | hS
 .exact .inl ⟨hS,by simp⟩
 .exact .inr hS
end ML
namespace ML
open PySem PySem.Spec PyProof.Rows PySem.W L2
noncomputable def Kw(h:Heap):PySem.W.Frag:=(List.range h.objs.size).filterMap λa=>(h.get? a).map λo=>(a,o)
theorem Kw.lookupAux(h:Heap)(a:Addr):∀l:List Nat,(l.filterMap λa=>(h.get? a).map λo=>(a,o)).lookup a=if a∈l then h.get? a else none
 | []=>by simp
 | b::l=>by
  cases q:h.get? b with
  | none=>
   rw[List.filterMap_cons_none (by rw[q];rfl),Kw.lookupAux h a l];by_cases e:a=b
   .subst e;simp[q]
   .simp[e]
  | some o=>
   rw[List.filterMap_cons_some (b:=(b,o)) (by rw[q];rfl),kI];by_cases e:a=b
   .subst e;simp[q]
   .have:(a==b)=false:=by simp[e]
    rw[this];simp only[];rw[Kw.lookupAux h a l];simp[e]
theorem Kw.lookup{h:Heap}:(Kw h).lookup a=h.get? a:=by
 unfold Kw;rw[Kw.lookupAux];split
 .rfl
 .rename_i n
  cases q:h.get? a with
  | none=>rfl
  | some o=>exact absurd (yE.mpr (zF q)) n
def Kw.in(h:Heap):(Kw h).In h:=λa o e=>Kw.lookup▸e
def VV{l:PySem.W.OpenLaw}{q:Program}{d:DefRec}{sp:World->PySem.W.Frag->Sp}
  (hn:l.most=some n) (hn2:n<=sizeLine) (hdf:d.params.defaults=[]) (hr:Room k callerA)
  (F:∀(w:World) (s₀:Shared) (mg mb:Str->Option Value) (fa:Addr) (h:Heap),Ground q loose [] XP w s₀ mg mb h->YP w h->mg d.name=some (.ref fa)->
   ∃fd:FuncData,(∀(s:Shared) (u:Value),BindsTo s fd ⟨[u],[]⟩ [(x,u)]) /\
    ∀base:Heap,(Kw h).In base->base.Ns mainGlobals mg->FnOk l.prog w (Kw h) mg base CX k fa fd [x] (sp w (Kw h)))
  (hsp:∀(w:World) (K:PySem.W.Frag) (H:Hp) (a:Addr) (ns:List Int),ns.length<=n->Only H->SqL K H a (ns.map V.int)->sp w K [.ref a] H (λv _=>v=.bl true) λ_ _ _=>False)
  (hCX:∀(H:Hp) (s:Shared) (e:Value) (s':Shared),CX [] H s (λ_ _ _=>False) e s'->False) :
  PySem.W.WalkO q loose XP YP l.row.toRowW d [] (λf vs=>PySem.call f vs):=by
 refine Att.attach_call hn hdf λw s₀ s₁ mg mb fa o pm cd doc a vs ns G Y ho hd hcd hmg hobj hints hlen hg=>?_
 obtain⟨fd,hb,hF⟩:=F w s₀ mg mb fa _ G Y hmg;exact QW (Kw.in _) G.T.g G.T.b G.T.builtins G.T.nolimit hg hobj hints (zT hlen hn2) hr hF hb (λH hO hS=>hsp w _ H a ns hlen hO hS) λH e s'=>hCX H s₁ e s'
def oY{q:Program}(G:Ground q loose R XP w s₀ mg mb h){d:Def}
  (hd:(defOf q d.x).map (λp=>(p.1.name,p.1.params,p.1.body,p.1.scope,p.2))=some (d.x,va d.st,kU d.st,kD d.st,[])) (hq0:d.qual=d.x) (hb:ef d.x d.qual d.st d.ps) (hf:(va d.st).defaults=[]):iC (Kw h) mg d:=by
 obtain⟨⟨⟨n,p,b,sc,ps⟩,kw⟩,hq,e⟩:=zj.mp hd;cases e;obtain⟨a,o,pm,cd,doc,dV,kV,m,ho,hdt,hc,D⟩:=G.fn hq;obtain rfl:dV=.none:=Dflts.none D hf;obtain rfl:kV=.none:=Dflts.noKw D;have lk:(Kw h).lookup a=some ⟨o.cls,o.dict,.func (PySem.W.fnOf d.x d.x (va d.st) (kU d.st) (kD d.st) .none .none doc pm none cd .none),o.slots⟩:=by
  rw[Kw.lookup,ho];cases o;cases hdt;rfl
 have c:PySem.W.codeIn (Kw h) cd d.x=true:=by
  obtain⟨c,o',vs,t,rfl,e1,e2,e3⟩:=hc;unfold PySem.W.codeIn;simp only[Kw.lookup,e1];cases o';cases e2;simp only[];obtain⟨vs⟩:=vs;match vs,e3 with
  | [],e3=>cases e3
  | [_],e3=>cases e3
  | _::v::r,e3=>
   have e4:some v=some (Value.str d.x t):=by simpa using e3
   cases e4;simp
 have k:PySem.W.keepIn (Kw h) (.ref a)=true:=by
  unfold PySem.W.keepIn;simp only[lk]
 rw[<-hq0] at c;have lk2:(Kw h).lookup a=some ⟨o.cls,o.dict,.func (PySem.W.fnOf d.x d.qual (va d.st) (kU d.st) (kD d.st) .none .none doc pm none cd .none),o.slots⟩:=by rw[lk,hq0]
 obtain⟨fd,D⟩:=ZH hb lk2 c k;exact⟨a,fd,D,m⟩
noncomputable def zk:Nat->Cn->W
 | 0,_=>.non
 | n+1,c=>match c with
  | .int i=>.int i
  | .str x=>.str x
  | .tup l=>.tup (l.map (zk n))
noncomputable def toT(l:List (Str×Cn)):List (Str×W):=l.map λp=>(p.1,zk 9 p.2)
def V9{h:Heap}(e:oM h v=some its):∃a o n,v=.ref a/\h.get? a=some o/\(o.cls=.type "tuple" /\ o.dict=none)/\o.data=.seq its n:=by
 cases v with
 | ref a=>
  obtain⟨⟨c,di,d,sl⟩,e1,e2⟩:=zy.mp e;cases c with
  | type t=>
   have e3:(if t="tuple" then (match d with | .seq its _=>if di.isNone then some its else none | _=>none) else none)=some its:=e2;by_cases q:t="tuple"
   .rw[zY q] at e3
    cases d with
    | seq its' n=>
     have e4:(if di.isNone then some its' else none)=some its:=e3;by_cases q2:di.isNone=true
     .rw[zY q2] at e4
      cases e4;exact⟨a,_,n,rfl,e1,⟨by rw[q],qM.mp q2⟩,rfl⟩
     .rw[jc q2] at e4;cases e4
    | _=>cases e3
   .rw[jc q] at e3;cases e3
  | _=>cases e2
 | _=>cases e
def UL{K:PySem.W.Frag}{p:Cn->Value->Bool}{f:Cn->W}(hp:∀w v,p w v=true->KW K (f w) v)(l:List Cn):∀vs:List Value,u9 p l vs=true->KWs K (l.map f) vs:=by
 induction l with
 | nil=>intro vs h;cases vs with | nil=>exact .nil | cons _ _=>cases h
 | cons w l ih=>
  intro vs h;cases vs with
  | nil=>cases h
  | cons v vs=>have h2:=jx.mp h;exact .cons (hp _ _ h2.1) (ih vs h2.2)
def nU{h:Heap}{K:PySem.W.Frag}(hK:∀b o,h.get? b=some o->K.lookup b=some o)(n:Nat):∀w v,eM h n w v=true->KW K (zk n w) v:=by
 induction n with
 | zero=>intro w v e;cases e
 | succ n ih=>
  intro w v e;cases w with
  | int i=>cases v with
   | int j t=>cases eq_of_beq (show(i==j)=true from e);exact .int
   | _=>cases e
  | str x=>cases v with
   | str j t=>cases eq_of_beq (show(x==j)=true from e);exact .str
   | _=>cases e
  | tup l=>
   have e1:((oM h v).any λits=>decide (its.size<=sizeLine)&&u9 (eM h n) l its.toList)=true:=e;cases z:oM h v with
   | none=>rw[z] at e1;cases e1
   | some its=>
    rw[z] at e1;obtain⟨a,o,m,rfl,e4,e5,e6⟩:=V9 z;have e7:=jx.mp e1;exact .tup (hK _ _ e4) e5 e6 (qF e7.1) (UL ih _ _ e7.2)
def ny{h:Heap}(e:dictAt h v=some es):∃a n,v=.ref a/\h.get? a=some ⟨.type "dict",none,.dict es n,#[]⟩/\(a==sysModules)=false:=by
 cases v with
 | ref a=>
  obtain⟨⟨c,di,d,sl⟩,e1,e2⟩:=zy.mp e;cases c with
  | type t=>
   have e3:(if t="dict" then (match d with | .dict es _=>if di.isNone&&sl.isEmpty&&a != sysModules then some es else none | _=>none) else none)=some es:=e2;by_cases q:t="dict"
   .rw[zY q] at e3
    cases d with
    | dict es' n=>
     have e4:(if di.isNone&&sl.isEmpty&&a != sysModules then some es' else none)=some es:=e3;by_cases z:(di.isNone&&sl.isEmpty&&a != sysModules)=true
     .rw[zY z] at e4
      cases e4;have z1:=jx.mp z;have z2:=jx.mp z1.1;refine⟨a,n,rfl,?_,?_⟩
      .rw[e1,q,qM.mp z2.1,Array.isEmpty_iff.mp z2.2]
      .have:=z1.2;rw[bne,q8] at this;exact this
     .rw[jc z] at e4;cases e4
    | _=>cases e3
   .rw[jc q] at e3;cases e3
  | _=>cases e2
 | _=>cases e
def tab_of{h:Heap}{K:PySem.W.Frag}(hK:∀b o,h.get? b=some o->K.lookup b=some o)(l:List (Str×Cn)):∀es:List DictEntry,u9 (λp (e:DictEntry)=>K1 p.1 e.key&&eM h 9 p.2 e.val) l es=true->es.map (·.hash)=l.map (λp=>PyData.keyHash P p.1)->TabRel K (toT l) es/\PySem.W.KeysLit P es:=by
 induction l with
 | nil=>intro es a b;cases es with | nil=>exact⟨.nil,trivial⟩ | cons _ _=>cases a
 | cons p l ih=>
  intro es a b;cases es with
  | nil=>cases a
  | cons e es=>
   have a1:=jx.mp a;have a2:=jx.mp a1.1;have b1:=List.cons.inj b;obtain⟨r,t⟩:=ih es a1.2 b1.2;obtain⟨eh,ek,ev⟩:=e;cases ek with
   | str y t'=>
    have q:=eq_of_beq (show(p.1==y)=true from a2.1);subst q;exact⟨.cons (hs:=0) (v:=.none) rfl (nU hK _ _ _ a2.2) r,⟨_,_,rfl,b1.1⟩,t⟩
   | _=>cases a2.1
def Zx{h h₀:Heap}(G:h.Ns mainGlobals mg)(k:∀b o,h₀.get? b=some o->h.get? b=some o)(hn:h₀.isNs mainGlobals=true)(x:Str):mg x=h₀.nsMap mainGlobals x:=by
 obtain⟨o,es,ep,e1,e2,e3,e4⟩:=Heap.Ns.of_isNs hn;obtain⟨o',es',ep',f1,f2,f3,f4⟩:=G;have:=k _ _ e1;rw[f1] at this;cases this;rw[e2] at f2;cases f2;rw[<-f4 x,<-e4 x]
theorem lI{α β:Type}{P:Str->α->Prop}(f:β->α):∀{l:List (Str×β)},(∀p∈l,P p.1 (f p.2))->AllOf P (l.map λp=>(p.1,f p.2))
 | [],_=>trivial
 | (x,g)::r,h=>⟨h (x,g) (z9 ..),lI f λp m=>h p (zP _ m)⟩
theorem none_of:∀{l:List Str},(∀x∈l,mg x=none)->AllNone mg l
 | [],_=>trivial
 | x::r,h=>⟨h x (z9 ..),none_of λp m=>h p (zP _ m)⟩
def U6{cons:List (Str×Cn)}{tabs:List (Str×List (Str×Cn))}{bins:List Str}{w:World}{h:Heap}(Y:(DA cons tabs bins).says w h)(G:h.Ns mainGlobals mg) :
  AllOf (Glob (Kw h) mg) (toT cons)/\AllOf (TabOk (Kw h) w.params mg) (tabs.map λp=>(p.1,toT p.2))/\AllNone mg bins:=by
 obtain⟨h₀,k,b,t⟩:=Y;have hK:∀b o,h₀.get? b=some o->(Kw h).lookup b=some o:=λb o e=>by rw[Kw.lookup];exact k _ _ e
 unfold m6 at b;simp only[zx,kJ] at b;obtain⟨⟨b1,b2⟩,b3⟩:=b;have M:=Zx G k b1;refine⟨lI (zk 9) λp m=>?_,lI toT λp m=>?_,none_of λx m=>?_⟩
 .have e:=b2 p m
  cases q:h₀.nsMap mainGlobals p.1 with
  | none=>rw[q] at e;cases e
  | some v=>rw[q] at e;exact(nU hK _ _ _ e).glob ((M _).trans q)
 .have e:Wz h₀ p.2 (h₀.nsMap mainGlobals p.1)=(true,p.2.map λk=>PyData.keyHash w.params k.1):=by
   unfold sg lT at t;exact(List.map_inj_left.mp t) p m
  unfold Wz at e;cases q:h₀.nsMap mainGlobals p.1 with
  | none=>rw[q] at e;cases e
  | some v=>
   rw[q] at e;cases z:dictAt h₀ v with
   | none=>rw[qP,z] at e;cases e
   | some es=>
    rw[qP,z] at e;have e2:=yr e;obtain⟨a,n,rfl,g,f⟩:=ny z;obtain⟨r,kl⟩:=tab_of hK (P:=w.params) p.2 es.toList e2.1 e2.2;exact⟨a,es,n,(M _).trans q,hK _ _ g,kl,f,r⟩
 .have:=b3 x m
  rw[M];exact qM.mp this
def Dk{h:Heap}(n:h.Ns N mN)(x:Str):nsIn (Kw h) N x=some (mN x):=by
 obtain⟨⟨oc,od,odt,osl⟩,es,ep,ho,hd,hk,hf⟩:=n;cases hd;unfold nsIn;rw[Kw.lookup,ho];simp only[];rw[<-hf x];unfold nsFind findBy;rw[<-wX];cases q:es.toList.find? (λe=>e.key.isStr x) with
 | some e=>rfl
 | none=>
  simp only[Option.map_none];rw[jc];intro z;obtain⟨e,m,r⟩:=qt.mp z;obtain⟨y,t,ek⟩:=hk e (xg.mp m);unfold DictEntry.refKey at r;rw[ek] at r;cases r
section
variable{h:Heap}{C N:Addr}{mN:Str->Option Value}
def i7(c:ClsAt h C N mN):∃nm q bs sn sub col dd k0 k1 k2 k3 k5,(Kw h).lookup C=some (excClassObj nm q C N bs [.type "object"] true sn sub false col dd k0 k1 k2 k3 k5 "object.__new__"):=by
 obtain⟨nm,q,bs,sn,sub,col,dd,k0,k1,k2,k3,k5,e⟩:=c.obj;exact⟨nm,q,bs,sn,sub,col,dd,k0,k1,k2,k3,k5,by rw[Kw.lookup,e]⟩
theorem eK(c:ClsAt h C N mN)(x:Str):findIn (Kw h) (.ref C) x=match mN x with
  | some v=>some (some v)
  | none=>some (fastBuiltinOwn "object" x):=by
 obtain⟨nm,q,bs,sn,sub,col,dd,k0,k1,k2,k3,k5,e⟩:=i7 c;unfold findIn;dsimp only;rw[e];simp only[alongIn,ownIn,e,Dk c.ns x];cases mN x with
 | some v=>rfl
 | none=>
  simp only[];cases fastBuiltinOwn "object" x<;>rfl
def CM(c:ClsAt h C N mN)(q1:mN "__setattr__" = none)(q2:mN "__getattribute__" = none)(q3:mN "__getattr__" = none):Cls (Kw h) C:=by
 obtain⟨nm,q,bs,sn,sub,col,dd,k0,k1,k2,k3,k5,e⟩:=i7 c;refine⟨?_,?_,?_,?_⟩
 .unfold plainGet
  rw[eK c,eK c,q2,q3];decide +kernel
 .unfold hasDictIn clsIn
  rw[e];rfl
 .unfold plainOver clsIn
  rw[e];rfl
 .rw[eK c,q1]
  decide +kernel
def KS(c:ClsAt h C N mN){f:Str}(q:mN f=none)(hf:fastBuiltinOwn "object" f=none):NoAttr (Kw h) C f:=by
 unfold NoAttr;rw[eK c,q,hf]
def tP{f:Addr}{o:Obj}(ho:h.get? f=some o)(hd:o.data=.func fd):keepIn (Kw h) (.ref f)=true:=by
 unfold keepIn;obtain⟨oc,od,odt,osl⟩:=o;cases hd;simp only[Kw.lookup,ho]
def C6{f:Addr}{o:Obj}(ho:h.get? f=some o)(hc:o.cls=.type "function"):isFn (Kw h) (.ref f)=true:=by
 unfold isFn typeIn;dsimp only;rw[Kw.lookup,ho];simp only[yt,hc];decide +kernel
def QO(c:ClsAt h C N mN):makesIn (Kw h) C=true/\keepIn (Kw h) (.ref C)=true:=by
 obtain⟨nm,q,bs,sn,sub,col,dd,k0,k1,k2,k3,k5,e⟩:=i7 c;have t:specialIn (Kw h) (.ref C) "__call__" = some (some (.builtin "type.__call__")):=by
  unfold specialIn typeIn;dsimp only;rw[e];show findIn (Kw h) (.type "type") "__call__" = _
  show fastLookup "type" "__call__" = _
  decide +kernel
 have i:instIn (Kw h) (.ref C) (.type "type")=some true:=by
  unfold instIn typeIn;dsimp only;rw[e];show subIn (Kw h) (.type "type") (.type "type")=_
  show(fastBuiltinMro "type").map (·.contains (.type "type"))=_
  decide +kernel
 refine⟨?_,?_⟩
 .unfold makesIn
  rw[e];simp only[t,i];simp
 .unfold keepIn
  dsimp only;rw[e];simp only[t];decide +kernel
end
def X5{h:Heap}(hc:h.CodeRec cd x):codeIn (Kw h) cd x=true:=by
 obtain⟨c,o',vs,t,rfl,e1,e2,e3⟩:=hc;unfold codeIn;simp only[Kw.lookup,e1];cases o';cases e2;simp only[];obtain⟨vs⟩:=vs;match vs,e3 with
 | [],e3=>cases e3
 | [_],e3=>cases e3
 | _::v::r,e3=>
  have e4:some v=some (Value.str x t):=by simpa using e3
  cases e4;simp
structure ClsG(h:Heap)(mg:Str->Option Value)(c:ClsRec)(C:Addr):Prop where
 m:mg c.name=some (.ref C)
 ex:∃N mN,PlainAt h c.withCmp C N mN
def DZ{q:Program}(G:Ground q loose R XP w s₀ mg mb h){c:ClsRec}(hc:c∈plainsOf q (looseW q loose)):∃C,ClsG h mg c C:=by
 obtain⟨C,N,mN,a,b⟩:=G.TE c hc;exact⟨C,a,N,mN,b⟩
theorem ClsG.cls{c:ClsRec}(g:ClsG h mg c C):Cls (Kw h) C/\∀f∈c.statics,fastBuiltinOwn "object" f=none->NoAttr (Kw h) C f:=by
 obtain⟨N,mN,P⟩:=g.ex;have q:∀n∈c.withCmp.quiet,mN n=none:=P.quiet;exact⟨CM P.cls (q _ (by simp[ClsRec.quiet])) (q _ (by simp[ClsRec.quiet])) (q _ (by simp[ClsRec.quiet])),λf hf=>KS P.cls (q f (by simp only[ClsRec.quiet,ClsRec.withCmp,zW];exact .inr (.inl hf)))⟩
def ClsG.meth{c:ClsRec}(g:ClsG h mg c C){d:Def}{m:MethRec}(hm:m∈c.meths)(hd:(m.name,m.params,m.body,m.scope)=(d.x,va d.st,kU d.st,kD d.st))(hq:c.name++"." ++ m.name=d.qual)(hb:ef d.x d.qual d.st d.ps):∃a fd,DTxt (Kw h) d a fd/\Meth (Kw h) C d.x a:=by
 obtain⟨N,mN,P⟩:=g.ex;obtain⟨f,o,pm,cd,doc,q1,q2,q3,q4,q5⟩:=P.meths m hm;have hq':c.withCmp.name++"." ++ m.name=d.qual:=hq;rw[hq'] at q4 q5;obtain⟨nm,pr,bd,sc⟩:=m;cases hd;have lk:(Kw h).lookup f=some ⟨o.cls,o.dict,.func (PySem.W.fnOf d.x d.qual (va d.st) (kU d.st) (kD d.st) .none .none doc pm none cd .none),o.slots⟩:=by
  rw[Kw.lookup,q2];cases o;cases q4;rfl
 obtain⟨fd,D⟩:=ZH hb lk (X5 q5) (tP q2 q4);exact⟨f,fd,D,by rw[eK P.cls,q1],C6 q2 q3,tP q2 q4⟩
def ClsG.mtxt{c:ClsRec}{cl:Cl}(g:ClsG h mg c (cl.c n)){d:Def}{m:MethRec}(hm:m∈c.meths)(hd:(m.name,m.params,m.body,m.scope)=(d.x,va d.st,kU d.st,kD d.st))(hq:c.name++"." ++ m.name=d.qual)(hb:ef d.x d.qual d.st d.ps):um (Kw h) cl n d:=by
 obtain⟨a,fd,D,M⟩:=g.meth hm hd hq hb;exact⟨a,fd,D,M,g.cls.1⟩
def ClsG.itxt{c:ClsRec}{cl:Cl}(g:ClsG h mg c (cl.c n)){d:Def}{m:MethRec}(hm:m∈c.meths)(hd:(m.name,m.params,m.body,m.scope)=(d.x,va d.st,kU d.st,kD d.st))(hq:c.name++"." ++ m.name=d.qual)(hb:ef d.x d.qual d.st d.ps)(hi:d.x="__init__"):mX (Kw h) mg cl c.name n d:=by
 obtain⟨a,fd,D,M⟩:=g.meth hm hd hq hb;obtain⟨N,mN,P⟩:=g.ex;obtain⟨m1,m2⟩:=QO P.cls;exact⟨a,fd,D,g.m,m1,hi▸M.at_,M.fn,m2⟩
noncomputable def adr(mg:Str->Option Value)(x:Str):Addr:=match mg x with
 | some (.ref a)=>a
 | _=>0
noncomputable def gL(mg:Str->Option Value)(l:List (Str×Str)):List (Str×W):=l.map λp=>(p.1,.fn (adr mg p.2))
def B7{h₀:Heap}{mg:Str->Option Value}{K:PySem.W.Frag}(M:∀x,mg x=h₀.nsMap mainGlobals x){P:Params}:∀(l:List (Str×Str)) (es:List DictEntry),u9 (λp (e:DictEntry)=>K1 p.1 e.key&&Vh h₀ p.2 e.val) l es=true->es.map (·.hash)=l.map (λp=>PyData.keyHash P p.1)->TabRel K (gL mg l) es/\PySem.W.KeysLit P es:=by
 intro l;induction l with
 | nil=>intro es a b;cases es with | nil=>exact⟨.nil,trivial⟩ | cons _ _=>cases a
 | cons p l ih=>
  intro es a b;cases es with
  | nil=>cases a
  | cons e es=>
   have a1:=jx.mp a;have a2:=jx.mp a1.1;have b1:=List.cons.inj b;obtain⟨r,t⟩:=ih es a1.2 b1.2;obtain⟨eh,ek,ev⟩:=e;cases ek with
   | str y t'=>
    have q:=eq_of_beq (show(p.1==y)=true from a2.1);subst q;have kw:KW K (.fn (adr mg p.2)) ev:=by
     have z:=a2.2;unfold Vh at z;unfold adr;rw[M];split at z
     .rename_i a0 b0 e0 e1
      simp only at e0;rw[e1];have:=eq_of_beq z;subst this;rw[show ev=.ref a0 from e0];exact .fn
     .cases z
    exact⟨.cons (hs:=0) (v:=.none) rfl kw r,⟨_,_,rfl,b1.1⟩,t⟩
   | _=>cases a2.1
def XA{cons:List (Str×Cn)}{tabs:List (Str×List (Str×Cn))}{bins:List Str}{ways:List (Str×List (Str×Str))}{w:World}{h:Heap}{mg:Str->Option Value}(Y:(WM cons tabs bins ways).says w h)(G:h.Ns mainGlobals mg) :
  AllOf (Glob (Kw h) mg) (toT cons)/\AllOf (TabOk (Kw h) w.params mg) (tabs.map λp=>(p.1,toT p.2))/\AllNone mg bins/\AllOf (λx l=>TabOk (Kw h) w.params mg x (gL mg l)) ways:=by
 obtain⟨h₀,k,b,t,u⟩:=Y;obtain⟨h1,h2,h3⟩:=U6 (cons:=cons) (tabs:=tabs) (bins:=bins) (w:=w) (h:=h) ⟨h₀,k,b,t⟩ G;refine⟨h1,h2,h3,?_⟩;unfold m6 at b;simp only[zx,kJ] at b;have M:=Zx G k b.1.1;have hK:∀b o,h₀.get? b=some o->(Kw h).lookup b=some o:=λb o e=>by rw[Kw.lookup];exact k _ _ e
 have key:∀p∈ways,TabOk (Kw h) w.params mg p.1 (gL mg p.2):=λp m=>by
  have e:VW h₀ p.2 (h₀.nsMap mainGlobals p.1)=(true,p.2.map λk=>PyData.keyHash w.params k.1):=by
   unfold Wl goodW at u;exact(List.map_inj_left.mp u) p m
  unfold VW at e;cases q:h₀.nsMap mainGlobals p.1 with
  | none=>rw[q] at e;cases e
  | some v=>
   rw[q] at e;cases z:dictAt h₀ v with
   | none=>rw[qP,z] at e;cases e
   | some es=>
    rw[qP,z] at e;have e2:=yr e;obtain⟨a,n,rfl,g,f⟩:=ny z;obtain⟨r,kl⟩:=B7 (K:=Kw h) M (P:=w.params) p.2 es.toList e2.1 e2.2;exact⟨a,es,n,(M _).trans q,hK _ _ g,kl,f,r⟩
 have:=lI (P:=λx l=>TabOk (Kw h) w.params mg x (gL mg l)) (id:List (Str×Str)->List (Str×Str)) (l:=ways) key;simpa using this
noncomputable def pU(fns:List (Str×(List W->M W))):List (Str×Str)->List (Str×(List W->M W))->Prop
 | [],[]=>True
 | (k,x)::l,(k',g)::ws=>k=k'/\fns.lookup x=some g/\pU fns l ws
 | _,_=>False
theorem pQ{P:Program}{w:World}{K:PySem.W.Frag}{mg:Str->Option Value}{fns:List (Str×(List W->M W))}(A:AllOf (FnAt P w K mg base cl k) fns):∀{l:List (Str×Str)} {ws:List (Str×(List W->M W))},pU fns l ws->∀y g,ws.lookup y=some g->
  ∃f fd ps,(gL mg l).lookup y=some (.fn f)/\FnOk P w K mg base x8 k f fd ps (xh K cl g)/\PySem.W.keepIn K (.ref f)=true/\Binds K fd ps []
 | [],[],_,y,g,e=>by cases e
 | [],_::_,r,_,_,_=>by cases r
 | _::_,[],r,_,_,_=>by cases r
 | (k0,x)::l,(k1,g1)::ws,r,y,g,e=>by
  obtain⟨rfl,r2,r3⟩:=r;rw[kI] at e;show ∃f fd ps,((k0,W.fn (adr mg x))::gL mg l).lookup y=some (.fn f)/\_
  rw[kI];cases q:y==k0 with
  | true=>
   rw[q] at e;cases e;obtain⟨f,fd,ps,a,b,c,d⟩:=A.at r2;exact⟨f,fd,ps,by simp only[adr,b],a,c,d⟩
  | false=>
   rw[q] at e;exact pQ A r3 y g e
def Qs{P:Program}{w:World}{K:PySem.W.Frag}{mg:Str->Option Value}{base:Heap}{cl:Cl}{fns:List (Str×(List W->M W))}(A:AllOf (FnAt P w K mg base cl k) fns)(T:TabOk K w.params mg x (gL mg l))(r:pU fns l ws):KI P w K mg base cl k x ws:=⟨_,T,pQ A r⟩
noncomputable def uF(q:Program)(loose:List Str)(x:Str):Option ClsRec:=(plainsOf q (looseW q loose)).find? (·.name==x)
def J6{q:Program}(G:Ground q loose R XP w s₀ mg mb h)(hx:(uF q loose x).isSome=true):∃c C,uF q loose x=some c/\ClsG h mg c C:=by
 obtain⟨c,hc⟩:=qe.mp hx;obtain⟨C,g⟩:=DZ G (vP hc);exact⟨c,C,hc,g⟩
def lg{q:Program}{c:ClsRec}(hc:uF q loose x=some c):c.name=x:=by
 have:=List.find?_some (show(plainsOf q (looseW q loose)).find? (λc=>c.name==x)=some c from hc);exact eq_of_beq this
noncomputable def oK(q:Program)(loose:List Str)(x m:Str):Option MethRec:=(uF q loose x).bind λc=>c.meths.find? (·.name==m)
def wm{q:Program}{c:ClsRec}{d:Def}(hc:uF q loose x=some c)(hm:(oK q loose x d.x).map (λm=>(m.name,m.params,m.body,m.scope))=some (d.x,va d.st,kU d.st,kD d.st)):∃m∈c.meths,(m.name,m.params,m.body,m.scope)=(d.x,va d.st,kU d.st,kD d.st):=by
 obtain⟨m,e1,e2⟩:=zj.mp hm;unfold oK at e1;rw[hc,qP] at e1;exact⟨m,vP e1,e2⟩
section
variable{q:Program}{loose:List Str}{x:Str}{c:ClsRec}{d:Def}{h:Heap}{mg:Str->Option Value}{cl:Cl}{n:Nat}
def iE(g:ClsG h mg c (cl.c n))(hc:uF q loose x=some c)(hm:(oK q loose x d.x).map (λm=>(m.name,m.params,m.body,m.scope))=some (d.x,va d.st,kU d.st,kD d.st))(hq:x++"." ++ d.x=d.qual)(hb:ef d.x d.qual d.st d.ps):um (Kw h) cl n d:=by
 obtain⟨m,m1,m2⟩:=wm hc hm;refine g.mtxt m1 m2 ?_ hb;rw[lg hc,(yr m2).1];exact hq
def Yp(g:ClsG h mg c (cl.c n))(hc:uF q loose x=some c)(hm:(oK q loose x d.x).map (λm=>(m.name,m.params,m.body,m.scope))=some (d.x,va d.st,kU d.st,kD d.st))(hq:x++"." ++ d.x=d.qual)(hb:ef d.x d.qual d.st d.ps)(hi:d.x="__init__"):mX (Kw h) mg cl x n d:=by
 obtain⟨m,m1,m2⟩:=wm hc hm;have:=g.itxt m1 m2 (by rw[lg hc,(yr m2).1];exact hq) hb hi;rwa [lg hc] at this
def Zk{fs:List Str}(g:ClsG h mg c (cl.c n))(hc:uF q loose x=some c)(hf:(uF q loose x).map (λc=>fs.all λf=>c.statics.contains f&&(fastBuiltinOwn "object" f).isNone)=some true):∀f∈fs,Cls (Kw h) (cl.c n)/\NoAttr (Kw h) (cl.c n) f:=by
 rw[hc,yt] at hf;intro f m;have:=kJ.mp (zZ hf) f m;rw[zx] at this;exact⟨g.cls.1,g.cls.2 f (by simpa using this.1) (qM.mp this.2)⟩
def V0{K:PySem.W.Frag}(H:∀p∈fl,∀f∈p.2,Cls K (cl.c p.1)/\NoAttr K (cl.c p.1) f):cq K cl fl:=by
 intro c f e;unfold vc at e;obtain⟨p,m,r⟩:=qt.mp e;rw[zx] at r;obtain⟨y,my,ry⟩:=qt.mp r.2;have e1:=eq_of_beq r.1;have e2:=eq_of_beq ry;subst e1 e2;exact H p m y my
end
def walk_lawD{l:PySem.W.OpenLaw}{q:Program}{d:DefRec}{D:Def}{Γ:RC}{ns:Nat}(T:PySem.W.Frag->World->(Str->Option Value)->Cl->Prop)(hn:l.most=some 63)(hdf:d.params.defaults=[])
  (hr:Room (room+1) callerA) (hx:D.x=d.name) (hps:D.ps=[y]) (hb:ef D.x D.qual D.st D.ps) (hsc:ul D.N D.ps (kD D.st)=true) (hns:D.N.length-1=ns) (hB:cB (Γ.at D) (kU D.st)=some b) (hg:g=gc (kd 1 ns b))
  (main:∀ns:List Int,ns.length<=63->∃h',g [.fls (ns.map W.int)] []=some (.bl true,h'))
  (lvl:∀(w:World) (K:PySem.W.Frag) (mg:Str->Option Value) (base:Heap) (cl:Cl),T K w mg cl->BaseOk l.prog w K mg base cl room Γ)
  (F:∀(w:World) (s₀:Shared) (mg mb:Str->Option Value) (h:Heap),Ground q loose [] XP w s₀ mg mb h->YP w h->∃cl,iC (Kw h) mg D/\T (Kw h) w mg cl):PySem.W.WalkO q loose XP YP l.row.toRowW d [] (λf vs=>PySem.call f vs):=by
 refine VV (n:=63) (k:=room+1) (x:=y) (CX:=x8) (sp:=λ_=>DT g) hn (by decide) hdf hr (λw s₀ mg mb fa h G Y hmg=>?_) (λw K H a ns hl _ hS=>Bo main K H a ns hl hS) λ_ _ _ _ z=>z
 obtain⟨cl,⟨a,fd,D1,m⟩,t⟩:=F w s₀ mg mb h G Y;have e:=m.symm.trans (hx▸hmg);cases e;refine⟨fd,?_,λbase _ _=>?_⟩
 .intro s v
  obtain⟨oc,od,kV,doc,pm,an,cdv,ct,osl,rfl,lk,hcd⟩:=D1.F.ex;have hb2:=hb [v] (by rw[hps];rfl) kV doc pm an cdv ct;rw[hps] at hb2;exact .of_eq hb2
 .have:=iG D1 (lvl w _ mg base cl t) hsc (np:=1) (by rw[hps];rfl) hns hB
  rw[hps] at this;subst hg;exact this.imp λvs H Q E z=>z cl
end ML
namespace ML
open PySem L2
noncomputable def dt:Nat->W->Bool
 | 0,_=>false
 | _+1,.non=>true
 | _+1,.bl _=>true
 | _+1,.int _=>true
 | _+1,.str x=>PyData.strOk x&&decide (x.length<=1000)
 | n+1,.tup l=>decide (l.length<=1000)&&l.all (dt n)
 | n+1,.fls l=>decide (l.length<=1000)&&l.all (dt n)
 | _+1,.ref _=>false
 | _+1,.fdc _=>false
 | _+1,.fn _=>false
noncomputable def toD:Nat->W->PyData
 | 0,_=>.none
 | _+1,.non=>.none
 | _+1,.bl b=>.bool b
 | _+1,.int i=>.int i
 | _+1,.str x=>.str x
 | n+1,.tup l=>.tuple (l.map (toD n))
 | n+1,.fls l=>.list (l.map (toD n))
 | _+1,_=>.none
theorem yk:∀{l:List W},(∀w∈l,low m w=true)->lows m l=true
 | [],_=>by unfold lows;rfl
 | w::r,h=>by
  unfold lows;rw[h w z9,yk λw hw=>h w (zP _ hw)];rfl
theorem lE:∀{n:Nat} {w:W},dt n w=true->low m w=true
 | 0,_,h=>by cases h
 | n+1,.non,_=>by unfold low;rfl
 | n+1,.bl _,_=>by unfold low;rfl
 | n+1,.int _,_=>by unfold low;rfl
 | n+1,.str _,_=>by unfold low;rfl
 | n+1,.tup l,h=>by
  unfold dt at h;rw[zx] at h;unfold low;exact yk λw hw=>lE (kJ.mp h.2 w hw)
 | n+1,.fls l,h=>by
  unfold dt at h;rw[zx] at h;unfold low;exact yk λw hw=>lE (kJ.mp h.2 w hw)
 | n+1,.ref _,h=>by cases h
 | n+1,.fdc _,h=>by cases h
 | n+1,.fn _,h=>by cases h
theorem jI:∀{n m:Nat} {w:W},dt n w=true->n<=m->dt m w=true
 | 0,_,_,h,_=>by cases h
 | n+1,0,_,_,h=>by omega
 | n+1,m+1,.non,_,_=>rfl
 | n+1,m+1,.bl _,_,_=>rfl
 | n+1,m+1,.int _,_,_=>rfl
 | n+1,m+1,.str _,h,_=>h
 | n+1,m+1,.tup l,h,hn=>by
  unfold dt at h ⊢;rw[zx] at h ⊢;exact⟨h.1,kJ.mpr λw hw=>jI (kJ.mp h.2 w hw) ∅⟩
 | n+1,m+1,.fls l,h,hn=>by
  unfold dt at h ⊢;rw[zx] at h ⊢;exact⟨h.1,kJ.mpr λw hw=>jI (kJ.mp h.2 w hw) ∅⟩
 | n+1,m+1,.ref _,h,_=>by cases h
 | n+1,m+1,.fdc _,h,_=>by cases h
 | n+1,m+1,.fn _,h,_=>by cases h
theorem m8{α β:Type}{f:α->Option β}{g:α->β}:∀{l:List α},(∀x∈l,f x=some (g x))->vk f l=some (l.map g)
 | [],_=>rfl
 | x::r,h=>by
  unfold vk;rw[h x z9,m8 λy hy=>h y (zP _ hy)];rfl
theorem uo:∀{n m:Nat} {w:W},dt n w=true->n<=m->kT m h w=some (toD n w)
 | 0,_,_,e,_=>by cases e
 | n+1,0,_,_,hn=>by omega
 | n+1,m+1,.non,_,_=>rfl
 | n+1,m+1,.bl _,_,_=>rfl
 | n+1,m+1,.int _,_,_=>rfl
 | n+1,m+1,.str x,e,_=>by
  unfold dt at e;rw[zx] at e;unfold kT;rw[zY e.1];rfl
 | n+1,m+1,.tup l,e,hn=>by
  unfold dt at e;rw[zx] at e;unfold kT;rw[m8 λw hw=>uo (kJ.mp e.2 w hw) ∅];rfl
 | n+1,m+1,.fls l,e,hn=>by
  unfold dt at e;rw[zx] at e;unfold kT;rw[m8 λw hw=>uo (kJ.mp e.2 w hw) ∅];rfl
 | n+1,m+1,.ref _,e,_=>by cases e
 | n+1,m+1,.fdc _,e,_=>by cases e
 | n+1,m+1,.fn _,e,_=>by cases e
def aw{f:List W->M W}(e:f ws h=some (w,h))(d:dt n w=true):gc f ws h=some (w,h):=y7 e (lE d) (zR _)
def Qr{f:List W->M W}{t:MH}(e:f ws h=some (w,h++t))(d:dt n w=true)(nw:w≠.non:=by nofun):gc f ws h=some (w,h):=y7 e (lE d) (jj _ _) (.inl nw)
noncomputable def tyB(T:Ty):W->Bool
 | .bl _=>decide (T=.bool)||decide (T=.int)
 | .int _=>decide (T=.int)
 | .str _=>decide (T=.str)
 | .tup _=>decide (T=.tuple)
 | .fls _=>decide (T=.list)
 | _=>false
theorem UO{T:Ty}(d:dt n w=true):isW T w h=some (.bl (tyB T w),h):=by
 cases n with
 | zero=>cases d
 | succ n=>
  unfold isW sk tyB;cases w with
  | ref _=>cases d
  | fdc _=>cases d
  | fn _=>cases d
  | non=>rfl
  | bl b=>simp only[iO];cases T<;>rfl
  | int b=>simp only[iO];cases T<;>rfl
  | str b=>simp only[iO];cases T<;>rfl
  | tup b=>simp only[iO];cases T<;>rfl
  | fls b=>simp only[iO];cases T<;>rfl
theorem ve(h:MH)(x y:Str):eqB h (.str x) (.str y)=some (x==y):=rfl
theorem vt(h:MH)(x y:Int):eqB h (.int x) (.int y)=some (x==y):=rfl
noncomputable def mq:W->Bool
 | .tup []=>true
 | _=>false
def Xa(d:dt n w=true)(hn:n<=60)(dl:dt m (.tup l)=true)(hm:m<=60):eqB h w (.tup l)=some (PyData.eqv (toD n w) (toD m (.tup l))):=by
 have e1:=uo (h:=h) d (show n<=deep from hn);have e2:=uo (h:=h) dl (show m<=deep from hm);unfold eqB;have:nF w (.tup l)=none:=by unfold nF;cases w<;>rfl
 rw[this,e1,e2]
def Zf(d:dt n w=true)(hn:n<=60):eqB h w (.tup [])=some (mq w):=by
 rw[Xa d hn (m:=1) (by rfl) ∅];cases n with
 | zero=>cases d
 | succ n=>
  cases w with
  | ref _=>cases d
  | fdc _=>cases d
  | fn _=>cases d
  | tup l=>cases l<;>simp[toD,PyData.eqv,PyData.eqvAll,mq]
  | _=>simp[toD,PyData.eqv,mq]
noncomputable def xQ(l:List Str):W->Bool
 | .str x=>l.any (· == x)
 | _=>false
noncomputable def zD(l:List Str):List W:=l.map .str
def Wa{l:List Str}(d:dt n w=true)(hn:n<=60)(hl:l.all PyData.strOk=true)(hy:xS h y=some (zD l))(hns:∀z,y≠.str z):inB h w y=some (xQ l w):=by
 have e1:=uo (h:=h) d (show n<=deep from hn);have e2:vk (kT deep h) (zD l)=some (l.map .str):=by
  unfold zD;have:∀l:List Str,l.all PyData.strOk=true->vk (kT deep h) (l.map .str)=some (l.map PyData.str):=by
   intro l;induction l with
   | nil=>intro _;rfl
   | cons x r ih=>
    intro hl;rw[ju,zx] at hl;simp only[zq];unfold vk;have:kT deep h (.str x)=some (.str x):=by
     show kT (59+1) h (.str x)=_
     unfold kT;rw[zY hl.1]
    rw[this,ih hl.2]
  exact this l hl
 have e3:inB h w y=match xS h y with
  | some l=>match kT deep h w,vk (kT deep h) l with
   | some d,some ds=>some (ds.any λe=>PyData.eqv e d)
   | _,_=>none
  | none=>none:=by
  rfl
 rw[e3,hy];simp only[e1,e2];congr 1
 cases n with
 | zero=>cases d
 | succ n=>
  rw[List.any_map];cases w with
  | ref _=>cases d
  | fdc _=>cases d
  | fn _=>cases d
  | str x=>
   unfold xQ;congr 1
  | _=>simp[toD,PyData.eqv,xQ]
def i8{l:List Str}(d:dt n w=true)(hn:n<=60)(hl:l.all PyData.strOk=true):inB h w (.tup (zD l))=some (xQ l w):=Wa d hn hl rfl (λz=>nofun)
theorem l5{t:MT}{h:MH}(hn:h.length=n0)(p:W->Bool)(f:W->W):∀(l:List W) (acc:List W) (o:Option W),
  (∀w∈l,∀H',t (some w::caps) H'=some (p w,H'))->(∀w∈l,p w=true->∀H',m (some w::caps) H'=some (f w,H'))->acc.length+l.length<=cap->
  vw 1 (zC 0) t m n0 l (o::caps) (h++[.lst acc])=some (h++[.lst (acc++(l.filter p).map f)])
 | [],acc,o,_,_,_=>by simp[vw]
 | w::l,acc,o,ht,hf,hl=>by
  have ih:=λacc'=>l5 (caps:=caps) (t:=t) (m:=m) hn p f l acc' none (λw hw=>ht w (zP _ hw)) (λw hw=>hf w (zP _ hw))
  have hb:blank 1 (some w::caps)=none::caps:=by simp[blank]
  unfold vw;have hg:zC 0 w (o::caps) (h++[.lst acc])=some (some w::caps,h++[.lst acc]):=by simp[zC]
  rw[hg];simp only;rw[ht w z9];simp only[zm] at hl;cases hp:p w with
  | false=>
   simp only;rw[hb,ih acc ∅];simp[v9,hp]
  | true=>
   simp only;rw[hf w z9 hp];have e1:(h++[MO.lst acc])[n0]?=some (.lst acc):=by rw[<-hn];simp
   have e2:(h++[MO.lst acc]).set n0 (.lst (acc++[f w]))=h++[.lst (acc++[f w])]:=by rw[<-hn,jU _ _ (zg _)];simp
   simp only[e1];rw[zY ∅,hb,e2,ih (acc++[f w]) (by rw[zK];simp;omega)];simp[v9,hp]
def f6{ks:List Nat}{t:MT}{ρ:En}{h:MH}{l:List W}(p:W->Bool)(f:W->W)(hm:mi ρ h=some (.items l,h))(ht:∀w∈l,∀H',t (some w::ks.map λk=>(ρ[k]?).join) H'=some (p w,H'))
  (hf:∀w∈l,p w=true->∀H',m (some w::ks.map λk=>(ρ[k]?).join) H'=some (f w,H')) (hlow:∀w∈l,p w=true->low h.length (f w)=true) (hl:l.length<=cap):ja mi 1 ks (zC 0) t m ρ h=some (.fls ((l.filter p).map f),h):=by
 have e:=l5 (caps:=ks.map λk=>(ρ[k]?).join) (t:=t) (m:=m) (h:=h) rfl p f l [] none ht hf (by simpa using hl);unfold ja uS;rw[hm];have er:(List.replicate 1 (none:Option W)++ks.map λk=>(ρ[k]?).join)=none::ks.map λk=>(ρ[k]?).join:=rfl
 simp only;rw[er,e];simp only[kE,zH (zg _),qj,zp];rw[zY];refine⟨jj _ _,yk λw hw=>?_⟩;obtain⟨w',h1,rfl⟩:=kO.mp hw;obtain⟨h2,h3⟩:=vD.mp h1;exact hlow w' h2 h3
theorem iN{t:MT}{h:MH}(hn:h.length=n0)(p:W->W->Bool)(f:W->W->W):∀(l:List (W×W)) (acc:List W) (o1 o2:Option W),
  (∀w∈l,∀H',t (some w.1::some w.2::caps) H'=some (p w.1 w.2,H'))->(∀w∈l,p w.1 w.2=true->∀H',m (some w.1::some w.2::caps) H'=some (f w.1 w.2,H'))->acc.length+l.length<=cap->
  vw 2 (cw [zC 0,zC 1]) t m n0 (l.map λw=>.tup [w.1,w.2]) (o1::o2::caps) (h++[.lst acc])=some (h++[.lst (acc++(l.filter λw=>p w.1 w.2).map λw=>f w.1 w.2)])
 | [],acc,_,_,_,_,_=>by simp[vw]
 | (a,b)::l,acc,o1,o2,ht,hf,hl=>by
  have ih:=λacc'=>iN (caps:=caps) (t:=t) (m:=m) hn p f l acc' none none (λw hw=>ht w (zP _ hw)) (λw hw=>hf w (zP _ hw))
  have hb:blank 2 (some a::some b::caps)=none::none::caps:=by simp[blank,List.replicate]
  simp only[zq];unfold vw;have hg:cw [zC 0,zC 1] (.tup [a,b]) (o1::o2::caps) (h++[.lst acc])=some (some a::some b::caps,h++[.lst acc]):=by simp[cw,dk,bnd,zC]
  rw[hg];simp only;rw[ht (a,b) z9];simp only[zm] at hl;cases hp:p a b with
  | false=>
   simp only;rw[hb,ih acc ∅];simp[v9,hp]
  | true=>
   simp only;rw[hf (a,b) z9 hp];have e1:(h++[MO.lst acc])[n0]?=some (.lst acc):=by rw[<-hn];simp
   have e2:(h++[MO.lst acc]).set n0 (.lst (acc++[f a b]))=h++[.lst (acc++[f a b])]:=by rw[<-hn,jU _ _ (zg _)];simp
   simp only[e1];rw[zY ∅,hb,e2,ih (acc++[f a b]) (by rw[zK];simp;omega)];simp[v9,hp]
def Dh{ks:List Nat}{t:MT}{ρ:En}{h:MH}{l:List (W×W)}(p:W->W->Bool)(f:W->W->W)(hm:mi ρ h=some (.items (l.map λw=>.tup [w.1,w.2]),h))(ht:∀w∈l,∀H',t (some w.1::some w.2::ks.map λk=>(ρ[k]?).join) H'=some (p w.1 w.2,H'))
  (hf:∀w∈l,p w.1 w.2=true->∀H',m (some w.1::some w.2::ks.map λk=>(ρ[k]?).join) H'=some (f w.1 w.2,H')) (hlow:∀w∈l,p w.1 w.2=true->low h.length (f w.1 w.2)=true) (hl:l.length<=cap):ja mi 2 ks (cw [zC 0,zC 1]) t m ρ h=some (.fls ((l.filter λw=>p w.1 w.2).map λw=>f w.1 w.2),h):=by
 have e:=iN (caps:=ks.map λk=>(ρ[k]?).join) (t:=t) (m:=m) (h:=h) rfl p f l [] none none ht hf (by simpa using hl);unfold ja uS;rw[hm];have er:(List.replicate 2 (none:Option W)++ks.map λk=>(ρ[k]?).join)=none::none::ks.map λk=>(ρ[k]?).join:=rfl
 simp only;rw[er,e];simp only[kE,zH (zg _),qj,zp];rw[zY];refine⟨jj _ _,yk λw hw=>?_⟩;obtain⟨w',h1,rfl⟩:=kO.mp hw;obtain⟨h2,h3⟩:=vD.mp h1;exact hlow w' h2 h3
end ML
namespace K15
open PySem PySem.Spec PyProof.Rows L2 ML
def top(i:Nat):Stmt:=PySem.Challenge.pw_shelfwork_k15_whole_turns.main.body.getD i (.Pass ⟨0,0,0,0⟩)
def inClass:Stmt->Nat->Stmt
 | .ClassDef _ _ _ b ..,k=>b.getD k (.Pass ⟨0,0,0,0⟩)
 | s,_=>s
def qf:W:=(.tup [.str "a",.str "b",.str "c",.str "d"])
def gK:W:=(.int 1009)
def xX:W:=(.int 4)
def t_FORMS:List (Str×W):=[("number",(.tup [.int 2,.int 2])),("name",(.tup [.int 2,.int 2])),("read",(.tup [.int 2,.int 2])),("write",(.tup [.int 3,.int 2])),("add",(.tup [.int 3,.int 1])),("less",(.tup [.int 3,.int 1])),("then",(.tup [.int 3,.int 1])),("if",(.tup [.int 4,.int 1])),("loop",(.tup [.int 3,.int 1])),("let",(.tup [.int 4,.int 2])),("own",(.tup [.int 4,.int 2])),("say",(.tup [.int 2,.int 1])),("ask",(.tup [.int 1,.int 1])),("do",(.tup [.int 2,.int 2])),("call",(.tup [.int 4,.int 2]))]
structure Fs where
 (cg aN az aW bF cO bZ bw cY cL cN dB cM dh cZ dg cV bJ bY bx aD dq bc aY aA b7 aa cT au cQ bK bI bG aj aF dY bh bT bO aJ aK aL aP bf bH aX aU b8 cF bW cX:List W->M W)
def kz:List (Nat×List Str):=[(0,["rules","steps","worths","touch_ahead"]),(1,["shelves","answers","spoken","asks"])]
def mt(F:Fs):mI:=[((0,("begin":Str)),F.bT),((0,("bring":Str)),F.bO),((0,("rest_ahead_of":Str)),F.aJ),((0,("go_on":Str)),F.aK),((0,("take_step":Str)),F.aL),((0,("do_touch":Str)),F.aP),((0,("came_to":Str)),F.bf),((1,("do":Str)),F.aX),((1,("next_answer":Str)),F.aU),((1,("store":Str)),F.b8),((1,("said":Str)),F.cF)]
def qE(F:Fs):List (Str×(List W->M W)):=[("number",F.bF),("name",F.cO),("read",F.bZ),("write",F.bw),("add",F.cY),("less",F.cL),("then",F.cN),("if",F.dB),("loop",F.cM),("let",F.dh),("own",F.cZ),("say",F.dg),("ask",F.cV),("do",F.bJ),("call",F.bY)]
noncomputable def cW(F:Fs):MS:=(zo (jp (ke (zi (qq false) (zi zv (ze 0) (eC (.int 0))) (eC (.str "call"))))
 (ku (zi addW (zi zv (ze 0) (eC (.int 2))) (zi zv (ze 0) (eC (.int 3)))))
 kL)
 (ku (uB (ze 0) (some (zi zv (uf (bp t_FORMS) (zi zv (ze 0) (eC (.int 0)))) (eC (.int 1)))) none)))
noncomputable def aC(F:Fs):MS:=(zo (zI (xD (qk [ze 1]) 1 [0] (zC 0) kG (kK uG (ze 1) [])) (zC 2))
 (ku (uf mP (ze 2))))
noncomputable def aB(F:Fs):MS:=(zo (jp (ke (zi (qq false) (zi zv (ze 0) (eC (.int 0))) (eC (.str "call"))))
 (ku (zi zv (ze 0) (eC (.int 2))))
 kL)
 (zo (jp (ke (zi (gH false) (zi zv (ze 0) (eC (.int 0))) (zh zw [eC (.str "if"),eC (.str "loop"),eC (.str "let"),eC (.str "own")])))
 (ku (uB (zh F.cg [ze 0]) none (some (eC (.int 1)))))
 kL)
 (ku (zh F.cg [ze 0]))))
noncomputable def bB(F:Fs):MS:=(zo (zI (zh lJ [ze 0]) (zC 3))
 (zo (zI (ze 2) (uk (ze 3) (ze 1)))
 (ku (ze 3))))
noncomputable def dD(F:Fs):MS:=(kx (kb (mt F) "bring" (ze 0) [zi zv (ze 1) (eC (.int 1))]))
noncomputable def dO(F:Fs):MS:=(kx (kb (mt F) "bring" (ze 0) [zi qv (ze 2) (zi zv (ze 1) (eC (.int 1)))]))
noncomputable def cH(F:Fs):MS:=(jp (ke (zi (gH false) (zi zv (ze 1) (eC (.int 1))) (eC qf)))
 (kx (kb (mt F) "rest_ahead_of" (ze 0) [zh zw [eC (.str "read"),zi zv (ze 1) (eC (.int 1))]]))
 (kx (kb (mt F) "bring" (ze 0) [zi zv (zi qv (ze 2) (zi zv (ze 1) (eC (.int 1)))) (eC (.int 0))])))
noncomputable def cj(F:Fs):MS:=(jp (ke (zi (gH false) (zi zv (ze 1) (eC (.int 1))) (eC qf)))
 (kx (kb (mt F) "rest_ahead_of" (ze 0) [zh zw [eC (.str "write"),zi zv (ze 1) (eC (.int 1)),zi zv (ze 3) (eC (.int 0))]]))
 (zo (zI (zi zv (ze 3) (eC (.int 0))) (uk (zi qv (ze 2) (zi zv (ze 1) (eC (.int 1)))) (eC (.int 0))))
 (kx (kb (mt F) "bring" (ze 0) [zi zv (ze 3) (eC (.int 0))]))))
noncomputable def d7(F:Fs):MS:=(kx (kb (mt F) "bring" (ze 0) [zi yv (zi addW (zi zv (ze 3) (eC (.int 0))) (zi zv (ze 3) (eC (.int 1)))) (eC gK)]))
noncomputable def dR(F:Fs):MS:=(kx (kb (mt F) "bring" (ze 0) [Zc (ke (zi ii (zi zv (ze 3) (eC (.int 0))) (zi zv (ze 3) (eC (.int 1))))) (eC (.int 1)) (eC (.int 0))]))
noncomputable def dN(F:Fs):MS:=(kx (kb (mt F) "bring" (ze 0) [zi zv (ze 3) (eC (.int 1))]))
noncomputable def eX(F:Fs):MS:=(kx (kb (mt F) "begin" (ze 0) [Zc (ke (zi (qq true) (zi zv (ze 3) (eC (.int 0))) (eC (.int 0)))) (zi zv (ze 1) (eC (.int 2))) (zi zv (ze 1) (eC (.int 3))),ze 2]))
noncomputable def du(F:Fs):MS:=(zo (zI (zh zw [eC (.str "number"),eC (.int 0)]) (zC 4))
 (zo (yY (qk [zi yv (zi zv (ze 3) (eC (.int 0))) (eC xX)]) (zC 5)
 (zI (zh zw [eC (.str "then"),zi zv (ze 1) (eC (.int 2)),ze 4]) (zC 4)))
 (kx (kb (mt F) "begin" (ze 0) [ze 4,ze 2]))))
noncomputable def d9(F:Fs):MS:=(kx (kb (mt F) "begin" (ze 0) [zi zv (ze 1) (eC (.int 3)),zh F.aW [ze 2,zi zv (ze 1) (eC (.int 1)),zi zv (ze 3) (eC (.int 0))]]))
noncomputable def dU(F:Fs):MS:=(kx (kb (mt F) "begin" (ze 0) [zi zv (ze 1) (eC (.int 3)),zh F.aW [ze 2,zi zv (ze 1) (eC (.int 1)),zh xU [zi zv (ze 3) (eC (.int 0))]]]))
noncomputable def dZ(F:Fs):MS:=(kx (kb (mt F) "rest_ahead_of" (ze 0) [zh zw [eC (.str "say"),zi zv (ze 3) (eC (.int 0))]]))
noncomputable def eE(F:Fs):MS:=(kx (kb (mt F) "rest_ahead_of" (ze 0) [zh zw [eC (.str "ask")]]))
noncomputable def cP(F:Fs):MS:=(zo (zI (zi qv (ze 2) (zi zv (ze 1) (eC (.int 1)))) (zC 4))
 (kx (kb (mt F) "begin" (ze 0) [zi zv (ze 4) (eC (.int 0)),zi zv (ze 4) (eC (.int 1))])))
noncomputable def cI(F:Fs):MS:=(zo (zI (zi zv (kN kz "rules" (ze 0)) (zi zv (ze 1) (eC (.int 1)))) (zC 4))
 (zo (zI (aI [zi zv (ze 4) (eC (.int 0)),ze 3]) (zC 5))
 (zo (yY (dA [zi zv (ze 4) (eC (.int 1)),zi zv (ze 1) (eC (.int 3))]) (cw [zC 6,zC 7])
 (zI (zh zw [ze 7,ze 2]) (uk (ze 5) (ze 6))))
 (kx (kb (mt F) "begin" (ze 0) [zi zv (ze 4) (eC (.int 2)),ze 5])))))
noncomputable def bu(F:Fs):MS:=(zo (kx (kb (mt F) "go_on" (ze 0) []))
 (jp (ke (zi (yA false) (kN kz "touch_ahead" (ze 0)) (eC .non)))
 (kx (kb (mt F) "do_touch" (ze 0) [ze 1]))
 kL))
noncomputable def aH(F:Fs):MS:=(zo (zI (zh xU []) (zC 2))
 (zo (kx (kb (mt F) "go_on" (ze 0) []))
 (zo (ua (ke (zi (yA false) (kN kz "touch_ahead" (ze 0)) (eC .non)))
 (zo (kx (kK qa (ze 2) [kb (mt F) "do_touch" (ze 0) [ze 1]]))
 (kx (kb (mt F) "go_on" (ze 0) []))))
 (ku (ze 2)))))
noncomputable def dJ(F:Fs):MS:=(zo (zI (zh F.aY [ze 0,zh j1 [ze 1],ze 2,ze 3]) (zC 4))
 (ku (zh zw [zi zv (zi zv (ze 4) (eC (.int 0))) (eC (.int 0)),zi zv (ze 4) (eC (.int 1)),zi zv (ze 4) (eC (.int 2)),zi zv (ze 4) (eC (.int 3))])))
noncomputable def cJ(F:Fs):MS:=(ku (zh F.aD [xR 0 F.bW [ze 0,ze 1],xR 1 F.cX [ze 2,ze 3]]))
noncomputable def cG(F:Fs):MS:=(ku (zh F.aA [ze 0,ze 1,ze 2,ze 3,zh j1 []]))
noncomputable def JM(F:Fs):MS:=(jp (ke (u5 W9 ii (eC (.int 0)) (ze 7) (zh kH [ze 6])))
 (kx (zh F.bx [zi zv (ze 6) (ze 7),ze 5]))
 kL)
noncomputable def WQ(F:Fs):MS:=(kx (zh F.aD [ze 8,ze 5]))
noncomputable def cR(F:Fs):MS:=zo (zI (xR 1 F.cX [ze 2,ze 3]) (zC 5)) (zo (zI (xD (qS (ze 1)) 1 [0] (zC 0) kG (xR 0 F.bW [ze 1,ze 0])) (zC 6)) (zo (yY (qS (ze 4)) (zC 7) (JM F)) (zo (yY (qS (ze 6)) (zC 8) (WQ F)) (zo (zI (ja (qS (ze 6)) 1 [] (zC 0) kG (kb (mt F) "came_to" (ze 0) [])) (zC 9)) (ku (zh zw [ze 9,kb (mt F) "store" (ze 5) [],kb (mt F) "said" (ze 5) [],kN kz "asks" (ze 5)]))))))
noncomputable def cu(F:Fs):MS:=(zo (jp (ke (zi (qq false) (ze 0) (zh j1 [])))
 (ku (zi kB (eC (.int 7)) (ze 1)))
 kL)
 (ku (zi addW (zi zv (ze 0) (zi yv (ze 1) (zh kH [ze 0]))) (zi kB (eC (.int 6553)) (zi uP (ze 1) (zh kH [ze 0]))))))
noncomputable def bV(F:Fs):MS:=(zo (zI (zi yv (zi addW (zi kB (zi yv (zh F.b7 [ze 0,ze 1]) (eC (.int 2147483563))) (eC (.int 69069))) (zi kB (eC (.int 104723)) (zi addW (ze 1) (eC (.int 1))))) (eC (.int 2147483563))) (zC 3))
 (zo (zI (zi yv (zi addW (zi kB (ze 3) (ze 3)) (zi uP (ze 3) (eC (.int 3)))) (eC (.int 2147483399))) (zC 3))
 (ku (zi yv (zi uP (zi yv (zi addW (zi kB (ze 3) (ze 3)) (zi uP (ze 3) (eC (.int 7)))) (eC (.int 2147483647))) (eC (.int 11))) (ze 2)))))
noncomputable def Yg(F:Fs):MS:=(zI (ze 2) (cw [zC 3,zC 4,zC 5]))
noncomputable def Ys(F:Fs):MS:=(zI (zh F.aa [ze 0,ze 1,eC (.int 8)]) (zC 6))
noncomputable def Zd(F:Fs):MS:=(jp (ke (zi ii (ze 6) (eC (.int 2))))
 (ku (zh zw [eC (.str "number"),zi zv (zh j1 [eC (.int 0),eC (.int 1),eC (.int 2),eC (.int 3),eC (.int 7),eC (.int 1008)]) (zh F.aa [ze 0,zi addW (ze 1) (eC (.int 1)),eC (.int 6)])]))
 kL)
noncomputable def sL(F:Fs):MS:=(jp (uR (ke (zi (qq false) (ze 6) (eC (.int 2)))) (ke (zi (qq true) (ze 3) (zh zw []))))
 (ku (zh zw [eC (.str "name"),zi zv (ze 3) (zh F.aa [ze 0,zi addW (ze 1) (eC (.int 1)),zh kH [ze 3]])]))
 kL)
noncomputable def rQ(F:Fs):MS:=(jp (uR (ke (zi (qq false) (ze 6) (eC (.int 3)))) (ke (zi (qq true) (ze 5) (zh zw []))))
 (ku (zh zw [eC (.str "do"),zi zv (ze 5) (zh F.aa [ze 0,zi addW (ze 1) (eC (.int 1)),zh kH [ze 5]])]))
 kL)
noncomputable def Qi(F:Fs):MS:=(jp (ke (zi (qq false) (ze 6) (eC (.int 4))))
 (ku (zh zw [eC (.str "ask")]))
 kL)
noncomputable def Js(F:Fs):MS:=(zI (zi addW (zh zw [eC (.str "a"),eC (.str "b"),eC (.str "c"),eC (.str "d")]) (zi kB (ze 4) (eC (.int 3)))) (zC 7))
noncomputable def WU(F:Fs):MS:=(ku (zh zw [eC (.str "read"),zi zv (ze 7) (zh F.aa [ze 0,zi addW (ze 1) (eC (.int 1)),zh kH [ze 7]])]))
noncomputable def bj(F:Fs):MS:=zo (Yg F) (zo (Ys F) (zo (Zd F) (zo (sL F) (zo (rQ F) (zo (Qi F) (zo (Js F) (WU F)))))))
noncomputable def KU(F:Fs):MS:=(zI (zh F.aa [ze 0,ze 1,eC (.int 15)]) (zC 5))
noncomputable def sT(F:Fs):MS:=(jp (lq (ke (zi (qq false) (ze 2) (eC (.int 0)))) (ke (zi ii (ze 5) (eC (.int 2)))))
 (ku (zh F.cT [ze 0,zi addW (ze 1) (eC (.int 1)),ze 3]))
 kL)
noncomputable def nX(F:Fs):MS:=(jp (uR (ke (zi ii (ze 5) (eC (.int 4)))) (ke (zi (qq true) (ze 4) (zh zw []))))
 (ku (zh F.cQ [ze 0,ze 1,ze 2,ze 3,ze 4]))
 kL)
noncomputable def tV(F:Fs):MS:=(zI (zh F.au [ze 0,zi addW (zi kB (ze 1) (eC (.int 3))) (eC (.int 7)),zi xB (ze 2) (eC (.int 1)),ze 3,ze 4]) (zC 6))
noncomputable def sW(F:Fs):MS:=(jp (ke (zi ii (ze 5) (eC (.int 6))))
 (zo (zI (zi addW (zh zw [eC (.str "a"),eC (.str "b"),eC (.str "c"),eC (.str "d")]) (zi kB (zi zv (ze 3) (eC (.int 1))) (eC (.int 3)))) (zC 7))
 (ku (zh zw [eC (.str "write"),zi zv (ze 7) (zh F.aa [ze 0,zi addW (ze 1) (eC (.int 3)),zh kH [ze 7]]),ze 6])))
 kL)
noncomputable def tT(F:Fs):MS:=(jp (ke (zi (qq false) (ze 5) (eC (.int 6))))
 (ku (zh zw [eC (.str "say"),ze 6]))
 kL)
noncomputable def tZ(F:Fs):MS:=(jp (ke (zi (qq false) (ze 5) (eC (.int 7))))
 (zo (zI (zi zv (zh j1 [eC (.str "x"),eC (.str "y"),eC (.str "x1")]) (zh F.aa [ze 0,zi addW (ze 1) (eC (.int 3)),eC (.int 3)])) (zC 8))
 (ku (zh zw [eC (.str "let"),ze 8,ze 6,zh F.au [ze 0,zi addW (zi kB (ze 1) (eC (.int 3))) (eC (.int 23)),zi xB (ze 2) (eC (.int 1)),zi addW (zh zw [zi addW (zi zv (ze 3) (eC (.int 0))) (zh zw [ze 8])]) (uB (ze 3) (some (eC (.int 1))) none),ze 4]])))
 kL)
noncomputable def tS(F:Fs):MS:=(jp (ke (zi (qq false) (ze 5) (eC (.int 8))))
 (zo (zI (zi zv (zh j1 [eC (.str "p"),eC (.str "q")]) (zh F.aa [ze 0,zi addW (ze 1) (eC (.int 3)),eC (.int 2)])) (zC 8))
 (zo (zI (zh zw [zi zv (ze 3) (eC (.int 0)),zi addW (zi zv (ze 3) (eC (.int 1))) (zh zw [ze 8]),zi zv (ze 3) (eC (.int 2))]) (zC 9))
 (ku (zh zw [eC (.str "own"),ze 8,ze 6,zh F.au [ze 0,zi addW (zi kB (ze 1) (eC (.int 3))) (eC (.int 23)),zi xB (ze 2) (eC (.int 1)),ze 9,ze 4]]))))
 kL)
noncomputable def rG(F:Fs):MS:=(zI (zh F.au [ze 0,zi addW (zi kB (ze 1) (eC (.int 3))) (eC (.int 41)),zi xB (ze 2) (eC (.int 1)),ze 3,ze 4]) (zC 10))
noncomputable def rP(F:Fs):MS:=(jp (ke (zi (qq false) (ze 5) (eC (.int 9))))
 (ku (zh zw [eC (.str "if"),ze 6,ze 10,zh F.au [ze 0,zi addW (zi kB (ze 1) (eC (.int 3))) (eC (.int 61)),zi xB (ze 2) (eC (.int 1)),ze 3,ze 4]]))
 kL)
noncomputable def li(F:Fs):MS:=(ku (zi addW (zi zv (zh j1 [zh zw [eC (.str "then")],zh zw [eC (.str "add")],zh zw [eC (.str "less")],zh zw [eC (.str "loop")],zh zw [eC (.str "then")]]) (zi xB (ze 5) (eC (.int 10)))) (zh zw [ze 6,ze 10])))
noncomputable def aG(F:Fs):MS:=zo (KU F) (zo (sT F) (zo (nX F) (zo (tV F) (zo (sW F) (zo (tT F) (zo (tZ F) (zo (tS F) (zo (rG F) (zo (rP F) (li F))))))))))
noncomputable def Yq(F:Fs):MS:=(zI (zh F.aa [ze 0,zi addW (ze 1) (eC (.int 3)),zh kH [ze 4]]) (zC 5))
noncomputable def WF(F:Fs):MS:=(zI (zh kH [zi zv (zi zv (ze 4) (ze 5)) (eC (.int 0))]) (zC 6))
noncomputable def Yk(F:Fs):MS:=(zI (zh xU []) (zC 7))
noncomputable def WC(F:Fs):MS:=(yY (qk [zi addW (ze 6) (zh kH [zi zv (zi zv (ze 4) (ze 5)) (eC (.int 1))])]) (zC 8)
 (kx (kK qa (ze 7) [zh F.au [ze 0,zi addW (zi addW (zi kB (ze 1) (eC (.int 3))) (eC (.int 7))) (zi kB (eC (.int 5)) (ze 8)),zi xB (ze 2) (eC (.int 1)),ze 3,ze 4]])))
noncomputable def Yc(F:Fs):MS:=(ku (zh zw [eC (.str "call"),ze 5,zh xE [uB (ze 7) none (some (ze 6))],zh xE [uB (ze 7) (some (ze 6)) none]]))
noncomputable def cC(F:Fs):MS:=zo (Yq F) (zo (WF F) (zo (Yk F) (zo (WC F) (Yc F))))
noncomputable def WR(F:Fs):MS:=(zI (zh zw []) (zC 2))
noncomputable def BF(F:Fs):MS:=(yY (qk [zh F.aa [ze 0,ze 1,eC (.int 3)]]) (zC 3)
 (zo (zI (zi zv (zh j1 [zh zw [],zh zw [eC (.str "x")],zh zw [eC (.str "y"),eC (.str "x")]]) (zh F.aa [ze 0,zi addW (zi addW (ze 1) (eC (.int 1))) (zi kB (eC (.int 5)) (ze 3)),eC (.int 3)])) (zC 4))
 (zo (zI (zi zv (zh j1 [zh zw [],zh zw [eC (.str "f")],zh zw [eC (.str "f"),eC (.str "g1")]]) (zh F.aa [ze 0,zi addW (zi addW (ze 1) (eC (.int 2))) (zi kB (eC (.int 5)) (ze 3)),eC (.int 3)])) (zC 5))
 (zo (zI (zh F.au [ze 0,zi addW (zi addW (ze 1) (eC (.int 20))) (zi kB (eC (.int 7)) (ze 3)),eC (.int 2),zh zw [ze 4,zh zw [],ze 5],ze 2]) (zC 6))
 (zI (zi addW (ze 2) (zh zw [zh zw [ze 4,ze 5,ze 6]])) (zC 2))))))
noncomputable def Uy(F:Fs):MS:=(ku (ze 2))
noncomputable def bR(F:Fs):MS:=zo (WR F) (zo (BF F) (Uy F))
noncomputable def bN(F:Fs):MS:=(ku (zh xE [ja (qk [eC (.int 4)]) 1 [0,1] (zC 0) kG (zh F.aa [ze 1,zi addW (ze 2) (ze 0),eC (.int 6)])]))
noncomputable def bM(F:Fs):MS:=(ku (ja (qk [zh F.aa [ze 0,ze 1,eC (.int 4)]]) 1 [0,1] (zC 0) kG (zh F.aa [ze 1,zi addW (zi addW (ze 2) (eC (.int 1))) (ze 0),eC (.int 9)])))
noncomputable def w1(F:Fs):MS:=(jp (ke (zi (gH false) (ze 3) (zh zw [eC (.str "number"),eC (.str "name"),eC (.str "ask"),eC (.str "read")])))
 (ku (eC (.int 1)))
 kL)
noncomputable def w2(F:Fs):MS:=(jp (ke (zi (qq false) (ze 3) (eC (.str "do"))))
 (ku (lM (ze 2) (zi zv (ze 1) (eC (.int 1))) (eC (.int 1))))
 kL)
noncomputable def w3(F:Fs):MS:=(jp (ke (zi (qq false) (ze 3) (eC (.str "call"))))
 (zo (zI (zh iu [ja (dA [zi zv (zi zv (ze 0) (zi zv (ze 1) (eC (.int 1)))) (eC (.int 1)),zi zv (ze 1) (eC (.int 3))]) 2 [0,2] (cw [zC 0,zC 1]) kG (zh zw [ze 0,zh F.aj [ze 2,ze 1,ze 3]])]) (zC 4))
 (zo (zI (zh gS [ja (qS (zi zv (ze 1) (eC (.int 2)))) 1 [0,2] (zC 0) kG (zh F.aj [ze 1,ze 0,ze 2])]) (zC 5))
 (ku (zi addW (zi addW (eC (.int 1)) (ze 5)) (zh F.aj [ze 0,zi zv (zi zv (ze 0) (zi zv (ze 1) (eC (.int 1)))) (eC (.int 2)),ze 4])))))
 kL)
noncomputable def w4(F:Fs):MS:=(zI (ja (qS (uB (ze 1) (some (eC (.int 1))) none)) 1 [0,2] (zC 0) (ke (uf (isW .tuple) (ze 0))) (zh F.aj [ze 1,ze 0,ze 2])) (zC 6))
noncomputable def w5(F:Fs):MS:=(jp (ke (zi (qq false) (ze 3) (eC (.str "loop"))))
 (ku (zi addW (zi addW (eC (.int 1)) (zi zv (ze 6) (eC (.int 0)))) (zi kB (eC (.int 3)) (zi zv (ze 6) (eC (.int 1))))))
 kL)
noncomputable def w6(F:Fs):MS:=(ku (zi addW (eC (.int 1)) (zh gS [ze 6])))
noncomputable def aO(F:Fs):MS:=zo (zI (zi zv (ze 1) (eC (.int 0))) (zC 3)) (zo (w1 F) (zo (w2 F) (zo (w3 F) (zo (w4 F) (zo (w5 F) (w6 F))))))
noncomputable def bQ(F:Fs):MS:=(zo (zI (zh F.au [ze 0,ze 1,ze 2,zh zw [zh zw [],zh zw [],zh zw []],ze 3]) (zC 4))
 (zo (jp (ke (zi Yb (zh F.aj [ze 3,ze 4,eC (.fdc [])]) (eC (.int 80))))
 (ku (zh zw [eC (.str "read"),zi zv (eC (.str "abcd")) (zh F.aa [ze 0,ze 1,eC (.int 4)])]))
 kL)
 (ku (ze 4))))
noncomputable def Q0(F:Fs):MS:=(zI (zh F.bK [ze 0,eC (.int 1)]) (zC 1))
noncomputable def Q1(F:Fs):MS:=(zI (ja (qk [zi addW (eC (.int 1)) (zh F.aa [ze 0,eC (.int 60),eC (.int 3)])]) 1 [0,1] (zC 0) kG (zh F.aF [ze 1,zi addW (eC (.int 90)) (zi kB (eC (.int 31)) (ze 0)),eC (.int 2),ze 2])) (zC 2))
noncomputable def Q2(F:Fs):MS:=(zI (zh F.bI [ze 0,eC (.int 70)]) (zC 3))
noncomputable def Q3(F:Fs):MS:=(zI (zh F.bG [ze 0,eC (.int 75)]) (zC 4))
noncomputable def Q4(F:Fs):MS:=(zI (zh F.aY [ze 1,ze 2,ze 3,ze 4]) (zC 5))
noncomputable def Q5(F:Fs):MS:=(jp (ke (zi (qq true) (zh F.aA [ze 1,ze 2,ze 3,ze 4,zh j1 []]) (ze 5)))
 (ku (eC (.bl false)))
 kL)
noncomputable def Q6(F:Fs):MS:=(zI (zh kH [zh F.bc [ze 1,zi zv (ze 2) (eC (.int 0)),ze 3,ze 4]]) (zC 6))
noncomputable def Q7(F:Fs):MS:=(yY (qS (zh zw [ze 6,zi addW (ze 6) (eC (.int 3))])) (zC 7)
 (jp (ke (zi (qq true) (zh F.aA [ze 1,ze 2,ze 3,ze 4,zi kB (zh j1 [eC (.int 0)]) (ze 7)]) (ze 5)))
 (ku (eC (.bl false)))
 kL))
noncomputable def Q8(F:Fs):MS:=(zI (ja (qk [zh gx [eC (.int 1),zh fg [eC (.int 10),zh kH [ze 0]]]]) 1 [0,2] (zC 0) kG (zh F.aa [ze 1,zi addW (eC (.int 300)) (ze 0),zh kH [ze 2]])) (zC 8))
noncomputable def Q9(F:Fs):MS:=(zI (zh F.aA [ze 1,ze 2,ze 3,ze 4,ze 8]) (zC 9))
noncomputable def BG(F:Fs):MS:=(zI (zh F.aA [ze 1,zi addW (ze 2) (zh j1 [zh zw [eC (.str "number"),eC (.int 5)]]),ze 3,ze 4,zi addW (ze 8) (zh j1 [zh kH [ze 2]])]) (zC 10))
noncomputable def BJ(F:Fs):MS:=(jp (ke (zi (qq true) (ze 10) (zi addW (zh zw [zi addW (zi zv (ze 9) (eC (.int 0))) (zh j1 [eC (.int 5)])]) (uB (ze 9) (some (eC (.int 1))) none))))
 (ku (eC (.bl false)))
 kL)
noncomputable def Uq(F:Fs):MS:=(zI (zh F.dq [ze 1,zi zv (ze 2) (eC (.int 0)),ze 3,ze 4]) (zC 11))
noncomputable def Ux(F:Fs):MS:=(zI (zh F.aa [ze 0,eC (.int 320),zi addW (ze 6) (eC (.int 1))]) (zC 7))
noncomputable def BP(F:Fs):MS:=(jp (ke (zi (qq true) (zh F.aA [ze 1,uB (ze 2) none (some (eC (.int 1))),ze 3,ze 4,zi kB (zh j1 [eC (.int 0)]) (ze 7)]) (zi addW (zh zw [zh j1 [zi zv (ze 11) (eC (.int 0))]]) (uB (ze 11) (some (eC (.int 1))) none))))
 (ku (eC (.bl false)))
 kL)
noncomputable def Bp(F:Fs):MS:=(zI (aI [eC (.str "abcd"),ze 3]) (zC 12))
noncomputable def CP(F:Fs):MS:=(yY (qS (zh F.bc [ze 1,zi zv (ze 2) (eC (.int 0)),ze 3,ze 4])) (zC 13)
 (zo (jp (ke (zi (qq false) (zi zv (ze 13) (eC (.int 0))) (eC (.str "write"))))
 (zI (zi zv (ze 13) (eC (.int 2))) (uk (ze 12) (zi zv (ze 13) (eC (.int 1)))))
 kL)
 (jp (uR (ke (zi (qq false) (zi zv (ze 13) (eC (.int 0))) (eC (.str "read")))) (ke (zi (qq true) (zi zv (ze 13) (eC (.int 2))) (zi qv (ze 12) (zi zv (ze 13) (eC (.int 1)))))))
 (ku (eC (.bl false)))
 kL)))
noncomputable def Bt(F:Fs):MS:=(ku (zi (qq false) (zi zv (ze 11) (eC (.int 1))) (zh xE [ja (rq (eC (.str "abcd"))) 1 [12] (zC 0) kG (zi qv (ze 1) (ze 0))])))
noncomputable def cU(F:Fs):MS:=zo (Q0 F) (zo (Q1 F) (zo (Q2 F) (zo (Q3 F) (zo (Q4 F) (zo (Q5 F) (zo (Q6 F) (zo (Q7 F) (zo (Q8 F) (zo (Q9 F) (zo (BG F) (zo (BJ F) (zo (Uq F) (zo (Ux F) (zo (BP F) (zo (Bp F) (zo (CP F) (Bt F)))))))))))))))))
noncomputable def bA(F:Fs):MS:=(zo (zI (ze 1) (x6 kz "rules" (ze 0)))
 (zo (zI (zh xU [zh zw [eC (.bl false),ze 2,eC (.fdc [])]]) (x6 kz "steps" (ze 0)))
 (zo (zI (zh xU []) (x6 kz "worths" (ze 0)))
 (zI (eC .non) (x6 kz "touch_ahead" (ze 0))))))
noncomputable def cD(F:Fs):MS:=(kx (kK qa (kN kz "steps" (ze 0)) [zh zw [eC (.bl false),ze 1,ze 2]]))
noncomputable def cA(F:Fs):MS:=(kx (kK qa (kN kz "worths" (ze 0)) [ze 1]))
noncomputable def aQ(F:Fs):MS:=(zI (ze 1) (x6 kz "touch_ahead" (ze 0)))
noncomputable def aV(F:Fs):MS:=(ua (uR (ke (zi Yb (zh kH [kN kz "steps" (ze 0)]) (eC (.int 0)))) (ke (zi (yA true) (kN kz "touch_ahead" (ze 0)) (eC .non))))
 (zo (zI (kK uG (kN kz "steps" (ze 0)) []) (zC 1))
 (kx (kb (mt F) "take_step" (ze 0) [zi zv (ze 1) (eC (.int 0)),zi zv (ze 1) (eC (.int 1)),zi zv (ze 1) (eC (.int 2))]))))
noncomputable def aq(F:Fs):MS:=(zo (zI (zh F.az [ze 2]) (zC 4))
 (jp (lq (ke (ze 1)) (ke (zi (qq false) (zh kH [ze 4]) (eC (.int 0)))))
 (kx (Kt (qE F) (zi zv (ze 2) (eC (.int 0))) [ze 0,ze 2,ze 3,zh F.aN [kN kz "worths" (ze 0),zh kH [ze 4]]]))
 (zo (kx (kK qa (kN kz "steps" (ze 0)) [zh zw [eC (.bl true),ze 2,ze 3]]))
 (kx (kK uK (kN kz "steps" (ze 0)) [ja (nh [ze 4]) 1 [3] (zC 0) kG (zh zw [eC (.bl false),ze 0,ze 1])])))))
noncomputable def aR(F:Fs):MS:=(zo (zI (kb (mt F) "do" (ze 1) [kN kz "touch_ahead" (ze 0)]) (zC 2))
 (zo (zI (eC .non) (x6 kz "touch_ahead" (ze 0)))
 (zo (kx (kb (mt F) "bring" (ze 0) [zi zv (ze 2) (uf gQ (eC (.int 1)))]))
 (ku (ze 2)))))
noncomputable def bD(F:Fs):MS:=(ku (zi zv (kN kz "worths" (ze 0)) (uf gQ (eC (.int 1)))))
noncomputable def bL(F:Fs):MS:=(zo (zI (aI [eC qf,ze 1]) (x6 kz "shelves" (ze 0)))
 (zo (zI (zh fy [ze 2]) (x6 kz "answers" (ze 0)))
 (zo (zI (zh xU []) (x6 kz "spoken" (ze 0)))
 (zI (eC (.int 0)) (x6 kz "asks" (ze 0))))))
noncomputable def aZ(F:Fs):MS:=(zo (jp (ke (zi (qq false) (zi zv (ze 1) (eC (.int 0))) (eC (.str "read"))))
 (ku (zh zw [eC (.str "read"),zi zv (ze 1) (eC (.int 1)),zi qv (kN kz "shelves" (ze 0)) (zi zv (ze 1) (eC (.int 1)))]))
 kL)
 (zo (jp (ke (zi (qq false) (zi zv (ze 1) (eC (.int 0))) (eC (.str "write"))))
 (zo (zI (zi zv (ze 1) (eC (.int 2))) (uk (kN kz "shelves" (ze 0)) (zi zv (ze 1) (eC (.int 1)))))
 (ku (ze 1)))
 kL)
 (zo (jp (ke (zi (qq false) (zi zv (ze 1) (eC (.int 0))) (eC (.str "say"))))
 (zo (kx (kK qa (kN kz "spoken" (ze 0)) [zi zv (ze 1) (eC (.int 1))]))
 (ku (ze 1)))
 kL)
 (ku (zh zw [eC (.str "ask"),kb (mt F) "next_answer" (ze 0) []])))))
noncomputable def aM(F:Fs):MS:=(zo (zI (kN kz "asks" (ze 0)) (zC 1))
 (zo (lX kz "asks" mW (ze 0) (eC (.int 1)))
 (zo (jp (ke (zi ii (ze 1) (zh kH [kN kz "answers" (ze 0)])))
 (ku (zi zv (kN kz "answers" (ze 0)) (ze 1)))
 kL)
 (ku (eC (.int 0))))))
noncomputable def bC(F:Fs):MS:=(ku (zh xE [ja (qS (eC qf)) 1 [0] (zC 0) kG (zi qv (kN kz "shelves" (ze 1)) (ze 0))]))
noncomputable def bU(F:Fs):MS:=(ku (zh fy [kN kz "spoken" (ze 0)]))
noncomputable def step(F:Fs):Fs where
 cg:=gc (kd 1 0 (cW F))
 aN:=gc (kd 2 1 (aC F))
 az:=gc (kd 1 0 (aB F))
 aW:=gc (kd 3 1 (bB F))
 bF:=gc (kd 4 0 (dD F))
 cO:=gc (kd 4 0 (dO F))
 bZ:=gc (kd 4 0 (cH F))
 bw:=gc (kd 4 0 (cj F))
 cY:=gc (kd 4 0 (d7 F))
 cL:=gc (kd 4 0 (dR F))
 cN:=gc (kd 4 0 (dN F))
 dB:=gc (kd 4 0 (eX F))
 cM:=gc (kd 4 2 (du F))
 dh:=gc (kd 4 0 (d9 F))
 cZ:=gc (kd 4 0 (dU F))
 dg:=gc (kd 4 0 (dZ F))
 cV:=gc (kd 4 0 (eE F))
 bJ:=gc (kd 4 1 (cP F))
 bY:=gc (kd 4 4 (cI F))
 bx:=gc (kd 2 0 (bu F))
 aD:=gc (kd 2 1 (aH F))
 dq:=gc (kd 4 1 (dJ F))
 bc:=gc (kd 4 0 (cJ F))
 aY:=gc (kd 4 0 (cG F))
 aA:=gc (kd 5 5 (cR F))
 b7:=gc (kd 2 0 (cu F))
 aa:=gc (kd 3 1 (bV F))
 cT:=gc (kd 3 5 (bj F))
 au:=gc (kd 5 6 (aG F))
 cQ:=gc (kd 5 4 (cC F))
 bK:=gc (kd 2 5 (bR F))
 bI:=gc (kd 2 0 (bN F))
 bG:=gc (kd 2 0 (bM F))
 aj:=gc (kd 3 4 (aO F))
 aF:=gc (kd 4 1 (bQ F))
 dY:=gc (kd 1 13 (cU F))
 bh:=gc (kd 3 0 (bA F))
 bT:=gc (kd 3 0 (cD F))
 bO:=gc (kd 2 0 (cA F))
 aJ:=gc (kd 2 0 (aQ F))
 aK:=gc (kd 1 1 (aV F))
 aL:=gc (kd 4 1 (aq F))
 aP:=gc (kd 2 1 (aR F))
 bf:=gc (kd 1 0 (bD F))
 bH:=gc (kd 3 0 (bL F))
 aX:=gc (kd 2 0 (aZ F))
 aU:=gc (kd 1 1 (aM F))
 b8:=gc (kd 1 0 (bC F))
 cF:=gc (kd 1 0 (bU F))
 bW:=F.bh
 cX:=F.bH
noncomputable def Fs.bot:Fs:=let z:List W->M W:=λ_ _=>none;⟨z,z,z,z,z,z,z,z,z,z,z,z,z,z,z,z,z,z,z,z,z,z,z,z,z,z,z,z,z,z,z,z,z,z,z,z,z,z,z,z,z,z,z,z,z,z,z,z,z,z,z⟩
noncomputable def lv:Nat->Fs
 | 0=>.bot
 | n+1=>step (lv n)
def fns(F:Fs):List (Str×(List W->M W)):=[(("parts_of":Str),F.cg),(("taken_off":Str),F.aN),(("parts_run_first":Str),F.az),(("with_known":Str),F.aW),(("do_number":Str),F.bF),(("do_name":Str),F.cO),(("do_read":Str),F.bZ),(("do_write":Str),F.bw),(("do_add":Str),F.cY),(("do_less":Str),F.cL),(("do_then":Str),F.cN),(("do_if":Str),F.dB),(("do_loop":Str),F.cM),(("do_let":Str),F.dh),(("do_own":Str),F.cZ),(("do_say":Str),F.dg),(("do_ask":Str),F.cV),(("do_handed":Str),F.bJ),(("do_call":Str),F.bY),(("one_turn":Str),F.bx),(("touches_to_end":Str),F.aD),(("run":Str),F.dq),(("trace":Str),F.bc),(("run_all":Str),F.aY),(("run_by":Str),F.aA),(("_law_cell":Str),F.b7),(("_law_drawn":Str),F.aa),(("_law_leaf":Str),F.cT),(("_law_deed":Str),F.au),(("_law_call":Str),F.cQ),(("_law_rules":Str),F.bK),(("_law_store":Str),F.bI),(("_law_asked":Str),F.bG),(("_law_weight":Str),F.aj),(("_law_light":Str),F.aF),(("law":Str),F.dY)]
def cons:List (Str×W):=[("SHELVES",qf),("MODULUS",gK),("LOOP_MODULUS",xX)]
def tabs:List (Str×List (Str×W)):=[("FORMS",t_FORMS)]
def bins:List Str:=["dict","isinstance","len","list","max","min","range","reversed","sum","tuple","zip"]
def mks(F:Fs):List (Str×(Nat×(List W->M W))):=[("Doing",(0,F.bW)),("Room",(1,F.cX))]
def ways(F:Fs):List (Str×List (Str×(List W->M W))):=[("WAYS",qE F)]
def rc(F:Fs):RC:=⟨⟨.function,[],false,false,[]⟩,[],false,fns F,cons,tabs,bins,[],[],[],[],kz,mt F,mks F,[],ways F⟩
def df(x:Str)(k:Nat)(ps n:List Str)(o:List Str:=[])(t:List Str:=[])(c:List ((Nat×Nat)×List Str):=[])(d:List Str:=[])(m:List (Nat×Nat):=[]):Def:=⟨x,x,top k,ps,ps++n,o,t,c,d,m⟩
def fM:Def:=df "parts_of" 3 ["deed"] []
def fc:Def:=df "taken_off" 5 ["heap","count"] ["backward"] (o:=["backward","heap"]) (c:=[((12,15),["turn","heap"])])
def dF:Def:=df "parts_run_first" 10 ["deed"] []
def eV:Def:=df "with_known" 11 ["known","name","thing"] ["inner"] (o:=["inner"]) (d:=["known"])
def eY:Def:=df "do_number" 12 ["doing","deed","known","worths"] []
def f9:Def:=df "do_name" 13 ["doing","deed","known","worths"] [] (d:=["known"])
def fY:Def:=df "do_read" 14 ["doing","deed","known","worths"] [] (d:=["known"])
def fJ:Def:=df "do_write" 15 ["doing","deed","known","worths"] [] (d:=["known"])
def gn:Def:=df "do_add" 16 ["doing","deed","known","worths"] []
def fX:Def:=df "do_less" 17 ["doing","deed","known","worths"] []
def gh:Def:=df "do_then" 18 ["doing","deed","known","worths"] []
def gB:Def:=df "do_if" 19 ["doing","deed","known","worths"] [] (d:=["known"])
def gb:Def:=df "do_loop" 20 ["doing","deed","known","worths"] ["unrolled","turn"] (d:=["known"])
def gr:Def:=df "do_let" 21 ["doing","deed","known","worths"] [] (d:=["known"])
def gm:Def:=df "do_own" 22 ["doing","deed","known","worths"] [] (d:=["known"]) (m:=[(59,52)])
def gw:Def:=df "do_say" 23 ["doing","deed","known","worths"] []
def gq:Def:=df "do_ask" 24 ["doing","deed","known","worths"] []
def fj:Def:=df "do_handed" 25 ["doing","deed","known","worths"] ["handed"] (d:=["known"])
def fZ:Def:=df "do_call" 26 ["doing","deed","known","worths"] ["rule","inner","name","part"] (o:=["inner"]) (d:=["known"])
def fO:Def:=df "one_turn" 29 ["doing","room"] []
def dI:Def:=df "touches_to_end" 30 ["doing","room"] ["touches"] (o:=["touches"])
def gD:Def:=df "run" 34 ["rules","deed","store","asked"] ["told"]
def gC:Def:=df "trace" 35 ["rules","deed","store","asked"] []
def gj:Def:=df "run_all" 36 ["rules","deeds","store","asked"] []
def gA:Def:=df "run_by" 37 ["rules","deeds","store","asked","turns"] ["room","doings","number","doing","worths"] (o:=["doings"]) (c:=[((168,13),["deed","rules"]),((174,13),["doing"])])
def fV:Def:=df "_law_cell" 39 ["_law_script","_law_k"] []
def fD:Def:=df "_law_drawn" 40 ["_law_script","_law_k","_law_many"] ["_law_cell_here"]
def fQ:Def:=df "_law_leaf" 41 ["_law_script","_law_at","_law_known"] ["_law_names","_law_owns","_law_handed","_law_way","_law_shelves"]
def fU:Def:=df "_law_deed" 42 ["_law_script","_law_at","_law_deep","_law_known","_law_rules_here"] ["_law_way","_law_one","_law_shelves","_law_word","_law_inner","_law_other"]
def fL:Def:=df "_law_call" 43 ["_law_script","_law_at","_law_deep","_law_known","_law_rules_here"] ["_law_number","_law_size","_law_parts","_law_k"] (o:=["_law_parts"])
def fB:Def:=df "_law_rules" 44 ["_law_script","_law_at"] ["_law_rules_here","_law_k","_law_names","_law_handed","_law_body"]
def fC:Def:=df "_law_store" 45 ["_law_script","_law_at"] [] (c:=[((237,17),["_law_k","_law_script","_law_at"])])
def fu:Def:=df "_law_asked" 46 ["_law_script","_law_at"] [] (c:=[((239,11),["_law_k","_law_script","_law_at"])])
def eG:Def:=df "_law_weight" 47 ["_law_rules_here","_law_deed_here","_law_handed"] ["_law_word","_law_there","_law_parts","_law_inner"] (c:=[((247,26),["_law_one","_law_part","_law_rules_here","_law_handed"]),((248,25),["_law_part","_law_rules_here","_law_handed"]),((250,17),["_law_part","_law_rules_here","_law_handed"])])
def eZ:Def:=df "_law_light" 48 ["_law_script","_law_at","_law_deep","_law_rules_here"] ["_law_deed_here"]
def gk:Def:=df "law" 49 ["_law_script"] ["_law_rules_here","_law_deeds","_law_store_here","_law_asked_here","_law_due","_law_first","_law_size","_law_turns","_law_told","_law_more","_law_one","_law_shelves","_law_touch"] (o:=["_law_shelves"]) (c:=[((261,17),["_law_k","_law_script","_law_rules_here"]),((271,17),["_law_k","_law_script","_law_deeds"]),((286,32),["_law_shelf","_law_shelves"])]) (d:=["_law_shelves"])
def eQ:Def:=⟨"__init__","Doing.__init__",inClass (top 28) 0,["self","rules","deed"],["self","rules","deed"],["steps","worths"],[],[],[],[]⟩
def d8:Def:=⟨"begin","Doing.begin",inClass (top 28) 1,["self","deed","known"],["self","deed","known"],[],[],[],["known"],[]⟩
def eF:Def:=⟨"bring","Doing.bring",inClass (top 28) 2,["self","brought"],["self","brought"],[],[],[],[],[]⟩
def dm:Def:=⟨"rest_ahead_of","Doing.rest_ahead_of",inClass (top 28) 3,["self","touch"],["self","touch"],[],[],[],[],[]⟩
def dX:Def:=⟨"go_on","Doing.go_on",inClass (top 28) 4,["self"],["self","step"],[],[],[],[],[]⟩
def dG:Def:=⟨"take_step","Doing.take_step",inClass (top 28) 5,["self","parts_done","deed","known"],["self","parts_done","deed","known","parts"],[],[],[((102,30),["part","known"])],["known"],[]⟩
def dH:Def:=⟨"do_touch","Doing.do_touch",inClass (top 28) 6,["self","room"],["self","room","touch"],[],[],[],[],[]⟩
def dM:Def:=⟨"came_to","Doing.came_to",inClass (top 28) 8,["self"],["self"],[],[],[],[],[]⟩
def fG:Def:=⟨"__init__","Room.__init__",inClass (top 32) 0,["self","store","asked"],["self","store","asked"],["shelves","spoken"],[],[],["shelves"],[]⟩
def gf:Def:=⟨"do","Room.do",inClass (top 32) 1,["self","touch"],["self","touch"],[],[],[],["shelves"],[]⟩
def dC:Def:=⟨"next_answer","Room.next_answer",inClass (top 32) 2,["self"],["self","place"],[],[],[],[],[]⟩
def eU:Def:=⟨"store","Room.store",inClass (top 32) 3,["self"],["self"],[],[],[((154,21),["shelf","self"])],["shelves"],[]⟩
def fH:Def:=⟨"said","Room.said",inClass (top 32) 4,["self"],["self"],[],[],[],[],[]⟩
def defs:List Def:=[fM,fc,dF,eV,eY,f9,fY,fJ,gn,fX,gh,gB,gb,gr,gm,gw,gq,fj,fZ,fO,dI,gD,gC,gj,gA,fV,fD,fQ,fU,fL,fB,fC,fu,eG,eZ,gk]
def CT:List (Str×List (Str×Str)):=[("WAYS",[("number","do_number"),("name","do_name"),("read","do_read"),("write","do_write"),("add","do_add"),("less","do_less"),("then","do_then"),("if","do_if"),("loop","do_loop"),("let","do_let"),("own","do_own"),("say","do_say"),("ask","do_ask"),("do","do_handed"),("call","do_call")])]
def T(P:Program)(K:PySem.W.Frag)(w:World)(mg:Str->Option Value)(cl:Cl):Prop:=V4 (iC K mg) defs/\AllOf (Glob K mg) cons/\AllOf (TabOk K w.params mg) tabs/\AllNone mg bins/\(cl.P=P/\cl.w=w)/\cq K cl kz/\(um K cl 0 d8/\um K cl 0 eF/\um K cl 0 dm/\um K cl 0 dX/\um K cl 0 dG/\um K cl 0 dH/\um K cl 0 dM/\um K cl 1 gf/\um K cl 1 dC/\um K cl 1 eU/\um K cl 1 fH/\True)/\(mX K mg cl "Doing" 0 eQ/\mX K mg cl "Room" 1 fG/\True)/\AllOf (λx l=>TabOk K w.params mg x (gL mg l)) CT
def lvl{P:Program}{w:World}{K:PySem.W.Frag}{mg:Str->Option Value}{base:Heap}{cl:Cl}(t:T P K w mg cl):∀n,BaseOk P w K mg base cl n (rc (lv n))/\rh P w K mg base cl n "Doing" 0 (lv n).bh/\rh P w K mg base cl n "Room" 1 (lv n).bH:=by
 obtain⟨⟨T0,T1,T2,T3,T4,T5,T6,T7,T8,T9,T10,T11,T12,T13,T14,T15,T16,T17,T18,T19,T20,T21,T22,T23,T24,T25,T26,T27,T28,T29,T30,T31,T32,T33,T34,T35,-⟩,c,t,z,pw,k,⟨M0,M1,M2,M3,M4,M5,M6,M7,M8,M9,M10,-⟩,⟨I0,I1,-⟩,⟨W0,-⟩⟩:=t;intro n;induction n with
 | zero=>
  have A:AllOf (FnAt P w K mg base cl 0) (fns (lv 0)):=⟨kr T0,kr T1,kr T2,kr T3,kr T4,kr T5,kr T6,kr T7,kr T8,kr T9,kr T10,kr T11,kr T12,kr T13,kr T14,kr T15,kr T16,kr T17,kr T18,kr T19,kr T20,kr T21,kr T22,kr T23,kr T24,kr T25,kr T26,kr T27,kr T28,kr T29,kr T30,kr T31,kr T32,kr T33,kr T34,kr T35,trivial⟩;exact⟨⟨A,c,t,z,pw,k,λ_ _ _=>AllM.at (l:=mt (lv 0)) ⟨we M0,we M1,we M2,we M3,we M4,we M5,we M6,we M7,we M8,we M9,we M10,trivial⟩,⟨.inl λ_ _=>rfl,.inl λ_ _=>rfl,trivial⟩,⟨Qs (fns:=fns (lv 0)) A W0 ⟨rfl,by kernel_rfl,rfl,by kernel_rfl,rfl,by kernel_rfl,rfl,by kernel_rfl,rfl,by kernel_rfl,rfl,by kernel_rfl,rfl,by kernel_rfl,rfl,by kernel_rfl,rfl,by kernel_rfl,rfl,by kernel_rfl,rfl,by kernel_rfl,rfl,by kernel_rfl,rfl,by kernel_rfl,rfl,by kernel_rfl,rfl,by kernel_rfl,trivial⟩,trivial⟩⟩,nQ I0,nQ I1⟩
 | succ n ih=>
  have A:AllOf (FnAt P w K mg base cl (n+1)) (fns (lv (n+1))):=⟨kP (b:=cW _) T0 ih.1,kP (b:=aC _) T1 ih.1,kP (b:=aB _) T2 ih.1,kP (b:=bB _) T3 ih.1,kP (b:=dD _) T4 ih.1,kP (b:=dO _) T5 ih.1,kP (b:=cH _) T6 ih.1,kP (b:=cj _) T7 ih.1,kP (b:=d7 _) T8 ih.1,kP (b:=dR _) T9 ih.1,kP (b:=dN _) T10 ih.1,kP (b:=eX _) T11 ih.1,kP (b:=du _) T12 ih.1,kP (b:=d9 _) T13 ih.1,kP (b:=dU _) T14 ih.1,kP (b:=dZ _) T15 ih.1,kP (b:=eE _) T16 ih.1,kP (b:=cP _) T17 ih.1,kP (b:=cI _) T18 ih.1,kP (b:=bu _) T19 ih.1,kP (b:=aH _) T20 ih.1,kP (b:=dJ _) T21 ih.1,kP (b:=cJ _) T22 ih.1,kP (b:=cG _) T23 ih.1,kP (b:=cR _) T24 ih.1,kP (b:=cu _) T25 ih.1,kP (b:=bV _) T26 ih.1,kP (b:=bj _) T27 ih.1,kP (b:=aG _) T28 ih.1,kP (b:=cC _) T29 ih.1,kP (b:=bR _) T30 ih.1,kP (b:=bN _) T31 ih.1,kP (b:=bM _) T32 ih.1,kP (b:=aO _) T33 ih.1,kP (b:=bQ _) T34 ih.1,kP (b:=cU _) T35 ih.1,trivial⟩;exact⟨⟨A,c,t,z,pw,k,λ_ _ _=>AllM.at (l:=mt (lv (n+1))) ⟨uH (b:=cD _) M0 ih.1,uH (b:=cA _) M1 ih.1,uH (b:=aQ _) M2 ih.1,uH (b:=aV _) M3 ih.1,uH (b:=aq _) M4 ih.1,uH (b:=aR _) M5 ih.1,uH (b:=bD _) M6 ih.1,uH (b:=aZ _) M7 ih.1,uH (b:=aM _) M8 ih.1,uH (b:=bC _) M9 ih.1,uH (b:=bU _) M10 ih.1,trivial⟩,⟨.inr ⟨n,zg _,ih.2.1⟩,.inr ⟨n,zg _,ih.2.2⟩,trivial⟩,⟨Qs (fns:=fns (lv (n+1))) A W0 ⟨rfl,by kernel_rfl,rfl,by kernel_rfl,rfl,by kernel_rfl,rfl,by kernel_rfl,rfl,by kernel_rfl,rfl,by kernel_rfl,rfl,by kernel_rfl,rfl,by kernel_rfl,rfl,by kernel_rfl,rfl,by kernel_rfl,rfl,by kernel_rfl,rfl,by kernel_rfl,rfl,by kernel_rfl,rfl,by kernel_rfl,rfl,by kernel_rfl,trivial⟩,trivial⟩⟩,Yl (b:=bA _) I0 ih.1,Yl (b:=bL _) I1 ih.1⟩
end K15
namespace K15
open PySem L2 ML
theorem U8{α:Type}{β:Type}{c:Prop}[Decidable c]{f g:α->β}{x:α}:(if c then f else g) x=if c then f x else g x:=by split<;>rfl
local macro_rules
 |`(tactic|simp![$l,*])=>`(tactic|simp[step,kd,zo,jp,ku,kx,kL,zI,zC,cw,dk,ze,eC,zi,uf,zh,ko,Zc,u5,ke,uR,lq,Jx,bnd,qq,gH,U8,$l,*])
noncomputable def forms:List (Str×(Int×Int)):=[("number",(2,2)),("name",(2,2)),("read",(2,2)),("write",(3,2)),("add",(3,1)),("less",(3,1)),("then",(3,1)),("if",(4,1)),("loop",(3,1)),("let",(4,2)),("own",(4,2)),("say",(2,1)),("ask",(1,1)),("do",(2,2)),("call",(4,2))]
noncomputable def fm(x:Str):Option (Int×Int):=forms.lookup x
theorem XJ:t_FORMS=forms.map λp=>(p.1,.tup [.int p.2.1,.int p.2.2]):=rfl
theorem K5{α β:Type}(f:α->β)(x:Str):∀l:List (Str×α),(l.map λp=>(p.1,f p.2)).lookup x=(l.lookup x).map f
 | []=>rfl
 | (k,v)::r=>by
  simp only[zq,kI];cases x==k with
  | true=>rfl
  | false=>exact K5 f x r
def D2(x:Str):t_FORMS.lookup x=(fm x).map λp=>W.tup [.int p.1,.int p.2]:=by
 rw[XJ];exact K5 (λp:Int×Int=>W.tup [.int p.1,.int p.2]) x forms
def xN{l:List W}(d:dt n (.tup l)=true):∃m,n=m+1/\l.length<=1000/\∀w∈l,dt m w=true:=by
 cases n with
 | zero=>cases d
 | succ m=>
  unfold dt at d;rw[zx] at d;exact⟨m,rfl,qF d.1,λw hw=>kJ.mp d.2 w hw⟩
def xC:zv (.tup (x::r)) (.int 0) h=some (x,h):=by simp[zv,atI,xl]
def yb:zv (.tup (x::y::r)) (.int 1) h=some (y,h):=by
 have:(1:Int)<(r.length:Int)+1+1:=by omega
 simp[zv,atI,xl,this]
def ck:zv (.tup (x::y::z::r)) (.int 2) h=some (z,h):=by
 have:(2:Int)<(r.length:Int)+1+1+1:=by omega
 simp[zv,atI,xl,this]
def pF:zv (.tup (x::y::z::u::r)) (.int 3) h=some (u,h):=by
 have:(3:Int)<(r.length:Int)+1+1+1+1:=by omega
 simp[zv,atI,xl,this]
def CH{l:List W}{i:Int}(h0:0<=i)(h1:i<l.length)(e:l[i.toNat]?=some w):zv (.tup l) (.int i) h=some (w,h):=by
 have hj:i.toNat<l.length:=by omega
 have:l[i.toNat]=w:=by rw[zE hj] at e;exact zZ e
 simp[zv,atI,xl,h0,h1,this]
noncomputable def vi:W->List W
 | .tup (.str x::r)=>if x=="call" then (match r with
   | [_,.tup a,.tup b]=>a++b
   | _=>[]) else (match fm x with
   | some p=>r.drop (p.2.toNat-1)
   | none=>[])
 | _=>[]
def lj{l:List W}{k:Nat}:cutW l (some (k:Int)) none=l.drop k:=by
 unfold cutW;have e1:HT.sIx l.length 0 (some (k:Int))=min k l.length:=by
  have:¬((k:Int)<0):=by omega
  simp[HT.sIx,this]
 have e2:HT.sIx l.length l.length none=l.length:=rfl;rw[e1,e2];have:l.drop (min k l.length)=l.drop k:=by
  by_cases h:k<=l.length
  .rw[Nat.min_eq_left h]
  .rw[Nat.min_eq_right ∅,yh,yP ∅]
 rw[this];apply yO
 rw[vg];omega
def CK{p:Int×Int}(e:fm x=some p):1<=p.2/\p.2<=4:=by
 have:∀(l:List (Str×(Int×Int))),(l.all λq=>decide (1<=q.2.2/\q.2.2<=4))=true->l.lookup x=some p->1<=p.2/\p.2<=4:=by
  intro l;induction l with
  | nil=>intro _ e;cases e
  | cons q r ih=>
   obtain⟨k,v⟩:=q;intro h e;rw[ju,zx] at h;rw[kI] at e;split at e
   .cases e;exact qF h.1
   .exact ih h.2 e
 exact this forms (by decide) e
def vF(ks:List Str):(zD ks).length=ks.length:=by simp[zD]
def JL(d:dt (n+1) w=true):∀v∈vi w,dt n v=true:=by
 intro v hv;unfold vi at hv;split at hv
 .rename_i x r
  obtain⟨m,e,hl,hd⟩:=xN d;cases e;split at hv
  .split at hv
   .rename_i a b
    rename_i z0;cases n with
    | zero=>have:=hd (.tup a) (by simp);cases this
    | succ n=>
    obtain⟨m1,e1,la,da⟩:=xN (hd (.tup a) (by simp));obtain⟨m2,e2,lb,db⟩:=xN (hd (.tup b) (by simp));cases e1;cases e2;rcases zW.mp hv with h | h
    .exact jI (da v h) (vB _)
    .exact jI (db v h) (vB _)
   .simp at hv
  .split at hv
   .exact hd v (zP _ (qK hv))
   .simp at hv
 .simp at hv
def KL(d:dt n w=true):(vi w).length<=2000:=by
 unfold vi;split
 .rename_i x r
  obtain⟨m,rfl,hl,hd⟩:=xN d;split
  .split
   .rename_i a b
    obtain⟨m1,e1,la,da⟩:=xN (hd (.tup a) (by simp));obtain⟨m2,e2,lb,db⟩:=xN (hd (.tup b) (by simp));rw[zK];omega
   .simp
  .split
   .rw[vg]
    simp at hl;omega
   .simp
 .simp
def at0{α:Type}(h:List α)(o:α):(h++[o])[h.length]?=some o:=by simp
def mG{α:Type}(h:List α)(o o':α):(h++[o]).set h.length o'=h++[o']:=by rw[jU _ _ (zg _)];simp
noncomputable def up:Nat->Fs->Fs
 | 0,F=>F
 | n+1,F=>step (up n F)
def zt(e:a ρ h=some (.nx ρ',h')):zo a b ρ h=b ρ' h':=by unfold zo;rw[e]
def y0(e:a ρ h=some (.ret w,h')):zo a b ρ h=some (.ret w,h'):=by unfold zo;rw[e]
def ut:zv (.fls (a::r)) (.int 0) h=some (a,h):=by simp[zv,getL,atI,xl]
def rD:zv (.fls (a::b::r)) (.int 1) h=some (b,h):=by
 have:(1:Int)<(r.length:Int)+1+1:=by omega
 simp[zv,getL,atI,xl,this]
noncomputable abbrev th(x:Str)(r:List W):W:=.tup (.str x::r)
def pP{l:List W}(hk:k<=l.length):cutW l none (some (k:Int))=l.take k:=by
 unfold cutW;have e1:HT.sIx l.length l.length (some (k:Int))=k:=by
  have:¬((k:Int)<0):=by omega
  simp[HT.sIx,this];omega
 have e2:HT.sIx l.length 0 none=0:=rfl;rw[e1,e2];simp
def WG:cutW (x::r) (some 1) none=r:=by
 have:=lj (l:=x::r) (k:=1);simpa using this
def ints_map(l:List W)(f:W->Int):intsOf (l.map λw=>.int (f w))=some (l.map f):=by
 induction l with
 | nil=>rfl
 | cons x r ih=>simp only[zq];unfold intsOf;rw[ih]
def filter_true{α:Type}(l:List α):(l.filter λ_=>true)=l:=List.filter_eq_self.mpr (by simp)
def VN{l:List W}(d:dt n (.fls l)=true)(hn:n<=60):eqB h (.fls l) (.fls [])=some l.isEmpty:=by
 have e1:=uo (h:=h) d (show n<=deep from hn);have e2:=uo (h:=h) (show dt 1 (.fls [])=true from rfl) (show 1<=deep by decide);unfold eqB;simp only[nF,e1,e2];congr 1
 cases n with
 | zero=>cases d
 | succ n=>
  cases l<;>simp[toD,PyData.eqv,PyData.eqvAll]
noncomputable def jv(ns:List Int):W:=.fls (ns.map W.int)
theorem Bc{ns:List Int}(h:ns.length<=63):dt 2 (jv ns)=true:=by
 unfold jv dt;rw[zx];refine⟨qw (by simp;omega),kJ.mpr λw hw=>?_⟩;obtain⟨i,_,rfl⟩:=kO.mp hw;rfl
noncomputable def uU(ns:List Int)(k:Int):Int:=if ns=[] then 7*k else ns.getD (k%ns.length).toNat 0+6553*(k/ns.length)
def UX{ns:List Int}(hl:ns.length<=63):(step F).b7 [jv ns,.int k] h=some (.int (uU ns k),h):=by
 refine aw (n:=1) ?_ rfl;have eq:=VN (h:=h) (Bc hl) ∅;have sm:(small 7||small k)=true:=by rw[show small 7=true by decide];rfl
 cases ns with
 | nil=>
  have eq':eqB h (jv []) (.fls [])=some true:=eq;simp![cu,j1,cap,eq',kB,sm,uU]
 | cons n r=>
  have eq':eqB h (jv (n::r)) (.fls [])=some false:=eq;have hp:(0:Int)<(r.length:Int)+1:=by omega
  have hb:(r.length:Int)+1<1073741824:=by simp at hl;omega
  have hm0:=vG k (show((r.length:Int)+1)≠0 by omega);have hm1:=qY k hp;have hlen:kH [jv (n::r)] h=some (.int ((r.length:Int)+1),h):=by simp[kH,jv,getL]
  have hix:zv (jv (n::r)) (.int (k%((r.length:Int)+1))) h=some (.int ((n::r).getD (k%((r.length:Int)+1)).toNat 0),h):=by
   have hj:(k%((r.length:Int)+1)).toNat<(n::r).length:=by simp;omega
   have e1:((n::r).map W.int)[(k%((r.length:Int)+1)).toNat]?=some (.int ((n::r).getD (k%((r.length:Int)+1)).toNat 0)):=by
    rw[jb,zE hj];simp only[yt,List.getD,zE hj,Option.getD_some]
   have e2:atI ((n::r).map W.int) (k%((r.length:Int)+1))=some (.int ((n::r).getD (k%((r.length:Int)+1)).toNat 0)):=by
    unfold atI xl;rw[zY hm0,zY (by simp;omega)];exact e1
   simp only[zv,jv,getL,e2]
  have sm2:(small 6553||small (k/((r.length:Int)+1)))=true:=by rw[show small 6553=true by decide];rfl
  simp![cu,j1,cap,eq',hlen,yv,hp,hix,uP,hb,kB,sm2,addW,k8,uU]
noncomputable def uY(ns:List Int)(k:Int):Int:=(uU ns k%2147483563*69069+104723*(k+1))%2147483563
noncomputable def uZ(ns:List Int)(k:Int):Int:=(uY ns k*uY ns k+uY ns k/3)%2147483399
noncomputable def qV(ns:List Int)(k many:Int):Int:=(uZ ns k*uZ ns k+uZ ns k/7)%2147483647/11%many
def i4{i:Int}(h0:0<=i)(h1:i<2147483648):small i=true:=by
 unfold small;exact qw ⟨by omega,by omega⟩
def xZ{ns:List Int}{many:Int}(hl:ns.length<=63)(hm:0<many):(step (step F)).aa [jv ns,.int k,.int many] h=some (.int (qV ns k many),h):=by
 refine aw (n:=1) ?_ rfl;have e:=λh=>UX (F:=F) (k:=k) (h:=h) hl
 generalize step F=G at e;have a1:0<=uY ns k/\uY ns k<2147483563:=⟨vG _ ∅,qY _ ∅⟩;have a2:0<=uZ ns k/\uZ ns k<2147483399:=⟨vG _ ∅,qY _ ∅⟩;have c0:0<=uU ns k%2147483563/\uU ns k%2147483563<2147483563:=⟨vG _ ∅,qY _ ∅⟩;have s1:(small (uU ns k%2147483563)||small 69069)=true:=by rw[i4 c0.1 ∅];rfl
 have s2:(small 104723||small (k+1))=true:=by rw[show small 104723=true by decide];rfl
 have s3:(small (uY ns k)||small (uY ns k))=true:=by rw[i4 a1.1 ∅];rfl
 have s4:(small (uZ ns k)||small (uZ ns k))=true:=by rw[i4 a2.1 ∅];rfl
 have m1:∀h,kB (.int (uU ns k%2147483563)) (.int 69069) h=some (.int (uU ns k%2147483563*69069),h):=λh=>by simp only[kB,s1,kW]
 have m2:∀h,kB (.int 104723) (.int (k+1)) h=some (.int (104723*(k+1)),h):=λh=>by simp only[kB,s2,kW]
 have m3:∀h,kB (.int (uY ns k)) (.int (uY ns k)) h=some (.int (uY ns k*uY ns k),h):=λh=>by simp only[kB,s3,kW]
 have m4:∀h,kB (.int (uZ ns k)) (.int (uZ ns k)) h=some (.int (uZ ns k*uZ ns k),h):=λh=>by simp only[kB,s4,kW]
 have f1:(uU ns k%2147483563*69069+104723*(k+1))%2147483563=uY ns k:=rfl;have f2:(uY ns k*uY ns k+uY ns k/3)%2147483399=uZ ns k:=rfl;have f3:(uZ ns k*uZ ns k+uZ ns k/7)%2147483647/11%many=qV ns k many:=rfl;have b1:(zI (zi yv (zi addW (zi kB (zi yv (zh G.b7 [ze 0,ze 1]) (eC (.int 2147483563))) (eC (.int 69069))) (zi kB (eC (.int 104723)) (zi addW (ze 1) (eC (.int 1))))) (eC (.int 2147483563))) (zC 3)) [some (jv ns),some (.int k),some (.int many),none] h=some (.nx [some (jv ns),some (.int k),some (.int many),some (.int (uY ns k))],h):=by
  simp![e,yv,m1,m2,addW,k8,f1]
 have b2:(zI (zi yv (zi addW (zi kB (ze 3) (ze 3)) (zi uP (ze 3) (eC (.int 3)))) (eC (.int 2147483399))) (zC 3)) [some (jv ns),some (.int k),some (.int many),some (.int (uY ns k))] h=some (.nx [some (jv ns),some (.int k),some (.int many),some (.int (uZ ns k))],h):=by
  simp![yv,m3,uP,addW,k8,f2]
 have b3:(ku (zi yv (zi uP (zi yv (zi addW (zi kB (ze 3) (ze 3)) (zi uP (ze 3) (eC (.int 7)))) (eC (.int 2147483647))) (eC (.int 11))) (ze 2))) [some (jv ns),some (.int k),some (.int many),some (.int (uZ ns k))] h=some (.ret (.int (qV ns k many)),h):=by
  simp![yv,m4,uP,addW,k8,hm,f3]
 have row:bV G [some (jv ns),some (.int k),some (.int many),none] h=some (.ret (.int (qV ns k many)),h):=by
  unfold bV;rw[zt b1,zt b2,b3]
 simp only[kd,zm,zV,kW,zq,jd,List.replicate,jk,kE];simp only[row]
def kF{many:Int}(hm:0<many):0<=qV ns k many/\qV ns k many<many:=⟨vG _ ∅,qY _ hm⟩
def c9{l:List W}(hl:l.length<=1000)(h:∀w∈l,dt n w=true):dt (n+1) (.tup l)=true:=by
 unfold dt;rw[zx];exact⟨qw hl,kJ.mpr h⟩
inductive Sh(rl:List W)(k:Nat)(H:List Str):W->Prop
 | number (i:Int):Sh rl k H (th "number" [.int i])
 | name (v:Str):Sh rl k H (th "name" [.str v])
 | read (v:Str):Sh rl k H (th "read" [.str v])
 | doo (v:Str) (hv:v∈H):Sh rl k H (th "do" [.str v])
 | ask:Sh rl k H (th "ask" [])
 | write (v:Str) (a:List W):Sh rl k H (th "write" [.str v,.tup a])
 | say (a:List W):Sh rl k H (th "say" [.tup a])
 | lett (v:Str) (a b:List W):Sh rl k H (th "let" [.str v,.tup a,.tup b])
 | own (v:Str) (a b:List W):Sh rl k H (th "own" [.str v,.tup a,.tup b])
 | add (a b:List W):Sh rl k H (th "add" [.tup a,.tup b])
 | less (a b:List W):Sh rl k H (th "less" [.tup a,.tup b])
 | thenn (a b:List W):Sh rl k H (th "then" [.tup a,.tup b])
 | loop (a b:List W):Sh rl k H (th "loop" [.tup a,.tup b])
 | iff (a b c:List W):Sh rl k H (th "if" [.tup a,.tup b,.tup c])
 | call (i:Nat) (a b:List W) (hi:i<k) (ns:List W) (hs:List Str) (body:W) (e:rl[i]?=some (.tup [.tup ns,.tup (zD hs),body])) (lb:b.length=hs.length):Sh rl k H (th "call" [.int i,.tup a,.tup b])
inductive Pn:W->Prop
 | mk (x:Str) (r:List W) (p:Int×Int) (hc:(x==("call":Str))=false) (hf:fm x=some p) (hp:r.filter (tyB .tuple)=vi (th x r)):Pn (th x r)
def Sh.split{rl:List W}{H:List Str}(h:Sh rl k H w):Pn w\/∃(i:Nat) (a b:List W) (ns:List W) (hs:List Str) (body:W),w=th "call" [.int i,.tup a,.tup b]/\i<k/\rl[i]?=some (.tup [.tup ns,.tup (zD hs),body]):=by
 have key:∀(x:Str) (p:Int×Int),(x==("call":Str))=false->fm x=some p->∀r:List W,r.filter (tyB .tuple)=r.drop (p.2.toNat-1)->Pn (th x r):=by
  intro x p hc hf r hr;refine .mk x r p hc hf ?_;simp only[vi,hc,hf,hr];rfl
 cases h with
 | number i=>exact .inl (key _ (2,2) ⋯ ⋯ _ (by simp[tyB]))
 | name v=>exact .inl (key _ (2,2) ⋯ ⋯ _ (by simp[tyB]))
 | read v=>exact .inl (key _ (2,2) ⋯ ⋯ _ (by simp[tyB]))
 | doo v hv=>exact .inl (key _ (2,2) ⋯ ⋯ _ (by simp[tyB]))
 | ask=>exact .inl (key _ (1,1) ⋯ ⋯ _ (by simp))
 | write v a=>exact .inl (key _ (3,2) ⋯ ⋯ _ (by simp[tyB]))
 | say a=>exact .inl (key _ (2,1) ⋯ ⋯ _ (by simp[tyB]))
 | lett v a b=>exact .inl (key _ (4,2) ⋯ ⋯ _ (by simp[tyB]))
 | own v a b=>exact .inl (key _ (4,2) ⋯ ⋯ _ (by simp[tyB]))
 | add a b=>exact .inl (key _ (3,1) ⋯ ⋯ _ (by simp[tyB]))
 | less a b=>exact .inl (key _ (3,1) ⋯ ⋯ _ (by simp[tyB]))
 | thenn a b=>exact .inl (key _ (3,1) ⋯ ⋯ _ (by simp[tyB]))
 | loop a b=>exact .inl (key _ (3,1) ⋯ ⋯ _ (by simp[tyB]))
 | iff a b c=>exact .inl (key _ (4,1) ⋯ ⋯ _ (by simp[tyB]))
 | call i a b hi ns hs body e lb=>exact .inr ⟨i,a,b,ns,hs,body,rfl,hi,e⟩
def dP(i:Int)(a b:List W):vi (th "call" [.int i,.tup a,.tup b])=a++b:=by simp[vi]
noncomputable def okd(rl:List W)(k:Nat)(H:List Str):Nat->W->Prop
 | 0,_=>False
 | n+1,w=>Sh rl k H w/\∀p∈vi w,okd rl k H n p
noncomputable def fI(l:List (Key×W)):Prop:=∀p∈l,∃v,p.2=.int v
def YO(h:fI l):fI (jS l k (.int v)):=by
 intro p hp;unfold jS at hp;split at hp
 .obtain⟨q,hq,rfl⟩:=kO.mp hp
  split
  .exact⟨v,rfl⟩
  .exact h q hq
 .rcases zW.mp hp with z | z
  .exact h p z
  .simp at z;subst z;exact⟨v,rfl⟩
theorem nC:∀{more l:List (Key×W)},fI l->fI more->fI (qB l more)
 | [],l,h,_=>h
 | (k,w)::r,l,h,hm=>by
  obtain⟨v,e⟩:=hm (k,w) z9;simp only at e;subst e;have:=nC (more:=r) (l:=jS l k (.int v)) (YO h) λp hp=>hm p (zP _ hp)
  exact this
def YX(h:fI l):∃v,(vS l k).getD (.int 1)=.int v:=by
 unfold vS;cases e:l.find? λkv=>decide (kv.1=k) with
 | none=>exact⟨1,rfl⟩
 | some p=>
  obtain⟨v,hv⟩:=h p (vP e);exact⟨v,by simp[hv]⟩
structure RulesGood(rl:List W):Prop where
 g:∀i,i<rl.length->∃(ns:List W) (hs:List Str) (body:W),rl[i]?=some (.tup [.tup ns,.tup (zD hs),body])/\dt 60 body=true/\okd rl i hs 3 body/\hs.length<=4
noncomputable def WOk(G:Fs)(rl:List W)(k n:Nat):Prop:=∀(Hd:List Str) (w:W) (hd:List (Key×W)),okd rl k Hd n w->dt 60 w=true->fI hd->∃v:Int,∀h,G.aj [.tup rl,w,.fdc hd] h=some (.int v,h)
noncomputable def wv(G:Fs)(rl:List W)(hd:List (Key×W))(w:W):Int:=match G.aj [.tup rl,w,.fdc hd] [] with
 | some (.int v,_)=>v
 | _=>0
def WOk.at{G:Fs}(H:WOk G rl k n)(o:okd rl k Hd n w)(d:dt 60 w=true)(q:fI hd)(h:MH):G.aj [.tup rl,w,.fdc hd] h=some (.int (wv G rl hd w),h):=by
 obtain⟨v,e⟩:=H _ w hd o d q;unfold wv;rw[e []];exact e h
noncomputable def four:List Str:=["number","name","ask","read"]
noncomputable abbrev ρw(rl:List W)(w:W)(hd:List (Key×W))(x:Str)(o4 o5 o6:Option W):En:=[some (.tup rl),some w,some (.fdc hd),some (.str x),o4,o5,o6]
theorem l4(F:Fs):aO F=zo (zI (zi zv (ze 1) (eC (.int 0))) (zC 3)) (zo (w1 F) (zo (w2 F) (zo (w3 F) (zo (w4 F) (zo (w5 F) (w6 F)))))):=rfl
def in4(d:dt n (.str x)=true)(hn:n<=60):inB h (.str x) (.tup [.str "number",.str "name",.str "ask",.str "read"])=some (xQ four (.str x)):=i8 (l:=four) d hn ⋯
def UJ(d:dt n (.str x)=true)(hn:n<=60)(q:xQ four (.str x)=true):w1 F (ρw rl w hd x none none none) h=some (.ret (.int 1),h):=by
 have c4:(4:Nat)<=cap:=by decide
 have e:=in4 (h:=h) d hn;rw[q] at e;simp![w1,zw,c4,e]
def oI(d:dt n (.str x)=true)(hn:n<=60)(q:xQ four (.str x)=false):w1 F (ρw rl w hd x none none none) h=some (.nx (ρw rl w hd x none none none),h):=by
 have c4:(4:Nat)<=cap:=by decide
 have e:=in4 (h:=h) d hn;rw[q] at e;simp![w1,zw,c4,e]
def Ko(q:(x==("do":Str))=false):w2 F (ρw rl w hd x none none none) h=some (.nx (ρw rl w hd x none none none),h):=by
 simp![w2,ve,q]
def W8(q:(x==("call":Str))=false):w3 F (ρw rl w hd x none none none) h=some (.nx (ρw rl w hd x none none none),h):=by
 simp![w3,ve,q]
def JT(l:List (Str×W))(f:W->Int):pairsOf (l.map λp=>.tup [.str p.1,.int (f p.2)])=some (l.map λp=>(.str p.1,.int (f p.2))):=by
 induction l with
 | nil=>rfl
 | cons x r ih=>simp only[zq];unfold pairsOf;rw[ih]
theorem QI(l:List (Str×W))(f:W->Int):keysOf (l.map λp=>(W.str p.1,W.int (f p.2)))=some (l.map λp=>(.inr p.1,.int (f p.2))):=by
 induction l with
 | nil=>rfl
 | cons x r ih=>simp only[zq];unfold keysOf;rw[ih];rfl
def pH(hs:List Str)(b:List W):(zD hs).zip b=(hs.zip b).map λp=>(W.str p.1,p.2):=by
 induction hs generalizing b with
 | nil=>rfl
 | cons x r ih=>
  cases b with
  | nil=>rfl
  | cons y b=>simp only[zD,zq,jO,zq] at ih ⊢;rw[ih]
theorem nB:∀{a b:List Str},zD a=zD b->a=b
 | [],[],_=>rfl
 | [],y::b,h=>by simp[zD] at h
 | x::a,[],h=>by simp[zD] at h
 | x::a,y::b,h=>by
  simp only[zD,zq,jR,W.str.injEq] at h;rw[h.1,nB (a:=a) (b:=b) h.2]
def u7(e1:m ρ h=some (w,h'))(e2:g w ρ h'=some (ρ',h2)):zI m g ρ h=some (.nx ρ',h2):=by
 unfold zI;rw[e1];simp only[e2]
def oU{f:List W->M W}(e:m ρ h=some (w,h')):zh f [m] ρ h=f [w] h':=by
 simp[zh,ko,bnd,e]
def tI{rl:List W}(hr:RulesGood rl)(hk:k<=rl.length)(H:WOk G rl k n)(HB:∀i,i<k->WOk G rl i 3):WOk (step G) rl k (n+1):=by
 intro Hd w hd o d q;suffices hs:∃v:Int,∀h,aO G [some (.tup rl),some w,some (.fdc hd),none,none,none,none] h=some (.ret (.int v),h) by
  obtain⟨v,e⟩:=hs;refine⟨v,λh=>aw (n:=1) ?_ rfl⟩;simp only[kd,zm,zV,kW,zq,jd,List.replicate,jk,kE];simp only[e h]
 have dp:∀v∈vi w,dt 60 v=true:=λv hv=>jI (JL (n:=59) d v hv) ∅
 have lp:=KL d;have start:∀x r,w=th x r->∀h,(zI (zi zv (ze 1) (eC (.int 0))) (zC 3)) [some (.tup rl),some w,some (.fdc hd),none,none,none,none] h=some (.nx (ρw rl w hd x none none none),h):=by
  intro x r e h;subst e;simp![xC]
 have dx:∀x r,w=th x r->dt 59 (.str x)=true:=by
  intro x r e;subst e;obtain⟨m,e,hl,hd⟩:=xN d;cases e;exact hd _ z9
 have leaf:∀x r,w=th x r->xQ four (.str x)=true->∃v:Int,∀h,aO G [some (.tup rl),some w,some (.fdc hd),none,none,none,none] h=some (.ret (.int v),h):=by
  intro x r e hx;refine⟨1,λh=>?_⟩;rw[l4,zt (start x r e h),y0 (UJ (dx x r e) ∅ hx)]
 have inner:∀x r,w=th x r->r.filter (tyB .tuple)=vi w->∀h,w4 G (ρw rl w hd x none none none) h=some (.nx (ρw rl w hd x none none (some (.fls ((vi w).map λv=>.int (wv G rl hd v))))),h):=by
  intro x r e hq h;have c:=f6 (mi:=qS (uB (ze 1) (some (eC (.int 1))) none)) (ks:=[0,2]) (t:=ke (uf (isW .tuple) (ze 0))) (m:=zh G.aj [ze 1,ze 0,ze 2]) (ρ:=ρw rl w hd x none none none) (h:=h) (l:=r) (tyB .tuple) (λv=>.int (wv G rl hd v))
   (by subst e;simp![qS,uB,uT,gz,srcOf,WG])
   (λv hv H'=>by
    subst e;obtain⟨m,e,hl,hd'⟩:=xN d
    simp![UO (hd' v (zP _ hv))])
   (λv hv hy H'=>by
    have hv':v∈vi w:=by rw[<-hq];exact vD.mpr ⟨hv,hy⟩
    simp![H.at (o.2 v hv') (dp v hv') q H'])
   (λv hv _=>by unfold low;rfl)
   (by
    subst e;obtain⟨m,e,hl,hd'⟩:=xN d;have:r.length<=1000:=by simp at hl;omega
    exact zT this (by decide))
  rw[hq] at c;unfold w4 zI;rw[c];simp![]
 have other:∀x r,w=th x r->xQ four (.str x)=false->(x==("do":Str))=false->(x==("loop":Str))=false->Pn w->∃v:Int,∀h,aO G [some (.tup rl),some w,some (.fdc hd),none,none,none,none] h=some (.ret (.int v),h):=by
  intro x r e h1 h2 h3 hp;refine⟨1+uM ((vi w).map λv=>wv G rl hd v),λh=>?_⟩;cases hp with
  | mk x' r' p hc hf hq=>
   cases e;have e2:=ints_map (vi (th x r)) λv=>wv G rl hd v
   rw[l4,zt (start x r rfl h),zt (oI (dx x r rfl) ∅ h1),zt (Ko h2),zt (W8 hc),zt (inner x r rfl hq h),
    zt (ρ':=ρw rl (th x r) hd x none none (some (.fls ((vi (th x r)).map λv=>.int (wv G rl hd v))))) (h':=h) (by simp![w5,ve,h3])]
   simp![w6,gS,xS,getL,e2,addW,k8]
 have osh:=o.1;have osp:=o.1.split;cases osh with
 | number i=>exact leaf _ _ rfl ⋯
 | name v=>exact leaf _ _ rfl ⋯
 | read v=>exact leaf _ _ rfl ⋯
 | ask=>exact leaf _ _ rfl ⋯
 | doo v=>
  obtain⟨u,hu⟩:=YX (k:=.inr v) q;refine⟨u,λh=>?_⟩;rw[l4,zt (start _ _ rfl h),zt (oI (dx _ _ rfl) ∅ ⋯)];refine y0 ?_;simp![w2,ve,lM,yT,yb,keyOf,hu]
 | write v a=>
  rcases osp with hp | ⟨_,_,_,_,_,_,e,_,_⟩
  .exact other _ _ rfl ⋯ ⋯ ⋯ hp
  .cases e
 | say a=>
  rcases osp with hp | ⟨_,_,_,_,_,_,e,_,_⟩
  .exact other _ _ rfl ⋯ ⋯ ⋯ hp
  .cases e
 | lett v a b=>
  rcases osp with hp | ⟨_,_,_,_,_,_,e,_,_⟩
  .exact other _ _ rfl ⋯ ⋯ ⋯ hp
  .cases e
 | own v a b=>
  rcases osp with hp | ⟨_,_,_,_,_,_,e,_,_⟩
  .exact other _ _ rfl ⋯ ⋯ ⋯ hp
  .cases e
 | add a b=>
  rcases osp with hp | ⟨_,_,_,_,_,_,e,_,_⟩
  .exact other _ _ rfl ⋯ ⋯ ⋯ hp
  .cases e
 | less a b=>
  rcases osp with hp | ⟨_,_,_,_,_,_,e,_,_⟩
  .exact other _ _ rfl ⋯ ⋯ ⋯ hp
  .cases e
 | thenn a b=>
  rcases osp with hp | ⟨_,_,_,_,_,_,e,_,_⟩
  .exact other _ _ rfl ⋯ ⋯ ⋯ hp
  .cases e
 | iff a b c=>
  rcases osp with hp | ⟨_,_,_,_,_,_,e,_,_⟩
  .exact other _ _ rfl ⋯ ⋯ ⋯ hp
  .cases e
 | loop a b=>
  have ep:vi (th "loop" [.tup a,.tup b])=[.tup a,.tup b]:=by
   simp[vi,show(("loop":Str)=="call")=false by decide +kernel,show fm "loop" = some (3,1) by decide +kernel]
  refine⟨1+wv G rl hd (.tup a)+3*wv G rl hd (.tup b),λh=>?_⟩;have hin:=inner _ _ rfl (by rw[ep];simp[tyB]) h;rw[ep] at hin;rw[l4,zt (start _ _ rfl h),zt (oI (dx _ _ rfl) ∅ ⋯),zt (Ko ⋯),zt (W8 ⋯),zt hin];refine y0 ?_;have sm:(small 3||small (wv G rl hd (.tup b)))=true:=by rw[show small 3=true by decide];rfl
  simp![w5,ve,ut,rD,addW,k8,kB,sm]
 | call i a b hi ns hs body e=>
  obtain⟨ns',hs',body',e',db,ob,hl4⟩:=hr.g i ∅;have eb:hs=hs'/\body=body':=by
   rw[e] at e';injection e' with e';injection e' with e';simp only[jR,W.tup.injEq,and_true] at e';refine⟨?_,e'.2.2⟩;have:=e'.2.1;exact nB this
  obtain⟨rfl,rfl⟩:=eb;obtain⟨m,em,hl,hd'⟩:=xN d;cases em;obtain⟨m1,e1,la,da⟩:=xN (hd' (.tup a) (by simp));obtain⟨m2,e2,lb,dbb⟩:=xN (hd' (.tup b) (by simp));rw[dP] at dp;have op:=o.2;rw[dP] at op;have ei:∀h,zv (.tup rl) (.int (i:Int)) h=some (.tup [.tup ns,.tup (zD hs),body],h):=λh=>CH ∅ ∅ (by simpa using e)
  have ok2:fI (qB [] ((hs.zip b).map λp=>(Sum.inr p.1,W.int (wv G rl hd p.2)))):=by
   refine nC (λp hp=>by simp at hp) λp hp=>?_
   obtain⟨z,_,rfl⟩:=kO.mp hp;exact⟨_,rfl⟩
  refine⟨1+uM (a.map λv=>wv G rl hd v)+wv G rl (qB [] ((hs.zip b).map λp=>(Sum.inr p.1,W.int (wv G rl hd p.2)))) body,λh=>?_⟩;have c2:(2:Nat)<=cap:=by decide
  have hzl:(hs.zip b).length<=4:=by rw[qz];omega
  have cz:=Dh (mi:=dA [zi zv (zi zv (ze 0) (zi zv (ze 1) (eC (.int 1)))) (eC (.int 1)),zi zv (ze 1) (eC (.int 3))]) (ks:=[0,2]) (t:=kG) (m:=zh zw [ze 0,zh G.aj [ze 2,ze 1,ze 3]]) (ρ:=ρw rl (th "call" [.int i,.tup a,.tup b]) hd "call" none none none) (h:=h) (l:=(hs.zip b).map λp=>(W.str p.1,p.2)) (λ_ _=>true) (λx y=>.tup [x,.int (wv G rl hd y)])
   (by simp![dA,xC,yb,pF,ei,oS,uE,pH])
   (λv hv H'=>rfl)
   (λv hv _ H'=>by
    obtain⟨p,hp,rfl⟩:=kO.mp hv;have hb:p.2∈b:=(vC (show(p.1,p.2)∈hs.zip b from hp)).2;have hb':p.2∈a++b:=zW.mpr (.inr hb)
    simp![H.at (op _ hb') (dp _ hb') q H',zw,c2])
   (λv hv _=>by
    obtain⟨p,hp,rfl⟩:=kO.mp hv
    simp[low,lows])
   (by rw[zB];exact zT hzl (by decide))
  rw[filter_true,j0] at cz;have cs:=f6 (mi:=qS (zi zv (ze 1) (eC (.int 2)))) (ks:=[0,2]) (t:=kG) (m:=zh G.aj [ze 1,ze 0,ze 2]) (ρ:=ρw rl (th "call" [.int i,.tup a,.tup b]) hd "call" (some (.fdc (qB [] ((hs.zip b).map λp=>(Sum.inr p.1,W.int (wv G rl hd p.2)))))) none none) (h:=h) (l:=a) (λ_=>true) (λv=>.int (wv G rl hd v))
   (by simp![qS,ck,srcOf])
   (λv hv H'=>rfl)
   (λv hv _ H'=>by
    have hb':v∈a++b:=zW.mpr (.inl hv)
    simp![H.at (op _ hb') (dp _ hb') q H'])
   (λv hv _=>by unfold low;rfl)
   (zT la (by decide))
  rw[filter_true] at cs;have e3:=ints_map a λv=>wv G rl hd v
  have pm:=JT (hs.zip b) λv=>wv G rl hd v
  have km:=QI (hs.zip b) λv=>wv G rl hd v
  have body_ok:=(HB i hi).at (hd:=qB [] ((hs.zip b).map λp=>(Sum.inr p.1,W.int (wv G rl hd p.2)))) ob db ok2 h;have hz1000:(hs.zip b).length<=1000:=by omega
  rw[l4,zt (start _ _ rfl h),zt (oI (dx _ _ rfl) ∅ ⋯),zt (Ko ⋯)];refine y0 ?_;have s1:(zI (zh iu [ja (dA [zi zv (zi zv (ze 0) (zi zv (ze 1) (eC (.int 1)))) (eC (.int 1)),zi zv (ze 1) (eC (.int 3))]) 2 [0,2] (cw [zC 0,zC 1]) kG (zh zw [ze 0,zh G.aj [ze 2,ze 1,ze 3]])]) (zC 4)) (ρw rl (th "call" [.int i,.tup a,.tup b]) hd "call" none none none) h=some (.nx (ρw rl (th "call" [.int i,.tup a,.tup b]) hd "call" (some (.fdc (qB [] ((hs.zip b).map λp=>(Sum.inr p.1,W.int (wv G rl hd p.2)))))) none none),h):=by
   refine u7 ((oU cz).trans ?_) rfl;have:(List.map ((λw:W×W=>W.tup [w.fst,W.int (wv G rl hd w.snd)])∘λp:Str×W=>(W.str p.fst,p.snd)) (hs.zip b))=(hs.zip b).map λp=>.tup [.str p.1,.int (wv G rl hd p.2)]:=rfl
   rw[this];simp only[iu,yT,getL,pm,km];rw[zB,zY hz1000]
  have s2:(zI (zh gS [ja (qS (zi zv (ze 1) (eC (.int 2)))) 1 [0,2] (zC 0) kG (zh G.aj [ze 1,ze 0,ze 2])]) (zC 5)) (ρw rl (th "call" [.int i,.tup a,.tup b]) hd "call" (some (.fdc (qB [] ((hs.zip b).map λp=>(Sum.inr p.1,W.int (wv G rl hd p.2)))))) none none) h=some (.nx (ρw rl (th "call" [.int i,.tup a,.tup b]) hd "call" (some (.fdc (qB [] ((hs.zip b).map λp=>(Sum.inr p.1,W.int (wv G rl hd p.2)))))) (some (.int (uM (a.map λv=>wv G rl hd v)))) none),h):=by
   refine u7 ((oU cs).trans ?_) rfl;simp only[gS,xS,getL,e3]
  have t:ke (zi (qq false) (ze 3) (eC (.str "call"))) (ρw rl (th "call" [.int i,.tup a,.tup b]) hd "call" none none none) h=some (true,h):=by simp![ve]
  unfold w3 jp;simp only[t,kW];rw[zt s1,zt s2];simp![xC,yb,ck,ei,body_ok,addW,k8]
theorem gv{rl:List W}(hr:RulesGood rl)(F:Fs):∀(m k n:Nat),3*k+n<=m->n<=3->k<=rl.length->WOk (up m F) rl k n
 | m,k,0,_,_,_=>by intro Hd w hd o;cases o
 | 0,k,n+1,h,_,_=>by omega
 | m+1,k,n+1,h,hn,hk=>tI hr hk (gv hr F m k n ∅ ∅ hk) λi hi=>gv hr F m i 3 ∅ ∅ ∅
inductive D where
 | number (i:Int) | name (v:Str) | read (v:Str) | doo (v:Str) | ask
 | write (v:Str) (a:D) | say (a:D) | lett (v:Str) (a b:D) | own (v:Str) (a b:D)
 | add (a b:D) | less (a b:D) | thenn (a b:D) | loop (a b:D) | iff (a b c:D)
 | call (i:Nat) (as bs:List D)
structure Rule where
 ns:List Str
 hs:List Str
 body:D
inductive Vl where
 | int (i:Int) | cell (c:Nat) | hd (d:D) (env:List (Str×Vl))
abbrev Ev:=List (Str×Vl)
noncomputable def lk:Ev->Str->Option Vl
 | [],_=>none
 | (x,v)::r,y=>if x=y then some v else lk r y
inductive Tch where
 | read (v:Str) | write (v:Str) (i:Int) | say (i:Int) | ask
inductive Tr(α:Type) where
 | ret (a:α) | tch (t:Tch) (k:Int->Tr α)
noncomputable def Tr.bind{α β:Type}:Tr α->(α->Tr β)->Tr β
 | .ret a,f=>f a
 | .tch t k,f=>.tch t λv=>(k v).bind f
theorem Tr.bind_assoc{α β γ:Type}(f:α->Tr β)(g:β->Tr γ):∀T:Tr α,(T.bind f).bind g=T.bind λa=>(f a).bind g
 | .ret a=>rfl
 | .tch t k=>by
  simp only[Tr.bind];congr 1
  funext v
  exact Tr.bind_assoc f g (k v)
theorem Tr.bind_ret{α:Type}:∀T:Tr α,T.bind .ret=T
 | .ret a=>rfl
 | .tch t k=>by
  simp only[Tr.bind];congr 1
  funext v
  exact Tr.bind_ret (k v)
abbrev Tc:=Tr (Int×List Int)
inductive SV where
 | int (i:Int) | cell (c:Nat) | fn (f:List Int->Tc)
abbrev Sv:=Str->SV
noncomputable def SV.i:SV->Int
 | .int i=>i
 | _=>0
noncomputable def SV.c:SV->Nat
 | .cell i=>i
 | _=>0
noncomputable def SV.f:SV->List Int->Tc
 | .fn f=>f
 | _=>λcs=>.ret (0,cs)
noncomputable def us(ρ:Sv)(x:Str)(v:SV):Sv:=λy=>if x=y then v else ρ y
noncomputable def SH:List Str:=["a","b","c","d"]
abbrev Rn:=Nat->List Int->List (List Int->Tc)->List Int->Tc
noncomputable def rp(f:List Int->Tc):Nat->List Int->Tc
 | 0,cs=>.ret (0,cs)
 | n+1,cs=>(f cs).bind λp=>rp f n p.2
mutual
noncomputable def den(R:Rn):D->Sv->List Int->Tc
 | .number i,_,cs=>.ret (i,cs)
 | .name v,ρ,cs=>.ret ((ρ v).i,cs)
 | .read v,ρ,cs=>if v∈SH then .tch (.read v) λx=>.ret (x,cs) else .ret (cs.getD (ρ v).c 0,cs)
 | .doo v,ρ,cs=>(ρ v).f cs
 | .ask,_,cs=>.tch .ask λx=>.ret (x,cs)
 | .write v a,ρ,cs=>(den R a ρ cs).bind λp=>if v∈SH then .tch (.write v p.1) λx=>.ret (x,p.2) else .ret (p.1,p.2.set (ρ v).c p.1)
 | .say a,ρ,cs=>(den R a ρ cs).bind λp=>.tch (.say p.1) λx=>.ret (x,p.2)
 | .lett v a b,ρ,cs=>(den R a ρ cs).bind λp=>den R b (us ρ v (.int p.1)) p.2
 | .own v a b,ρ,cs=>(den R a ρ cs).bind λp=>den R b (us ρ v (.cell p.2.length)) (p.2++[p.1])
 | .add a b,ρ,cs=>(den R a ρ cs).bind λp=>(den R b ρ p.2).bind λq=>.ret ((p.1+q.1)%1009,q.2)
 | .less a b,ρ,cs=>(den R a ρ cs).bind λp=>(den R b ρ p.2).bind λq=>.ret (if p.1<q.1 then 1 else 0,q.2)
 | .thenn a b,ρ,cs=>(den R a ρ cs).bind λp=>den R b ρ p.2
 | .loop a b,ρ,cs=>(den R a ρ cs).bind λp=>rp (λcs=>den R b ρ cs) (p.1%4).toNat p.2
 | .iff a b c,ρ,cs=>(den R a ρ cs).bind λp=>if p.1=0 then den R c ρ p.2 else den R b ρ p.2
 | .call i as bs,ρ,cs=>(mS R as ρ cs).bind λp=>R i p.1 (gu R bs ρ) p.2
noncomputable def mS(R:Rn):List D->Sv->List Int->Tr (List Int×List Int)
 | [],_,cs=>.ret ([],cs)
 | d::r,ρ,cs=>(den R d ρ cs).bind λp=>(mS R r ρ p.2).bind λq=>.ret (p.1::q.1,q.2)
noncomputable def gu(R:Rn):List D->Sv->List (List Int->Tc)
 | [],_=>[]
 | d::r,ρ=>(λcs=>den R d ρ cs)::gu R r ρ
end
noncomputable def ρ0:Sv:=λ_=>.int 0
noncomputable def cρ(r:Rule)(xs:List Int)(fs:List (List Int->Tc)):Sv:=(r.hs.zip fs).foldl (λe p=>us e p.1 (.fn p.2)) ((r.ns.zip xs).foldl (λe p=>us e p.1 (.int p.2)) ρ0)
noncomputable def gR(rs:List Rule):Nat->Rn
 | 0=>λ_ _ _ cs=>.ret (0,cs)
 | k+1=>λi xs fs cs=>if i=k then (match rs[k]? with
   | some r=>den (gR rs k) r.body (cρ r xs fs) cs
   | none=>.ret (0,cs)) else gR rs k i xs fs cs
mutual
noncomputable def cost(B:Nat->Nat->Nat)(h:Nat):D->Nat
 | .number _=>1
 | .name _=>1
 | .read _=>1
 | .doo _=>1+h
 | .ask=>1
 | .write _ a=>cost B h a+2
 | .say a=>cost B h a+2
 | .lett _ a b=>cost B h a+cost B h b+2
 | .own _ a b=>cost B h a+cost B h b+2
 | .add a b=>cost B h a+cost B h b+2
 | .less a b=>cost B h a+cost B h b+2
 | .thenn a b=>cost B h a+cost B h b+2
 | .loop a b=>cost B h a+3*cost B h b+9
 | .iff a b c=>cost B h a+max (cost B h b) (cost B h c)+2
 | .call i as bs=>uC B h as+B i (x4 B h bs)+2
noncomputable def uC(B:Nat->Nat->Nat)(h:Nat):List D->Nat
 | []=>0
 | d::r=>cost B h d+uC B h r
noncomputable def x4(B:Nat->Nat->Nat)(h:Nat):List D->Nat
 | []=>0
 | d::r=>max (cost B h d) (x4 B h r)
end
noncomputable def xy(rs:List Rule):Nat->Nat->Nat->Nat
 | 0=>λ_ _=>0
 | k+1=>λi h=>if i=k then (match rs[k]? with
   | some r=>cost (xy rs k) h r.body
   | none=>0) else xy rs k i h
theorem ZE{rs:List Rule}{i:Nat}{r:Rule}(e:rs[i]?=some r):∀{K:Nat},i<K->gR rs K i=λxs fs cs=>den (gR rs i) r.body (cρ r xs fs) cs
 | 0,h=>by omega
 | K+1,h=>by
  by_cases q:i=K
  .subst q
   funext xs fs cs
   simp only[gR,kW,e]
  .funext xs fs cs
   simp only[gR,q,jq];rw[ZE e (K:=K) ∅]
theorem fE{rs:List Rule}{i:Nat}{r:Rule}(e:rs[i]?=some r):∀{K:Nat},i<K->xy rs K i=λh=>cost (xy rs i) h r.body
 | 0,h=>by omega
 | K+1,h=>by
  by_cases q:i=K
  .subst q
   funext h
   simp only[xy,kW,e]
  .funext h
   simp only[xy,q,jq];rw[fE e (K:=K) ∅]
abbrev Stp:=Bool×D×Ev
noncomputable def D.first:D->List D
 | .write _ a=>[a]
 | .say a=>[a]
 | .lett _ a _=>[a]
 | .own _ a _=>[a]
 | .add a b=>[a,b]
 | .less a b=>[a,b]
 | .thenn a b=>[a,b]
 | .loop a _=>[a]
 | .iff a _ _=>[a]
 | .call _ as _=>as
 | _=>[]
noncomputable def uv(b:D):Nat->D
 | 0=>.number 0
 | n+1=>.thenn b (uv b n)
noncomputable def cE(r:Rule)(xs:List Int)(bs:List D)(env:Ev):Ev:=(r.hs.zip bs).foldl (λe p=>(p.1,.hd p.2 env)::e) ((r.ns.zip xs).foldl (λe p=>(p.1,.int p.2)::e) [])
inductive Res where
 | gg (p:List Stp) (ws cs:List Int) | tch (t:Tch) (ws:List Int)
inductive S1(rs:List Rule):Bool->D->Ev->List Int->List Int->Res->Prop
 | number {i env ws cs}:S1 rs false (.number i) env ws cs (.gg [] (i::ws) cs)
 | name {v i env ws cs} (h:lk env v=some (.int i)):S1 rs false (.name v) env ws cs (.gg [] (i::ws) cs)
 | readS {v env ws cs} (h:v∈SH):S1 rs false (.read v) env ws cs (.tch (.read v) ws)
 | readO {v c i env ws cs} (h:v∉SH) (hs:dt 1 (.str v)=true) (hv:lk env v=some (.cell c)) (hc:cs[c]?=some i):S1 rs false (.read v) env ws cs (.gg [] (i::ws) cs)
 | doo {v d' env' env ws cs} (h:lk env v=some (.hd d' env')):S1 rs false (.doo v) env ws cs (.gg [(false,d',env')] ws cs)
 | ask {env ws cs}:S1 rs false .ask env ws cs (.tch .ask ws)
 | push {d env ws cs} (h:d.first≠[]) (hl:d.first.length<=3):S1 rs false d env ws cs (.gg (d.first.map (λa=>(false,a,env))++[(true,d,env)]) ws cs)
 | writeS {v a x env ws cs} (h:v∈SH):S1 rs true (.write v a) env (x::ws) cs (.tch (.write v x) ws)
 | writeO {v a x c env ws cs} (h:v∉SH) (hs:dt 1 (.str v)=true) (hv:lk env v=some (.cell c)) (hc:c<cs.length):S1 rs true (.write v a) env (x::ws) cs (.gg [] (x::ws) (cs.set c x))
 | say {a x env ws cs}:S1 rs true (.say a) env (x::ws) cs (.tch (.say x) ws)
 | add {a b x y env ws cs}:S1 rs true (.add a b) env (y::x::ws) cs (.gg [] ((x+y)%1009::ws) cs)
 | less {a b x y env ws cs}:S1 rs true (.less a b) env (y::x::ws) cs (.gg [] ((if x<y then 1 else 0)::ws) cs)
 | thenn {a b x y env ws cs}:S1 rs true (.thenn a b) env (y::x::ws) cs (.gg [] (y::ws) cs)
 | iff {a b c x env ws cs}:S1 rs true (.iff a b c) env (x::ws) cs (.gg [(false,if x=0 then c else b,env)] ws cs)
 | loop {a b x env ws cs}:S1 rs true (.loop a b) env (x::ws) cs (.gg [(false,uv b (x%4).toNat,env)] ws cs)
 | lett {v a b x env ws cs}:S1 rs true (.lett v a b) env (x::ws) cs (.gg [(false,b,(v,.int x)::env)] ws cs)
 | own {v a b x env ws cs}:S1 rs true (.own v a b) env (x::ws) cs (.gg [(false,b,(v,.cell cs.length)::env)] ws (cs++[x]))
 | call {pd i as bs r xs env ws cs} (hp:pd=true\/as=[]) (hr:rs[i]?=some r) (hx:xs.length=as.length) (ha:as.length=r.ns.length) (hb:bs.length=r.hs.length):S1 rs pd (.call i as bs) env (xs.reverse++ws) cs (.gg [(false,r.body,cE r xs bs env)] ws cs)
inductive Rep(rs:List Rule):List Stp->List Int->List Int->Tr Int->Nat->Prop
 | done {v ws cs c}:Rep rs [] (v::ws) cs (.ret v) c
 | gg {b d env stk ws cs p ws' cs' T c} (h:S1 rs b d env ws cs (.gg p ws' cs')) (r:Rep rs (p++stk) ws' cs' T c):Rep rs ((b,d,env)::stk) ws cs T (c+1)
 | tch {b d env stk ws cs t ws' k c} (h:S1 rs b d env ws cs (.tch t ws')) (r:∀v,Rep rs stk (v::ws') cs (k v) c):Rep rs ((b,d,env)::stk) ws cs (.tch t k) (c+1)
def Rep.mono{T:Tr Int}{c:Nat}(r:Rep rs stk ws cs T c):∀{c':Nat},c<=c'->Rep rs stk ws cs T c':=by
 induction r with
 | done=>intro c' _;exact .done
 | gg h r ih=>
  intro c' hc;obtain⟨c'',rfl⟩:∃c'',c'=c''+1:=⟨c'-1,by omega⟩;exact .gg h (ih ∅)
 | tch h r ih=>
  intro c' hc;obtain⟨c'',rfl⟩:∃c'',c'=c''+1:=⟨c'-1,by omega⟩;exact .tch h λv=>ih v ∅
mutual
noncomputable def Wf(rs:List Rule)(k:Nat):D->List Str->List Str->List Str->Prop
 | .number _,_,_,_=>True
 | .name v,N,_,_=>v∈N
 | .read v,_,O,_=>v∈SH\/v∈O
 | .doo v,_,_,H=>v∈H
 | .ask,_,_,_=>True
 | .write v a,N,O,H=>(v∈SH\/v∈O)/\Wf rs k a N O H
 | .say a,N,O,H=>Wf rs k a N O H
 | .lett v a b,N,O,H=>(v∉O/\v∉H/\dt 1 (.str v)=true)/\Wf rs k a N O H/\Wf rs k b (N++[v]) O H
 | .own v a b,N,O,H=>(v∉N/\v∉H/\dt 1 (.str v)=true)/\Wf rs k a N O H/\Wf rs k b N (O++[v]) H
 | .add a b,N,O,H=>Wf rs k a N O H/\Wf rs k b N O H
 | .less a b,N,O,H=>Wf rs k a N O H/\Wf rs k b N O H
 | .thenn a b,N,O,H=>Wf rs k a N O H/\Wf rs k b N O H
 | .loop a b,N,O,H=>Wf rs k a N O H/\Wf rs k b N O H
 | .iff a b c,N,O,H=>Wf rs k a N O H/\Wf rs k b N O H/\Wf rs k c N O H
 | .call i as bs,N,O,H=>i<k/\(∃r,rs[i]?=some r/\as.length=r.ns.length/\bs.length=r.hs.length)/\uy rs k as N O H/\uy rs k bs N O H
noncomputable def uy(rs:List Rule)(k:Nat):List D->List Str->List Str->List Str->Prop
 | [],_,_,_=>True
 | d::r,N,O,H=>Wf rs k d N O H/\uy rs k r N O H
end
structure RsOk(rs:List Rule):Prop where
 w:∀(i:Nat) (r:Rule),rs[i]?=some r->Wf rs i r.body r.ns [] r.hs
 d:∀(i:Nat) (r:Rule),rs[i]?=some r->∀v∈r.ns,v∉r.hs
 l:∀(i:Nat) (r:Rule),rs[i]?=some r->r.ns.length<=3/\r.hs.length<=3
noncomputable def Bs(rs:List Rule)(d:D)(env:Ev)(cs:List Int)(T:Tc)(c:Nat):Prop:=∀(stk:List Stp) (ws:List Int) (K:Int×List Int->Tr Int) (c':Nat),(∀v cs',cs.length<=cs'.length->Rep rs stk (v::ws) cs' (K (v,cs')) c')->Rep rs ((false,d,env)::stk) ws cs (T.bind K) (c+c')
structure EnvR(rs:List Rule)(N O H:List Str)(env:Ev)(ρ:Sv)(h m:Nat):Prop where
 nm:∀v∈N,∃i,lk env v=some (.int i)/\ρ v=.int i
 ow:∀v∈O,∃c,lk env v=some (.cell c)/\ρ v=.cell c/\c<m/\dt 1 (.str v)=true
 hd:∀v∈H,∃d' env' f,lk env v=some (.hd d' env')/\ρ v=.fn f/\∀cs,m<=cs.length->Bs rs d' env' cs (f cs) h
def EnvR.more{H:List Str}(e:EnvR rs N O H env ρ h m)(hm:m<=m'):EnvR rs N O H env ρ h m':=
 ⟨e.nm,λv hv=>let ⟨c,a,b,d,s⟩:=e.ow v hv;⟨c,a,b,by omega,s⟩,λv hv=>let ⟨d',env',f,a,b,q⟩:=e.hd v hv;⟨d',env',f,a,b,λcs hc=>q cs ∅⟩⟩
theorem y8:lk ((x,v)::env) y=if x=y then some v else lk env y:=rfl
def EnvR.lett{rs:List Rule}{N O H:List Str}{env:Ev}{ρ:Sv}{h m:Nat}{x:Str}{i:Int}(e:EnvR rs N O H env ρ h m)(ho:x∉O)(hh:x∉H):EnvR rs (N++[x]) O H ((x,.int i)::env) (us ρ x (.int i)) h m:=by
 refine⟨λv hv=>?_,λv hv=>?_,λv hv=>?_⟩
 .by_cases q:x=v
  .exact⟨i,by rw[y8,zY q],by unfold us;rw[zY q]⟩
  .have:v∈N:=by
    rcases zW.mp hv with z | z
    .exact z
    .simp at z;exact absurd z.symm q
   obtain⟨j,a,b⟩:=e.nm v this;exact⟨j,by rw[y8,jc q,a],by unfold us;rw[jc q,b]⟩
 .have q:x≠v:=λz=>ho (z▸hv)
  obtain⟨c,a,b,d⟩:=e.ow v hv;exact⟨c,by rw[y8,jc q,a],by unfold us;rw[jc q,b],d⟩
 .have q:x≠v:=λz=>hh (z▸hv)
  obtain⟨d',env',f,a,b,z⟩:=e.hd v hv;exact⟨d',env',f,by rw[y8,jc q,a],by unfold us;rw[jc q,b],z⟩
def EnvR.own{rs:List Rule}{N O H:List Str}{env:Ev}{ρ:Sv}{h m:Nat}{x:Str}(e:EnvR rs N O H env ρ h m)(ho:x∉N)(hh:x∉H)(hs:dt 1 (.str x)=true):EnvR rs N (O++[x]) H ((x,.cell m)::env) (us ρ x (.cell m)) h (m+1):=by
 refine⟨λv hv=>?_,λv hv=>?_,λv hv=>?_⟩
 .have q:x≠v:=λz=>ho (z▸hv)
  obtain⟨c,a,b⟩:=e.nm v hv;exact⟨c,by rw[y8,jc q,a],by unfold us;rw[jc q,b]⟩
 .by_cases q:x=v
  .exact⟨m,by rw[y8,zY q],by unfold us;rw[zY q],by omega,q▸hs⟩
  .have:v∈O:=by
    rcases zW.mp hv with z | z
    .exact z
    .simp at z;exact absurd z.symm q
   obtain⟨j,a,b,c,s⟩:=e.ow v this;exact⟨j,by rw[y8,jc q,a],by unfold us;rw[jc q,b],by omega,s⟩
 .have q:x≠v:=λz=>hh (z▸hv)
  obtain⟨d',env',f,a,b,z⟩:=e.hd v hv;exact⟨d',env',f,by rw[y8,jc q,a],by unfold us;rw[jc q,b],λcs hc=>z cs ∅⟩
section
variable{rs:List Rule}{R:Rn}{B:Nat->Nat->Nat}
theorem Bs.mono{T:Tc}{c:Nat}(h:Bs rs d env cs T c)(hc:c<=c'):Bs rs d env cs T c':=λstk ws K c2 hK=>(h stk ws K c2 hK).mono ∅
def ee{d:D}{cs:List Int}{T:Tc}{f:Int×List Int->Tc}{c:Nat}(hf:d.first=[a])(ha:Bs rs a env cs T c)
  (h:∀stk ws K c' x cs',cs.length<=cs'.length->(∀v cs'',cs'.length<=cs''.length->Rep rs stk (v::ws) cs'' (K (v,cs'')) c')->Rep rs ((true,d,env)::stk) (x::ws) cs' ((f (x,cs')).bind K) (c2+c')):Bs rs d env cs (T.bind f) (c+c2+1):=by
 intro stk ws K c' hK;rw[Tr.bind_assoc];have p:=S1.push (rs:=rs) (d:=d) (env:=env) (ws:=ws) (cs:=cs) (by rw[hf];simp) (by rw[hf];simp);rw[hf] at p;refine(Rep.gg p (ha ((true,d,env)::stk) ws _ (c2+c') λx cs' hc=>h stk ws K c' x cs' hc λv cs'' hc'=>hK v cs'' ∅)).mono ∅
def lB{d a b:D}{env:Ev}{cs:List Int}{T:Tc}{U:List Int->Tc}{f:Int->Int->Int}{c c2:Nat}(hf:d.first=[a,b])(ha:Bs rs a env cs T c)(hb:∀cs',cs.length<=cs'.length->Bs rs b env cs' (U cs') c2)
  (h:∀x y ws cs,S1 rs true d env (y::x::ws) cs (.gg [] (f x y::ws) cs)):Bs rs d env cs (T.bind λp=>(U p.2).bind λq=>.ret (f p.1 q.1,q.2)) (c+c2+2):=by
 intro stk ws K c' hK;rw[Tr.bind_assoc];have p:=S1.push (rs:=rs) (d:=d) (env:=env) (ws:=ws) (cs:=cs) (by rw[hf];simp) (by rw[hf];simp);rw[hf] at p;refine(Rep.gg p (ha ((false,b,env)::(true,d,env)::stk) ws _ (c2+(c'+1)) λx cs' hc=>?_)).mono (c:=c+(c2+(c'+1))+1) ∅;simp only[Tr.bind_assoc];refine hb cs' hc ((true,d,env)::stk) (x::ws) _ (c'+1) λy cs'' hc'=>?_
 exact .gg (h x y ws cs'') (hK _ cs'' ∅)
theorem Qt{b:D}{env:Ev}{f:List Int->Tc}{c m:Nat}(hb:∀cs,m<=cs.length->Bs rs b env cs (f cs) c):∀(n:Nat) (cs:List Int),m<=cs.length->Bs rs (uv b n) env cs (rp f n cs) (n*(c+2)+1)
 | 0,cs,_=>λstk ws K c' hK=>(Rep.gg .number (hK 0 cs (zg _))).mono ∅
 | n+1,cs,hm=>by
  have:=lB (rs:=rs) (d:=.thenn b (uv b n)) (a:=b) (b:=uv b n) (env:=env) (cs:=cs) (T:=f cs) (U:=rp f n) (f:=λ_ y=>y) rfl (hb cs hm) (λcs' hc=>Qt hb n cs' ∅) (λx y ws cs=>.thenn);have e:(rp f (n+1) cs)=((f cs).bind λp=>(rp f n p.2).bind λq=>.ret (q.1,q.2)):=by
   have:∀U:Tc,(U.bind λq=>Tr.ret (q.1,q.2))=U:=λU=>Tr.bind_ret U
   simp only[this];rfl
  rw[e];refine this.mono ?_;rw[v7];omega
theorem so:∀(l:List (Str×Int)) {env:Ev} {ρ:Sv},EnvR rs N [] [] env ρ h m->EnvR rs (N++l.map (·.1)) [] [] (l.foldl (λe p=>(p.1,.int p.2)::e) env) (l.foldl (λe p=>us e p.1 (.int p.2)) ρ) h m
 | [],env,ρ,e=>by simpa using e
 | (x,i)::r,env,ρ,e=>by
  have:=so r (e.lett (x:=x) (i:=i) (by simp) (by simp));rw[kZ] at this;exact this
theorem tO{env0:Ev}:∀(l:List (Str×D×(List Int->Tc))) (H:List Str) {env:Ev} {ρ:Sv},(∀v∈N,v∉l.map (·.1))->(∀p∈l,∀cs,m<=cs.length->Bs rs p.2.1 env0 cs (p.2.2 cs) h)->EnvR rs N [] H env ρ h m->
  EnvR rs N [] (H++l.map (·.1)) (l.foldl (λe p=>(p.1,.hd p.2.1 env0)::e) env) (l.foldl (λe p=>us e p.1 (.fn p.2.2)) ρ) h m
 | [],H,env,ρ,_,_,e=>by simpa using e
 | (x,d,f)::r,H,env,ρ,hN,hB,e=>by
  have hx:∀v∈N,v≠x:=λv hv z=>hN v hv (by simp[z])
  have e2:EnvR rs N [] (H++[x]) ((x,.hd d env0)::env) (us ρ x (.fn f)) h m:=by
   refine⟨λv hv=>?_,λv hv=>by simp at hv,λv hv=>?_⟩
   .obtain⟨i,a,b⟩:=e.nm v hv
    have q:¬x=v:=λz=>hx v hv z.symm
    exact⟨i,by rw[y8,jc q,a],by unfold us;rw[jc q,b]⟩
   .by_cases q:x=v
    .exact⟨d,env0,f,by rw[y8,zY q],by unfold us;rw[zY q],λcs hc=>hB (x,d,f) z9 cs hc⟩
    .have:v∈H:=by
      rcases zW.mp hv with z | z
      .exact z
      .simp at z;exact absurd z.symm q
     obtain⟨d',env',f',a,b,z⟩:=e.hd v this;exact⟨d',env',f',by rw[y8,jc q,a],by unfold us;rw[jc q,b],z⟩
  have:=tO r (H++[x]) (λv hv z=>hN v hv (by simp only[zq];exact zP _ z)) (λp hp=>hB p (zP _ hp)) e2;rw[kZ] at this;exact this
theorem mF{α β:Type}:∀{a:List α} {b:List β},a.length=b.length->(a.zip b).map (·.1)=a
 | [],[],_=>rfl
 | x::a,y::b,h=>by simp only[jO,zq];rw[mF (by simpa using h)]
theorem nV{σ:Type}(f:σ->Str×D->σ)(g:D->List Int->Tc):∀(hs:List Str) (bs:List D) (s:σ),(hs.zip bs).foldl f s=(hs.zip (bs.map λb=>(b,g b))).foldl (λe p=>f e (p.1,p.2.1)) s
 | [],_,_=>rfl
 | _::_,[],_=>rfl
 | x::hs,b::bs,s=>by simp only[jO,zq,jQ];exact nV f g hs bs _
theorem nv{σ:Type}(f:σ->Str×(List Int->Tc)->σ)(g:D->List Int->Tc):∀(hs:List Str) (bs:List D) (s:σ),(hs.zip (bs.map g)).foldl f s=(hs.zip (bs.map λb=>(b,g b))).foldl (λe p=>f e (p.1,p.2.2)) s
 | [],_,_=>rfl
 | _::_,[],_=>rfl
 | x::hs,b::bs,s=>by simp only[jO,zq,jQ];exact nv f g hs bs _
theorem pG:∀(bs:List D) (ρ:Sv),gu R bs ρ=bs.map λb cs=>den R b ρ cs
 | [],_=>by simp[gu]
 | b::bs,ρ=>by simp only[gu,zq];rw[pG bs ρ]
def QG{r:Rule}{xs:List Int}{bs:List D}(hx:xs.length=r.ns.length)(hb:bs.length=r.hs.length)(hd:∀v∈r.ns,v∉r.hs)(hB:∀b∈bs,∀cs,m<=cs.length->Bs rs b env cs (den R b ρ cs) h):EnvR rs r.ns [] r.hs (cE r xs bs env) (cρ r xs (gu R bs ρ)) h m:=by
 unfold cE cρ;rw[pG,nV (λe p=>(p.1,Vl.hd p.2 env)::e) (λb cs=>den R b ρ cs),nv (λe p=>us e p.1 (.fn p.2)) (λb cs=>den R b ρ cs)];have e0:EnvR rs [] [] [] [] ρ0 h m:=⟨λv hv=>by simp at hv,λv hv=>by simp at hv,λv hv=>by simp at hv⟩;have e1:=so (r.ns.zip xs) e0;rw[mF hx.symm,kE] at e1;have zl:(r.hs.zip (bs.map λb=>(b,λcs=>den R b ρ cs))).map (·.1)=r.hs:=mF (by simp[hb])
 have e2:=tO (env0:=env) (r.hs.zip (bs.map λb=>(b,λcs=>den R b ρ cs))) [] (by rw[zl];exact hd) (λp hp cs hc=>by
  have:=(vC (a:=p.1) (b:=p.2) hp).2;obtain⟨b,hb,e⟩:=kO.mp this;rw[<-e]
  exact hB b hb cs hc) e1
 rw[zl,kE] at e2;exact e2
noncomputable def BodyOk(rs:List Rule)(R:Rn)(B:Nat->Nat->Nat)(k:Nat):Prop:=∀i,i<k->∀r,rs[i]?=some r->∀(env:Ev) (fs:List (List Int->Tc)) (xs:List Int) (bs:List D) (h m:Nat) (cs:List Int),EnvR rs r.ns [] r.hs (cE r xs bs env) (cρ r xs fs) h m->m<=cs.length->Bs rs r.body (cE r xs bs env) cs (R i xs fs cs) (B i h)
mutual
theorem ud{k:Nat}(HB:BodyOk rs R B k)(hrs:RsOk rs):∀(d:D) {N O H:List Str} {env:Ev} {ρ:Sv} {h m:Nat} {cs:List Int},Wf rs k d N O H->EnvR rs N O H env ρ h m->m<=cs.length->Bs rs d env cs (den R d ρ cs) (cost B h d)
 | .number i,N,O,H,env,ρ,h,m,cs,w,E,hm=>λstk ws K c' hK=>by
  simp only[den,cost,Tr.bind];exact(Rep.gg .number (hK i cs (zg _))).mono ∅
 | .name v,N,O,H,env,ρ,h,m,cs,w,E,hm=>λstk ws K c' hK=>by
  simp only[Wf] at w;obtain⟨i,a,b⟩:=E.nm v w;simp only[den,cost,Tr.bind,b,SV.i];exact(Rep.gg (.name a) (hK i cs (zg _))).mono ∅
 | .read v,N,O,H,env,ρ,h,m,cs,w,E,hm=>λstk ws K c' hK=>by
  simp only[Wf] at w;by_cases q:v∈SH
  .simp only[den,cost,q,kW,Tr.bind]
   exact(Rep.tch (.readS q) λx=>hK x cs (zg _)).mono ∅
  .obtain⟨c,a,b,lt,ds⟩:=E.ow v (w.resolve_left q)
   have lt':c<cs.length:=by omega
   simp only[den,cost,q,jq,Tr.bind,b,SV.c];refine(Rep.gg (.readO q ds a (zE lt')) (T:=K (cs.getD c 0,cs)) (c:=c') ?_).mono ∅;rw[yx,zE lt'];exact hK _ cs (zg _)
 | .doo v,N,O,H,env,ρ,h,m,cs,w,E,hm=>λstk ws K c' hK=>by
  simp only[Wf] at w;obtain⟨d',env',f,a,b,z⟩:=E.hd v w;simp only[den,cost,b,SV.f];exact(Rep.gg (.doo a) (z cs hm stk ws K c' hK)).mono ∅
 | .ask,N,O,H,env,ρ,h,m,cs,w,E,hm=>λstk ws K c' hK=>by
  simp only[den,cost,Tr.bind];exact(Rep.tch .ask λx=>hK x cs (zg _)).mono ∅
 | .write v a,N,O,H,env,ρ,h,m,cs,w,E,hm=>by
  simp only[Wf] at w;simp only[den,cost];refine(ee (c2:=1) rfl (ud HB hrs a w.2 E hm) λstk ws K c' x cs' hc hK=>?_).mono ∅;by_cases q:v∈SH
  .simp only[q,kW,Tr.bind]
   exact(Rep.tch (.writeS q) λy=>hK y cs' (zg _)).mono ∅
  .obtain⟨c,a,b,lt,ds⟩:=E.ow v (w.1.resolve_left q)
   simp only[q,jq,Tr.bind,b,SV.c];exact(Rep.gg (.writeO q ds a ∅) (hK x _ (by rw[je];exact zg _))).mono ∅
 | .say a,N,O,H,env,ρ,h,m,cs,w,E,hm=>by
  simp only[Wf] at w;simp only[den,cost];refine(ee (c2:=1) rfl (ud HB hrs a w E hm) λstk ws K c' x cs' hc hK=>?_).mono ∅;simp only[Tr.bind];exact(Rep.tch .say λy=>hK y cs' (zg _)).mono ∅
 | .lett v a b,N,O,H,env,ρ,h,m,cs,w,E,hm=>by
  simp only[Wf] at w;simp only[den,cost];refine(ee (c2:=cost B h b+1) rfl (ud HB hrs a w.2.1 E hm) λstk ws K c' x cs' hc hK=>?_).mono ∅;exact(Rep.gg .lett (ud HB hrs b w.2.2 (E.lett (i:=x) w.1.1 w.1.2.1) (cs:=cs') ∅ stk ws K c' hK)).mono ∅
 | .own v a b,N,O,H,env,ρ,h,m,cs,w,E,hm=>by
  simp only[Wf] at w;simp only[den,cost];refine(ee (c2:=cost B h b+1) rfl (ud HB hrs a w.2.1 E hm) λstk ws K c' x cs' hc hK=>?_).mono ∅;exact(Rep.gg .own (ud HB hrs b w.2.2 ((E.more (m':=cs'.length) ∅).own w.1.1 w.1.2.1 w.1.2.2) (cs:=cs'++[x]) (by simp) stk ws K c' λy cs'' hc'=>hK y cs'' (by simp at hc';omega))).mono ∅
 | .add a b,N,O,H,env,ρ,h,m,cs,w,E,hm=>by
  simp only[Wf] at w;simp only[den,cost];exact(lB (U:=λcs=>den R b ρ cs) (f:=λx y=>(x+y)%1009) rfl (ud HB hrs a w.1 E hm) (λcs' hc=>ud HB hrs b w.2 E ∅) λx y ws cs=>.add).mono ∅
 | .less a b,N,O,H,env,ρ,h,m,cs,w,E,hm=>by
  simp only[Wf] at w;simp only[den,cost];exact(lB (U:=λcs=>den R b ρ cs) (f:=λx y=>if x<y then 1 else 0) rfl (ud HB hrs a w.1 E hm) (λcs' hc=>ud HB hrs b w.2 E ∅) λx y ws cs=>.less).mono ∅
 | .thenn a b,N,O,H,env,ρ,h,m,cs,w,E,hm=>by
  simp only[Wf] at w;simp only[den,cost];have:=(lB (U:=λcs=>den R b ρ cs) (f:=λx y=>y) rfl (ud HB hrs a w.1 E hm) (λcs' hc=>ud HB hrs b w.2 E ∅) λx y ws cs=>.thenn);have e:∀U:Tc,(U.bind λq=>Tr.ret (q.1,q.2))=U:=λU=>Tr.bind_ret U
  simp only[e] at this;exact this.mono ∅
 | .loop a b,N,O,H,env,ρ,h,m,cs,w,E,hm=>by
  simp only[Wf] at w;simp only[den,cost];refine(ee (c2:=3*cost B h b+8) rfl (ud HB hrs a w.1 E hm) λstk ws K c' x cs' hc hK=>?_).mono ∅;have lt:(x%4).toNat<=3:=by omega
  have u:=Qt (rs:=rs) (b:=b) (env:=env) (f:=λcs=>den R b ρ cs) (m:=m) (λcs hm=>ud HB hrs b w.2 E hm) (x%4).toNat cs' ∅;refine(Rep.gg .loop (u stk ws K c' hK)).mono ?_;have:=qJ (cost B h b+2) lt;omega
 | .iff a b c,N,O,H,env,ρ,h,m,cs,w,E,hm=>by
  simp only[Wf] at w;simp only[den,cost];refine(ee (c2:=max (cost B h b) (cost B h c)+1) rfl (ud HB hrs a w.1 E hm) λstk ws K c' x cs' hc hK=>?_).mono ∅;by_cases q:x=0
  .have s:=S1.iff (rs:=rs) (a:=a) (b:=b) (c:=c) (x:=x) (env:=env) (ws:=ws) (cs:=cs')
   simp only[q,kW] at s ⊢;exact(Rep.gg s (ud HB hrs c w.2.2 E (cs:=cs') ∅ stk ws K c' hK)).mono ∅
  .have s:=S1.iff (rs:=rs) (a:=a) (b:=b) (c:=c) (x:=x) (env:=env) (ws:=ws) (cs:=cs')
   simp only[q,jq] at s ⊢;exact(Rep.gg s (ud HB hrs b w.2.1 E (cs:=cs') ∅ stk ws K c' hK)).mono ∅
 | .call i as bs,N,O,H,env,ρ,h,m,cs,w,E,hm=>by
  simp only[Wf] at w;obtain⟨hi,⟨r,hr,la,lb⟩,wa,wb⟩:=w;intro stk ws K c' hK;simp only[den,cost];rw[Tr.bind_assoc];have fin:∀pd,(pd=true\/as=[])->∀xs cs',xs.length=as.length->cs.length<=cs'.length->Rep rs ((pd,.call i as bs,env)::stk) (xs.reverse++ws) cs' ((R i xs (gu R bs ρ) cs').bind K) (B i (x4 B h bs)+c'+1):=by
   intro pd hp xs cs' hx hc;have e:=QG (rs:=rs) (R:=R) (r:=r) (xs:=xs) (bs:=bs) (env:=env) (ρ:=ρ) (h:=x4 B h bs) (m:=m) ∅ lb (hrs.d i r hr) (UP HB hrs bs wb E);exact .gg (.call hp hr hx la lb) (HB i hi r hr env (gu R bs ρ) xs bs (x4 B h bs) m cs' e ∅ stk ws K c' λv cs'' h2=>hK v cs'' ∅)
  cases has:as with
  | nil=>
   subst has;simp only[mS,Tr.bind,uC];exact(fin false (.inr rfl) [] cs rfl (zg _)).mono ∅
  | cons a1 as1=>
   have p:=S1.push (rs:=rs) (d:=.call i as bs) (env:=env) (ws:=ws) (cs:=cs) (by simp only[D.first];rw[has];simp) (by simp only[D.first];have:=(hrs.l i r hr).1;omega);rw[<-has];refine(Rep.gg p ?_).mono (c:=uC B h as+(B i (x4 B h bs)+c'+1)+1) ∅;simp only[D.first];rw[kZ];have:=Be HB hrs as wa E hm ((true,.call i as bs,env)::stk) ws (λp=>(R i p.1 (gu R bs ρ) p.2).bind K) (B i (x4 B h bs)+c'+1) λxs cs' hx hc=>fin true (.inl rfl) xs cs' hx hc
   exact this
theorem Be(HB:BodyOk rs R B k)(hrs:RsOk rs):∀(l:List D) {N O H:List Str} {env:Ev} {ρ:Sv} {h m:Nat} {cs:List Int},uy rs k l N O H->EnvR rs N O H env ρ h m->m<=cs.length->∀(stk:List Stp) (ws:List Int) (K:List Int×List Int->Tr Int) (c':Nat),(∀xs cs',xs.length=l.length->cs.length<=cs'.length->Rep rs stk (xs.reverse++ws) cs' (K (xs,cs')) c')->Rep rs (l.map (λa=>(false,a,env))++stk) ws cs ((mS R l ρ cs).bind K) (uC B h l+c')
 | [],N,O,H,env,ρ,h,m,cs,w,E,hm=>λstk ws K c' hK=>by
  simp only[mS,Tr.bind,uC,jd,kE];exact(hK [] cs rfl (zg _)).mono ∅
 | d::r,N,O,H,env,ρ,h,m,cs,w,E,hm=>λstk ws K c' hK=>by
  simp only[uy] at w;simp only[mS,uC,zq,jk];rw[Tr.bind_assoc];refine(ud HB hrs d w.1 E hm (r.map (λa=>(false,a,env))++stk) ws _ (uC B h r+c') λx cs' hc=>?_).mono ∅;simp only[Tr.bind_assoc];refine Be HB hrs r w.2 E ∅ stk (x::ws) _ c' λxs cs'' hx hc'=>?_
  have:=hK (x::xs) cs'' (by simp[hx]) ∅;rw[qZ,kZ] at this;exact this
theorem UP(HB:BodyOk rs R B k)(hrs:RsOk rs):∀(l:List D) {N O H:List Str} {env:Ev} {ρ:Sv} {h m:Nat},uy rs k l N O H->EnvR rs N O H env ρ h m->∀b∈l,∀cs,m<=cs.length->Bs rs b env cs (den R b ρ cs) (x4 B h l)
 | [],N,O,H,env,ρ,h,m,w,E=>λb hb=>by simp at hb
 | d::r,N,O,H,env,ρ,h,m,w,E=>λb hb cs hm=>by
  simp only[uy] at w;simp only[x4];rcases zb.mp hb with z | z
  .rw[z]
   exact(ud HB hrs d w.1 E hm).mono ∅
  .exact(UP HB hrs r w.2 E b z cs hm).mono ∅
end
theorem bodies(hrs:RsOk rs):∀(k:Nat) {K:Nat},k<=K->BodyOk rs (gR rs K) (xy rs K) k
 | 0,K,_=>λi hi=>by omega
 | k+1,K,hK=>by
  intro i hi r hr env fs xs bs h m cs E hm;rw[ZE hr (K:=K) ∅,fE hr (K:=K) ∅];exact ud (bodies hrs i (K:=i) (zg _)) hrs r.body (hrs.w i r hr) E hm
termination_by k=>k
end
mutual
noncomputable def zk:D->W
 | .number i=>th "number" [.int i]
 | .name v=>th "name" [.str v]
 | .read v=>th "read" [.str v]
 | .doo v=>th "do" [.str v]
 | .ask=>th "ask" []
 | .write v a=>th "write" [.str v,zk a]
 | .say a=>th "say" [zk a]
 | .lett v a b=>th "let" [.str v,zk a,zk b]
 | .own v a b=>th "own" [.str v,zk a,zk b]
 | .add a b=>th "add" [zk a,zk b]
 | .less a b=>th "less" [zk a,zk b]
 | .thenn a b=>th "then" [zk a,zk b]
 | .loop a b=>th "loop" [zk a,zk b]
 | .iff a b c=>th "if" [zk a,zk b,zk c]
 | .call i as bs=>th "call" [.int i,.tup (ki as),.tup (ki bs)]
noncomputable def ki:List D->List W
 | []=>[]
 | d::r=>zk d::ki r
end
theorem xw:∀l:List D,ki l=l.map zk
 | []=>by simp[ki]
 | d::r=>by simp only[ki,zq];rw[xw r]
noncomputable def bP(r:Rule):W:=.tup [.tup (zD r.ns),.tup (zD r.hs),zk r.body]
noncomputable def kf(rs:List Rule):List W:=rs.map bP
mutual
theorem kX(m:Nat):∀d:D,low m (zk d)=true
 | .number i=>by simp[zk,low,lows]
 | .name v=>by simp[zk,low,lows]
 | .read v=>by simp[zk,low,lows]
 | .doo v=>by simp[zk,low,lows]
 | .ask=>by simp[zk,low,lows]
 | .write v a=>by simp[zk,low,lows,kX m a]
 | .say a=>by simp[zk,low,lows,kX m a]
 | .lett v a b=>by simp[zk,low,lows,kX m a,kX m b]
 | .own v a b=>by simp[zk,low,lows,kX m a,kX m b]
 | .add a b=>by simp[zk,low,lows,kX m a,kX m b]
 | .less a b=>by simp[zk,low,lows,kX m a,kX m b]
 | .thenn a b=>by simp[zk,low,lows,kX m a,kX m b]
 | .loop a b=>by simp[zk,low,lows,kX m a,kX m b]
 | .iff a b c=>by simp[zk,low,lows,kX m a,kX m b,kX m c]
 | .call i as bs=>by simp[zk,low,lows,bX m as,bX m bs]
theorem bX(m:Nat):∀l:List D,lows m (ki l)=true
 | []=>by simp[ki,lows]
 | d::r=>by simp[ki,lows,kX m d,bX m r]
end
theorem b6:∀{l:List W},lows m l=true->∀w∈l,low m w=true
 | [],_,w,hw=>by simp at hw
 | x::r,h,w,hw=>by
  unfold lows at h;rw[zx] at h;rcases zb.mp hw with rfl | z
  .exact h.1
  .exact b6 h.2 w z
def nM{r:List W}{p:Int×Int}{h:MH}(hc:(x==("call":Str))=false)(hf:fm x=some p)(hl:lows h.length r=true):(step F).cg [th x r] h=some (.tup (r.drop (p.2.toNat-1)),h):=by
 obtain⟨p1,p2⟩:=CK hf;obtain⟨k,hk⟩:=jG (show 0<=p.2 by omega);have e:r.drop (p.2.toNat-1)=(W.str x::r).drop k:=by
  rw[hk];cases k with
  | zero=>omega
  | succ k=>simp
 rw[e];refine y7 (h':=h) ?_ ?_ (zR _)
 .have ek:zv (.tup [.int p.1,.int p.2]) (.int 1) h=some (.int p.2,h):=yb
  simp![cW,xC,ve,hc,uB,uT,bp,D2,hf,ek,gz];rw[hk];exact lj
 .rw[<-e]
  unfold low;exact yk λw hw=>b6 hl w (qK hw)
noncomputable def oG:List Str:=["if","loop","let","own"]
def UU(d:dt 1 (.str x)=true):inB h (.str x) (.tup [.str "if",.str "loop",.str "let",.str "own"])=some (xQ oG (.str x)):=i8 (l:=oG) d ∅ ⋯
def dS{r:List W}{p:Int×Int}{h:MH}(hc:(x==("call":Str))=false)(hf:fm x=some p)(hd:dt 1 (.str x)=true)(hi:xQ oG (.str x)=false)(hl:lows h.length r=true):(step (step F)).az [th x r] h=some (.tup (r.drop (p.2.toNat-1)),h):=by
 have c4:(4:Nat)<=cap:=by decide
 have e:=nM (F:=F) hc hf hl;have q:=UU (h:=h) hd;rw[hi] at q;have lw:low h.length (.tup (r.drop (p.2.toNat-1)))=true:=by
  unfold low;exact yk λw hw=>b6 hl w (qK hw)
 generalize step F=G at e;refine gc_eq' ?_ lw;simp![aB,xC,ve,hc,zw,c4,q,e]
where
 gc_eq' {f:List W->M W} {ws:List W} {h:MH} {w:W} (e:f ws h=some (w,h)) (p:low h.length w=true):gc f ws h=some (w,h):=y7 e p (zR _)
def mT{l:List W}{p:Int×Int}{h:MH}(hc:(x==("call":Str))=false)(hf:fm x=some p)(hd:dt 1 (.str x)=true)(hi:xQ oG (.str x)=true)(hl:lows h.length l=true)(er:l.drop (p.2.toNat-1)=a::r):(step (step F)).az [th x l] h=some (.tup [a],h):=by
 have c4:(4:Nat)<=cap:=by decide
 have e:=nM (F:=F) hc hf hl;rw[er] at e;have q:=UU (h:=h) hd;rw[hi] at q;have lw:low h.length (.tup [a])=true:=by
  unfold low;refine yk λw hw=>b6 hl w ?_
  have:a∈l.drop (p.2.toNat-1):=by rw[er];exact z9
  simp at hw;subst hw;exact qK this
 have ct:cutW (a::r) none (some 1)=[a]:=(pP (k:=1) (l:=a::r) (by simp)).trans rfl;generalize step F=G at e;refine y7 (h':=h) ?_ lw (zR _);simp![aB,xC,ve,hc,zw,c4,q,e,uB,uT,gz,ct]
theorem f_first(F:Fs):(step F).az=gc (kd 1 0 (aB F)):=rfl
def Zi:∀d:D,(step (step F)).az [zk d] h=some (.tup (ki d.first),h)
 | .number i | .name i | .read i | .doo i=>by simp only[zk,D.first,ki];exact(dS (p:=(2,2)) ⋯ ⋯ ⋯ ⋯ (by simp[low,lows])).trans rfl
 | .ask=>by simp only[zk,D.first,ki];exact(dS (p:=(1,1)) ⋯ ⋯ ⋯ ⋯ (by simp[low,lows])).trans rfl
 | .write v a=>by simp only[zk,D.first,ki];exact(dS (p:=(3,2)) ⋯ ⋯ ⋯ ⋯ (by simp[low,lows,kX])).trans rfl
 | .say a=>by simp only[zk,D.first,ki];exact(dS (p:=(2,1)) ⋯ ⋯ ⋯ ⋯ (by simp[low,lows,kX])).trans rfl
 | .lett v a b | .own v a b=>by simp only[zk,D.first,ki];exact mT (p:=(4,2)) ⋯ ⋯ ⋯ ⋯ (by simp[low,lows,kX]) rfl
 | .add a b | .less a b | .thenn a b=>by simp only[zk,D.first,ki];exact(dS (p:=(3,1)) ⋯ ⋯ ⋯ ⋯ (by simp[low,lows,kX])).trans rfl
 | .loop a b=>by simp only[zk,D.first,ki];exact mT (p:=(3,1)) ⋯ ⋯ ⋯ ⋯ (by simp[low,lows,kX]) rfl
 | .iff a b c=>by simp only[zk,D.first,ki];exact mT (p:=(4,1)) ⋯ ⋯ ⋯ ⋯ (by simp[low,lows,kX]) rfl
 | .call i as bs=>by
  simp only[zk,D.first];have lw:low h.length (.tup (ki as))=true:=by unfold low;exact bX _ as
  rw[f_first];refine y7 (h':=h) ?_ lw (zR _);simp![aB,xC,ck,ve]
def wf{f:List W->M W}{h h':MH}{i:Nat}(e:f ws h=some (w,h'))(a:h[i]?=some o)(b:h'[i]?≠some o):gc f ws h=some (w,h'):=by
 have n:¬h<+:h':=λp=>by
  obtain⟨t,rfl⟩:=p;exact b (by rw[zA (zU.mp a).1];exact a)
 unfold gc;rw[e];simp only[n,false_and,jq]
def eI{f:List W->M W}(e:f ws h=some (.non,h')):gc f ws h=some (.non,h'):=by
 unfold gc;rw[e];simp only[ne_eq,not_true_eq_false,and_false,jq]
def c8{f:List W->M W}{h:MH}(e:f ws h=some (w,h))(p:low h.length w=true):gc f ws h=some (w,h):=y7 e p (zR _)
noncomputable abbrev ya(rl:List W)(ns nw:Nat)(t:W):List (Str×W):=[("rules",.tup rl),("steps",.ref ns),("worths",.ref nw),("touch_ahead",t)]
structure Dg(H:MH)(nd ns nw:Nat)(rl:List W)(st:List W)(wo:List W)(t:W):Prop where
 d:H[nd]?=some (.ins 0 (ya rl ns nw t))
 s:H[ns]?=some (.lst st)
 w:H[nw]?=some (.lst wo)
 n1:nd≠ns
 n2:nd≠nw
 n3:ns≠nw
def zS{α:Type}{l:List α}{i:Nat}{x:α}(h:l[i]?=some x):i<l.length:=(zU.mp h).1
def Dg.steps{H:MH}{wo:List W}{t:W}(g:Dg H nd ns nw rl st wo t)(st2:List W):Dg (H.set ns (.lst st2)) nd ns nw rl st2 wo t:=
 ⟨by rw[zJ (kY g.n1),g.d],zL (zS g.s),by rw[zJ g.n3,g.w],g.n1,g.n2,g.n3⟩
def Dg.worths{H:MH}{wo:List W}{t:W}(g:Dg H nd ns nw rl st wo t)(wo2:List W):Dg (H.set nw (.lst wo2)) nd ns nw rl st wo2 t:=
 ⟨by rw[zJ (kY g.n2),g.d],by rw[zJ (kY g.n3),g.s],zL (zS g.w),g.n1,g.n2,g.n3⟩
def Dg.ahead{H:MH}{wo:List W}{t:W}(g:Dg H nd ns nw rl st wo t)(t2:W):Dg (H.set nd (.ins 0 (ya rl ns nw t2))) nd ns nw rl st wo t2:=
 ⟨zL (zS g.d),by rw[zJ g.n1,g.s],by rw[zJ g.n2,g.w],g.n1,g.n2,g.n3⟩
def f_steps:vc kz 0 "steps" = true:=by decide +kernel
def f_worths:vc kz 0 "worths" = true:=by decide +kernel
def f_rules:vc kz 0 "rules" = true:=by decide +kernel
def f_ahead:vc kz 0 "touch_ahead" = true:=by decide +kernel
def Km(rl:List W)(ns nw:Nat)(t:W):(ya rl ns nw t).lookup ("steps":Str)=some (.ref ns):=by
 have a:(("steps":Str)=="rules")=false:=by decide +kernel
 have b:(("steps":Str)=="steps")=true:=by decide +kernel
 simp only[kI,a,b]
def tD(rl:List W)(ns nw:Nat)(t:W):(ya rl ns nw t).lookup ("worths":Str)=some (.ref nw):=by
 have a:(("worths":Str)=="rules")=false:=by decide +kernel
 have b:(("worths":Str)=="steps")=false:=by decide +kernel
 have c:(("worths":Str)=="worths")=true:=by decide +kernel
 simp only[kI,a,b,c]
def Kj(rl:List W)(ns nw:Nat)(t:W):(ya rl ns nw t).lookup ("rules":Str)=some (.tup rl):=by
 have a:(("rules":Str)=="rules")=true:=by decide +kernel
 simp only[kI,a]
def Z4(rl:List W)(ns nw:Nat)(t:W):(ya rl ns nw t).lookup ("touch_ahead":Str)=some t:=by
 have a:(("touch_ahead":Str)=="rules")=false:=by decide +kernel
 have b:(("touch_ahead":Str)=="steps")=false:=by decide +kernel
 have c:(("touch_ahead":Str)=="worths")=false:=by decide +kernel
 have d:(("touch_ahead":Str)=="touch_ahead")=true:=by decide +kernel
 simp only[kI,a,b,c,d]
section
variable{H:MH}{nd ns nw:Nat}{rl st wo:List W}{t:W}
def Dg.fS(g:Dg H nd ns nw rl st wo t):xc kz "steps" (.ref nd) H=some (.ref ns,H):=by simp only[xc,g.d,f_steps,kW,Km]
def Dg.fW(g:Dg H nd ns nw rl st wo t):xc kz "worths" (.ref nd) H=some (.ref nw,H):=by simp only[xc,g.d,f_worths,kW,tD]
def Dg.fR(g:Dg H nd ns nw rl st wo t):xc kz "rules" (.ref nd) H=some (.tup rl,H):=by simp only[xc,g.d,f_rules,kW,Kj]
def Dg.fA(g:Dg H nd ns nw rl st wo t):xc kz "touch_ahead" (.ref nd) H=some (t,H):=by simp only[xc,g.d,f_ahead,kW,Z4]
def lP{α:Type}(l:List α)(x:α):l++[x]≠l:=λe=>by have:=jX List.length e;simp at this
def XW(g:Dg H nd ns nw rl st wo t)(hs:st.length<cap):(step F).bT [.ref nd,d,k] H=some (.non,H.set ns (.lst (st++[.tup [.bl false,d,k]]))):=by
 have c3:(3:Nat)<=cap:=by decide
 refine wf (i:=ns) ?_ g.s (by rw[zL (zS g.s)];intro e;injection e with e;injection e with e;exact lP _ _ e);have e1:=g.fS;have e2:=g.s;simp![cD,kN,e1,kK,getL,e2,zw,c3,qa,hs]
def XU(g:Dg H nd ns nw rl st wo t)(hs:wo.length<cap):(step F).bO [.ref nd,v] H=some (.non,H.set nw (.lst (wo++[v]))):=by
 refine wf (i:=nw) ?_ g.w (by rw[zL (zS g.w)];intro e;injection e with e;injection e with e;exact lP _ _ e);have e1:=g.fW;have e2:=g.w;simp![cA,kN,e1,kK,getL,e2,qa,hs]
def Jp(rl:List W)(ns nw:Nat)(t v:W):xP "touch_ahead" v (ya rl ns nw t)=ya rl ns nw v:=by
 have a:¬(("rules":Str)="touch_ahead"):=by decide +kernel
 have b:¬(("steps":Str)="touch_ahead"):=by decide +kernel
 have c:¬(("worths":Str)="touch_ahead"):=by decide +kernel
 simp only[xP,a,b,c,jq,kW]
def Dg.pA(g:Dg H nd ns nw rl st wo t)(v:W):fi kz "touch_ahead" (.ref nd) v H=some (.non,H.set nd (.ins 0 (ya rl ns nw v))):=by
 simp only[fi,g.d,f_ahead,kW,Jp];rw[zY (by simp)]
def UK(g:Dg H nd ns nw rl st wo t)(hv:v≠t):(step F).aJ [.ref nd,v] H=some (.non,H.set nd (.ins 0 (ya rl ns nw v))):=by
 refine wf (i:=nd) ?_ g.d (by rw[zL (zS g.d)];intro e;injection e with e;injection e with _ e;simp only[jR,wQ] at e;exact hv e.2.2.2.1.2);have e1:=g.pA v;generalize H.set nd (.ins 0 (ya rl ns nw v))=H2 at e1 ⊢;simp![aQ,x6,e1]
def Ct(g:Dg H nd ns nw rl st wo t)(e:wo=wo'++[v])(hv:low H.length v=true):(step F).bf [.ref nd] H=some (v,H):=by
 refine c8 ?_ hv;have e1:=g.fW;have e2:=g.w;have e3:L2.atI wo (-1)=some v:=by rw[e];exact VX _ _
 simp![bD,kN,e1,gQ,zv,getL,e2,e3]
end
def set_same{α:Type}{l:List α}{i:Nat}{x:α}(h:l[i]?=some x):l.set i x=l:=by
 apply List.ext_getElem?
 intro j;by_cases e:i=j
 .subst e;rw[zL (zS h),h]
 .rw[zJ e]
def lU{f:List W->M W}{h:MH}{i:Nat}(e:f ws h=some (w,h.set i o'))(a:h[i]?=some o)(p:low h.length w=true):gc f ws h=some (w,h.set i o'):=by
 by_cases q:o'=o
 .subst q
  rw[set_same a] at e ⊢;exact c8 e p
 .refine wf e a ?_
  rw[zL (zS a)];intro z;injection z with z;exact q z
noncomputable abbrev xV(na np:Nat)(ans:List W)(k:Int):List (Str×W):=[("shelves",.ref na),("answers",.fls ans),("spoken",.ref np),("asks",.int k)]
structure Rg(H:MH)(nr na np:Nat)(sh:List (Key×W))(ans sp:List W)(k:Nat):Prop where
 r:H[nr]?=some (.ins 1 (xV na np ans k))
 a:H[na]?=some (.dic sh)
 p:H[np]?=some (.lst sp)
 n1:nr≠na
 n2:nr≠np
 n3:na≠np
section
variable{H:MH}{nr na np k:Nat}{sh:List (Key×W)}{ans sp:List W}
def Rg.fS(g:Rg H nr na np sh ans sp k):xc kz "shelves" (.ref nr) H=some (.ref na,H):=by
 have f:vc kz 1 "shelves" = true:=by decide +kernel
 have a:(("shelves":Str)=="shelves")=true:=by decide +kernel
 simp only[xc,g.r,f,kW,kI,a]
def Rg.fA(g:Rg H nr na np sh ans sp k):xc kz "answers" (.ref nr) H=some (.fls ans,H):=by
 have f:vc kz 1 "answers" = true:=by decide +kernel
 have a:(("answers":Str)=="shelves")=false:=by decide +kernel
 have b:(("answers":Str)=="answers")=true:=by decide +kernel
 simp only[xc,g.r,f,kW,kI,a,b]
def Rg.fP(g:Rg H nr na np sh ans sp k):xc kz "spoken" (.ref nr) H=some (.ref np,H):=by
 have f:vc kz 1 "spoken" = true:=by decide +kernel
 have a:(("spoken":Str)=="shelves")=false:=by decide +kernel
 have b:(("spoken":Str)=="answers")=false:=by decide +kernel
 have c:(("spoken":Str)=="spoken")=true:=by decide +kernel
 simp only[xc,g.r,f,kW,kI,a,b,c]
def Rg.fK(g:Rg H nr na np sh ans sp k):xc kz "asks" (.ref nr) H=some (.int k,H):=by
 have f:vc kz 1 "asks" = true:=by decide +kernel
 have a:(("asks":Str)=="shelves")=false:=by decide +kernel
 have b:(("asks":Str)=="answers")=false:=by decide +kernel
 have c:(("asks":Str)=="spoken")=false:=by decide +kernel
 have d:(("asks":Str)=="asks")=true:=by decide +kernel
 simp only[xc,g.r,f,kW,kI,a,b,c,d]
def Rg.pK(g:Rg H nr na np sh ans sp k)(j:Int):fi kz "asks" (.ref nr) (.int j) H=some (.non,H.set nr (.ins 1 (xV na np ans j))):=by
 have f:vc kz 1 "asks" = true:=by decide +kernel
 have a:¬(("shelves":Str)="asks"):=by decide +kernel
 have b:¬(("answers":Str)="asks"):=by decide +kernel
 have c:¬(("spoken":Str)="asks"):=by decide +kernel
 simp only[fi,g.r,f,kW,xP,a,b,c,jq];rw[zY (by simp)]
def Rg.shelves(g:Rg H nr na np sh ans sp k)(sh2:List (Key×W)):Rg (H.set na (.dic sh2)) nr na np sh2 ans sp k:=
 ⟨by rw[zJ (kY g.n1),g.r],zL (zS g.a),by rw[zJ g.n3,g.p],g.n1,g.n2,g.n3⟩
def Rg.spoken(g:Rg H nr na np sh ans sp k)(sp2:List W):Rg (H.set np (.lst sp2)) nr na np sh ans sp2 k:=
 ⟨by rw[zJ (kY g.n2),g.r],by rw[zJ (kY g.n3),g.a],zL (zS g.p),g.n1,g.n2,g.n3⟩
def Rg.asks(g:Rg H nr na np sh ans sp k)(j:Nat):Rg (H.set nr (.ins 1 (xV na np ans j))) nr na np sh ans sp j:=
 ⟨zL (zS g.r),by rw[zJ g.n1,g.a],by rw[zJ g.n2,g.p],g.n1,g.n2,g.n3⟩
def iA:(("write":Str)=="read")=false/\(("say":Str)=="read")=false/\(("say":Str)=="write")=false/\(("ask":Str)=="read")=false/\(("ask":Str)=="write")=false/\(("ask":Str)=="say")=false:=by decide +kernel
def do_read(g:Rg H nr na np sh ans sp k)(hw:vS sh (.inr v)=some w)(hl:low H.length w=true):(step F).aX [.ref nr,.tup [.str "read",.str v]] H=some (.tup [.str "read",.str v,w],H):=by
 have c3:(3:Nat)<=cap:=by decide
 refine c8 ?_ (by unfold low lows low lows low lows;rw[hl];unfold lows;rfl);have e1:=g.fS;have e2:=g.a;simp![aZ,xC,yb,ve,zw,c3,kN,e1,qv,yT,e2,keyOf,hw]
def do_write(g:Rg H nr na np sh ans sp k)(hs:sh.length<cap)(hl:low H.length w=true):(step F).aX [.ref nr,.tup [.str "write",.str v,w]] H=some (.tup [.str "write",.str v,w],H.set na (.dic (jS sh (.inr v) w))):=by
 refine lU ?_ g.a (by unfold low lows low lows low lows;rw[hl];unfold lows;rfl);have e1:=g.fS;have e2:=g.a;have n:=iA.1;have n':¬(("write":Str)="read"):=λe=>by rw[e] at n;simp at n
 simp![aZ,xC,yb,ck,ve,n',uk,kN,e1,bg,e2,keyOf,hs]
end
section
variable{H:MH}{nr na np k:Nat}{sh:List (Key×W)}{ans sp:List W}
def do_say(g:Rg H nr na np sh ans sp k)(hs:sp.length<cap)(hl:low H.length v=true):(step F).aX [.ref nr,.tup [.str "say",v]] H=some (.tup [.str "say",v],H.set np (.lst (sp++[v]))):=by
 refine lU ?_ g.p (by unfold low lows low lows;rw[hl];unfold lows;rfl);have e1:=g.fP;have e2:=g.p;have n1:¬(("say":Str)="read"):=λe=>by have:=iA.2.1;rw[e] at this;simp at this
 have n2:¬(("say":Str)="write"):=λe=>by have:=iA.2.2.1;rw[e] at this;simp at this
 simp![aZ,xC,yb,ve,n1,n2,kN,e1,kK,getL,e2,qa,hs]
noncomputable def ba(ans:List W)(k:Nat):W:=(ans[k]?).getD (.int 0)
def Vd(g:Rg H nr na np sh ans sp k)(hl:low H.length (ba ans k)=true)(hc:ans.length<=cap):(step F).aU [.ref nr] H=some (ba ans k,H.set nr (.ins 1 (xV na np ans ((k+1:Nat):Int)))):=by
 refine lU ?_ g.r hl;have e1:=g.fK;have g2:=g.asks (k+1);have e2:=g.pK ((k:Int)+1);have e3:xc kz "answers" (.ref nr) (H.set nr (.ins 1 (xV na np ans ((k:Int)+1))))=some (.fls ans,H.set nr (.ins 1 (xV na np ans ((k:Int)+1)))):=g2.fA;have c:ans.length<=cap:=zT hc (by decide);have e4:mW (.int k) (.int 1) H=some (.int ((k:Int)+1),H):=by
  simp[mW,addW,k8]
 have e6:clsOf (.ref nr) H=clsOf (.ref nr) H:=rfl;show _=some (_,H.set nr (.ins 1 (xV na np ans ((k:Int)+1))))
 generalize H.set nr (.ins 1 (xV na np ans ((k:Int)+1)))=H2 at e2 e3 ⊢;unfold ba;by_cases q:k<ans.length
 .have q':(k:Int)<(ans.length:Int):=by omega
  have e5:L2.atI ans (k:Int)=some ans[k]:=ZC (zE q);rw[zE q];simp![aM,kN,e1,lX,e4,e2,e3,kH,getL,vT,q',zv,e5]
 .have q':¬((k:Int)<(ans.length:Int)):=by omega
  rw[jV ∅];simp![aM,kN,e1,lX,e4,e2,e3,kH,getL,vT,q']
def do_ask(g:Rg H nr na np sh ans sp k)(hl:low H.length (ba ans k)=true)(hc:ans.length<=cap):(step (step F)).aX [.ref nr,.tup [.str "ask"]] H=some (.tup [.str "ask",ba ans k],H.set nr (.ins 1 (xV na np ans ((k+1:Nat):Int)))):=by
 refine lU ?_ g.r (by unfold low lows low lows;rw[hl];unfold lows;rfl);have e1:=Vd (F:=F) g hl hc;have c2:(2:Nat)<=cap:=by decide
 have n1:¬(("ask":Str)="read"):=λe=>by have:=iA.2.2.2.1;rw[e] at this;simp at this
 have n2:¬(("ask":Str)="write"):=λe=>by have:=iA.2.2.2.2.1;rw[e] at this;simp at this
 have n3:¬(("ask":Str)="say"):=λe=>by have:=iA.2.2.2.2.2;rw[e] at this;simp at this
 have m1:(xV na np ans (k:Int)).lookup ("next_answer":Str)=none:=by
  have a:(("next_answer":Str)=="shelves")=false:=by decide +kernel
  have b:(("next_answer":Str)=="answers")=false:=by decide +kernel
  have c:(("next_answer":Str)=="spoken")=false:=by decide +kernel
  have d:(("next_answer":Str)=="asks")=false:=by decide +kernel
  simp only[kI,yu,a,b,c,d]
 have m2:(mt (step F)).lookup (1,("next_answer":Str))=some (step F).aU:=by kernel_rfl
 have e2:=g.r;have em:kb (mt (step F)) "next_answer" (ze 0) [] [some (.ref nr),some (.tup [.str "ask"])] H=some (ba ans k,H.set nr (.ins 1 (xV na np ans ((k+1:Nat):Int)))):=by
  unfold kb;simp only[bnd,ze,zp,e2,m1,m2,ko,e1]
 generalize H.set nr (.ins 1 (xV na np ans ((k+1:Nat):Int)))=H2 at em ⊢;generalize ba ans k=A at em ⊢;generalize step F=G at em;simp![aZ,xC,ve,n1,n2,n3,zw,c2,em]
end
theorem sF(hn:nw≠n0):∀(l vs:List W) (wo acc:List W) (H:MH) (o:Option W),l.length=vs.length->H[nw]?=some (.lst (wo++vs))->H[n0]?=some (.lst acc)->acc.length+vs.length<=1000->
  vw 1 (zC 0) kG (kK uG (ze 1) []) n0 l [o,some (.ref nw)] H=some ((H.set nw (.lst wo)).set n0 (.lst (acc++vs.reverse)))
 | [],vs,wo,acc,H,o,hl,h1,h2,_=>by
  have:vs=[]:=jP.mp hl.symm;subst this;rw[kj] at h1;simp only[vw,List.reverse_nil,kj];rw[set_same h1,set_same h2]
 | w::l,vs,wo,acc,H,o,hl,h1,h2,hc=>by
  rcases List.eq_nil_or_concat vs with rfl | ⟨vs',v,rfl⟩
  .cases hl
  .rw[List.concat_eq_append] at h1 hl hc ⊢
   simp only[zK,zm,zV] at hl hc;rw[<-kZ] at h1;have c:acc.length<cap:=zN (show acc.length<1001 by omega) (by decide);have ep:=last_at' (wo++vs') v;have h3:(H.set nw (.lst (wo++vs')))[n0]?=some (.lst acc):=by rw[zJ hn,h2]
   have ih:=sF hn l vs' wo (acc++[v]) ((H.set nw (.lst (wo++vs'))).set n0 (.lst (acc++[v]))) none ∅
    (by rw[zJ (kY hn),zL (zS h1)]) (zL (by rw[je];exact zS h2)) (by simp;omega)
   have g:zC 0 w [o,some (.ref nw)] H=some ([some w,some (.ref nw)],H):=by simp[zC]
   have m:kK uG (ze 1) [] [some w,some (.ref nw)] H=some (v,H.set nw (.lst (wo++vs'))):=by
    simp[kK,ze,bnd,getL,h1,ko,uG,ep]
   unfold vw;simp only[g,kG,m,h3,c,kW];show vw 1 (zC 0) kG (kK uG (ze 1) []) n0 l [none,some (.ref nw)] _=_
   rw[ih];congr 1
   rw[List.reverse_append,kZ];have s1:(((H.set nw (.lst (wo++vs'))).set n0 (.lst (acc++[v]))).set nw (.lst wo)).set n0 (.lst (acc++([v]++vs'.reverse)))=(H.set nw (.lst wo)).set n0 (.lst (acc++([v]++vs'.reverse))):=by
    rw[List.set_comm _ _ (kY hn),yV,yV]
   exact s1
where
 last_at' {α:Type} (l:List α) (x:α):(l++[x])[(l++[x]).length-1]?=some x:=by simp
def tY(h:∀v∈l,low m v=true):low m (.fls l)=true:=by unfold low;exact yk h
def BN{n:Nat}{ρ:En}{H:MH}(hn:n<=1000)(hv:ze 1 ρ H=some (.int (n:Int),H)):qk [ze 1] ρ H=some (.items (upto n),H):=by
 have q:-(2 ^ 62:Int)<=(n:Int)/\(n:Int)<2 ^ 62:=by omega
 have rw1:∀h,ae [.int (n:Int)] h=some (.items (upto n),h):=λh=>by
  unfold ae;simp only;rw[zY q,jw]
 simp only[qk,ko,bnd,hv,rw1]
def iQ{ks:List Nat}{t:MT}{ρ ρ0:En}{h1:MH}(e:mi ρ h=some (.items l,h1))(er:(List.replicate nl none++ks.map λk=>(ρ[k]?).join)=ρ0)(ec:vw nl g t m h1.length l ρ0 (h1++[.lst []])=some h2):xD mi nl ks g t m ρ h=some (.ref h1.length,h2):=by
 subst er;unfold xD uS;rw[e];simp only[ec]
def KO{H:MH}{nw n:Nat}{wo vs:List W}(h1:H[nw]?=some (.lst (wo++vs)))(hn:n=vs.length)(hl:n<=1000):xD (qk [ze 1]) 1 [0] (zC 0) kG (kK uG (ze 1) []) [some (.ref nw),some (.int (n:Int)),none] H=some (.ref H.length,H.set nw (.lst wo)++[.lst vs.reverse]):=by
 have lt:=zS h1;have hu:(upto n).length=vs.length:=by rw[<-hn];unfold upto;rw[zB,jF]
 have hp:=sF (nw:=nw) (n0:=H.length) (zX lt) (upto n) vs wo [] (H++[.lst []]) none hu (by rw[zA lt,h1]) List.getElem?_concat_length (by rw[zV,Nat.zero_add,<-hn];exact hl);have hh:((H++[MO.lst []]).set nw (.lst wo)).set H.length (.lst ([]++vs.reverse))=H.set nw (.lst wo)++[.lst vs.reverse]:=by
  rw[yZ _ _ lt,jU _ _ (by rw[je];exact zg _),je,qj,kE];rfl
 rw[hh] at hp;exact iQ (BN hl rfl) rfl hp
def JG{H:MH}{wo vs:List W}(hl:vs.length<=1000):mP (.ref H.length) (H.set nw (.lst wo)++[.lst vs.reverse])=some (.fls vs,H.set nw (.lst wo)++[.lst vs.reverse]):=by
 have:getL (H.set nw (.lst wo)++[.lst vs.reverse]) (.ref H.length)=some vs.reverse:=by
  simp only[getL];rw[zH (by rw[je];exact zg _),je,qj];rfl
 simp only[mP,this,qP,j5,List.reverse_reverse];rw[zY hl]
def Ji{H:MH}(cm:xD (qk [ze 1]) 1 [0] (zC 0) kG (kK uG (ze 1) []) [some (.ref nw),some j,none] H=some (.ref m,H2))(rv:mP (.ref m) H2=some (.fls vs,H2)):kd 2 1 (aC F) [.ref nw,j] H=some (.fls vs,H2):=by
 have row:aC F [some (.ref nw),some j,none] H=some (.ret (.fls vs),H2):=by
  unfold aC;rw[zt (ρ':=[some (.ref nw),some j,some (.ref m)]) (h':=H2) (by unfold zI;rw[cm];rfl)];simp only[ku,uf,bnd,ze,zG,zp,rv]
 simp only[kd,zm,zV,kW,zq,jd,List.replicate,jk,kE];simp only[row]
def me{H:MH}{wo vs:List W}(h1:H[nw]?=some (.lst (wo++vs)))(hn:n=vs.length)(hl:n<=1000):kd 2 1 (aC F) [.ref nw,.int (n:Int)] H=some (.fls vs,H.set nw (.lst wo)++[.lst vs.reverse]):=
 Ji (KO h1 hn hl) (JG (by rw[<-hn];exact hl))
theorem f_taken(F:Fs):(step F).aN=gc (kd 2 1 (aC F)):=rfl
def XR{H:MH}{wo vs:List W}(h1:H[nw]?=some (.lst (wo++vs)))(hn:n=vs.length)(hl:n<=1000)(hv:vs≠[]):(step F).aN [.ref nw,.int (n:Int)] H=some (.fls vs,H.set nw (.lst wo)++[.lst vs.reverse]):=by
 have e0:=me (F:=F) h1 hn hl;rw[f_taken];generalize kd 2 1 (aC F)=f at e0 ⊢;refine wf e0 h1 ?_;rw[zA (by rw[je];exact zS h1),zL (zS h1)];intro e;injection e with e;injection e with e;have:=jX List.length e;simp only[zK] at this;exact hv (jP.mp ∅)
def V1{H:MH}{wo:List W}(h1:H[nw]?=some (.lst wo)):(step F).aN [.ref nw,.int ((0:Nat):Int)] H=some (.fls [],H):=by
 have e:=me (F:=F) (n:=0) (vs:=[]) (wo:=wo) (by rw[kj];exact h1) rfl (qy _);rw[set_same h1] at e;rw[f_taken];generalize kd 2 1 (aC F)=f at e ⊢;exact y7 e (by unfold low lows;rfl) (jj _ _)
def wm{fs:List (Str×W)}{c:Nat}{H:MH}(ho:H[n]?=some (.ins c fs))(hl:fs.lookup m=none)(hm:(mt F).lookup (c,m)=some g)(e1:mo ρ H0=some (.ref n,H))(e2:ko ms ρ H=some (ws,H1)):kb (mt F) m mo ms ρ H0=g (.ref n::ws) H1:=by
 unfold kb;simp only[bnd,e1,ho,hl,hm,e2]
def nP{t:W}(a:(m==("rules":Str))=false)(b:(m==("steps":Str))=false)(c:(m==("worths":Str))=false)(d:(m==("touch_ahead":Str))=false):(ya rl ns nw t).lookup m=none:=by
 simp only[kI,yu,a,b,c,d]
theorem Wb(F:Fs):(mt F).lookup (0,("bring":Str))=some F.bO:=by kernel_rfl
theorem Vb(F:Fs):(mt F).lookup (0,("begin":Str))=some F.bT:=by kernel_rfl
theorem YZ(F:Fs):(mt F).lookup (0,("rest_ahead_of":Str))=some F.aJ:=by kernel_rfl
theorem YQ(F:Fs):(mt F).lookup (0,("take_step":Str))=some F.aL:=by kernel_rfl
theorem DB(F:Fs):(mt F).lookup (0,("go_on":Str))=some F.aK:=by kernel_rfl
theorem oR(F:Fs):(mt F).lookup (0,("do_touch":Str))=some F.aP:=by kernel_rfl
theorem YH(F:Fs):(mt F).lookup (0,("came_to":Str))=some F.bf:=by kernel_rfl
theorem CS(F:Fs):(mt F).lookup (1,("do":Str))=some F.aX:=by kernel_rfl
theorem Wr(F:Fs):(mt F).lookup (1,("store":Str))=some F.b8:=by kernel_rfl
theorem Y5(F:Fs):(mt F).lookup (1,("said":Str))=some F.cF:=by kernel_rfl
def yi{ws:List W}{H:MH}(hl:ws.length=np)(hr:ws.map some++List.replicate k none=ρ)(e:b ρ H=some (.nx ρ',H')):kd np k b ws H=some (.non,H'):=by
 subst hr;unfold kd;rw[zY hl,e]
def xo{ws:List W}{H:MH}(hl:ws.length=np)(hr:ws.map some++List.replicate k none=ρ)(e:b ρ H=some (.ret w,H')):kd np k b ws H=some (w,H'):=by
 subst hr;unfold kd;rw[zY hl,e]
def aT{t:MT}(e:t ρ h=some (true,h))(eA:A ρ h=some (.ret w,h')):zo (jp t A kL) b ρ h=some (.ret w,h'):=by
 refine y0 ?_;unfold jp;rw[e];simp only[kW];exact eA
theorem Je{t:MT}(e:t ρ h=some (false,h)):zo (jp t A kL) b ρ h=b ρ h:=by
 refine zt ?_;unfold jp;rw[e];rfl
def sE{t:MT}{f:Fl}(e:t ρ h=some (true,h))(eA:A ρ h=some (f,h')):jp t A kL ρ h=some (f,h'):=by
 unfold jp;rw[e];simp only[kW];exact eA
theorem iq{t:MT}(e:t ρ h=some (false,h)):jp t A kL ρ h=some (.nx ρ,h):=by
 unfold jp;rw[e];rfl
def vb{H:MH}(e:m ρ H=some (w,H')):kx m ρ H=some (.nx ρ,H'):=by unfold kx;rw[e]
section
variable{H:MH}{nd ns nw:Nat}{rl st wo:List W}{t:W}{F:Fs}
def i5(g:Dg H nd ns nw rl st wo t)(v:W):(H.set nw (.lst (wo++[v])))[nw]?≠some (.lst wo):=by
 rw[zL (zS g.w)];intro e;injection e with e;injection e with e;exact lP _ _ e
def ly(g:Dg H nd ns nw rl st wo t)(v:W):(H.set ns (.lst (st++[v])))[ns]?≠some (.lst st):=by
 rw[zL (zS g.s)];intro e;injection e with e;injection e with e;exact lP _ _ e
def ik(g:Dg H nd ns nw rl st wo t)(hw:wo.length<cap)(e1:mo ρ H=some (.ref nd,H))(e2:m ρ H=some (v,H)):kb (mt (step F)) "bring" mo [m] ρ H=some (.non,H.set nw (.lst (wo++[v]))):=by
 rw[wm g.d (nP ⋯ ⋯ ⋯ ⋯) (Wb _) e1 (ws:=[v]) (H1:=H) (by simp only[ko,bnd,e2])];exact XU g hw
def pV(g:Dg H nd ns nw rl st wo t)(hv:v≠t)(e1:mo ρ H=some (.ref nd,H))(e2:m ρ H=some (v,H)):kb (mt (step F)) "rest_ahead_of" mo [m] ρ H=some (.non,H.set nd (.ins 0 (ya rl ns nw v))):=by
 rw[wm g.d (nP ⋯ ⋯ ⋯ ⋯) (YZ _) e1 (ws:=[v]) (H1:=H) (by simp only[ko,bnd,e2])];exact UK g hv
def ip{H2:MH}(g0:Dg H nd ns nw rl st wo t)(g:Dg H2 nd ns nw rl st wo t)(hw:st.length<cap)(e1:mo ρ H=some (.ref nd,H))(e2:m ρ H=some (d,H1))(e3:m2 ρ H1=some (k,H2)):kb (mt (step F)) "begin" mo [m,m2] ρ H=some (.non,H2.set ns (.lst (st++[.tup [.bl false,d,k]]))):=by
 rw[wm g0.d (nP ⋯ ⋯ ⋯ ⋯) (Vb _) e1 (ws:=[d,k]) (H1:=H2) (by simp only[ko,bnd,e2,e3])];exact XW g hw
def Dg.app(g:Dg H nd ns nw rl st wo t)(X:MH):Dg (H++X) nd ns nw rl st wo t:=
 ⟨by rw[zA (zS g.d)];exact g.d,by rw[zA (zS g.s)];exact g.s,by rw[zA (zS g.w)];exact g.w,g.n1,g.n2,g.n3⟩
def eP{r:List W}(g:Dg H nd ns nw rl st wo t)(hw:wo.length<cap)(hl:r.length=3)(e:m ((W.ref nd::r).map some++List.replicate k none) H=some (v,H)):gc (kd 4 k (kx (kb (mt (step F)) "bring" (ze 0) [m]))) (.ref nd::r) H=some (.non,H.set nw (.lst (wo++[v]))):=
 wf (yi (by simp[hl]) rfl (vb (ik g hw rfl e))) g.w (i5 g v)
def lh(g:Dg H nd ns nw rl st wo t)(hv:v≠t):(H.set nd (.ins 0 (ya rl ns nw v)))[nd]?≠some (.ins 0 (ya rl ns nw t)):=by
 rw[zL (zS g.d)];intro e;injection e with e;injection e with _ e;simp only[jR,wQ] at e;exact hv e.2.2.2.1.2
def QE{r:List W}(g:Dg H nd ns nw rl st wo t)(hv:v≠t)(hl:r.length=3)(e:m ((W.ref nd::r).map some++List.replicate k none) H=some (v,H)):gc (kd 4 k (kx (kb (mt (step F)) "rest_ahead_of" (ze 0) [m]))) (.ref nd::r) H=some (.non,H.set nd (.ins 0 (ya rl ns nw v))):=
 wf (yi (by simp[hl]) rfl (vb (pV g hv rfl e))) g.d (lh g hv)
def oh(g:Dg H nd ns nw rl st wo t)(v:W):((H++X).set ns (.lst (st++[v])))[ns]?≠some (.lst st):=ly (g.app X) v
def mV{r:List W}{kn:W}(g:Dg H nd ns nw rl st wo t)(hw:st.length<cap)(hl:r.length=3)(e:m ((W.ref nd::r).map some++List.replicate k none) H=some (d,H))(e2:m2 ((W.ref nd::r).map some++List.replicate k none) H=some (kn,H++X)):gc (kd 4 k (kx (kb (mt (step F)) "begin" (ze 0) [m,m2]))) (.ref nd::r) H=some (.non,(H++X).set ns (.lst (st++[.tup [.bl false,d,kn]]))):=
 wf (yi (by simp[hl]) rfl (vb (ip g (g.app X) hw rfl e e2))) g.s (oh g _)
def do_number{i:Int}(g:Dg H nd ns nw rl st wo t)(hw:wo.length<cap):(step (step F)).bF [.ref nd,th "number" [.int i],kw,ww] H=some (.non,H.set nw (.lst (wo++[.int i]))):=
 eP g hw rfl (by simp![yb])
def do_name(g:Dg H nd ns nw rl st wo t)(hw:wo.length<cap)(hk:qv kw (.str v) H=some (w,H)):(step (step F)).cO [.ref nd,th "name" [.str v],kw,ww] H=some (.non,H.set nw (.lst (wo++[w]))):=
 eP g hw rfl (by simp![yb,hk])
def do_add(g:Dg H nd ns nw rl st wo t)(hw:wo.length<cap):(step (step F)).cY [.ref nd,d,kw,.fls [.int x,.int y]] H=some (.non,H.set nw (.lst (wo++[.int ((x+y)%1009)]))):=
 eP g hw rfl (by simp![ut,rD,addW,k8,yv,gK])
def do_less(g:Dg H nd ns nw rl st wo t)(hw:wo.length<cap):(step (step F)).cL [.ref nd,d,kw,.fls [.int x,.int y]] H=some (.non,H.set nw (.lst (wo++[.int (if x<y then 1 else 0)]))):=
 eP g hw rfl (by
  by_cases q:x<y
  .simp![ut,rD,vT,q]
  .simp![ut,rD,vT,q])
def do_then(g:Dg H nd ns nw rl st wo t)(hw:wo.length<cap):(step (step F)).cN [.ref nd,d,kw,.fls [x,y]] H=some (.non,H.set nw (.lst (wo++[y]))):=
 eP g hw rfl (by simp![rD])
def YW(g:Dg H nd ns nw rl st wo .non):(step (step F)).dg [.ref nd,d,kw,.fls [x]] H=some (.non,H.set nd (.ins 0 (ya rl ns nw (.tup [.str "say",x])))):=by
 have c2:(2:Nat)<=cap:=by decide
 exact QE g nofun rfl (by simp![ut,zw,c2])
def Y8(g:Dg H nd ns nw rl st wo .non):(step (step F)).cV [.ref nd,d,kw,ww] H=some (.non,H.set nd (.ins 0 (ya rl ns nw (.tup [.str "ask"])))):=by
 have c1:(1:Nat)<=cap:=by decide
 exact QE g nofun rfl (by simp![zw,c1])
def do_if{c:W}(g:Dg H nd ns nw rl st wo t)(hw:st.length<cap):(step (step F)).dB [.ref nd,th "if" [a,b,c],kw,.fls [.int x]] H=some (.non,H.set ns (.lst (st++[.tup [.bl false,if x=0 then c else b,kw]]))):=by
 have:=mV (F:=F) (X:=[]) (k:=0) (m:=(Zc (ke (zi (qq true) (zi zv (ze 3) (eC (.int 0))) (eC (.int 0)))) (zi zv (ze 1) (eC (.int 2))) (zi zv (ze 1) (eC (.int 3))))) (m2:=ze 2) (r:=[th "if" [a,b,c],kw,.fls [.int x]]) (d:=if x=0 then c else b) (kn:=kw) g hw rfl (by
  by_cases q:x=0
  .simp![ut,ck,pF,vt,q]
  .simp![ut,ck,pF,vt,q]) (by simp![])
 rw[kj] at this;exact this
end
def Ku(h:v∈SH):dt 1 (.str v)=true:=by
 simp only[SH,zb,zc,zQ] at h;rcases h with rfl | rfl | rfl | rfl<;>decide +kernel
def oP{H:MH}(d:dt 1 (.str v)=true):inB H (.str v) qf=some (decide (v∈SH)):=by
 have e:=i8 (h:=H) (l:=SH) d ∅ ⋯;have e2:xQ SH (.str v)=decide (v∈SH):=by
  unfold xQ;rw[vH,qt,decide_eq_true_iff];constructor
  .rintro⟨x,hx,e⟩
   rw[<-eq_of_beq e];exact hx
  .intro h
   exact⟨v,h,beq_self_eq_true v⟩
 rw[<-e2];exact e
def Bb{f:List W->M W}{h:MH}(e:f ws h=some (.ref h.length,h++[.dic l])):gc f ws h=some (.ref h.length,h++[.dic l]):=by
 unfold gc;rw[e];have p:h<+:h++[MO.dic l]:=jj _ _;have q:low h.length (.ref h.length)=false:=by unfold low;simp
 have c:h<+:h++[MO.dic l]/\W.ref h.length≠.non:=⟨p,nofun⟩;simp only;rw[zY c];simp only[q,jJ,jq,at0]
section
variable{H:MH}{nd ns nw:Nat}{rl st wo:List W}{t:W}{F:Fs}
theorem f_with(F:Fs):(step F).aW=gc (kd 3 1 (bB F)):=rfl
theorem QC{l:List (Key×W)}(hk:yT H kw=some l)(hl:l.length<cap):(step F).aW [kw,.str v,x] H=some (.ref H.length,H++[.dic (jS l (.inr v) x)]):=by
 rw[f_with];refine Bb (xo (ρ:=[some kw,some (.str v),some x,none]) rfl rfl ?_);unfold bB
 rw[zt (ρ':=[some kw,some (.str v),some x,some (.ref H.length)]) (h':=H++[.dic l]) (by
  simp only[zI,zh,ko,bnd,ze,zp,lJ,hk,zC]
  rfl)]
 have e:bg (.ref H.length) (.str v) x (H++[.dic l])=some (.non,H++[.dic (jS l (.inr v) x)]):=by
  simp only[bg,at0,keyOf,hl,kW,mG]
 rw[zt (ρ':=[some kw,some (.str v),some x,some (.ref H.length)]) (h':=H++[.dic (jS l (.inr v) x)]) (by
  simp only[zI,ze,zp,zG,uk,bnd,e])]
 rfl
def Wk(g:Dg H nd ns nw rl st wo .non)(h:v∈SH):(step (step F)).bZ [.ref nd,th "read" [.str v],kw,ww] H=some (.non,H.set nd (.ins 0 (ya rl ns nw (.tup [.str "read",.str v])))):=by
 have c2:(2:Nat)<=cap:=by decide
 have e:=oP (H:=H) (Ku h);rw[qw h] at e;refine wf (yi (ρ:=[some (.ref nd),some (th "read" [.str v]),some kw,some ww]) (ρ':=[some (.ref nd),some (th "read" [.str v]),some kw,some ww]) rfl rfl ?_) g.d (lh g (v:=.tup [.str "read",.str v]) nofun);have e2:kx (kb (mt (step F)) "rest_ahead_of" (ze 0) [zh zw [eC (.str "read"),zi zv (ze 1) (eC (.int 1))]]) [some (.ref nd),some (th "read" [.str v]),some kw,some ww] H=some (.nx _,H.set nd (.ins 0 (ya rl ns nw (.tup [.str "read",.str v])))):=vb (pV g nofun rfl (by simp![yb,zw,c2]));unfold cH;unfold jp;rw[show ke (zi (gH false) (zi zv (ze 1) (eC (.int 1))) (eC qf)) [some (.ref nd),some (th "read" [.str v]),some kw,some ww] H=some (true,H) by simp![yb,e]];exact e2
def Vj(g:Dg H nd ns nw rl st wo t)(hw:wo.length<cap)(h:v∉SH)(d:dt 1 (.str v)=true)(hk:qv kw (.str v) H=some (.ref n,H))(hn:H[n]?=some (.lst [w])):(step (step F)).bZ [.ref nd,th "read" [.str v],kw,ww] H=some (.non,H.set nw (.lst (wo++[w]))):=by
 have e:=oP (H:=H) d;rw[jM h] at e;have ix:zv (.ref n) (.int 0) H=some (w,H):=by simp[zv,getL,hn,atI,xl]
 refine wf (yi (ρ:=[some (.ref nd),some (th "read" [.str v]),some kw,some ww]) (ρ':=[some (.ref nd),some (th "read" [.str v]),some kw,some ww]) rfl rfl ?_) g.w (i5 g w);have e2:kx (kb (mt (step F)) "bring" (ze 0) [zi zv (zi qv (ze 2) (zi zv (ze 1) (eC (.int 1)))) (eC (.int 0))]) [some (.ref nd),some (th "read" [.str v]),some kw,some ww] H=some (.nx _,H.set nw (.lst (wo++[w]))):=vb (ik g hw rfl (by simp![yb,hk,ix]));unfold cH;unfold jp;rw[show ke (zi (gH false) (zi zv (ze 1) (eC (.int 1))) (eC qf)) [some (.ref nd),some (th "read" [.str v]),some kw,some ww] H=some (false,H) by simp![yb,e]];exact e2
def JX(g:Dg H nd ns nw rl st wo .non)(h:v∈SH):(step (step F)).bw [.ref nd,th "write" [.str v,a],kw,.fls [x]] H=some (.non,H.set nd (.ins 0 (ya rl ns nw (.tup [.str "write",.str v,x])))):=by
 have c3:(3:Nat)<=cap:=by decide
 have e:=oP (H:=H) (Ku h);rw[qw h] at e;refine wf (yi (ρ:=[some (.ref nd),some (th "write" [.str v,a]),some kw,some (.fls [x])]) (ρ':=[some (.ref nd),some (th "write" [.str v,a]),some kw,some (.fls [x])]) rfl rfl ?_) g.d (lh g (v:=.tup [.str "write",.str v,x]) nofun);have e2:kx (kb (mt (step F)) "rest_ahead_of" (ze 0) [zh zw [eC (.str "write"),zi zv (ze 1) (eC (.int 1)),zi zv (ze 3) (eC (.int 0))]]) [some (.ref nd),some (th "write" [.str v,a]),some kw,some (.fls [x])] H=some (.nx _,H.set nd (.ins 0 (ya rl ns nw (.tup [.str "write",.str v,x])))):=vb (pV g nofun rfl (by simp![yb,ut,zw,c3]));unfold cj;unfold jp;rw[show ke (zi (gH false) (zi zv (ze 1) (eC (.int 1))) (eC qf)) [some (.ref nd),some (th "write" [.str v,a]),some kw,some (.fls [x])] H=some (true,H) by simp![yb,e]];exact e2
def Dg.cell(g:Dg H nd ns nw rl st wo t){n:Nat}{o:MO}(a:n≠nd)(b:n≠ns)(c:n≠nw):Dg (H.set n o) nd ns nw rl st wo t:=
 ⟨by rw[zJ a,g.d],by rw[zJ b,g.s],by rw[zJ c,g.w],g.n1,g.n2,g.n3⟩
def Qy(g:Dg H nd ns nw rl st wo t)(hw:wo.length<cap)(h:v∉SH)(d:dt 1 (.str v)=true)(hk:qv kw (.str v) H=some (.ref n,H))(hn:H[n]?=some (.lst [w]))(na:n≠nd)(nb:n≠ns)(nc:n≠nw):(step (step F)).bw [.ref nd,th "write" [.str v,a],kw,.fls [x]] H=some (.non,(H.set n (.lst [x])).set nw (.lst (wo++[x]))):=by
 have e:=oP (H:=H) d;rw[jM h] at e;have g2:=g.cell (o:=.lst [x]) na nb nc;have ch:((H.set n (.lst [x])).set nw (.lst (wo++[x])))[nw]?≠some (.lst wo):=i5 g2 x;refine wf (yi (ρ:=[some (.ref nd),some (th "write" [.str v,a]),some kw,some (.fls [x])]) (ρ':=[some (.ref nd),some (th "write" [.str v,a]),some kw,some (.fls [x])]) rfl rfl ?_) g.w ch;have pm:bg (.ref n) (.int 0) x H=some (.non,H.set n (.lst [x])):=by simp[bg,hn,xl]
 have e2:kx (kb (mt (step F)) "bring" (ze 0) [zi zv (ze 3) (eC (.int 0))]) [some (.ref nd),some (th "write" [.str v,a]),some kw,some (.fls [x])] (H.set n (.lst [x]))=some (.nx _,(H.set n (.lst [x])).set nw (.lst (wo++[x]))):=vb (ik g2 hw rfl (by simp![ut]));unfold cj;unfold jp;rw[show ke (zi (gH false) (zi zv (ze 1) (eC (.int 1))) (eC qf)) [some (.ref nd),some (th "write" [.str v,a]),some kw,some (.fls [x])] H=some (false,H) by simp![yb,e]];simp only[jJ,jq];rw[zt (ρ':=[some (.ref nd),some (th "write" [.str v,a]),some kw,some (.fls [x])]) (h':=H.set n (.lst [x])) (by simp![ut,uk,yb,hk,pm])];exact e2
theorem pL:∀(l:List W) (j:Nat) (o:Option W),∃o',forL (zC 5) (zI (zh zw [eC (.str "then"),zi zv (ze 1) (eC (.int 2)),ze 4]) (zC 4)) l [some d,some (th "loop" [zk a,zk b]),some kw,some ww,some (zk (uv b j)),o] H=some (.nx [some d,some (th "loop" [zk a,zk b]),some kw,some ww,some (zk (uv b (j+l.length))),o'],H)
 | [],j,o=>⟨o,rfl⟩
 | w::l,j,o=>by
  obtain⟨o',ih⟩:=pL l (j+1) (some w);refine⟨o',?_⟩;have c3:(3:Nat)<=cap:=by decide
  have e1:zC 5 w [some d,some (th "loop" [zk a,zk b]),some kw,some ww,some (zk (uv b j)),o] H=some ([some d,some (th "loop" [zk a,zk b]),some kw,some ww,some (zk (uv b j)),some w],H):=rfl;have e2:zI (zh zw [eC (.str "then"),zi zv (ze 1) (eC (.int 2)),ze 4]) (zC 4) [some d,some (th "loop" [zk a,zk b]),some kw,some ww,some (zk (uv b j)),some w] H=some (.nx [some d,some (th "loop" [zk a,zk b]),some kw,some ww,some (zk (uv b (j+1))),some w],H):=by
   simp only[uv,zk];simp![ck,zw,c3]
  unfold forL;rw[e1];simp only;rw[e2];simp only;rw[ih,show j+(w::l).length=j+1+l.length by simp only[zm];omega]
def do_loop(g:Dg H nd ns nw rl st wo t)(hw:st.length<cap):(step (step F)).cM [.ref nd,zk (.loop a b),kw,.fls [.int x]] H=some (.non,H.set ns (.lst (st++[.tup [.bl false,zk (uv b (x%4).toNat),kw]]))):=by
 have c2:(2:Nat)<=cap:=by decide
 simp only[zk];obtain⟨o',lr⟩:=pL (a:=a) (b:=b) (H:=H) (kw:=kw) (ww:=.fls [.int x]) (d:=.ref nd) (upto (x%4).toNat) 0 none;have hu:(upto (x%4).toNat).length=(x%4).toNat:=by unfold upto;rw[zB,jF]
 rw[hu,Nat.zero_add] at lr;refine wf (yi (ρ:=[some (.ref nd),some (th "loop" [zk a,zk b]),some kw,some (.fls [.int x]),none,none]) (ρ':=[some (.ref nd),some (th "loop" [zk a,zk b]),some kw,some (.fls [.int x]),some (zk (uv b (x%4).toNat)),o']) rfl rfl ?_) g.s (ly g _);unfold du;rw[zt (ρ':=[some (.ref nd),some (th "loop" [zk a,zk b]),some kw,some (.fls [.int x]),some (zk (uv b 0)),none]) (h':=H) (by simp only[uv,zk];simp![zw,c2])];have rg:qk [zi yv (zi zv (ze 3) (eC (.int 0))) (eC xX)] [some (.ref nd),some (th "loop" [zk a,zk b]),some kw,some (.fls [.int x]),some (zk (uv b 0)),none] H=some (.items (upto (x%4).toNat),H):=by
  have q:-(2 ^ 62:Int)<=x%4/\x%4<2 ^ 62:=by omega
  simp only[qk,ko,bnd,zi,ze,zG,zp,eC,ut,yv,xX,ae];simp only[show(0:Int)<4 by omega,kW];rw[zY q]
 rw[zt (ρ':=[some (.ref nd),some (th "loop" [zk a,zk b]),some kw,some (.fls [.int x]),some (zk (uv b (x%4).toNat)),o']) (h':=H) (by unfold yY;rw[rg];exact lr)];have:=ip (F:=F) (mo:=ze 0) (m:=ze 4) (m2:=ze 2) (ρ:=[some (.ref nd),some (th "loop" [zk a,zk b]),some kw,some (.fls [.int x]),some (zk (uv b (x%4).toNat)),o']) (d:=zk (uv b (x%4).toNat)) (k:=kw) (H1:=H) (H2:=H) g g hw rfl rfl rfl;exact vb this
def do_let{l:List (Key×W)}(g:Dg H nd ns nw rl st wo t)(hw:st.length<cap)(hk:yT H kw=some l)(hl:l.length<cap):(step (step F)).dh [.ref nd,th "let" [.str v,a,b],kw,.fls [x]] H=some (.non,(H++[.dic (jS l (.inr v) x)]:MH).set ns (.lst (st++[.tup [.bl false,b,.ref H.length]]))):=by
 have e:=QC (F:=F) (v:=v) (x:=x) hk hl
 exact mV (F:=F) (k:=0) g hw rfl (by simp![pF]) (by
  simp only[zh,ko,bnd,ze,zi,eC,zq,jd,List.replicate,kj,zG,zp,yb,ut,e])
def do_own{l:List (Key×W)}(g:Dg H nd ns nw rl st wo t)(hw:st.length<cap)(hk:yT (H++[.lst [x]]) kw=some l)(hl:l.length<cap):(step (step F)).cZ [.ref nd,th "own" [.str v,a,b],kw,.fls [x]] H=some (.non,(H++[.lst [x],.dic (jS l (.inr v) (.ref H.length))]:MH).set ns (.lst (st++[.tup [.bl false,b,.ref (H.length+1)]]))):=by
 have e:=QC (F:=F) (v:=v) (x:=.ref H.length) hk hl;rw[kZ,zK] at e;have c1:(1:Nat)<=cap:=by decide
 exact mV (F:=F) (k:=0) g hw rfl (by simp![pF]) (by
  simp only[zh,ko,bnd,ze,zi,eC,zq,jd,List.replicate,kj,zG,zp,yb,ut,xU,zm,zV,c1,kW]
  exact e)
def do_handed(g:Dg H nd ns nw rl st wo t)(hw:st.length<cap)(hk:qv kw (.str v) H=some (.tup [d',kw'],H)):(step (step F)).bJ [.ref nd,th "do" [.str v],kw,ww] H=some (.non,H.set ns (.lst (st++[.tup [.bl false,d',kw']]))):=by
 refine wf (yi (ρ:=[some (.ref nd),some (th "do" [.str v]),some kw,some ww,none]) (ρ':=[some (.ref nd),some (th "do" [.str v]),some kw,some ww,some (.tup [d',kw'])]) rfl rfl ?_) g.s (ly g _);unfold cP;rw[zt (ρ':=[some (.ref nd),some (th "do" [.str v]),some kw,some ww,some (.tup [d',kw'])]) (h':=H) (by simp![yb,hk])];exact vb (ip (F:=F) (H1:=H) g g hw rfl (by simp![xC]) (by simp![yb]))
end
def bv{l:List (Key×W)}:(jS l k v).length<=l.length+1:=by
 unfold jS;split
 .rw[zB];omega
 .rw[zK];simp
noncomputable def ab(ps:List (Str×Int)):List (Key×W):=qB [] (ps.map λp=>(.inr p.1,.int p.2))
noncomputable def ah(kw:W)(ps:List (Str×W))(l:List (Key×W)):List (Key×W):=ps.foldl (λl p=>jS l (.inr p.1) (.tup [p.2,kw])) l
theorem gP:∀(ps:List (Key×W)) (l:List (Key×W)),(qB l ps).length<=l.length+ps.length
 | [],l=>by simp[qB]
 | p::ps,l=>by
  have h1:=gP ps (jS l p.1 p.2);have h2:=bv (l:=l) (k:=p.1) (v:=p.2);have e:qB l (p::ps)=qB (jS l p.1 p.2) ps:=rfl;rw[e,zm];omega
theorem Ze:∀(ps:List (Str×W)) (l:List (Key×W)),(ah kw ps l).length<=l.length+ps.length
 | [],l=>by simp[ah]
 | p::ps,l=>by
  have h1:=Ze (kw:=kw) ps (jS l (.inr p.1) (.tup [p.2,kw]));have h2:=bv (l:=l) (k:=.inr p.1) (v:=.tup [p.2,kw]);have e:ah kw (p::ps) l=ah kw ps (jS l (.inr p.1) (.tup [p.2,kw])):=rfl;rw[e,zm];omega
theorem fk:∀(ns:List Str) (xs:List Int),keysOf ((zD ns).zip (xs.map W.int))=some ((ns.zip xs).map λp=>(.inr p.1,.int p.2))
 | [],_=>by simp[zD,keysOf]
 | _::_,[]=>by simp[zD,keysOf]
 | n::ns,x::xs=>by
  have ih:=fk ns xs;simp only[zD,zq,jO] at ih ⊢;unfold keysOf;rw[ih];rfl
section
variable{H:MH}{nd ns nw:Nat}{rl st wo:List W}{t:W}{F:Fs}
noncomputable abbrev ρq(nd:Nat)(d kw ww ru:W)(n:Nat)(o6 o7:Option W):En:=[some (.ref nd),some d,some kw,some ww,some ru,some (.ref n),o6,o7]
theorem rJ:∀(ps:List (Str×W)) (L:List (Key×W)) (o6 o7:Option W),L.length+ps.length<=100->∃o6' o7',forL (cw [zC 6,zC 7]) (zI (zh zw [ze 7,ze 2]) (uk (ze 5) (ze 6))) (ps.map λp=>.tup [.str p.1,p.2]) (ρq nd d kw ww ru H.length o6 o7) (H++[.dic L])=some (.nx (ρq nd d kw ww ru H.length o6' o7'),H++[.dic (ah kw ps L)])
 | [],L,o6,o7,_=>⟨o6,o7,rfl⟩
 | p::ps,L,o6,o7,hl=>by
  have c2:(2:Nat)<=cap:=by decide
  have lc:L.length<cap:=zN (show L.length<101 by omega) (by decide);have pl:=bv (l:=L) (k:=.inr p.1) (v:=.tup [p.2,kw]);simp only[zm] at hl;obtain⟨o6',o7',ih⟩:=rJ ps (jS L (.inr p.1) (.tup [p.2,kw])) (some (.str p.1)) (some p.2) ∅;refine⟨o6',o7',?_⟩;have e1:cw [zC 6,zC 7] (.tup [.str p.1,p.2]) (ρq nd d kw ww ru H.length o6 o7) (H++[.dic L])=some (ρq nd d kw ww ru H.length (some (.str p.1)) (some p.2),H++[.dic L]):=by
   simp[cw,dk,zC,bnd]
  have pm:bg (.ref H.length) (.str p.1) (.tup [p.2,kw]) (H++[.dic L])=some (.non,H++[.dic (jS L (.inr p.1) (.tup [p.2,kw]))]):=by
   simp only[bg,at0,keyOf,lc,kW,mG]
  have e2:zI (zh zw [ze 7,ze 2]) (uk (ze 5) (ze 6)) (ρq nd d kw ww ru H.length (some (.str p.1)) (some p.2)) (H++[.dic L])=some (.nx (ρq nd d kw ww ru H.length (some (.str p.1)) (some p.2)),H++[.dic (jS L (.inr p.1) (.tup [p.2,kw]))]):=by
   simp only[zI,zh,ko,bnd,ze,zG,zp,zw,zm,zV,c2,kW,uk,pm]
  simp only[zq];unfold forL;rw[e1];simp only;rw[e2];simp only;exact ih
theorem f_call(F:Fs):(step F).bY=gc (kd 4 4 (cI F)):=rfl
def do_call{i:Nat}{bs:List D}{r:Rule}{xs:List Int}(g:Dg H nd ns nw rl st wo t)(hw:st.length<cap)(hr:rl[i]?=some (bP r))(hx:r.ns.length<=10)(hb:r.hs.length<=10):(step (step F)).bY [.ref nd,zk (.call i as bs),kw,.fls (xs.map .int)] H=some (.non,(H++[.dic (ah kw (r.hs.zip (ki bs)) (ab (r.ns.zip xs)))]:MH).set ns (.lst (st++[.tup [.bl false,zk r.body,.ref H.length]]))):=by
 have l0:(ab (r.ns.zip xs)).length<=10:=by
  have:=gP ((r.ns.zip xs).map λp=>(.inr p.1,.int p.2)) [];rw[zB,qz,zV] at this;unfold ab;omega
 have l1:(r.hs.zip (ki bs)).length<=10:=by rw[qz];omega
 obtain⟨o6,o7,lp⟩:=rJ (nd:=nd) (H:=H) (d:=zk (.call i as bs)) (kw:=kw) (ww:=.fls (xs.map .int)) (ru:=bP r) (r.hs.zip (ki bs)) (ab (r.ns.zip xs)) none none ∅;simp only[zk] at lp ⊢;have g2:=g.app [.dic (ah kw (r.hs.zip (ki bs)) (ab (r.ns.zip xs)))];have ei:zv (.tup rl) (.int (i:Int)) H=some (bP r,H):=CH ∅ (by have:=zS hr;omega) (by simpa using hr);have zd:g8 [.tup (zD r.ns),.fls (xs.map .int)] H=some (.ref H.length,H++[.dic (ab (r.ns.zip xs))]):=by
  have k:=fk r.ns xs;have kl:((r.ns.zip xs).map λp=>((.inr p.1:Key),W.int p.2)).length<=1000:=by rw[zB,qz];omega
  simp only[g8,iB,uE,k,kl,kW];rfl
 have zz:∀H',oS [.tup (zD r.hs),.tup (ki bs)] H'=some (.items ((r.hs.zip (ki bs)).map λp=>.tup [.str p.1,p.2]),H'):=λH'=>by
  simp only[oS,uE,pH,j0];rfl
 have e1:=g.fR;have r0:zv (bP r) (.int 0) H=some (.tup (zD r.ns),H):=xC;have r1:∀H',zv (bP r) (.int 1) H'=some (.tup (zD r.hs),H'):=λH'=>yb
 have r2:∀H',zv (bP r) (.int 2) H'=some (zk r.body,H'):=λH'=>ck
 rw[f_call];refine wf (yi (ρ:=[some (.ref nd),some (th "call" [.int i,.tup (ki as),.tup (ki bs)]),some kw,some (.fls (xs.map .int)),none,none,none,none]) (ρ':=ρq nd (th "call" [.int i,.tup (ki as),.tup (ki bs)]) kw (.fls (xs.map .int)) (bP r) H.length o6 o7) rfl rfl ?_) g.s (oh g _);unfold cI;rw[zt (ρ':=[some (.ref nd),some (th "call" [.int i,.tup (ki as),.tup (ki bs)]),some kw,some (.fls (xs.map .int)),some (bP r),none,none,none]) (h':=H) (by simp![kN,e1,yb,ei])]
 rw[zt (ρ':=ρq nd (th "call" [.int i,.tup (ki as),.tup (ki bs)]) kw (.fls (xs.map .int)) (bP r) H.length none none) (h':=H++[.dic (ab (r.ns.zip xs))]) (by
  simp only[zI,aI,zh,ko,bnd,ze,zi,eC,zG,zp,r0,zd,zC]
  rfl)]
 rw[zt (ρ':=ρq nd (th "call" [.int i,.tup (ki as),.tup (ki bs)]) kw (.fls (xs.map .int)) (bP r) H.length o6 o7) (h':=H++[.dic (ah kw (r.hs.zip (ki bs)) (ab (r.ns.zip xs)))]) (by
  unfold yY
  rw[show dA [zi zv (ze 4) (eC (.int 1)),zi zv (ze 1) (eC (.int 3))] (ρq nd (th "call" [.int i,.tup (ki as),.tup (ki bs)]) kw (.fls (xs.map .int)) (bP r) H.length none none) (H++[.dic (ab (r.ns.zip xs))])=some (.items ((r.hs.zip (ki bs)).map λp=>.tup [.str p.1,p.2]),H++[.dic (ab (r.ns.zip xs))]) by
   simp only[dA,ko,bnd,ze,zi,eC,zG,zp,r1,pF,zz]]
  exact lp)]
 exact vb (ip (F:=F) (H1:=H++[.dic (ah kw (r.hs.zip (ki bs)) (ab (r.ns.zip xs)))]) (H2:=H++[.dic (ah kw (r.hs.zip (ki bs)) (ab (r.ns.zip xs)))]) g2 g2 hw rfl (by simp![r2]) rfl)
end
mutual
inductive VlR(na:Nat)(H:MH)(ca:List Nat)(b:Nat):Vl->W->Prop
 | int (i:Int):VlR na H ca b (.int i) (.int i)
 | cell {c n:Nat} (h:ca[c]?=some n):VlR na H ca b (.cell c) (.ref n)
 | hd {d:D} {env:Ev} {w:W} (e:EvR na H ca b env w):VlR na H ca b (.hd d env) (.tup [zk d,w])
inductive EvR(na:Nat)(H:MH)(ca:List Nat)(b:Nat):Ev->W->Prop
 | nil:EvR na H ca b [] (.fdc [])
 | mk {env:Ev} {l:List (Key×W)} {n:Nat} (f:Str->W) (h:H[n]?=some (.dic l)) (hx:n≠na) (hl:l.length<=b) (r:∀v x,lk env v=some x->vS l (.inr v)=some (f v)) (q:∀v x,lk env v=some x->VlR na H ca b x (f v)):EvR na H ca b env (.ref n)
end
noncomputable def DicP(na:Nat)(H H':MH):Prop:=∀n l,n≠na->H[n]?=some (.dic l)->H'[n]?=some (.dic l)
section
variable{na:Nat}{H H':MH}{ca ca':List Nat}{b b':Nat}
mutual
theorem VlR.mono(p:DicP na H H')(hc:ca<+:ca')(hb:b<=b'):∀{x:Vl} {w:W},VlR na H ca b x w->VlR na H' ca' b' x w
 | _,_,.int i=>.int i
 | _,_,.cell h=>.cell (by
   obtain⟨t,rfl⟩:=hc
   rw[zA (zS h)];exact h)
 | _,_,.hd e=>.hd (EvR.mono p hc hb e)
theorem EvR.mono(p:DicP na H H')(hc:ca<+:ca')(hb:b<=b'):∀{x:Ev} {w:W},EvR na H ca b x w->EvR na H' ca' b' x w
 | _,_,.nil=>.nil
 | _,_,.mk f h hx hl r q=>.mk f (p _ _ hx h) hx (zT hl hb) r λv x e=>VlR.mono p hc hb (q v x e)
end
def EvR.di(e:EvR na H ca b env w):∃l,yT H w=some l/\l.length<=b/\∀v x,lk env v=some x->∃w',vS l (.inr v)=some w'/\VlR na H ca b x w':=by
 cases e with
 | nil=>exact⟨[],rfl,qy _,λv x h=>by cases h⟩
 | mk f h hx hl r q=>exact⟨_,by simp only[yT,h],hl,λv x e=>⟨f v,r v x e,q v x e⟩⟩
def EvR.get(e:EvR na H ca b env w)(h:lk env v=some x):∃w',qv w (.str v) H=some (w',H)/\VlR na H ca b x w':=by
 obtain⟨l,h1,h2,h3⟩:=e.di;obtain⟨w',h4,h5⟩:=h3 v x h;exact⟨w',by simp only[qv,h1,keyOf,h4],h5⟩
theorem EvR.low(e:EvR na H ca b env w):ML.low H.length w=true:=by
 cases e with
 | nil=>unfold ML.low;unfold mK;rfl
 | mk f h hx hl r q=>unfold ML.low;exact qw (zS h)
def uq{p:Key×W}:vS (p::r) k=if p.1=k then some p.2 else vS r k:=by
 unfold vS;rw[jC];by_cases q:p.1=k<;>simp[q]
def Xz:vS (jS l k v) k'=if k=k' then some v else vS l k':=by
 have mp0:∀l:List (Key×W),¬k=k'->vS (l.map λkv=>if kv.1=k then (kv.1,v) else kv) k'=vS l k':=by
  intro l q;induction l with
  | nil=>rfl
  | cons p r ih=>
   rw[zq,uq,uq,ih];by_cases q1:p.1=k
   .have:¬p.1=k':=λz=>q (q1.symm.trans z)
    simp only[q1,kW,q,this,jq]
   .simp only[q1,jq]
 have mp:∀l:List (Key×W),(l.any λkv=>decide (kv.1=k))=true->vS (l.map λkv=>if kv.1=k then (kv.1,v) else kv) k=some v:=by
  intro l;induction l with
  | nil=>intro h;simp at h
  | cons p r ih=>
   intro h;rw[zq,uq];by_cases q1:p.1=k
   .simp only[q1,kW]
   .simp only[q1,jq]
    exact ih (by simpa[q1] using h)
 unfold jS;split
 .rename_i h
  by_cases q:k=k'
  .subst q;rw[zY rfl];exact mp l h
  .rw[jc q];exact mp0 l q
 .rename_i h
  have ap:∀l:List (Key×W),(l.any λkv=>decide (kv.1=k))≠true->vS (l++[(k,v)]) k'=if k=k' then some v else vS l k':=by
   intro l;induction l with
   | nil=>intro _;rw[kE,uq]
   | cons p r ih=>
    intro h;rw[jk,uq,uq,ih (λz=>h (by simp[z]))];by_cases q1:p.1=k'
    .have:¬k=k':=λz=>h (by simp[q1.trans z.symm])
     simp only[q1,kW,this,jq]
    .simp only[q1,jq]
  exact ap l h
noncomputable def LR(na:Nat)(H:MH)(ca:List Nat)(b:Nat)(l:List (Key×W))(env:Ev):Prop:=∀v x,lk env v=some x->∃w',vS l (.inr v)=some w'/\VlR na H ca b x w'
def LR.put(h:LR na H ca b l env)(r:VlR na H ca b x w):LR na H ca b (jS l (.inr v) w) ((v,x)::env):=by
 intro u y e;rw[y8] at e;rw[Xz];by_cases q:v=u
 .subst q
  rw[zY rfl] at e;injection e with e;subst e;exact⟨w,by simp,r⟩
 .rw[jc q] at e
  obtain⟨w',h1,h2⟩:=h u y e;exact⟨w',by rw[jc (λz=>q (yq z)),h1],h2⟩
def LR.ev{l:List (Key×W)}(h:LR na H ca b l env)(hn:H[n]?=some (.dic l))(hx:n≠na)(hl:l.length<=b):EvR na H ca b env (.ref n):=
 .mk (λv=>(vS l (.inr v)).getD .non) hn hx hl (λv x e=>by obtain⟨w',h1,h2⟩:=h v x e;rw[h1];rfl) λv x e=>by obtain⟨w',h1,h2⟩:=h v x e;rw[h1];exact h2
theorem LR.mono(h:LR na H ca b l env)(p:DicP na H H')(hc:ca<+:ca')(hb:b<=b'):LR na H' ca' b' l env:=λv x e=>let ⟨w',h1,h2⟩:=h v x e;⟨w',h1,h2.mono p hc hb⟩
theorem LR.ints:∀(ps:List (Str×Int)) {l:List (Key×W)} {env:Ev},LR na H ca b l env->LR na H ca b (qB l (ps.map λp=>(.inr p.1,.int p.2))) (ps.foldl (λe p=>(p.1,.int p.2)::e) env)
 | [],l,env,h=>h
 | p::ps,l,env,h=>LR.ints ps (h.put (.int p.2))
theorem LR.hds{env0:Ev}(e0:EvR na H ca b env0 kw):∀(hs:List Str) (bs:List D) {l:List (Key×W)} {env:Ev},LR na H ca b l env->LR na H ca b (ah kw (hs.zip (ki bs)) l) ((hs.zip bs).foldl (λe p=>(p.1,.hd p.2 env0)::e) env)
 | [],_,l,env,h=>h
 | _::_,[],l,env,h=>by simpa[ki,ah] using h
 | x::hs,d::bs,l,env,h=>by
  simp only[ki,jO,jQ,ah];exact LR.hds e0 hs bs (h.put (.hd e0))
def uw(X:MH):DicP na H (H++X):=λn l _ h=>by rw[zA (zS h)];exact h
def uA(h:H[a]?=some o)(ho:∀l,o≠.dic l):DicP na H (H.set a o'):=λn l _ e=>by
 have:a≠n:=λz=>by subst z;rw[h] at e;injection e with e;exact ho l e
 rw[zJ this];exact e
def DicP.trans(a:DicP na H H')(c:DicP na H' H''):DicP na H H'':=λn l hn e=>c n l hn (a n l hn e)
end
inductive StR(na:Nat)(H:MH)(ca:List Nat)(b:Nat):List Stp->List W->Prop
 | nil:StR na H ca b [] []
 | cons {pd:Bool} {d:D} {env:Ev} {kw:W} {stk:List Stp} {st:List W} (e:EvR na H ca b env kw) (r:StR na H ca b stk st):StR na H ca b ((pd,d,env)::stk) (st++[.tup [.bl pd,zk d,kw]])
theorem StR.mono{H:MH}(h:StR na H ca b stk st)(p:DicP na H H')(hc:ca<+:ca')(hb:b<=b'):StR na H' ca' b' stk st:=by
 induction h with
 | nil=>exact .nil
 | cons e r ih=>exact .cons (e.mono p hc hb) ih
def StR.len{H:MH}{stk:List Stp}{st:List W}(h:StR na H ca b stk st):st.length=stk.length:=by
 induction h with
 | nil=>rfl
 | cons e r ih=>simp[ih]
noncomputable def vE(ws:List Int):List W:=ws.reverse.map .int
structure Sim(na:Nat)(rs:List Rule)(H:MH)(nd ns nw:Nat)(ca:List Nat)(s:Nat)(st:List W)(stk:List Stp)(ws cs:List Int)(t:W):Prop where
 g:Dg H nd ns nw (kf rs) st (vE ws) t
 sr:StR na H ca s stk st
 cl:ca.length=cs.length
 ce:∀(c n:Nat) (i:Int),ca[c]?=some n->cs[c]?=some i->H[n]?=some (.lst [.int i])
 cn:ca.Nodup
 cx:∀n∈ca,n≠nd/\n≠ns/\n≠nw
 l1:stk.length<=s
 l2:ws.length<=s
structure Fm(A:List Nat)(H H':MH):Prop where
 l:H.length<=H'.length
 k:∀n o,n∉A->H[n]?=some o->H'[n]?=some o
def Fm.refl{H:MH}:Fm A H H:=⟨zg _,λ_ _ _ e=>e⟩
def Fm.trans{H:MH}(a:Fm A H H')(b:Fm A H' H''):Fm A H H'':=⟨zT a.l b.l,λn o h e=>b.k n o h (a.k n o h e)⟩
theorem Fm.set{H:MH}(h:a∈A):Fm A H (H.set a o):=⟨by rw[je];exact zg _,λn o' hn e=>by
 have q:a≠n:=λz=>hn (by rw[<-z];exact h)
 rw[zJ q];exact e⟩
def Fm.app{H:MH}(X:MH):Fm A H (H++X):=⟨by rw[zK];omega,λn o _ e=>by rw[zA (zS e)];exact e⟩
def Fm.sub{H:MH}(a:Fm A H H')(h:∀n∈A,n∈B):Fm B H H':=⟨a.l,λn o hn e=>a.k n o (λz=>hn (h n z)) e⟩
section
variable{na:Nat}{rs:List Rule}{H:MH}{nd ns nw:Nat}{ca:List Nat}{s:Nat}{st:List W}{stk:List Stp}{ws cs:List Int}{t:W}
def Sim.more(S:Sim na rs H nd ns nw ca s st stk ws cs t)(h:s<=s'):Sim na rs H nd ns nw ca s' st stk ws cs t:=⟨S.g,S.sr.mono (λ_ _ _ e=>e) (zR _) h,S.cl,S.ce,S.cn,S.cx,zT S.l1 h,zT S.l2 h⟩
theorem Sim.app(S:Sim na rs H nd ns nw ca s st stk ws cs t)(X:MH):Sim na rs (H++X) nd ns nw ca s st stk ws cs t:=
 ⟨S.g.app X,S.sr.mono (uw X) (zR _) (zg _),S.cl,λc n i a b=>by have:=S.ce c n i a b;rw[zA (zS this)];exact this,S.cn,S.cx,S.l1,S.l2⟩
def Sim.cnot(S:Sim na rs H nd ns nw ca s st stk ws cs t){c:Nat}(h:ca[c]?=some n)(ha:a=nd\/a=ns\/a=nw):a≠n:=by
 have:=S.cx n (jH h);rcases ha with rfl | rfl | rfl
 .exact this.1.symm
 .exact this.2.1.symm
 .exact this.2.2.symm
theorem Sim.worths(S:Sim na rs H nd ns nw ca s st stk ws cs t){ws':List Int}(h:ws'.length<=s):Sim na rs (H.set nw (.lst (vE ws'))) nd ns nw ca s st stk ws' cs t:=
 ⟨S.g.worths _,S.sr.mono (uA S.g.w (λ_=>nofun)) (zR _) (zg _),S.cl,λc n i a b=>by rw[zJ (S.cnot a (.inr (.inr rfl)))];exact S.ce c n i a b,S.cn,S.cx,S.l1,h⟩
theorem Sim.ahead(S:Sim na rs H nd ns nw ca s st stk ws cs t)(t':W):Sim na rs (H.set nd (.ins 0 (ya (kf rs) ns nw t'))) nd ns nw ca s st stk ws cs t':=
 ⟨S.g.ahead _,S.sr.mono (uA S.g.d (λ_=>nofun)) (zR _) (zg _),S.cl,λc n i a b=>by rw[zJ (S.cnot a (.inl rfl))];exact S.ce c n i a b,S.cn,S.cx,S.l1,S.l2⟩
theorem Sim.steps(S:Sim na rs H nd ns nw ca s st stk ws cs t){stk':List Stp}(r:StR na H ca s stk' st')(h:stk'.length<=s):Sim na rs (H.set ns (.lst st')) nd ns nw ca s st' stk' ws cs t:=
 ⟨S.g.steps _,r.mono (uA S.g.s (λ_=>nofun)) (zR _) (zg _),S.cl,λc n i a b=>by rw[zJ (S.cnot a (.inr (.inl rfl)))];exact S.ce c n i a b,S.cn,S.cx,h,S.l2⟩
theorem Sim.cell(S:Sim na rs H nd ns nw ca s st stk ws cs t){c n:Nat}{x:Int}(h:ca[c]?=some n)(hc:c<cs.length):Sim na rs (H.set n (.lst [.int x])) nd ns nw ca s st stk ws (cs.set c x) t:=by
 have old:=S.ce c n cs[c] h (zE hc);have nn:=S.cx n (jH h);refine⟨S.g.cell nn.1 nn.2.1 nn.2.2,S.sr.mono (uA old (λ_=>nofun)) (zR _) (zg _),by rw[je];exact S.cl,λc' n' i a b=>?_,S.cn,S.cx,S.l1,S.l2⟩;by_cases q:c'=c
 .subst q
  rw[h] at a;injection a with a;subst a;rw[zL hc] at b;injection b with b;subst b;exact zL (zS old)
 .rw[zJ (kY q)] at b
  have:n≠n':=λz=>by
   subst z;have h1:=zS h;have h2:=zS a;rw[zE h1] at h;rw[zE h2] at a;injection h with h;injection a with a;exact q ((vh S.cn).mp (a.trans h.symm))
  rw[zJ this];exact S.ce c' n' i a b
def Sim.newc(S:Sim na rs H nd ns nw ca s st stk ws cs t)(x:Int):Sim na rs (H++[.lst [.int x]]) nd ns nw (ca++[H.length]) s st stk ws (cs++[x]) t:=by
 have lt:∀n∈ca,n<H.length:=λn hn=>by
  obtain⟨c,hc⟩:=jB.mp hn;have h1:c<cs.length:=by rw[<-S.cl];exact zS hc
  exact zS (S.ce c n cs[c] hc (zE h1))
 refine⟨S.g.app _,S.sr.mono (uw _) (jj _ _) (zg _),by simp[S.cl],λc n i a b=>?_,?_,λn hn=>?_,S.l1,S.l2⟩
 .by_cases q:c<ca.length
  .rw[zA q] at a
   rw[zA (by rw[<-S.cl];exact q)] at b;have:=S.ce c n i a b;rw[zA (zS this)];exact this
  .rw[zH ∅] at a
   rw[zH (by rw[<-S.cl];omega)] at b;have z:c-ca.length=0:=by have:=zS a;simp at this;omega
   rw[z] at a;rw[<-S.cl,z] at b;simp at a b;subst a;subst b;exact at0 _ _
 .rw[yc]
  exact⟨S.cn,by simp,λa ha b hb=>by simp at hb;subst hb;exact zX (lt a ha)⟩
 .rcases zW.mp hn with z | z
  .exact S.cx n z
  .simp at z
   subst z;have h1:=zS S.g.d;have h2:=zS S.g.s;have h3:=zS S.g.w;omega
end
noncomputable def tW:Tch->W
 | .read v=>.tup [.str "read",.str v]
 | .write v i=>.tup [.str "write",.str v,.int i]
 | .say i=>.tup [.str "say",.int i]
 | .ask=>.tup [.str "ask"]
def lD(t:Tch):tW t≠.non:=by cases t<;>exact nofun
section
variable{na:Nat}{rs:List Rule}{H:MH}{nd ns nw:Nat}{ca:List Nat}{s:Nat}{st:List W}{stk:List Stp}{ws cs:List Int}{t:W}{G F:Fs}
def VG{d:D}{wo:List W}{f:List W->M W}(g:Dg H nd ns nw rl st wo t)(hf:G.az [zk d] H=some (.tup (ki d.first),H))(hp:pd=true\/d.first=[])(ht:G.aN [.ref nw,.int (d.first.length:Int)] H=some (.fls vs,H1))(hd:zk d=th x r)(hw:(qE G).lookup x=some f)(e:f [.ref nd,th x r,kw,.fls vs] H1=some (w,H2)):kd 4 1 (aq G) [.ref nd,.bl pd,zk d,kw] H=some (.non,H2):=by
 refine yi (ρ:=[some (.ref nd),some (.bl pd),some (zk d),some kw,none]) (ρ':=[some (.ref nd),some (.bl pd),some (zk d),some kw,some (.tup (ki d.first))]) rfl rfl ?_;unfold aq;rw[zt (ρ':=[some (.ref nd),some (.bl pd),some (zk d),some kw,some (.tup (ki d.first))]) (h':=H) (by simp![hf])];have lt:(ki d.first).length=d.first.length:=by rw[xw,zB]
 have tt:(lq (ke (ze 1)) (ke (zi (qq false) (zh kH [ze 4]) (eC (.int 0))))) [some (.ref nd),some (.bl pd),some (zk d),some kw,some (.tup (ki d.first))] H=some (true,H):=by
  rcases hp with rfl | hp
  .simp![]
  .cases pd
   .rw[hp];simp![ki,kH,vt]
   .simp![]
 unfold jp;rw[tt];simp only[kW];refine vb (w:=w) ?_;have e1:=g.fW;unfold Kt;rw[hd];simp only[bnd,zi,ze,eC,zG,zp,xC,hw,ko,zh,kN,e1,kH,xS,lt,ht,e]
def Ja{d:D}{wo:List W}(g:Dg H nd ns nw rl st wo t)(hf:G.az [zk d] H=some (.tup (ki d.first),H))(hp:d.first≠[])(hl:d.first.length<=4)(hs:st.length+10<=cap)(lk':low H.length kw=true):kd 4 1 (aq G) [.ref nd,.bl false,zk d,kw] H=some (.non,H.set ns (.lst ((st++[.tup [.bl true,zk d,kw]])++(ki d.first).reverse.map λp=>.tup [.bl false,p,kw]))):=by
 refine yi (ρ:=[some (.ref nd),some (.bl false),some (zk d),some kw,none]) (ρ':=[some (.ref nd),some (.bl false),some (zk d),some kw,some (.tup (ki d.first))]) rfl rfl ?_;unfold aq;rw[zt (ρ':=[some (.ref nd),some (.bl false),some (zk d),some kw,some (.tup (ki d.first))]) (h':=H) (by simp![hf])];have c3:(3:Nat)<=cap:=by decide
 have lt:(ki d.first).length=d.first.length:=by rw[xw,zB]
 have n0:((((d.first.length:Nat):Int))==0)=false:=by
  rw[jr];intro z;exact hp (jP.mp ∅)
 have tt:(lq (ke (ze 1)) (ke (zi (qq false) (zh kH [ze 4]) (eC (.int 0))))) [some (.ref nd),some (.bl false),some (zk d),some kw,some (.tup (ki d.first))] H=some (false,H):=by
  simp![kH,lt,vt,n0]
 unfold jp;rw[tt];simp only[jJ,jq];have e1:=g.fS;have e2:=g.s;have sl:st.length<cap:=by omega
 have a1:kx (kK qa (kN kz "steps" (ze 0)) [zh zw [eC (.bl true),ze 2,ze 3]]) [some (.ref nd),some (.bl false),some (zk d),some kw,some (.tup (ki d.first))] H=some (.nx [some (.ref nd),some (.bl false),some (zk d),some kw,some (.tup (ki d.first))],H.set ns (.lst (st++[.tup [.bl true,zk d,kw]]))):=by
  simp![kN,e1,kK,getL,e2,zw,c3,qa,sl]
 rw[zt a1];have g2:=g.steps (st++[.tup [.bl true,zk d,kw]]);have lk2:low (H.set ns (.lst (st++[.tup [.bl true,zk d,kw]]))).length kw=true:=by rw[je];exact lk'
 suffices fin:∀H2:MH,Dg H2 nd ns nw rl (st++[.tup [.bl true,zk d,kw]]) wo t->low H2.length kw=true->kx (kK uK (kN kz "steps" (ze 0)) [ja (nh [ze 4]) 1 [3] (zC 0) kG (zh zw [eC (.bl false),ze 0,ze 1])]) [some (.ref nd),some (.bl false),some (zk d),some kw,some (.tup (ki d.first))] H2=some (.nx [some (.ref nd),some (.bl false),some (zk d),some kw,some (.tup (ki d.first))],H2.set ns (.lst ((st++[.tup [.bl true,zk d,kw]])++(ki d.first).reverse.map λp=>.tup [.bl false,p,kw]))) by
  have:=fin _ g2 lk2;rw[yV] at this;exact this
 clear g2 lk2;intro H2 g2 lk2;have cp:=f6 (mi:=nh [ze 4]) (ks:=[3]) (t:=kG) (m:=zh zw [eC (.bl false),ze 0,ze 1]) (ρ:=[some (.ref nd),some (.bl false),some (zk d),some kw,some (.tup (ki d.first))]) (h:=H2) (l:=(ki d.first).reverse) (λ_=>true) (λp=>.tup [.bl false,p,kw])
  (by simp only[nh,ko,bnd,ze,zG,zp,VE]) (λw _ H'=>rfl) (λw _ _ H'=>by simp![zw,c3])
  (λw hw _=>by
   have:low H2.length w=true:=b6 (bX _ _) w (List.mem_reverse.mp hw);unfold low lows low lows;rw[this];unfold lows;rw[lk2];unfold lows
   rfl)
  (by rw[j5,lt];exact zT hl (by decide))
 rw[filter_true] at cp;have f1:=g2.fS;have f2:=g2.s;have sl2:st.length+1+d.first.length<=cap:=by omega
 unfold kx kK;simp only[bnd,kN,ze,zp,f1,getL,f2,vM,kW,ko,cp,uK,xS,zK,zm,zV,zB,j5,lt,sl2]
theorem f_take(F:Fs):(step F).aL=gc (kd 4 1 (aq F)):=rfl
def eW(ws:List Int):(vE ws).length=ws.length:=by simp[vE]
def sM{f:List W->M W}{stk':List Stp}{ws':List Int}(e:f as H=some (w,H2))(S:Sim na rs H nd ns nw ca s st stk ws cs t)(S2:Sim na rs H2 nd ns nw ca' s' st' stk' ws' cs' t')(h:ws.length≠ws'.length\/stk.length≠stk'.length\/t'≠t):gc f as H=some (w,H2):=by
 rcases h with h | h | h
 .refine wf e S.g.w ?_
  rw[S2.g.w];intro z;injection z with z;injection z with z;have:=jX List.length z;rw[eW,eW] at this;omega
 .refine wf e S.g.s ?_
  rw[S2.g.s];intro z;injection z with z;injection z with z;have:=jX List.length z;rw[S.sr.len,S2.sr.len] at this;omega
 .refine wf e S.g.d ?_
  rw[S2.g.d];intro z;injection z with z;injection z with _ z;simp only[jR,wQ] at z;exact h z.2.2.2.1.2
def Xu(xs ws:List Int):vE (xs.reverse++ws)=vE ws++xs.map .int:=by simp[vE]
def Dm{xs:List Int}(S:Sim na rs H nd ns nw ca s st stk (xs.reverse++ws) cs t)(hl:xs.length<=1000):∃X,(step G).aN [.ref nw,.int (xs.length:Int)] H=some (.fls (xs.map .int),H.set nw (.lst (vE ws))++X):=by
 have h1:=S.g.w;rw[Xu] at h1;by_cases q:xs=[]
 .subst q
  simp only[jd,kj] at h1;refine⟨[],?_⟩;rw[kj,set_same h1];exact V1 h1
 .exact⟨_,XR (n:=xs.length) h1 (by simp) hl (by simpa using q)⟩
end
def ft(v:Int)(ws:List Int):vE (v::ws)=vE ws++[.int v]:=by simp[vE]
section
variable{na:Nat}{rs:List Rule}{H:MH}{nd ns nw:Nat}{ca:List Nat}{s:Nat}{st:List W}{stk:List Stp}{ws cs:List Int}{t:W}{F:Fs}
theorem sS(E:EvR na H ca b env kw):∀(l:List D) {st1:List W} {stk1:List Stp},StR na H ca b stk1 st1->StR na H ca b (l.map (λa=>(false,a,env))++stk1) (st1++(ki l).reverse.map λp=>.tup [.bl false,p,kw])
 | [],st1,stk1,h=>by simpa[ki] using h
 | a::l,st1,stk1,h=>by
  have ih:=sS E l h;have e:st1++(ki (a::l)).reverse.map (λp=>W.tup [.bl false,p,kw])=(st1++(ki l).reverse.map λp=>W.tup [.bl false,p,kw])++[.tup [.bl false,zk a,kw]]:=by simp[ki]
  rw[e];exact .cons E ih
def fh{d:D}{f:List W->M W}{xs:List Int}(S:Sim na rs H nd ns nw ca s st stk (xs.reverse++ws) cs t)(hx:xs.length=d.first.length)(hl:d.first.length<=4)(hp:pd=true\/d.first=[])(hd:zk d=th x r)(hw:(qE (step (step (step F)))).lookup x=some f) :
  ∃X,∀w H2,f [.ref nd,th x r,kw,.fls (xs.map .int)] (H.set nw (.lst (vE ws))++X)=some (w,H2)->kd 4 1 (aq (step (step (step F)))) [.ref nd,.bl pd,zk d,kw] H=some (.non,H2):=by
 obtain⟨X,e⟩:=Dm (G:=step (step F)) S ∅;rw[hx] at e;exact⟨X,λw H2 h=>VG S.g (Zi d) hp e hd hw h⟩
noncomputable def i0(F:Fs)(na:Nat)(rs:List Rule)(H:MH)(nd ns nw:Nat)(ca:List Nat)(s:Nat)(pd:Bool)(d:D)(kw:W)(stk:List Stp)(ws cs:List Int)(t:W):Prop:=
 ∃H' ca' st',(step (step (step (step F)))).aL [.ref nd,.bl pd,zk d,kw] H=some (.non,H')/\Sim na rs H' nd ns nw ca' (s+4) st' stk ws cs t/\Fm (nd::ns::nw::ca) H H'/\∀n∈ca',n∈ca\/H.length<=n
def took{stk':List Stp}{ws':List Int}(S:Sim na rs H nd ns nw ca s st stk ws cs t)(e:kd 4 1 (aq (step (step (step F)))) [.ref nd,.bl pd,zk d,kw] H=some (.non,H2))(S2:Sim na rs H2 nd ns nw ca' (s+4) st' stk' ws' cs' t')(fm:Fm (nd::ns::nw::ca) H H2)(hc:∀n∈ca',n∈ca\/H.length<=n)(h:ws.length≠ws'.length\/stk.length≠stk'.length\/t'≠t):i0 F na rs H nd ns nw ca s pd d kw stk' ws' cs' t':=
 ⟨H2,ca',st',by rw[f_take];exact sM e S S2 h,S2,fm,hc⟩
variable{pd:Bool}{d:D}{kw:W}{x:Str}{r:List W}{f:List W->M W}{xs:List Int}
def off_fm:Fm (nd::ns::nw::ca) H (H.set nw o++X):=(Fm.set (by simp)).trans (Fm.app X)
def eu(S:Sim na rs H nd ns nw ca s st stk (xs.reverse++ws) cs t)(X:MH):Sim na rs (H.set nw (.lst (vE ws))++X) nd ns nw ca s st stk ws cs t:=
 (S.worths (ws':=ws) (by have:=S.l2;simp at this;omega)).app X
def iI(S:Sim na rs H nd ns nw ca s st stk (xs.reverse++ws) cs t)(X:MH):DicP na H (H.set nw (.lst (vE ws))++X):=(uA S.g.w (λ_=>nofun)).trans (uw X)
def xY(S:Sim na rs H nd ns nw ca s st stk (xs.reverse++ws) cs t)(hx:xs.length=d.first.length)(hl:d.first.length<=4)(hp:pd=true\/d.first=[])(hd:zk d=th x r)(hw:(qE (step (step (step F)))).lookup x=some f)(hs:s+100<=cap)(h1:xs.length≠1)
  (h:∀X,Dg (H.set nw (.lst (vE ws))++X) nd ns nw (kf rs) st (vE ws) t->(vE ws).length<cap->f [.ref nd,th x r,kw,.fls (xs.map .int)] (H.set nw (.lst (vE ws))++X)=some (.non,(H.set nw (.lst (vE ws))++X:MH).set nw (.lst (vE ws++[.int v])))):i0 F na rs H nd ns nw ca s pd d kw stk (v::ws) cs t:=by
 obtain⟨X,e⟩:=fh (F:=F) (kw:=kw) S hx hl hp hd hw;have S1':=eu S X;have wl:=S1'.l2;have e2:=e _ _ (h X S1'.g (by rw[eW];omega));rw[<-ft] at e2;refine took S e2 ((S1'.more (s':=s+4) ∅).worths (by simp;omega)) (off_fm.trans (Fm.set (by simp))) (λn hn=>.inl hn) (.inl ?_);simp only[zK,j5,zm];omega
def x5(S:Sim na rs H nd ns nw ca s st stk (xs.reverse++ws) cs t)(hx:xs.length=d.first.length)(hl:d.first.length<=4)(hp:pd=true\/d.first=[])(hd:zk d=th x r)(hw:(qE (step (step (step F)))).lookup x=some f)(hs:s+100<=cap)
  (h:∀X,st.length<cap->Sim na rs (H.set nw (.lst (vE ws))++X) nd ns nw ca s st stk ws cs t->DicP na H (H.set nw (.lst (vE ws))++X)->∃(Y:MH) (ca':List Nat) (kw':W),f [.ref nd,th x r,kw,.fls (xs.map .int)] (H.set nw (.lst (vE ws))++X)=some (.non,((H.set nw (.lst (vE ws))++X)++Y:MH).set ns (.lst (st++[.tup [.bl false,zk d',kw']])))/\Sim na rs ((H.set nw (.lst (vE ws))++X)++Y) nd ns nw ca' (s+4) st stk ws cs' t/\EvR na ((H.set nw (.lst (vE ws))++X)++Y) ca' (s+4) env' kw'/\∀n∈ca',n∈ca\/H.length<=n):i0 F na rs H nd ns nw ca s pd d kw ((false,d',env')::stk) ws cs' t:=by
 obtain⟨X,e⟩:=fh (F:=F) (kw:=kw) S hx hl hp hd hw;have l1:=S.l1;obtain⟨Y,ca',kw',e2,S2,E2,hc⟩:=h X (by rw[S.sr.len];omega) (eu S X) (iI S X);refine took S (e _ _ e2) (S2.steps (.cons E2 S2.sr) (by simp;omega)) ((off_fm.trans (Fm.app Y)).trans (Fm.set (by simp))) hc (.inr (.inl (by simp)))
def cy(S:Sim na rs H nd ns nw ca s st stk (xs.reverse++ws) cs .non)(hx:xs.length=d.first.length)(hl:d.first.length<=4)(hp:pd=true\/d.first=[])(hd:zk d=th x r)(hw:(qE (step (step (step F)))).lookup x=some f)
  (h:∀X,Dg (H.set nw (.lst (vE ws))++X) nd ns nw (kf rs) st (vE ws) .non->f [.ref nd,th x r,kw,.fls (xs.map .int)] (H.set nw (.lst (vE ws))++X)=some (.non,(H.set nw (.lst (vE ws))++X:MH).set nd (.ins 0 (ya (kf rs) ns nw (tW tt))))):i0 F na rs H nd ns nw ca s pd d kw stk ws cs (tW tt):=by
 obtain⟨X,e⟩:=fh (F:=F) (kw:=kw) S hx hl hp hd hw;have S1':=eu S X;exact took S (e _ _ (h X S1'.g)) ((S1'.more (s':=s+4) ∅).ahead _) (off_fm.trans (Fm.set (by simp))) (λn hn=>.inl hn) (.inr (.inr (lD tt)))
end
def Zo(G:Fs):(qE G).lookup ("number":Str)=some G.bF/\(qE G).lookup ("name":Str)=some G.cO/\(qE G).lookup ("read":Str)=some G.bZ/\(qE G).lookup ("write":Str)=some G.bw/\(qE G).lookup ("add":Str)=some G.cY/\(qE G).lookup ("less":Str)=some G.cL/\(qE G).lookup ("then":Str)=some G.cN/\(qE G).lookup ("if":Str)=some G.dB/\(qE G).lookup ("loop":Str)=some G.cM/\(qE G).lookup ("let":Str)=some G.dh/\(qE G).lookup ("own":Str)=some G.cZ/\(qE G).lookup ("say":Str)=some G.dg/\(qE G).lookup ("ask":Str)=some G.cV/\(qE G).lookup ("do":Str)=some G.bJ/\(qE G).lookup ("call":Str)=some G.bY:=by
 refine⟨?_,?_,?_,?_,?_,?_,?_,?_,?_,?_,?_,?_,?_,?_,?_⟩<;>kernel_rfl
section
variable{na:Nat}{rs:List Rule}{H:MH}{nd ns nw:Nat}{ca:List Nat}{s:Nat}{st:List W}{stk:List Stp}{ws cs:List Int}{F:Fs}{pd:Bool}{d:D}{env:Ev}{kw:W}
def Vx(S:Sim na rs H nd ns nw ca s st stk ws cs .non)(h:S1 rs pd d env ws cs (.tch tt ws')):i0 F na rs H nd ns nw ca s pd d kw stk ws' cs (tW tt):=by
 have wy:=Zo (step (step (step F)));obtain⟨w1,w2,w3,w4,w5,w6,w7,w8,w9,w10,w11,w12,w13,w14,w15⟩:=wy;cases h with
 | readS h=>exact cy (xs:=[]) (d:=.read _) S rfl (by simp[D.first]) (.inr rfl) rfl w3 λX g=>Wk g h
 | ask=>exact cy (xs:=[]) (d:=.ask) S rfl (by simp[D.first]) (.inr rfl) rfl w13 λX g=>Y8 g
 | writeS h=>exact cy (xs:=[_]) (d:=.write _ _) S rfl (by simp[D.first]) (.inl rfl) rfl w4 λX g=>JX g h
 | say=>exact cy (xs:=[_]) (d:=.say _) S rfl (by simp[D.first]) (.inl rfl) rfl w12 λX g=>YW g
theorem oE{i:Nat}(h:rs[i]?=some r):(kf rs)[i]?=some (bP r):=by
 unfold kf;rw[jb,h];rfl
def YC(hr:RsOk rs)(S:Sim na rs H nd ns nw ca s st stk ws cs .non)(E:EvR na H ca s env kw)(hs:s+100<=cap)(h8:10<=s)(hna:na<H.length)(h:S1 rs pd d env ws cs (.gg p ws' cs')):i0 F na rs H nd ns nw ca s pd d kw (p++stk) ws' cs' .non:=by
 have wy:=Zo (step (step (step F)));obtain⟨w1,w2,w3,w4,w5,w6,w7,w8,w9,w10,w11,w12,w13,w14,w15⟩:=wy;have hnaX:∀(o:MO) (X:MH),na<(H.set nw o++X).length:=λo X=>by rw[zK,je];omega
 cases h with
 | number=>exact xY (xs:=[]) (d:=.number _) S rfl (by simp[D.first]) (.inr rfl) rfl w1 hs (by simp) λX g hw=>do_number g hw
 | name h=>
  exact xY (xs:=[]) (d:=.name _) S rfl (by simp[D.first]) (.inr rfl) rfl w2 hs (by simp) λX g hw=>by
   obtain⟨w',e1,e2⟩:=(E.mono (iI (xs:=[]) S X) (zR _) (zg _)).get h;cases e2;exact do_name g hw e1
 | readO h ds hv hc=>
  exact xY (xs:=[]) (d:=.read _) S rfl (by simp[D.first]) (.inr rfl) rfl w3 hs (by simp) λX g hw=>by
   obtain⟨w',e1,e2⟩:=(E.mono (iI (xs:=[]) S X) (zR _) (zg _)).get hv;cases e2 with | cell hn=>
   exact Vj g hw h ds e1 ((eu (xs:=[]) S X).ce _ _ _ hn hc)
 | doo h=>
  exact x5 (xs:=[]) (d:=.doo _) S rfl (by simp[D.first]) (.inr rfl) rfl w14 hs λX hw S1' dp=>by
   obtain⟨w',e1,e2⟩:=(E.mono dp (zR _) (zg _)).get h;cases e2 with | hd e2=>
   refine⟨[],ca,_,?_,by rw[kj];exact S1'.more ∅,by rw[kj];exact e2.mono (λ_ _ _ e=>e) (zR _) ∅,λn hn=>.inl hn⟩;rw[kj];exact do_handed S1'.g hw e1
 | push h hl=>
  have raw:=Ja (G:=step (step (step F))) S.g (Zi d) h ∅ (by rw[S.sr.len];have:=S.l1;omega) E.low;have sr:=sS E d.first (.cons (pd:=true) (d:=d) E S.sr);have l1:=S.l1;refine took S raw ((S.more (s':=s+4) ∅).steps (stk':=(d.first.map (λa=>(false,a,env))++[(true,d,env)])++stk) ?_ ?_) (Fm.set (by simp)) (λn hn=>.inl hn) (.inr (.inl ?_))
  .rw[kZ]
   exact sr.mono (λ_ _ _ e=>e) (zR _) ∅
  .simp;omega
  .simp;omega
 | @writeO v a x c _ ws0 _ h ds hv hc=>
  obtain⟨X,e⟩:=fh (F:=F) (kw:=kw) (xs:=[x]) (pd:=true) (d:=.write v a) (ws:=ws0) S rfl (by simp[D.first]) (.inl rfl) rfl w4;have S1':=eu (xs:=[x]) (ws:=ws0) S X;have E1:=E.mono (iI (xs:=[x]) (ws:=ws0) S X) (zR _) (zg _);obtain⟨w',e1,e2⟩:=E1.get hv;cases e2 with | @cell _ n hn=>
  have lw:=S.l2;simp only[zm] at lw;have nn:=S.cx n (jH hn);have old:=S1'.ce c n cs[c] hn (zE hc);have raw:=e _ _ (Qy (x:=.int x) (a:=zk a) S1'.g (by rw[eW];omega) h ds e1 old nn.1 nn.2.1 nn.2.2);rw[<-ft] at raw;have S2:=(S1'.cell (x:=x) hn hc).worths (ws':=x::ws0) (by simp;omega);exact⟨_,ca,st,by rw[f_take];exact eI raw,S2.more ∅,(off_fm.trans (Fm.set (by simp[jH hn]))).trans (Fm.set (by simp)),λn hn=>.inl hn⟩
 | @add a b x y=>exact xY (xs:=[x,y]) (d:=.add a b) S rfl (by simp[D.first]) (.inl rfl) rfl w5 hs (by simp) λX g hw=>do_add g hw
 | @less a b x y=>exact xY (xs:=[x,y]) (d:=.less a b) S rfl (by simp[D.first]) (.inl rfl) rfl w6 hs (by simp) λX g hw=>do_less g hw
 | @thenn a b x y=>exact xY (xs:=[x,y]) (d:=.thenn a b) S rfl (by simp[D.first]) (.inl rfl) rfl w7 hs (by simp) λX g hw=>do_then g hw
 | @iff a b c x=>
  exact x5 (xs:=[x]) (d:=.iff a b c) S rfl (by simp[D.first]) (.inl rfl) rfl w8 hs λX hw S1' dp=>by
   refine⟨[],ca,kw,?_,by rw[kj];exact S1'.more ∅,by rw[kj];exact E.mono dp (zR _) ∅,λn hn=>.inl hn⟩;rw[kj];have:=do_if (F:=step F) (x:=x) (a:=zk a) (b:=zk b) (c:=zk c) (kw:=kw) S1'.g hw;by_cases q:x=0
   .simp only[q,kW] at this ⊢;exact this
   .simp only[q,jq] at this ⊢;exact this
 | @loop a b x=>
  exact x5 (xs:=[x]) (d:=.loop a b) S rfl (by simp[D.first]) (.inl rfl) rfl w9 hs λX hw S1' dp=>by
   refine⟨[],ca,kw,?_,by rw[kj];exact S1'.more ∅,by rw[kj];exact E.mono dp (zR _) ∅,λn hn=>.inl hn⟩;rw[kj];have:=do_loop (F:=step F) (x:=x) (a:=a) (b:=b) (kw:=kw) S1'.g hw;simp only[zk] at this;exact this
 | @lett v a b x=>
  exact x5 (xs:=[x]) (d:=.lett v a b) S rfl (by simp[D.first]) (.inl rfl) rfl w10 hs λX hw S1' dp=>by
   have E1:=E.mono dp (zR _) (zg _);obtain⟨l,d1,d2,d3⟩:=E1.di;have h1:=hnaX (.lst (vE ws')) X;generalize H.set nw (.lst (vE ws'))++X=H1 at S1' E1 d1 d3 h1 ⊢;have pl:=bv (l:=l) (k:=.inr v) (v:=.int x);have L:LR na (H1++[.dic (jS l (.inr v) (.int x))]) ca (s+4) l env:=LR.mono (H:=H1) (ca:=ca) (b:=s) d3 (uw _) (zR _) ∅;exact⟨[.dic (jS l (.inr v) (.int x))],ca,.ref H1.length,do_let S1'.g hw d1 ∅,(S1'.app _).more ∅,(L.put (v:=v) (.int x)).ev (at0 _ _) ∅ ∅,λn hn=>.inl hn⟩
 | @own v a b x=>
  exact x5 (xs:=[x]) (d:=.own v a b) S rfl (by simp[D.first]) (.inl rfl) rfl w11 hs λX hw S1' dp=>by
   have E1:=E.mono dp (zR _) (zg _);have h1:=hnaX (.lst (vE ws')) X;have h2:H.length<=(H.set nw (.lst (vE ws'))++X).length:=by rw[zK,je];omega
   generalize H.set nw (.lst (vE ws'))++X=H1 at S1' E1 h1 h2 ⊢;obtain⟨l,d1,d2,d3⟩:=(E1.mono (uw [.lst [.int x]]) (zR _) (zg _)).di;have pl:=bv (l:=l) (k:=.inr v) (v:=.ref H1.length);have ap:H1++[.lst [.int x],.dic (jS l (.inr v) (.ref H1.length))]=(H1++[.lst [.int x]])++[.dic (jS l (.inr v) (.ref H1.length))]:=by rw[kZ];rfl
   have L:LR na (H1++[.lst [.int x],.dic (jS l (.inr v) (.ref H1.length))]) (ca++[H1.length]) (s+4) l env:=by
    rw[ap];exact LR.mono (H:=H1++[MO.lst [.int x]]) (ca:=ca) (b:=s) d3 (uw _) (jj _ _) ∅
   have at1:(H1++[.lst [.int x],.dic (jS l (.inr v) (.ref H1.length))]:MH)[H1.length+1]?=some (.dic (jS l (.inr v) (.ref H1.length))):=by
    rw[zH ∅,show H1.length+1-H1.length=1 by omega];rfl
   have cc:(ca++[H1.length])[cs.length]?=some H1.length:=by rw[<-S1'.cl];exact at0 _ _
   refine⟨[.lst [.int x],.dic (jS l (.inr v) (.ref H1.length))],ca++[H1.length],.ref (H1.length+1),do_own S1'.g hw d1 ∅,?_,(L.put (v:=v) (.cell cc)).ev at1 ∅ ∅,λn hn=>?_⟩
   .rw[ap]
    exact((S1'.newc x).app _).more ∅
   .rcases zW.mp hn with z | z
    .exact .inl z
    .simp at z
     exact .inr ∅
 | @call pd i as bs r xs _ _ _ hp hri hx ha hb=>
  have rl:=hr.l i r hri;exact x5 (xs:=xs) (d:=.call i as bs) S hx (by simp only[D.first];omega) hp rfl w15 hs λX hw S1' dp=>by
   have E1:=E.mono dp (zR _) (zg _);have h1:=hnaX (.lst (vE ws')) X;generalize H.set nw (.lst (vE ws'))++X=H1 at S1' E1 h1 ⊢;have l0:=gP ((r.ns.zip xs).map λp=>(.inr p.1,.int p.2)) [];have l1:=Ze (kw:=kw) (r.hs.zip (ki bs)) (ab (r.ns.zip xs));rw[zB,qz,zV] at l0;rw[qz] at l1;unfold ab at l1;have L0:LR na (H1++[.dic (ah kw (r.hs.zip (ki bs)) (ab (r.ns.zip xs)))]) ca (s+4) [] []:=λv x h=>by cases h
   have E2:=E1.mono (b':=s+4) (uw [.dic (ah kw (r.hs.zip (ki bs)) (ab (r.ns.zip xs)))]) (zR _) ∅;have L1:=LR.hds E2 r.hs bs (LR.ints (r.ns.zip xs) L0);have dc:=do_call (F:=step F) (i:=i) (as:=as) (bs:=bs) (r:=r) (xs:=xs) (kw:=kw) S1'.g hw (oE hri) ∅ ∅;simp only[zk] at dc;refine⟨[.dic (ah kw (r.hs.zip (ki bs)) (ab (r.ns.zip xs)))],ca,.ref H1.length,dc,(S1'.app _).more ∅,LR.ev L1 (at0 _ _) ∅ ?_,λn hn=>.inl hn⟩;omega
end
noncomputable def WO:Tch->Prop
 | .read v=>v∈SH
 | .write v _=>v∈SH
 | _=>True
inductive Ac(na:Nat)(rs:List Rule)(H:MH)(nd ns nw:Nat)(ca:List Nat)(s:Nat)(T:Tr Int)(c:Nat):Prop
 | mk {st:List W} {stk:List Stp} {ws cs:List Int} (S:Sim na rs H nd ns nw ca s st stk ws cs .non) (R:Rep rs stk ws cs T c)
inductive Rs(na:Nat)(rs:List Rule)(H:MH)(nd ns nw:Nat)(ca:List Nat)(s:Nat):Tr Int->Nat->W->Prop
 | ret {st:List W} {ws cs:List Int} {v:Int} {c:Nat} (S:Sim na rs H nd ns nw ca s st [] (v::ws) cs .non):Rs na rs H nd ns nw ca s (.ret v) c .non
 | tch {st:List W} {stk:List Stp} {ws cs:List Int} {t:Tch} {k:Int->Tr Int} {c:Nat} (o:WO t) (S:Sim na rs H nd ns nw ca s st stk ws cs (tW t)) (R:∀v,Rep rs stk (v::ws) cs (k v) c):Rs na rs H nd ns nw ca s (.tch t k) c (tW t)
def Dn{t:Tch}(h:S1 rs b d env ws cs (.tch t ws')):WO t:=by
 cases h with
 | readS h=>exact h
 | ask=>trivial
 | writeS h=>exact h
 | say=>trivial
def Fm.trans2{H:MH}(a:Fm (nd::ns::nw::ca) H H')(b:Fm (nd::ns::nw::ca') H' H'')(h:∀n∈ca',n∈ca\/H.length<=n):Fm (nd::ns::nw::ca) H H'':=
 ⟨zT a.l b.l,λn o hn e=>b.k n o (λz=>by
  simp only[zb,j8] at hn z;rcases z with z | z | z | z
  .exact hn.1 z
  .exact hn.2.1 z
  .exact hn.2.2.1 z
  .rcases h n z with y | y
   .exact hn.2.2.2 y
   .have:=zS e;omega) (a.k n o hn e)⟩
noncomputable abbrev Qa:MT:=(uR (ke (zi Yb (zh kH [kN kz "steps" (ze 0)]) (eC (.int 0)))) (ke (zi (yA true) (kN kz "touch_ahead" (ze 0)) (eC .non))))
noncomputable def Yh(F:Fs):MS:=(zo (zI (kK uG (kN kz "steps" (ze 0)) []) (zC 1))
 (kx (kb (mt F) "take_step" (ze 0) [zi zv (ze 1) (eC (.int 0)),zi zv (ze 1) (eC (.int 1)),zi zv (ze 1) (eC (.int 2))])))
theorem pj(F:Fs):aV F=ua Qa (Yh F):=rfl
section
variable{na:Nat}{rs:List Rule}{H:MH}{nd ns nw:Nat}{ca:List Nat}{s:Nat}{F:Fs}
def iL{wo:List W}{t:W}(g:Dg H nd ns nw rl [] wo t):Qa [some (.ref nd),o] H=some (false,H):=by
 have e1:=g.fS;have e2:=g.s;simp![kN,e1,kH,getL,e2,vT]
def t9{wo:List W}(g:Dg H nd ns nw rl st wo .non)(h:st≠[]):Qa [some (.ref nd),o] H=some (true,H):=by
 have e1:=g.fS;have e2:=g.s;have e3:=g.fA;cases st with
 | nil=>exact absurd rfl h
 | cons x st=>
  have q:(0:Int)<(st.length:Int)+1:=by omega
  simp![kN,e1,kH,getL,e2,vT,q,e3,yA]
def Xb{wo:List W}(g:Dg H nd ns nw rl st wo (tW tt)):Qa [some (.ref nd),o] H=some (false,H):=by
 cases st with
 | nil=>exact iL g
 | cons x st=>
  have e1:=g.fS;have e2:=g.s;have e3:=g.fA;have q:(0:Int)<(st.length:Int)+1:=by omega
  cases tt<;>simp![kN,e1,kH,getL,e2,vT,q,e3,yA,tW]
def Qb(S:Sim na rs H nd ns nw ca s st ((pd,d,env)::stk) ws cs .non)
  (h:∀H1 st1 kw,Sim na rs H1 nd ns nw ca s st1 stk ws cs .non->EvR na H1 ca s env kw->H1.length=H.length->i0 F na rs H1 nd ns nw ca s pd d kw stk' ws' cs' t') :
  ∃H' ca' st' o',Yh (step (step (step (step F)))) [some (.ref nd),o] H=some (.nx [some (.ref nd),o'],H')/\Sim na rs H' nd ns nw ca' (s+4) st' stk' ws' cs' t'/\Fm (nd::ns::nw::ca) H H'/\∀n∈ca',n∈ca\/H.length<=n:=by
 generalize hst:st=st0 at S;cases S.sr with
 | @cons _ _ _ kw _ st1 e r=>
  have l1:=S.l1;simp only[zm] at l1;have S1':=S.steps (st':=st1) (stk':=stk) r ∅;have E1:=e.mono (uA (na:=na) (o':=.lst st1) S.g.s (λ_=>nofun)) (zR _) (zg _);obtain⟨H',ca',st',e1,S2,fm,hc⟩:=h _ _ kw S1' E1 (by rw[je]);refine⟨H',ca',st',some (.tup [.bl pd,zk d,kw]),?_,S2,(Fm.set (by simp)).trans fm,λn hn=>by have:=hc n hn;rw[je] at this;exact this⟩;unfold Yh;have f1:=S.g.fS;have f2:=S.g.s;have lp:(st1++[W.tup [.bl pd,zk d,kw]])[(st1++[W.tup [.bl pd,zk d,kw]]).length-1]?=some (.tup [.bl pd,zk d,kw]):=by simp
  rw[zt (ρ':=[some (.ref nd),some (.tup [.bl pd,zk d,kw])]) (h':=H.set ns (.lst st1)) (by
   simp only[zI,kK,bnd,kN,ze,zp,f1,getL,f2,vM,kW,ko,uG,lp,List.dropLast_concat,zC]
   rfl)]
  refine vb (w:=.non) ?_;rw[wm (F:=step (step (step (step F)))) S1'.g.d (nP ⋯ ⋯ ⋯ ⋯) (YQ _) (mo:=ze 0) rfl (ws:=[.bl pd,zk d,kw]) (H1:=H.set ns (.lst st1)) (by simp only[ko,bnd,zi,ze,eC,zG,zp,xC,yb,ck])];exact e1
def YY(hr:RsOk rs)(h0:10<=s){T:Tr Int}{c:Nat}(R:Rep rs stk ws cs T c):∀{H:MH} {ca:List Nat} {s:Nat} {st:List W} (o:Option W),Sim na rs H nd ns nw ca s st stk ws cs .non->s+4*c+100<=cap->10<=s->na<H.length->
  ∃n H' ca' s' c' t' o',qh Qa (Yh (step (step (step (step F))))) n [some (.ref nd),o] H=some (.nx [some (.ref nd),o'],H')/\Rs na rs H' nd ns nw ca' s' T c' t'/\Fm (nd::ns::nw::ca) H H'/\(∀n∈ca',n∈ca\/H.length<=n)/\s'+4*c'<=s+4*c/\s<=s'/\(t'≠.non->s+4<=s'):=by
 induction R with
 | @done v ws cs c=>
  intro H ca s st o S hs h8 hna;have:st=[]:=jP.mp (by rw[S.sr.len];rfl);subst this;have e:=iL (o:=o) S.g;refine⟨1,H,ca,s,c,.non,o,?_,.ret S,Fm.refl,λn hn=>.inl hn,zg _,zg _,λz=>absurd rfl z⟩;unfold qh;rw[e]
 | @gg b d env stk ws cs p ws' cs' T c h r ih=>
  intro H ca s st o S hs h8 hna;have ne:st≠[]:=λz=>by have:=S.sr.len;rw[z] at this;simp at this
  have e:=t9 (o:=o) S.g ne;obtain⟨H1,ca1,st1,o1,e1,S2,fm,hc⟩:=Qb (F:=F) (o:=o) (stk':=p++stk) (ws':=ws') (cs':=cs') (t':=.non) S λH1 st1 kw S1' E1 hl=>YC hr S1' E1 ∅ h8 ∅ h
  obtain⟨n,H',ca',s',c',t',o',e2,R2,fm2,hc2,b1,b2,b3⟩:=ih o1 S2 ∅ ∅ (zN hna fm.l);refine⟨n+1,H',ca',s',c',t',o',?_,R2,fm.trans2 fm2 hc,λn hn=>?_,by omega,by omega,λz=>by have:=b3 z;omega⟩
  .unfold qh
   rw[e];simp only;rw[e1];exact e2
  .rcases hc2 n hn with z | z
   .exact hc n z
   .exact .inr (zT fm.l z)
 | @tch b d env stk ws cs t ws' k c h r ih=>
  intro H ca s st o S hs h8 hna;have ne:st≠[]:=λz=>by have:=S.sr.len;rw[z] at this;simp at this
  have e:=t9 (o:=o) S.g ne;obtain⟨H1,ca1,st1,o1,e1,S2,fm,hc⟩:=Qb (F:=F) (o:=o) (stk':=stk) (ws':=ws') (cs':=cs) (t':=tW t) S λH1 st1 kw S1' E1 hl=>Vx S1' h
  have e2:=Xb (o:=o1) S2.g;refine⟨2,H1,ca1,s+4,c,tW t,o1,?_,.tch (Dn h) S2 r,fm,hc,by omega,by omega,λ_=>zg _⟩;unfold qh;rw[e];simp only;rw[e1];simp only;unfold qh;rw[e2]
theorem f_go(F:Fs):(step F).aK=gc (kd 1 1 (aV F)):=rfl
def QP(hr:RsOk rs){T:Tr Int}{c:Nat}(A:Ac na rs H nd ns nw ca s T c)(hs:s+4*c+100<=cap)(h8:10<=s)(hna:na<H.length) :
  ∃H' ca' s' c' t',(step (step (step (step (step F))))).aK [.ref nd] H=some (.non,H')/\Rs na rs H' nd ns nw ca' s' T c' t'/\Fm (nd::ns::nw::ca) H H'/\(∀n∈ca',n∈ca\/H.length<=n)/\s'+4*c'<=s+4*c/\s<=s'/\(t'≠.non->s+4<=s'):=by
 obtain⟨S,R⟩:=A;rename_i st stk ws cs;cases stk with
 | nil=>
  cases R with
  | @done v ws _ _=>
  have:st=[]:=jP.mp (by rw[S.sr.len];rfl);subst this;have e:=iL (o:=none) S.g;refine⟨H,ca,s,c,.non,?_,.ret S,Fm.refl,λn hn=>.inl hn,zg _,zg _,λz=>absurd rfl z⟩;rw[f_go];refine c8 (yi (ρ:=[some (.ref nd),none]) (ρ':=[some (.ref nd),none]) rfl rfl ?_) (by unfold low;rfl);rw[pj];refine u4 (n:=1) ?_;unfold qh;rw[e]
 | cons x stk=>
  obtain⟨n,H',ca',s',c',t',o',e,R2,fm,hc,b1,b2,b3⟩:=YY (F:=F) hr h8 R none S hs h8 hna;have raw:kd 1 1 (aV (step (step (step (step F))))) [.ref nd] H=some (.non,H'):=by
   refine yi (ρ:=[some (.ref nd),none]) (ρ':=[some (.ref nd),o']) rfl rfl ?_;rw[pj];exact u4 e
  refine⟨H',ca',s',c',t',?_,R2,fm,hc,b1,b2,b3⟩;rw[f_go];cases R2 with
  | ret S2=>exact sM raw S S2 (.inr (.inl (by simp)))
  | tch o S2 R=>exact sM raw S S2 (.inr (.inr (lD _)))
end
structure Rm where
 st:Str->Int
 ans:List Int
 sp:List Int
 k:Nat
noncomputable def UA(st:Str->Int)(v:Str)(x:Int):Str->Int:=λu=>if u=v then x else st u
noncomputable def kS:Tch->Rm->Int×Rm
 | .read v,r=>(r.st v,r)
 | .write v x,r=>(x,{ r with st:=UA r.st v x })
 | .say x,r=>(x,{ r with sp:=r.sp++[x] })
 | .ask,r=>(r.ans.getD r.k 0,{ r with k:=r.k+1 })
noncomputable def dW:Tch->Int->W
 | .read v,x=>.tup [.str "read",.str v,.int x]
 | .write v y,_=>.tup [.str "write",.str v,.int y]
 | .say y,_=>.tup [.str "say",.int y]
 | .ask,x=>.tup [.str "ask",.int x]
noncomputable def vj(st:Str->Int):List (Key×W):=SH.map λv=>((.inr v:Key),W.int (st v))
def lC(h:v∈SH):vS (vj st) (.inr v)=some (.int (st v)):=by
 have:∀l:List Str,v∈l->vS (l.map λv=>((.inr v:Key),W.int (st v))) (.inr v)=some (.int (st v)):=by
  intro l;induction l with
  | nil=>intro h;simp at h
  | cons u l ih=>
   intro h;rw[zq,uq];by_cases q:u=v
   .subst q;simp
   .have:¬(Sum.inr u:Key)=.inr v:=λz=>q (yq z)
    simp only[this,jq];exact ih ((zb.mp h).resolve_left (kY q))
 exact this SH h
def Qq(h:v∈SH):jS (vj st) (.inr v) (.int x)=vj (UA st v x):=by
 have a:((vj st).any λkv=>decide (kv.1=(.inr v:Key)))=true:=by
  rw[qt];exact⟨(.inr v,.int (st v)),kO.mpr ⟨v,h,rfl⟩,by simp⟩
 unfold jS;rw[zY a];unfold vj;rw[j0];refine List.map_congr_left λu _=>?_
 simp only[Function.comp];unfold UA;by_cases q:u=v
 .subst q;simp
 .have:¬(Sum.inr u:Key)=.inr v:=λz=>q (yq z)
  simp only[this,jq,q]
noncomputable def RmR(H:MH)(nr na np:Nat)(r:Rm):Prop:=Rg H nr na np (vj r.st) (r.ans.map .int) (r.sp.map .int) r.k
theorem vv{i:Int}:low m (.int i)=true:=by unfold low;rfl
noncomputable def Ap(A B:List Nat):Prop:=∀n∈A,n∉B
def Qd{H:MH}(f:Fm A H H')(h:∀a∈A,a≠na->∀l,H[a]?≠some (.dic l)):DicP na H H':=λn l hn e=>by
 by_cases q:n∈A
 .exact absurd e (h n q hn l)
 .exact f.k n _ q e
section
variable{na:Nat}{rs:List Rule}{H H':MH}{nd ns nw nr np:Nat}{ca:List Nat}{s:Nat}{st:List W}{stk:List Stp}{ws cs:List Int}{t:W}{F:Fs}{r:Rm}
def Sim.nodic(S:Sim na rs H nd ns nw ca s st stk ws cs t):∀a∈nd::ns::nw::ca,a≠na->∀l,H[a]?≠some (.dic l):=λa ha _ l=>by
 simp only[zb] at ha;rcases ha with rfl | rfl | rfl | ha
 .rw[S.g.d];exact nofun
 .rw[S.g.s];exact nofun
 .rw[S.g.w];exact nofun
 .obtain⟨c,hc⟩:=jB.mp ha
  have h1:c<cs.length:=by rw[<-S.cl];exact zS hc
  rw[S.ce c a cs[c] hc (zE h1)];exact nofun
def Sim.frame(S:Sim na rs H nd ns nw ca s st stk ws cs t)(f:Fm B H H')(p:DicP na H H')(ap:Ap (nd::ns::nw::ca) B):Sim na rs H' nd ns nw ca s st stk ws cs t:=
 ⟨⟨f.k _ _ (ap nd (by simp)) S.g.d,f.k _ _ (ap ns (by simp)) S.g.s,f.k _ _ (ap nw (by simp)) S.g.w,S.g.n1,S.g.n2,S.g.n3⟩,S.sr.mono p (zR _) (zg _),S.cl,λc n i a b=>f.k _ _ (ap n (by simp[jH a])) (S.ce c n i a b),S.cn,S.cx,S.l1,S.l2⟩
def RmR.frame(g:RmR H nr na np r)(f:Fm B H H')(ap:Ap [nr,na,np] B):RmR H' nr na np r:=
 ⟨f.k _ _ (ap nr (by simp)) g.r,f.k _ _ (ap na (by simp)) g.a,f.k _ _ (ap np (by simp)) g.p,g.n1,g.n2,g.n3⟩
def RmR.nodic(g:RmR H nr na np r):∀a∈[nr,na,np],a≠na->∀l,H[a]?≠some (.dic l):=λa ha hn l=>by
 simp only[zb,zc,zQ] at ha;rcases ha with rfl | rfl | rfl
 .rw[g.r];exact nofun
 .exact absurd rfl hn
 .rw[g.p];exact nofun
def XS(g:RmR H nr na np r)(o:WO tt)(hs:r.sp.length<cap)(ha:r.ans.length<=cap):∃H',(step (step F)).aX [.ref nr,tW tt] H=some (dW tt (kS tt r).1,H')/\RmR H' nr na np (kS tt r).2/\Fm [nr,na,np] H H'/\H'.length=H.length:=by
 cases tt with
 | read v=>exact⟨H,do_read g (lC o) vv,g,Fm.refl,rfl⟩
 | write v x=>
  have c4:(4:Nat)<cap:=by decide
  have e:=do_write (F:=step F) (v:=v) (w:=.int x) g c4 vv;rw[Qq o] at e;exact⟨_,e,g.shelves _,Fm.set (by simp),by rw[je]⟩
 | say x=>
  have e:=do_say (F:=step F) (v:=.int x) g (by rw[zB];exact hs) vv;refine⟨_,e,?_,Fm.set (by simp),by rw[je]⟩;have:=g.spoken (r.sp.map .int++[.int x]);rw[show r.sp.map W.int++[.int x]=(r.sp++[x]).map .int by simp] at this ⊢;exact this
 | ask=>
  have ea:ba (r.ans.map W.int) r.k=.int (r.ans.getD r.k 0):=by
   unfold ba;rw[jb,yx];cases r.ans[r.k]?<;>rfl
  have e:=do_ask (F:=F) g (by rw[ea];exact vv) (by rw[zB];exact ha);rw[ea] at e;exact⟨_,e,g.asks (r.k+1),Fm.set (by simp),by rw[je]⟩
def U2(a:(m==("shelves":Str))=false)(b:(m==("answers":Str))=false)(c:(m==("spoken":Str))=false)(d:(m==("asks":Str))=false):(xV na np ans k).lookup m=none:=by
 simp only[kI,yu,a,b,c,d]
def Uc:zv (dW tt (kS tt r).1) (.int (-1)) h=some (.int (kS tt r).1,h):=by
 cases tt<;>simp[dW,kS,zv,atI,xl]
def BH:low m (dW tt x)=true:=by
 cases tt<;>simp[dW,low,lows]
theorem f_touch(F:Fs):(step F).aP=gc (kd 2 1 (aR F)):=rfl
theorem Zw(S:Sim na rs H nd ns nw ca s st stk ws cs (tW tt))(g:RmR H nr na np r)(o:WO tt)(hs:r.sp.length<cap)(ha:r.ans.length<=cap)(hw:s+100<=cap)(ap:Ap (nd::ns::nw::ca) [nr,na,np]) :
  ∃H',(step (step (step F))).aP [.ref nd,.ref nr] H=some (dW tt (kS tt r).1,H')/\Sim na rs H' nd ns nw ca (s+1) st stk ((kS tt r).1::ws) cs .non/\RmR H' nr na np (kS tt r).2/\Fm (nd::ns::nw::ca++[nr,na,np]) H H'/\H'.length=H.length:=by
 obtain⟨H1,e1,g1,f1,l1⟩:=XS (F:=F) g o hs ha;have S1':=S.frame f1 (Qd f1 g.nodic) ap;have S2:=S1'.ahead .non;have wl:=S2.l2;have S3:=(S2.more (s':=s+1) ∅).worths (ws':=(kS tt r).1::ws) (by simp;omega);have f2:Fm [nd,nw] H1 ((H1.set nd (.ins 0 (ya (kf rs) ns nw .non))).set nw (.lst (vE ((kS tt r).1::ws)))):=(Fm.set (by simp)).trans (Fm.set (by simp));have ap2:Ap [nr,na,np] [nd,nw]:=λn hn z=>by
  simp only[zb,zc,zQ] at z;rcases z with rfl | rfl
  .exact ap _ (by simp) hn
  .exact ap _ (by simp) hn
 refine⟨_,?_,S3,g1.frame f2 ap2,(f1.sub (λn hn=>by simp only[zW,jk,zb];simp only[zb] at hn;exact .inr (.inr (.inr (.inr hn))))).trans (f2.sub (λn hn=>by simp only[zb,zc,zQ] at hn;rcases hn with rfl | rfl<;>simp)),by rw[je,je,l1]⟩;rw[f_touch];have ch:((H1.set nd (.ins 0 (ya (kf rs) ns nw .non))).set nw (.lst (vE ((kS tt r).1::ws))))[nd]?≠some (.ins 0 (ya (kf rs) ns nw (tW tt))):=by
  rw[S3.g.d];intro z;injection z with z;injection z with _ z;simp only[jR,wQ] at z;exact lD tt z.2.2.2.1.2.symm
 refine wf (xo (ρ:=[some (.ref nd),some (.ref nr),none]) rfl rfl ?_) S.g.d ch;unfold aR;have fa:=S.g.fA;have em:kb (mt (step (step F))) "do" (ze 1) [kN kz "touch_ahead" (ze 0)] [some (.ref nd),some (.ref nr),none] H=some (dW tt (kS tt r).1,H1):=by
  rw[wm (F:=step (step F)) g.r (U2 ⋯ ⋯ ⋯ ⋯) (CS _) (mo:=ze 1) rfl (ws:=[tW tt]) (H1:=H) (by simp only[ko,bnd,kN,ze,zp,fa])];exact e1
 rw[zt (ρ':=[some (.ref nd),some (.ref nr),some (dW tt (kS tt r).1)]) (h':=H1) (by unfold zI;rw[em];rfl)];have pa:=S1'.g.pA .non;rw[zt (ρ':=[some (.ref nd),some (.ref nr),some (dW tt (kS tt r).1)]) (h':=H1.set nd (.ins 0 (ya (kf rs) ns nw .non))) (by simp only[zI,eC,x6,bnd,ze,zp,pa])];have br:=ik (F:=step F) (mo:=ze 0) (m:=zi zv (ze 2) (uf gQ (eC (.int 1)))) (ρ:=[some (.ref nd),some (.ref nr),some (dW tt (kS tt r).1)]) (v:=.int (kS tt r).1) S2.g (by rw[eW];omega) rfl (by simp only[zi,uf,bnd,ze,eC,zG,zp,gQ,Uc]);rw[zt (vb br),ft];rfl
end
noncomputable def ky{α:Type}:Tr α->Rm->α×Rm×List (Tch×Int)
 | .ret a,r=>(a,r,[])
 | .tch t k,r=>((ky (k (kS t r).1) (kS t r).2).1,(ky (k (kS t r).1) (kS t r).2).2.1,(t,(kS t r).1)::(ky (k (kS t r).1) (kS t r).2).2.2)
noncomputable def bo(l:List (Tch×Int)):List W:=l.map λp=>dW p.1 p.2
noncomputable def tC:MT:=(ke (zi (yA false) (kN kz "touch_ahead" (ze 0)) (eC .non)))
noncomputable def tB(F:Fs):MS:=(zo (kx (kK qa (ze 2) [kb (mt F) "do_touch" (ze 0) [ze 1]]))
 (kx (kb (mt F) "go_on" (ze 0) [])))
theorem mE(t:Tch)(r:Rm):(kS t r).2.ans=r.ans:=by cases t<;>rfl
def sG(t:Tch)(r:Rm):(kS t r).2.sp.length<=r.sp.length+1:=by cases t<;>simp[kS]
section
variable{na:Nat}{rs:List Rule}{H:MH}{nd ns nw nr np nt:Nat}{ca:List Nat}{s:Nat}{F:Fs}{r:Rm}
def Kq{wo:List W}(g:Dg H nd ns nw rl st wo .non):tC (some (.ref nd)::ρ) H=some (false,H):=by
 have e3:=g.fA;simp![tC,kN,e3,yA]
def K4{wo:List W}(g:Dg H nd ns nw rl st wo (tW tt)):tC (some (.ref nd)::ρ) H=some (true,H):=by
 have e3:=g.fA;cases tt<;>simp![tC,kN,e3,yA,tW]
def KJ{wo:List W}{t:W}(g:Dg H nd ns nw rl st wo t)(e1:mo ρ H=some (.ref nd,H))(e:(step F).aK [.ref nd] H=some (.non,H')):kx (kb (mt (step F)) "go_on" mo []) ρ H=some (.nx ρ,H'):=by
 refine vb (w:=.non) ?_;rw[wm (F:=step F) g.d (nP ⋯ ⋯ ⋯ ⋯) (DB _) e1 (ws:=[]) (H1:=H) rfl];exact e
structure Lp(H:MH)(na nd ns nw nr np nt:Nat)(ca:List Nat)(r:Rm)(acc:List W):Prop where
 g:RmR H nr na np r
 a:H[nt]?=some (.lst acc)
 ap:Ap (nd::ns::nw::ca) [nr,na,np]
 n1:nt∉nd::ns::nw::ca
 n2:nt∉[nr,na,np]
 an:r.ans.length<=cap
def Lp.lt(L:Lp H na nd ns nw nr np nt ca r acc):∀n∈[nr,na,np],n<H.length:=λn hn=>by
 simp only[zb,zc,zQ] at hn;rcases hn with rfl | rfl | rfl
 .exact zS L.g.r
 .exact zS L.g.a
 .exact zS L.g.p
def Lp.mv(L:Lp H na nd ns nw nr np nt ca r acc)(fm:Fm (nd::ns::nw::ca) H H')(hc:∀n∈ca',n∈ca\/H.length<=n):Lp H' na nd ns nw nr np nt ca' r acc:=by
 have ap2:Ap [nr,na,np] (nd::ns::nw::ca):=λn hn z=>L.ap n z hn
 refine⟨L.g.frame fm ap2,fm.k _ _ L.n1 L.a,λn hn z=>?_,λz=>?_,L.n2,L.an⟩
 .simp only[zb] at hn
  rcases hn with h | h | h | h
  .exact L.ap n (by simp[h]) z
  .exact L.ap n (by simp[h]) z
  .exact L.ap n (by simp[h]) z
  .rcases hc n h with y | y
   .exact L.ap n (by simp[y]) z
   .have:=L.lt n z;omega
 .have n1:=L.n1
  simp only[zb,j8] at z n1;rcases z with h | h | h | h
  .exact n1.1 h
  .exact n1.2.1 h
  .exact n1.2.2.1 h
  .rcases hc nt h with y | y
   .exact n1.2.2.2 y
   .have:=zS L.a;omega
theorem rF(hr:RsOk rs):∀(T:Tr Int) {H:MH} {ca:List Nat} {s c:Nat} {t:W} {r:Rm} {acc:List W},Rs na rs H nd ns nw ca s T c t->Lp H na nd ns nw nr np nt ca r acc->10<=s->s+200<=cap->(t≠.non->s+5*c+201<=cap/\r.sp.length+c+1<cap/\acc.length+c+1<cap)->
  ∃n H' ca' s',qh tC (tB (step (step (step (step (step F)))))) n [some (.ref nd),some (.ref nr),some (.ref nt)] H=some (.nx [some (.ref nd),some (.ref nr),some (.ref nt)],H')/\Rs na rs H' nd ns nw ca' s' (.ret (ky T r).1) 0 .non/\Lp H' na nd ns nw nr np nt ca' (ky T r).2.1 (acc++bo (ky T r).2.2)/\Fm (nd::ns::nw::(ca++[nr,na,np,nt])) H H'/\(∀n∈ca',n∈ca\/H.length<=n)/\s<=s'/\s'+200<=cap
 | .ret v,H,ca,s,c,t,r,acc,R,L,h8,h2,hb=>by
  cases R with
  | ret S=>
  refine⟨1,H,ca,s,?_,.ret S,by simpa[ky,bo] using L,Fm.refl,λn hn=>.inl hn,zg _,h2⟩;unfold qh;rw[Kq S.g]
 | .tch tt k,H,ca,s,c,t,r,acc,R,L,h8,h2,hb=>by
  cases R with
  | @tch st stk ws cs _ _ _ o S R=>
  obtain⟨b1,b2,b3⟩:=hb (lD tt);obtain⟨H1,e1,S1',g1,f1,l1⟩:=Zw (F:=step (step F)) S L.g o ∅ L.an ∅ L.ap
  have a1:H1[nt]?=some (.lst acc):=f1.k _ _ (by
   have n1:=L.n1;have n2:=L.n2;simp only[zb,zW,jk] at n1 n2 ⊢;rintro(h | h | h | h | h)
   .exact n1 (.inl h)
   .exact n1 (.inr (.inl h))
   .exact n1 (.inr (.inr (.inl h)))
   .exact n1 (.inr (.inr (.inr h)))
   .exact n2 h) L.a
  have f2:Fm [nt] H1 (H1.set nt (.lst (acc++[dW tt (kS tt r).1]))):=Fm.set (by simp);have apn:Ap (nd::ns::nw::ca) [nt]:=λn hn z=>by simp only[zb,zc,zQ] at z;exact L.n1 (z▸hn)
  have apr:Ap [nr,na,np] [nt]:=λn hn z=>by simp only[zb (a:=n) (b:=nt),zc,zQ] at z;exact L.n2 (z▸hn)
  have S2:=S1'.frame f2 (uA a1 (λ_=>nofun)) apn;have L2:Lp (H1.set nt (.lst (acc++[dW tt (kS tt r).1]))) na nd ns nw nr np nt ca (kS tt r).2 (acc++[dW tt (kS tt r).1]):=⟨g1.frame f2 apr,zL (zS a1),L.ap,L.n1,L.n2,by rw[mE];exact L.an⟩;have lna:na<(H1.set nt (.lst (acc++[dW tt (kS tt r).1]))).length:=zS L2.g.a;obtain⟨H3,ca3,s3,c3,t3,e3,R3,f3,hc3,q1,q2,q3⟩:=QP (F:=F) hr (.mk S2 (R (kS tt r).1)) ∅ ∅ lna;have L3:=L2.mv f3 hc3;have spl:=sG tt r
  obtain⟨n,H',ca',s',e4,R4,L4,f4,hc4,q4,q5⟩:=rF hr (k (kS tt r).1) R3 L3 ∅ ∅ (λz=>by
   have:=q3 z;refine⟨by omega,by omega,?_⟩;simp only[zK,zm,zV]
   omega)
  have len1:H.length=(H1.set nt (.lst (acc++[dW tt (kS tt r).1]))).length:=by rw[je,l1]
  have hc5:∀n∈ca3,n∈ca\/H.length<=n:=λn hn=>by have:=hc3 n hn;rw[<-len1] at this;exact this
  refine⟨n+1,H',ca',s',?_,R4,?_,?_,λn hn=>?_,by omega,q5⟩
  .unfold qh
   rw[K4 S.g];simp only;have body:tB (step (step (step (step (step F))))) [some (.ref nd),some (.ref nr),some (.ref nt)] H=some (.nx [some (.ref nd),some (.ref nr),some (.ref nt)],H3):=by
    unfold tB;have ac:acc.length<cap:=by omega
    have em:kb (mt (step (step (step (step (step F)))))) "do_touch" (ze 0) [ze 1] [some (.ref nd),some (.ref nr),some (.ref nt)] H=some (dW tt (kS tt r).1,H1):=by
     rw[wm (F:=step (step (step (step (step F))))) S.g.d (nP ⋯ ⋯ ⋯ ⋯) (oR _) (mo:=ze 0) rfl (ws:=[.ref nr]) (H1:=H) rfl];exact e1
    have la:=L.a
    rw[zt (ρ':=[some (.ref nd),some (.ref nr),some (.ref nt)]) (h':=H1.set nt (.lst (acc++[dW tt (kS tt r).1]))) (vb (w:=.non) (by
     unfold kK;simp only[bnd,ze,zG,zp,getL,la,vM,kW,ko];rw[em]
     simp only[qa,a1,ac,kW]))]
    exact KJ S2.g rfl e3
   rw[body];exact e4
  .simp only[ky]
   have:acc++bo ((tt,(kS tt r).1)::(ky (k (kS tt r).1) (kS tt r).2).2.2)=(acc++[dW tt (kS tt r).1])++bo (ky (k (kS tt r).1) (kS tt r).2).2.2:=by simp[bo]
   rw[this];exact L4
  .have g1:Fm (nd::ns::nw::(ca++[nr,na,np,nt])) H H1:=f1.sub (λn hn=>(zW (s:=nd::ns::nw::ca) (t:=[nr,na,np])).mp hn |>.elim (λh=>jZ [nr,na,np,nt] h) (λh=>jh (nd::ns::nw::ca) (jZ [nt] h)))
   have g2:Fm (nd::ns::nw::(ca++[nr,na,np,nt])) H (H1.set nt (.lst (acc++[dW tt (kS tt r).1]))):=g1.trans (f2.sub (λn hn=>jh (nd::ns::nw::ca) (jh [nr,na,np] hn)));have g3:Fm (nd::ns::nw::(ca++[nr,na,np,nt])) H H3:=g2.trans (f3.sub (λn hn=>jZ [nr,na,np,nt] hn));refine⟨zT g3.l f4.l,λn o hn e=>f4.k n o (λz=>?_) (g3.k n o hn e)⟩;simp only[zb,zW,zc,zQ,j8] at hn z;rcases z with h | h | h | h | h
   .exact hn.1 h
   .exact hn.2.1 h
   .exact hn.2.2.1 h
   .rcases hc5 n h with y | y
    .exact hn.2.2.2.1 y
    .have:=zS e;omega
   .rcases h with h | h | h | h
    .exact hn.2.2.2.2.1 h
    .exact hn.2.2.2.2.2.1 h
    .exact hn.2.2.2.2.2.2.1 h
    .exact hn.2.2.2.2.2.2.2 h
  .rcases hc4 n hn with y | y
   .exact hc5 n y
   .exact .inr (by have:=f3.l;omega)
end
noncomputable def stepT:Tr Int->Rm->Tr Int×Rm
 | .ret v,r=>(.ret v,r)
 | .tch t k,r=>(k (kS t r).1,(kS t r).2)
section
variable{na:Nat}{rs:List Rule}{H:MH}{nd ns nw nr np:Nat}{ca:List Nat}{s c:Nat}{F:Fs}{r:Rm}{T:Tr Int}
theorem f_turn(F:Fs):(step F).bx=gc (kd 2 0 (bu F)):=rfl
theorem f_tte(F:Fs):(step F).aD=gc (kd 2 1 (aH F)):=rfl
theorem Us(F:Fs):aH F=zo (zI (zh xU []) (zC 2)) (zo (kx (kb (mt F) "go_on" (ze 0) [])) (zo (ua tC (tB F)) (ku (ze 2)))):=rfl
def UZ(g:RmR H nr na np r)(ap:Ap (nd::ns::nw::ca) [nr,na,np])(hc:∀n∈ca',n∈ca\/H.length<=n):Ap (nd::ns::nw::ca') [nr,na,np]:=λn hn z=>by
 simp only[zb (a:=n) (b:=nd),zb (a:=n) (b:=ns),zb (a:=n) (b:=nw)] at hn;rcases hn with h | h | h | h
 .exact ap n (by simp[h]) z
 .exact ap n (by simp[h]) z
 .exact ap n (by simp[h]) z
 .rcases hc n h with y | y
  .exact ap n (by simp[y]) z
  .have h1:=zS g.r
   have h2:=zS g.a;have h3:=zS g.p;simp only[zb,zc,zQ] at z;omega
def Cu(hr:RsOk rs)(A:Ac na rs H nd ns nw ca s T c)(g:RmR H nr na np r)(ap:Ap (nd::ns::nw::ca) [nr,na,np])(hs:s+5*c+200<=cap)(h8:10<=s)(hp:r.sp.length+c<cap)(ha:r.ans.length<=cap) :
  ∃H' ca' s' c',(step (step (step (step (step (step F)))))).bx [.ref nd,.ref nr] H=some (.non,H')/\Ac na rs H' nd ns nw ca' s' (stepT T r).1 c'/\RmR H' nr na np (stepT T r).2/\Fm ((nd::ns::nw::ca)++[nr,na,np]) H H'/\(∀n∈ca',n∈ca\/H.length<=n)/\s'+5*c'<=s+5*c/\10<=s'/\(stepT T r).2.sp.length+c'<=r.sp.length+c/\(stepT T r).2.ans=r.ans:=by
 obtain⟨H1,ca1,s1,c1,t1,e1,R1,f1,hc1,q1,q2,q3⟩:=QP (F:=F) hr A ∅ h8 (zS g.a);have f1':Fm ((nd::ns::nw::ca)++[nr,na,np]) H H1:=f1.sub λn hn=>jZ _ hn
 have g1:RmR H1 nr na np r:=g.frame f1 λn hn z=>ap n z hn
 obtain⟨S0,R0⟩:=A;rw[f_turn];have first:kx (kb (mt (step (step (step (step (step F)))))) "go_on" (ze 0) []) [some (.ref nd),some (.ref nr)] H=some (.nx [some (.ref nd),some (.ref nr)],H1):=KJ S0.g rfl e1
 cases R1 with
 | @ret st ws cs v c S=>
  refine⟨H1,ca1,s1,0,eI (yi (ρ:=[some (.ref nd),some (.ref nr)]) (ρ':=[some (.ref nd),some (.ref nr)]) rfl rfl ?_),.mk S .done,g1,f1',hc1,by omega,by omega,by simp[stepT],rfl⟩;unfold bu;rw[zt first];exact iq (Kq S.g)
 | @tch st stk ws cs tt k _ o S R=>
  have hq:=q3 (lD tt);obtain⟨H2,e2,S2,g2,f2,l2⟩:=Zw (F:=step (step F)) S g1 o ∅ ha ∅ (UZ g ap hc1);have spl:=sG tt r;refine⟨H2,ca1,s1+1,c1,eI (yi (ρ:=[some (.ref nd),some (.ref nr)]) (ρ':=[some (.ref nd),some (.ref nr)]) rfl rfl ?_),.mk S2 (R _),g2,?_,hc1,by omega,by omega,by simp only[stepT];omega,by simp only[stepT];exact mE tt r⟩
  .unfold bu
   rw[zt first];refine sE (K4 S.g) (vb (w:=dW tt (kS tt r).1) ?_);rw[wm (F:=step (step (step (step (step F))))) S.g.d (nP ⋯ ⋯ ⋯ ⋯) (oR _) (mo:=ze 0) rfl (ws:=[.ref nr]) (H1:=H1) rfl];exact e2
  .refine⟨zT f1'.l f2.l,λn o hn e=>f2.k n o (λz=>?_) (f1'.k n o hn e)⟩
   rcases(zW (s:=nd::ns::nw::ca1) (t:=[nr,na,np])).mp z with z | z
   .simp only[zW,j8] at hn
    simp only[zb] at z;rcases z with h | h | h | h
    .exact hn.1 (by simp[h])
    .exact hn.1 (by simp[h])
    .exact hn.1 (by simp[h])
    .rcases hc1 n h with y | y
     .exact hn.1 (by simp[y])
     .have:=zS e;omega
   .exact hn (jh _ z)
def XB{t:W}(S:Sim na rs H nd ns nw ca s st [] ws cs t):(step F).aK [.ref nd] H=some (.non,H):=by
 have:st=[]:=jP.mp (by rw[S.sr.len];rfl);subst this;have e:=iL (o:=none) S.g;rw[f_go];refine eI (yi (ρ:=[some (.ref nd),none]) (ρ':=[some (.ref nd),none]) rfl rfl ?_);rw[pj];refine u4 (n:=1) ?_;unfold qh;rw[e]
def pZ(l:List (Tch×Int)):lows m (bo l)=true:=yk λw hw=>by
 obtain⟨p,_,rfl⟩:=kO.mp hw;exact BH
noncomputable def C7(H H':MH)(w:W)(l:List W):Prop:=w=.fls l\/∃n,w=.ref n/\H.length<=n/\H'[n]?=some (.lst l)
def W6(hr:RsOk rs)(A:Ac na rs H nd ns nw ca s T c)(g:RmR H nr na np r)(ap:Ap (nd::ns::nw::ca) [nr,na,np])(hs:s+5*c+200<=cap)(h8:10<=s)(hp:r.sp.length+c<cap)(ha:r.ans.length<=cap) :
  ∃w H' ca' s',(step (step (step (step (step (step F)))))).aD [.ref nd,.ref nr] H=some (w,H')/\C7 H H' w (bo (ky T r).2.2)/\Rs na rs H' nd ns nw ca' s' (.ret (ky T r).1) 0 .non/\RmR H' nr na np (ky T r).2.1/\Fm ((nd::ns::nw::ca)++[nr,na,np]) H H'/\(∀n∈ca',n∈ca\/H.length<=n)/\10<=s'/\s'+200<=cap:=by
 obtain⟨S0,R0⟩:=A;rename_i st stk ws cs;rw[f_tte];have c0:(0:Nat)<=cap:=by decide
 have s1:zI (zh xU []) (zC 2) [some (.ref nd),some (.ref nr),none] H=some (.nx [some (.ref nd),some (.ref nr),some (.ref H.length)],H++[.lst []]):=by
  simp[zI,zh,ko,bnd,xU,zC]
 cases stk with
 | nil=>
  cases R0 with
  | @done v ws _ _=>
  refine⟨.fls [],H,ca,s,J2 (n:=H.length) (h':=H++[.lst []]) (xo (ρ:=[some (.ref nd),some (.ref nr),none]) rfl rfl ?_) (jj _ _) (zg _) (at0 _ _) (by unfold lows;rfl),.inl rfl,.ret S0,g,Fm.refl,λn hn=>.inl hn,h8,by omega⟩;have S1':=S0.app [.lst []];rw[Us,zt s1,zt (KJ S1'.g rfl (XB S1')),zt (ρ':=[some (.ref nd),some (.ref nr),some (.ref H.length)]) (h':=H++[.lst []]) (u4 (n:=1) (by unfold qh;rw[Kq S1'.g]))];rfl
 | cons x stk=>
  have S1':=S0.app [.lst []];have g1:RmR (H++[.lst []]) nr na np r:=g.frame (B:=[]) (Fm.app _) (λn _ z=>by simp at z);obtain⟨H1,ca1,s1',c1,t1,e1,R1,f1,hc1,q1,q2,q3⟩:=QP (F:=F) hr (.mk S1' R0) ∅ h8 (by rw[zK];have:=zS g.a;omega);have own_lt:∀n∈nd::ns::nw::ca,n<H.length:=λn hn=>by
   simp only[zb] at hn;rcases hn with rfl | rfl | rfl | hn
   .exact zS S0.g.d
   .exact zS S0.g.s
   .exact zS S0.g.w
   .obtain⟨c,hc⟩:=jB.mp hn
    have h1:c<cs.length:=by rw[<-S0.cl];exact zS hc
    exact zS (S0.ce c n cs[c] hc (zE h1))
  have L0:Lp (H++[.lst []]) na nd ns nw nr np H.length ca r []:=⟨g1,at0 _ _,ap,λz=>jE _ (own_lt _ z),λz=>by
   have h1:=zS g.r;have h2:=zS g.a;have h3:=zS g.p;simp only[zb,zc,zQ] at z
   omega,ha⟩
  have L1:=L0.mv f1 hc1;obtain⟨n,H',ca',s',e2,R2,L2,f2,hc2,q4,q5⟩:=rF (F:=F) hr T R1 L1 ∅ ∅ (λz=>by have:=q3 z;refine⟨by omega,by omega,?_⟩;simp only[zV];omega);rw[kE] at L2;have hcF:∀n∈ca',n∈ca\/H.length<=n:=λn hn=>by
   rcases hc2 n hn with y | y
   .rcases hc1 n y with z | z
    .exact .inl z
    .rw[zK] at z;exact .inr ∅
   .have:=f1.l;rw[zK] at this;exact .inr ∅
  have hcG:∀n∈ca1,n∈ca\/H.length<=n:=λn hn=>by
   rcases hc1 n hn with z | z
   .exact .inl z
   .rw[zK] at z;exact .inr ∅
  have raw:kd 2 1 (aH (step (step (step (step (step F)))))) [.ref nd,.ref nr] H=some (.ref H.length,H'):=by
   refine xo (ρ:=[some (.ref nd),some (.ref nr),none]) rfl rfl ?_;rw[Us,zt s1,zt (KJ S1'.g rfl e1),zt (u4 e2)];rfl
  have ne:H'[ns]?≠some (.lst st):=by
   cases R2 with | @ret st2 _ _ _ _ S2=>
   have z2:st2=[]:=jP.mp (by rw[S2.sr.len];rfl);rw[S2.g.s,z2];intro z;injection z with z;injection z with z;have:=S0.sr.len;rw[<-z] at this;simp at this
  refine⟨.ref H.length,H',ca',s',wf raw S0.g.s ne,.inr ⟨H.length,rfl,zg _,L2.a⟩,R2,L2.g,?_,hcF,by omega,q5⟩;have f0:Fm ((nd::ns::nw::ca)++[nr,na,np]) H H1:=(Fm.app _).trans (f1.sub λn hn=>jZ _ hn);refine⟨zT f0.l f2.l,λn o hn e=>f2.k n o (λz=>?_) (f0.k n o hn e)⟩;have nl:=zS e;simp only[zW,j8] at hn;simp only[zb (a:=n) (b:=nd),zb (a:=n) (b:=ns),zb (a:=n) (b:=nw)] at z;rcases z with h | h | h | h
  .exact hn.1 (by simp[h])
  .exact hn.1 (by simp[h])
  .exact hn.1 (by simp[h])
  .rcases zW.mp h with h | h
   .rcases hcG n h with y | y
    .exact hn.1 (by simp[y])
    .omega
   .have:n∈[nr,na,np]\/n=H.length:=by simpa[or_assoc] using h
    rcases this with y | y
    .exact hn.2 y
    .omega
inductive Dp:Tr Int->Nat->Prop
 | ret {v:Int} {c:Nat}:Dp (.ret v) c
 | tch {t:Tch} {k:Int->Tr Int} {c:Nat} (h:∀v,Dp (k v) c):Dp (.tch t k) (c+1)
def Dp.up{T:Tr Int}{c:Nat}(h:Dp T c):Dp T (c+1):=by
 induction h with
 | ret=>exact .ret
 | tch _ ih=>exact .tch ih
def Rep.dp{T:Tr Int}{c:Nat}(h:Rep rs stk ws cs T c):Dp T c:=by
 induction h with
 | done=>exact .ret
 | gg _ _ ih=>exact ih.up
 | tch _ _ ih=>exact .tch ih
theorem Dp.sp{T:Tr Int}{c:Nat}(h:Dp T c):∀r,(ky T r).2.1.sp.length<=r.sp.length+c/\(ky T r).2.1.ans=r.ans:=by
 induction h with
 | ret=>intro r;exact⟨by simp[ky],rfl⟩
 | @tch t k c h ih=>
  intro r;have:=ih (kS t r).1 (kS t r).2;have sp:=sG t r;have an:=mE t r;simp only[ky];exact⟨by omega,this.2.trans an⟩
end
structure Do where
 nd:Nat
 ns:Nat
 nw:Nat
 ca:List Nat
 s:Nat
 T:Tr Int
 c:Nat
noncomputable abbrev Do.own(d:Do):List Nat:=d.nd::d.ns::d.nw::d.ca
structure Wd(B:MH)(na:Nat)(rs:List Rule)(H:MH)(nr np n0:Nat)(L:List Do)(r:Rm):Prop where
 ac:∀(j:Nat) (d:Do),L[j]?=some d->Ac na rs H d.nd d.ns d.nw d.ca d.s d.T d.c/\10<=d.s/\d.s+5*d.c+200<=cap
 dj:∀(i j:Nat) (d e:Do),i≠j->L[i]?=some d->L[j]?=some e->Ap d.own e.own
 rm:∀(j:Nat) (d:Do),L[j]?=some d->Ap d.own [nr,na,np]/\n0∉d.own
 g:RmR H nr na np r
 l:H[n0]?=some (.lst (L.map λd=>.ref d.nd))
 n:n0∉[nr,na,np]
 an:r.ans.length<=cap
 b:r.sp.length+(L.map Do.c).sum<cap
 p:B<+:H
 lo:∀(j:Nat) (d:Do),L[j]?=some d->∀n∈d.own,B.length<=n
 lr:∀n∈[nr,na,np],B.length<=n
section
variable{B:MH}{na:Nat}{rs:List Rule}{H H':MH}{nr np n0:Nat}{L:List Do}{r r':Rm}{F:Fs}
def Ac.lt{c:Nat}{T:Tr Int}(A:Ac na rs H nd ns nw ca s T c):∀n∈nd::ns::nw::ca,n<H.length:=λn hn=>by
 obtain⟨S0,R0⟩:=A;rename_i st stk ws cs;simp only[zb] at hn;rcases hn with rfl | rfl | rfl | hn
 .exact zS S0.g.d
 .exact zS S0.g.s
 .exact zS S0.g.w
 .obtain⟨c,hc⟩:=jB.mp hn
  have h1:c<cs.length:=by rw[<-S0.cl];exact zS hc
  exact zS (S0.ce c n cs[c] hc (zE h1))
theorem sum_set(f:Do->Nat):∀{L:List Do} {j:Nat} {d d':Do},L[j]?=some d->((L.set j d').map f).sum+f d=(L.map f).sum+f d'
 | [],_,_,_,h=>by simp at h
 | x::L,0,d,d',h=>by simp at h;subst h;simp;omega
 | x::L,j+1,d,d',h=>by
  have:=sum_set f (L:=L) (j:=j) (d:=d) (d':=d') (by simpa using h);simp only[List.set_cons_succ,zq,yL];omega
def Fm.pre(f:Fm A H H')(p:B<+:H)(h:∀n∈A,B.length<=n):B<+:H':=by
 rw[List.prefix_iff_getElem?] at p ⊢;intro i hi;exact f.k i _ (λz=>by have:=h i z;omega) (p i hi)
def Wd.adv(w:Wd B na rs H nr np n0 L r){d:Do}(hj:L[j]?=some d)(A:Ac na rs H' d.nd d.ns d.nw ca' s' T' c')(h8:10<=s')(hs:s'+5*c'+200<=cap)(g:RmR H' nr na np r')(fm:Fm (d.own++[nr,na,np]) H H')(hc:∀n∈ca',n∈d.ca\/H.length<=n)(hb:r'.sp.length+c'<=r.sp.length+d.c)(ha:r'.ans=r.ans):Wd B na rs H' nr np n0 (L.set j ⟨d.nd,d.ns,d.nw,ca',s',T',c'⟩) r':=by
 have old:∀n∈(⟨d.nd,d.ns,d.nw,ca',s',T',c'⟩:Do).own,n∈d.own\/H.length<=n:=λn hn=>by
  simp only[zb] at hn ⊢;rcases hn with h | h | h | h
  .exact .inl (.inl h)
  .exact .inl (.inr (.inl h))
  .exact .inl (.inr (.inr (.inl h)))
  .rcases hc n h with y | y
   .exact .inl (.inr (.inr (.inr y)))
   .exact .inr y
 have dic:DicP na H H':=Qd fm λa ha hn l=>by
  rcases zW.mp ha with z | z
  .obtain⟨S,_⟩:=(w.ac j d hj).1
   exact S.nodic a z hn l
  .exact w.g.nodic a z hn l
 have other:∀i e,i≠j->L[i]?=some e->Ap e.own (d.own++[nr,na,np]):=λi e hi he n hn z=>by
  rcases zW.mp z with z | z
  .exact w.dj i j e d hi he hj n hn z
  .exact(w.rm i e he).1 n hn z
 have get:∀i e,(L.set j ⟨d.nd,d.ns,d.nw,ca',s',T',c'⟩)[i]?=some e->(i=j/\e=⟨d.nd,d.ns,d.nw,ca',s',T',c'⟩)\/(i≠j/\L[i]?=some e):=λi e h=>by
  by_cases q:i=j
  .subst q
   rw[zL (zS hj)] at h;injection h with h;exact .inl ⟨rfl,h.symm⟩
  .rw[zJ (kY q)] at h
   exact .inr ⟨q,h⟩
 have n0lt:=zS w.l;refine⟨λi e h=>?_,λi k e1 e2 hik h1 h2=>?_,λi e h=>?_,g,?_,w.n,by rw[ha];exact w.an,?_,?_,λi e h=>?_,w.lr⟩
 .rcases get i e h with ⟨rfl,rfl⟩ | ⟨hi,he⟩
  .exact⟨A,h8,hs⟩
  .obtain⟨⟨S,R⟩,h1,h2⟩:=w.ac i e he
   exact⟨⟨S.frame fm dic (other i e hi he),R⟩,h1,h2⟩
 .rcases get i e1 h1 with ⟨rfl,rfl⟩ | ⟨hi,he⟩<;>rcases get k e2 h2 with ⟨rfl,rfl⟩ | ⟨hk,he2⟩
  .exact absurd rfl hik
  .intro n hn z
   rcases old n hn with y | y
   .exact w.dj i k d e2 (kY hk) hj he2 n y z
   .have:=(w.ac k e2 he2).1.lt n z;omega
  .intro n hn z
   rcases old n z with y | y
   .exact w.dj i k e1 d hi he hj n hn y
   .have:=(w.ac i e1 he).1.lt n hn;omega
  .exact w.dj i k e1 e2 hik he he2
 .rcases get i e h with ⟨rfl,rfl⟩ | ⟨hi,he⟩
  .refine⟨λn hn z=>?_,λz=>?_⟩
   .rcases old n hn with y | y
    .exact(w.rm i d hj).1 n y z
    .have h1:=zS w.g.r
     have h2:=zS w.g.a;have h3:=zS w.g.p;simp only[zb,zc,zQ] at z;omega
   .rcases old n0 z with y | y
    .exact(w.rm i d hj).2 y
    .omega
  .exact w.rm i e he
 .have:(L.set j ⟨d.nd,d.ns,d.nw,ca',s',T',c'⟩).map (λd=>W.ref d.nd)=L.map λd=>.ref d.nd:=by
   rw[List.map_set];refine set_same ?_;rw[jb,hj];rfl
  rw[this];refine fm.k _ _ (λz=>?_) w.l;rcases zW.mp z with z | z
  .exact(w.rm j d hj).2 z
  .exact w.n z
 .have:=sum_set Do.c (d':=⟨d.nd,d.ns,d.nw,ca',s',T',c'⟩) hj
  have:=w.b;simp only at *;omega
 .refine fm.pre w.p λn hn=>?_
  rcases zW.mp hn with z | z
  .exact w.lo j d hj n z
  .exact w.lr n z
 .rcases get i e h with ⟨rfl,rfl⟩ | ⟨hi,he⟩
  .intro n hn
   rcases old n hn with y | y
   .exact w.lo i d hj n y
   .exact zT w.p.length_le y
  .exact w.lo i e he
noncomputable def vn(p:List (Tr Int)×Rm)(n:Int):List (Tr Int)×Rm:=if 0<=n/\n<p.1.length then (match p.1[n.toNat]? with
 | some T=>(p.1.set n.toNat (stepT T p.2).1,(stepT T p.2).2)
 | none=>p) else p
noncomputable def xb:List (Tr Int)->Rm->List Int×Rm
 | [],r=>([],r)
 | T::Ts,r=>((ky T r).1::(xb Ts (ky T r).2.1).1,(xb Ts (ky T r).2.1).2)
noncomputable def trees(L:List Do):List (Tr Int):=L.map Do.T
def Wd.turn(hr:RsOk rs)(w:Wd B na rs H nr np n0 L r){d:Do}(hj:L[j]?=some d):∃H' d',(step (step (step (step (step (step F)))))).bx [.ref d.nd,.ref nr] H=some (.non,H')/\Wd B na rs H' nr np n0 (L.set j d') (stepT d.T r).2/\d'.T=(stepT d.T r).1:=by
 obtain⟨A,h8,hs⟩:=w.ac j d hj;have b:=w.b;have sl:=sum_set Do.c (d':=⟨0,0,0,[],0,.ret 0,0⟩) hj;obtain⟨H',ca',s',c',e,A',g',fm,hc,q1,q2,q3,q4⟩:=Cu (F:=F) hr A w.g (w.rm j d hj).1 hs h8 (by simp only at sl;omega) w.an;exact⟨H',_,e,w.adv hj A' q2 ∅ g' fm hc q3 q4,rfl⟩
def Wd.end1(hr:RsOk rs)(w:Wd B na rs H nr np n0 L r){d:Do}(hj:L[j]?=some d):∃v H' d',(step (step (step (step (step (step F)))))).aD [.ref d.nd,.ref nr] H=some (v,H')/\Wd B na rs H' nr np n0 (L.set j d') (ky d.T r).2.1/\d'.T=.ret (ky d.T r).1/\d'.c=0:=by
 obtain⟨A,h8,hs⟩:=w.ac j d hj;have b:=w.b;have sl:=sum_set Do.c (d':=⟨0,0,0,[],0,.ret 0,0⟩) hj;obtain⟨v,H',ca',s',e,hh,R',g',fm,hc,z1,z2⟩:=W6 (F:=F) hr A w.g (w.rm j d hj).1 hs h8 (by simp only at sl;omega) w.an;obtain⟨S0,R0⟩:=A;have dp:=R0.dp.sp r;cases R' with | @ret st ws cs _ _ S=>
 exact⟨v,H',_,e,w.adv hj (c':=0) (T':=.ret (ky d.T r).1) (.mk S .done) z1 ∅ g' fm hc ∅ dp.2,rfl,rfl⟩
end
section
variable{B:MH}{na:Nat}{rs:List Rule}{H:MH}{nr np n0:Nat}{L:List Do}{r:Rm}{F:Fs}
noncomputable abbrev ρB(a b c d e:W)(nr n0:Nat)(o7 o8 o9:Option W):En:=[some a,some b,some c,some d,some e,some (.ref nr),some (.ref n0),o7,o8,o9]
noncomputable def G6(F:Fs):Fs:=step (step (step (step (step (step F)))))
theorem hV(hr:RsOk rs){c:W}:∀(ns:List Int) {H:MH} {L:List Do} {r:Rm} (o7:Option W),Wd B na rs H nr np n0 L r->∃H' L' r' o7',forL (zC 7) (JM (G6 F)) (ns.map .int) (ρB a b c d e nr n0 o7 none none) H=some (.nx (ρB a b c d e nr n0 o7' none none),H')/\Wd B na rs H' nr np n0 L' r'/\(trees L',r')=ns.foldl vn (trees L,r)
 | [],H,L,r,o7,w=>⟨H,L,r,o7,rfl,w,rfl⟩
 | n::ns,H,L,r,o7,w=>by
  have e1:zC 7 (.int n) (ρB a b c d e nr n0 o7 none none) H=some (ρB a b c d e nr n0 (some (.int n)) none none,H):=rfl;have wl:=w.l;have len:(trees L).length=L.length:=by unfold trees;rw[zB]
  by_cases q:0<=n/\n<(L.length:Int)
  .have lt:n.toNat<L.length:=by omega
   have hj:L[n.toNat]?=some L[n.toNat]:=zE lt;obtain⟨H1,d',e2,w1,dT⟩:=w.turn (F:=F) hr hj;obtain⟨H',L',r',o7',e3,w2,tr⟩:=hV hr ns (some (.int n)) w1;refine⟨H',L',r',o7',?_,w2,?_⟩
   .simp only[zq]
    unfold forL;rw[e1];simp only;have cond:ke (u5 W9 ii (eC (.int 0)) (ze 7) (zh kH [ze 6])) (ρB a b c d e nr n0 (some (.int n)) none none) H=some (true,H):=by
     simp![vT,q.1,kH,getL,wl,q.2]
    have ix:zv (.ref n0) (.int n) H=some (.ref L[n.toNat].nd,H):=by
     have:L2.atI (L.map λd=>W.ref d.nd) n=some (.ref L[n.toNat].nd):=by
      obtain⟨k,hk⟩:=jG q.1;subst hk;exact ZC (by rw[jb];simp only[jw] at hj ⊢;rw[hj];rfl)
     simp only[zv,getL,wl,this]
    have body:JM (G6 F) (ρB a b c d e nr n0 (some (.int n)) none none) H=some (.nx (ρB a b c d e nr n0 (some (.int n)) none none),H1):=by
     refine sE cond (vb (w:=.non) ?_);simp only[zh,ko,bnd,zi,ze,zG,zp,ix];exact e2
    rw[body];exact e3
   .rw[tr,jQ]
    congr 1
    unfold vn;have hT:(trees L)[n.toNat]?=some L[n.toNat].T:=by unfold trees;rw[jb,hj];rfl
    simp only[len,q,and_self,kW,hT];congr 1
    unfold trees;rw[List.map_set,dT]
  .obtain⟨H',L',r',o7',e3,w2,tr⟩:=hV hr ns (some (.int n)) w
   refine⟨H',L',r',o7',?_,w2,?_⟩
   .simp only[zq]
    unfold forL;rw[e1];simp only;have cond:ke (u5 W9 ii (eC (.int 0)) (ze 7) (zh kH [ze 6])) (ρB a b c d e nr n0 (some (.int n)) none none) H=some (false,H):=by
     by_cases q1:0<=n
     .have q2:¬n<(L.length:Int):=λz=>q ⟨q1,z⟩
      simp![vT,q1,kH,getL,wl,q2]
     .simp![vT,q1]
    have body:JM (G6 F) (ρB a b c d e nr n0 (some (.int n)) none none) H=some (.nx (ρB a b c d e nr n0 (some (.int n)) none none),H):=iq cond;rw[body];exact e3
   .rw[tr,jQ]
    congr 1
    unfold vn;simp only[len,q,jq]
theorem pI(hr:RsOk rs){c d:W}:∀(L2:List Do) {H:MH} {L1:List Do} {r:Rm} (o8:Option W) (k:Nat),Wd B na rs H nr np n0 (L1++L2) r->L2.length<k->(∀d∈L1,d.c=0)->∃H' L' o8',uO (.live n0) (zC 8) (WQ (G6 F)) k L1.length (ρB a b c d e nr n0 o7 o8 o9) H=some (.nx (ρB a b c d e nr n0 o7 o8' o9),H')/\Wd B na rs H' nr np n0 (L1++L') (xb (trees L2) r).2/\trees L'=(xb (trees L2) r).1.map .ret/\∀d∈L1++L',d.c=0
 | [],H,L1,r,o8,0,w,hk,h0=>by simp at hk
 | [],H,L1,r,o8,k+1,w,hk,h0=>by
  refine⟨H,[],o8,?_,w,rfl,by simpa using h0⟩;have wl:=w.l;rw[kj] at wl;unfold uO;simp only[xt,wl];rw[jV (by simp)]
 | x::L2,H,L1,r,o8,0,w,hk,h0=>by simp at hk
 | x::L2,H,L1,r,o8,k+1,w,hk,h0=>by
  have hj:(L1++x::L2)[L1.length]?=some x:=by rw[zH (zg _),qj];rfl
  obtain⟨v,H1,d',e2,w1,dT,dc⟩:=w.end1 (F:=F) hr hj;have st:(L1++x::L2).set L1.length d'=(L1++[d'])++L2:=by
   rw[jU _ _ (zg _),qj,kZ];rfl
  rw[st] at w1
  obtain⟨H',L',o8',e3,w2,tr,z⟩:=pI hr L2 (some (.ref x.nd)) k w1 (by simp only[zm] at hk;omega) (λd hd=>by
   rcases zW.mp hd with y | y
   .exact h0 d y
   .simp at y;subst y;exact dc)
  refine⟨H',d'::L',o8',?_,?_,?_,?_⟩
  .have wl:=w.l
   have at_:((L1++x::L2).map λd=>W.ref d.nd)[L1.length]?=some (.ref x.nd):=by rw[jb,hj];rfl
   unfold uO;simp only[xt,wl,at_];have e1:zC 8 (.ref x.nd) (ρB a b c d e nr n0 o7 o8 o9) H=some (ρB a b c d e nr n0 o7 (some (.ref x.nd)) o9,H):=rfl;rw[e1];simp only;have body:WQ (G6 F) (ρB a b c d e nr n0 o7 (some (.ref x.nd)) o9) H=some (.nx (ρB a b c d e nr n0 o7 (some (.ref x.nd)) o9),H1):=by
    refine vb (w:=v) ?_;simp only[zh,ko,bnd,ze,zG,zp];exact e2
   rw[body];simp only[zK,zm,zV] at e3;exact e3
  .rw[kZ] at w2
   exact w2
  .simp only[trees,zq,xb,dT]
   congr 1
  .intro d hd
   exact z d (by rw[kZ];exact hd)
theorem lV{h:MH}{l:List W}{f:W->W}(hn:h[n]?=some (.lst l))(hm:∀w∈l,∀X,m [some w] (h++X)=some (f w,h++X))(hl:l.length<=cap):∀(k i:Nat) (acc:List W) (o:Option W),i<=l.length->l.length<i+k->acc.length+(l.length-i)<=cap->xA (.live n) 1 (zC 0) kG m h.length k i [o] (h++[.lst acc])=some (h++[.lst (acc++(l.drop i).map f)])
 | 0,i,acc,o,hi,hk,ha=>by omega
 | k+1,i,acc,o,hi,hk,ha=>by
  have hn':(h++[MO.lst acc])[n]?=some (.lst l):=by rw[zA (zS hn)];exact hn
  unfold xA;simp only[xt,hn'];by_cases q:i<l.length
  .rw[zE q]
   have g:zC 0 l[i] [o] (h++[.lst acc])=some ([some l[i]],h++[.lst acc]):=rfl;simp only[g,kG,hm l[i] (List.getElem_mem q) [.lst acc],at0];rw[zY ∅,mG];show xA (.live n) 1 (zC 0) kG m h.length k (i+1) [none] _=_
   rw[lV hn hm hl k (i+1) (acc++[f l[i]]) none ∅ ∅ (by simp;omega)];rw[qN q,zq,kZ];rfl
  .rw[jV ∅,yP ∅,jd,kj]
def JE{h:MH}{l:List W}{f:W->W}(hi:mi ρ h=some (.ref n,h))(hn:h[n]?=some (.lst l))(hm:∀w∈l,∀X,m [some w] (h++X)=some (f w,h++X))(hl:l.length<=cap)(hf:∀w∈l,low h.length (f w)=true):ja (qS mi) 1 [] (zC 0) kG m ρ h=some (.fls (l.map f),h):=by
 have e:=lV hn hm hl (l.length+1) 0 [] none ∅ ∅ (by simp;omega);rw[wI,kE] at e;unfold ja uS;have es:qS mi ρ h=some (.live n,h):=by simp only[qS,bnd,hi,srcOf,hn]
 rw[es];have sl:eT (.live n) h=l.length:=by simp only[eT,hn]
 simp only[sl];have er:(List.replicate 1 (none:Option W)++([]:List Nat).map λk=>(ρ[k]?).join)=[none]:=rfl;rw[er,e];simp only[at0];rw[zY];refine⟨jj _ _,yk λw hw=>?_⟩;obtain⟨w',h1,rfl⟩:=kO.mp hw;exact hf w' h1
def Ub(A:Ac na rs H nd ns nw ca s (.ret v) 0)(X:MH):kb (mt (step F)) "came_to" (ze 0) [] [some (.ref nd)] (H++X)=some (.int v,H++X):=by
 obtain⟨S,R⟩:=A;cases R with | @done v ws cs _=>
 have S1':=S.app X;rw[wm (F:=step F) S1'.g.d (nP ⋯ ⋯ ⋯ ⋯) (YH _) (mo:=ze 0) rfl (ws:=[]) (H1:=H++X) rfl];exact Ct S1'.g (ft v ws) vv
def Wu(w:Wd B na rs H nr np n0 L r){vs:List Int}(ht:trees L=vs.map .ret)(h0:∀d∈L,d.c=0)(hi:ze 6 ρ H=some (.ref n0,H))(hl:L.length<=1000):ja (qS (ze 6)) 1 [] (zC 0) kG (kb (mt (step F)) "came_to" (ze 0) []) ρ H=some (.fls (vs.map .int),H):=by
 have hd:∀d∈L,∃v,d.T=.ret v/\∀X,kb (mt (step F)) "came_to" (ze 0) [] [some (.ref d.nd)] (H++X)=some (.int v,H++X):=λd hd=>by
  obtain⟨j,hj⟩:=jB.mp hd;have A:=(w.ac j d hj).1;have:(trees L)[j]?=some d.T:=by unfold trees;rw[jb,hj];rfl
  rw[ht,jb] at this;cases e:vs[j]? with
  | none=>rw[e] at this;cases this
  | some v=>
   rw[e] at this;injection this with this;rw[<-this,h0 d hd] at A;exact⟨v,this.symm,Ub A⟩
 have c:=JE (h:=H) (n:=n0) (l:=L.map λd=>.ref d.nd) (m:=kb (mt (step F)) "came_to" (ze 0) []) (f:=λw=>match kb (mt (step F)) "came_to" (ze 0) [] [some w] H with | some (v,_)=>v | none=>.non) hi w.l (λx hx X=>by
  obtain⟨d,hm,rfl⟩:=kO.mp hx;obtain⟨v,_,e⟩:=hd d hm;have e0:=e [];rw[kj] at e0;rw[e X,e0]) (by rw[zB];exact zT hl (by decide)) (λx hx=>by
  obtain⟨d,hm,rfl⟩:=kO.mp hx;obtain⟨v,_,e⟩:=hd d hm;have e0:=e [];rw[kj] at e0;rw[e0]
  exact vv)
 rw[c];congr 2
 congr 1
 rw[j0];have:∀(L:List Do) (vs:List Int),L.map Do.T=vs.map .ret->(∀d∈L,∃v,d.T=.ret v/\∀X,kb (mt (step F)) "came_to" (ze 0) [] [some (.ref d.nd)] (H++X)=some (.int v,H++X))->L.map ((λw=>match kb (mt (step F)) "came_to" (ze 0) [] [some w] H with | some (v,_)=>v | none=>.non)∘λd=>.ref d.nd)=vs.map W.int:=by
  intro L;induction L with
  | nil=>intro vs h _;cases vs with
   | nil=>rfl
   | cons _ _=>simp at h
  | cons d L ih=>
   intro vs h hd;cases vs with
   | nil=>simp at h
   | cons v vs=>
    simp only[zq,jR] at h ⊢;obtain⟨v',e1,e2⟩:=hd d z9;have e0:=e2 [];rw[kj] at e0;rw[h.1] at e1;injection e1 with e1;refine⟨?_,ih vs h.2 λd hd'=>hd d (zP _ hd')⟩;simp only[Function.comp,e0,e1]
 exact this L vs ht hd
theorem sJ{h:MH}{f:W->W}:∀(l acc:List W) (o:Option W),(∀w∈l,∀X,m (some w::caps) (h++X)=some (f w,h++X))->acc.length+l.length<=cap->vw 1 (zC 0) kG m h.length l (o::caps) (h++[.lst acc])=some (h++[.lst (acc++l.map f)])
 | [],acc,o,_,_=>by simp[vw]
 | w::l,acc,o,hm,hl=>by
  simp only[zm] at hl;have g:zC 0 w (o::caps) (h++[.lst acc])=some (some w::caps,h++[.lst acc]):=by simp[zC]
  unfold vw;simp only[g,kG,hm w z9 [.lst acc],at0];rw[zY ∅,mG];show vw 1 (zC 0) kG m h.length l (none::caps) _=_
  rw[sJ l (acc++[f w]) none (λw hw=>hm w (zP _ hw)) (by simp;omega),kZ];rfl
def Zg{h:MH}{ks:List Nat}{l:List W}{f:W->W}{ρ:En}(hi:mi ρ h=some (.items l,h))(hm:∀w∈l,∀X,m (some w::ks.map λk=>(ρ[k]?).join) (h++X)=some (f w,h++X))(hl:l.length<=cap)(hf:∀w∈l,low h.length (f w)=true):ja mi 1 ks (zC 0) kG m ρ h=some (.fls (l.map f),h):=by
 have e:=sJ (caps:=ks.map λk=>(ρ[k]?).join) l [] none hm (by simpa using hl);unfold ja uS;rw[hi];simp only;have er:(List.replicate 1 (none:Option W)++ks.map λk=>(ρ[k]?).join)=none::ks.map λk=>(ρ[k]?).join:=rfl
 rw[er,e];simp only[kE,at0];rw[zY];refine⟨jj _ _,yk λw hw=>?_⟩;obtain⟨w',h1,rfl⟩:=kO.mp hw;exact hf w' h1
noncomputable def kA(st:Str->Int):W:=.tup (SH.map λv=>.int (st v))
def iF:low m (kA st)=true:=by
 unfold kA low;exact yk λw hw=>by obtain⟨v,_,rfl⟩:=kO.mp hw;exact vv
theorem f_store(F:Fs):(step F).b8=gc (kd 1 0 (bC F)):=rfl
theorem f_said(F:Fs):(step F).cF=gc (kd 1 0 (bU F)):=rfl
theorem X0(g:RmR H nr na np r)(e1:mo ρ H=some (.ref nr,H)):kb (mt (step F)) "store" mo [] ρ H=some (kA r.st,H):=by
 rw[wm (F:=step F) g.r (U2 ⋯ ⋯ ⋯ ⋯) (Wr _) e1 (ws:=[]) (H1:=H) rfl,f_store];refine c8 (xo (ρ:=[some (.ref nr)]) rfl rfl ?_) iF;have c:=Zg (mi:=qS (eC qf)) (ks:=[0]) (m:=zi qv (kN kz "shelves" (ze 1)) (ze 0)) (ρ:=[some (.ref nr)]) (h:=H) (l:=SH.map .str) (f:=λw=>match w with | .str v=>.int (r.st v) | w=>w)
  (by simp only[qS,bnd,eC,qf,srcOf];rfl) (λw hw X=>by
   obtain⟨v,hv,rfl⟩:=kO.mp hw;have g1:RmR (H++X) nr na np r:=g.frame (B:=[]) (Fm.app _) (λn _ z=>by simp at z);have f1:=g1.fS;have f2:=g1.a;simp only[zi,bnd,kN,ze,zq,jd,zG,zp,qO,f1,qv,yT,f2,keyOf,lC hv]) ⋯ (λw hw=>by
   obtain⟨v,_,rfl⟩:=kO.mp hw
   exact vv)
 unfold bC;simp only[ku,zh,ko,bnd,c,xE,getL];unfold kA;rw[j0];rfl
def Cb(g:RmR H nr na np r)(e1:mo ρ H=some (.ref nr,H)):kb (mt (step F)) "said" mo [] ρ H=some (.fls (r.sp.map .int),H):=by
 rw[wm (F:=step F) g.r (U2 ⋯ ⋯ ⋯ ⋯) (Y5 _) e1 (ws:=[]) (H1:=H) rfl,f_said];have lw:low H.length (.fls (r.sp.map .int))=true:=tY λw hw=>by obtain⟨v,_,rfl⟩:=kO.mp hw;exact vv
 refine c8 (xo (ρ:=[some (.ref nr)]) rfl rfl ?_) lw;have f1:=g.fP;have f2:=g.p;unfold bU;simp only[ku,zh,ko,bnd,kN,ze,zp,f1,fy,xS,getL,f2]
end
theorem Kn{H:MH}:(H++o::X)[H.length]?=some o:=by rw[zH (zg _),qj];rfl
theorem BO{H:MH}:(H++o::X).set H.length o'=H++o'::X:=by rw[jU _ _ (zg _),qj];rfl
theorem nJ:∀(ks l:List (Key×W)),((l++ks).map (·.1)).Nodup->qB l ks=l++ks
 | [],l,_=>by simp[qB]
 | p::ks,l,h=>by
  have na:(l.any λkv=>decide (kv.1=p.1))≠true:=λz=>by
   obtain⟨x,hx,e⟩:=qt.mp z;have e:=qF e;rw[qg,yc] at h;exact h.2.2 x.1 (kO.mpr ⟨x,hx,rfl⟩) p.1 (by simp) e
  have e:qB l (p::ks)=qB (jS l p.1 p.2) ks:=rfl;have e2:jS l p.1 p.2=l++[p]:=by unfold jS;rw[jc na]
  rw[e,e2,nJ ks (l++[p]) (by rw[kZ];exact h),kZ];rfl
def Jg{H:MH}:g8 [qf,kA st] H=some (.ref H.length,H++[.dic (vj st)]):=by
 have z:(SH.map W.str).zip (SH.map λv=>W.int (st v))=SH.map λv=>(.str v,.int (st v)):=by rw[List.zip_map']
 have k:keysOf (SH.map λv=>(W.str v,W.int (st v)))=some (vj st):=by
  unfold vj;generalize SH=l;induction l with
  | nil=>rfl
  | cons v l ih=>simp only[zq];unfold keysOf;rw[ih];rfl
 have m:qB [] (vj st)=vj st:=nJ _ _ (by
  rw[kE];unfold vj;rw[j0];show(SH.map λv=>(.inr v:Key)).Nodup
  decide +kernel)
 have c:qf=.tup (SH.map .str):=rfl;have kl:(vj st).length<=1000:=by unfold vj;rw[zB];decide
 rw[c];unfold kA;simp only[g8,iB,uE,z,k,kl,kW,m]
section
variable{B:MH}{na:Nat}{rs:List Rule}{H:MH}{nr np n0:Nat}{L:List Do}{r:Rm}{F:Fs}
def FV:vc kz 1 "shelves" = true/\vc kz 1 "answers" = true/\vc kz 1 "spoken" = true/\vc kz 1 "asks" = true:=by decide +kernel
def FR:(¬("shelves":Str)="answers")/\(¬("shelves":Str)="spoken")/\(¬("shelves":Str)="asks")/\(¬("answers":Str)="spoken")/\(¬("answers":Str)="asks")/\(¬("spoken":Str)="asks"):=by decide +kernel
def DV:(¬("rules":Str)="steps")/\(¬("rules":Str)="worths")/\(¬("rules":Str)="touch_ahead")/\(¬("steps":Str)="worths")/\(¬("steps":Str)="touch_ahead")/\(¬("worths":Str)="touch_ahead"):=by decide +kernel
theorem f_rinit(F:Fs):(step F).bH=gc (kd 3 0 (bL F)):=rfl
theorem f_dinit(F:Fs):(step F).bh=gc (kd 3 0 (bA F)):=rfl
def uu{f:Str}{H:MH}{c:Nat}{fs:List (Str×W)}(hp:xP f v fs=fs')(e:m (some (.ref H.length)::ρ) H1=some (v,H++.ins c fs::X))(hf:vc fl c f=true)(hl:fs.length<1000):zI m (x6 fl f (ze 0)) (some (.ref H.length)::ρ) H1=some (.nx (some (.ref H.length)::ρ),H++.ins c fs'::X):=by
 subst hp;have a:(H++.ins c fs::X)[H.length]?=some (.ins c fs):=Kn;simp only[zI,e,x6,bnd,ze,zp,fi,a,hf,hl,kW,BO]
def VY{ans:List Int}:(step F).bH [.ref H.length,kA st,.fls (ans.map .int)] (H++[.ins 1 []])=some (.non,H++[.ins 1 (xV (H.length+1) (H.length+2) (ans.map .int) 0),.dic (vj st),.lst []]):=by
 rw[f_rinit];obtain⟨f1,f2,f3,f4⟩:=FV;obtain⟨n1,n2,n3,n4,n5,n6⟩:=FR;refine eI (yi (ρ:=[some (.ref H.length),some (kA st),some (.fls (ans.map .int))]) (ρ':=[some (.ref H.length),some (kA st),some (.fls (ans.map .int))]) rfl rfl ?_);unfold bL;have z:=Jg (st:=st) (H:=H++[.ins 1 []]);rw[zK,kZ] at z
 rw[zt (uu (H:=H) (c:=1) (fs:=[]) (X:=[.dic (vj st)]) (v:=.ref (H.length+1)) (fs':=[("shelves",.ref (H.length+1))]) rfl (by
  simp only[aI,zh,ko,bnd,eC,ze,zG,zp]
  exact z) f1 (by simp))]
 rw[zt (uu (H:=H) (c:=1) (X:=[.dic (vj st)]) (v:=.fls (ans.map .int)) (fs:=[("shelves",.ref (H.length+1))]) (fs':=[("shelves",.ref (H.length+1)),("answers",.fls (ans.map .int))]) (by simp[xP,n1]) (by
  simp only[zh,ko,bnd,ze,zG,zp,fy,xS,getL]) f2 (by simp))]
 have c0:(0:Nat)<=cap:=by decide
 rw[zt (uu (H:=H) (c:=1) (X:=[.dic (vj st),.lst []]) (v:=.ref (H.length+2)) (fs:=[("shelves",.ref (H.length+1)),("answers",.fls (ans.map .int))]) (fs':=[("shelves",.ref (H.length+1)),("answers",.fls (ans.map .int)),("spoken",.ref (H.length+2))]) (by simp[xP,n2,n4]) (by
  simp only[zh,ko,bnd,xU,zV,c0,kW,zK,zm,kZ,jk,kE]) f3 (by simp))]
 rw[uu (H:=H) (c:=1) (X:=[.dic (vj st),.lst []]) (v:=.int 0) (fs:=[("shelves",.ref (H.length+1)),("answers",.fls (ans.map .int)),("spoken",.ref (H.length+2))]) (fs':=xV (H.length+1) (H.length+2) (ans.map .int) 0) (by simp[xP,n3,n5,n6]) rfl f4 (by simp)]
def Qw(hr:rl=.tup (kf rs)):(step F).bh [.ref H.length,rl,d] (H++[.ins 0 []])=some (.non,H++[.ins 0 (ya (kf rs) (H.length+1) (H.length+2) .non),.lst [.tup [.bl false,d,.fdc []]],.lst []]):=by
 subst hr;rw[f_dinit];obtain⟨n1,n2,n3,n4,n5,n6⟩:=DV;refine eI (yi (ρ:=[some (.ref H.length),some (.tup (kf rs)),some d]) (ρ':=[some (.ref H.length),some (.tup (kf rs)),some d]) rfl rfl ?_);unfold bA;have c0:(0:Nat)<=cap:=by decide
 have c1:(1:Nat)<=cap:=by decide
 have c3:(3:Nat)<=cap:=by decide
 rw[zt (uu (H:=H) (c:=0) (fs:=[]) (X:=[]) (v:=.tup (kf rs)) (fs':=[("rules",.tup (kf rs))]) rfl rfl f_rules (by simp))]
 rw[zt (uu (H:=H) (c:=0) (X:=[.lst [.tup [.bl false,d,.fdc []]]]) (v:=.ref (H.length+1)) (fs:=[("rules",.tup (kf rs))]) (fs':=[("rules",.tup (kf rs)),("steps",.ref (H.length+1))]) (by simp[xP,n1]) (by
  simp only[zh,ko,bnd,eC,ze,zG,zp,zw,zV,zm,c3,c1,kW,xU,zK,kZ,jk,kE]) f_steps (by simp))]
 rw[zt (uu (H:=H) (c:=0) (X:=[.lst [.tup [.bl false,d,.fdc []]],.lst []]) (v:=.ref (H.length+2)) (fs:=[("rules",.tup (kf rs)),("steps",.ref (H.length+1))]) (fs':=[("rules",.tup (kf rs)),("steps",.ref (H.length+1)),("worths",.ref (H.length+2))]) (by simp[xP,n2,n4]) (by
  simp only[zh,ko,bnd,xU,zV,c0,kW,zK,zm,kZ,jk,kE]) f_worths (by simp))]
 rw[uu (H:=H) (c:=0) (X:=[.lst [.tup [.bl false,d,.fdc []]],.lst []]) (v:=.non) (fs:=[("rules",.tup (kf rs)),("steps",.ref (H.length+1)),("worths",.ref (H.length+2))]) (fs':=ya (kf rs) (H.length+1) (H.length+2) .non) (by simp[xP,n3,n5,n6]) rfl f_ahead (by simp)]
def Zy{ans:List Int}(e1:m1 ρ H=some (kA st,H))(e2:m2 ρ H=some (.fls (ans.map .int),H)):xR 1 (step (step F)).cX [m1,m2] ρ H=some (.ref H.length,H++[.ins 1 (xV (H.length+1) (H.length+2) (ans.map .int) 0),.dic (vj st),.lst []]):=by
 have e:(step (step F)).cX [.ref H.length,kA st,.fls (ans.map .int)] (H++[.ins 1 []])=_:=VY (F:=F) (H:=H) (st:=st) (ans:=ans);unfold xR;simp only[ko,bnd,e1,e2,e];rw[zY (by simp)]
def sv(e1:m1 ρ H=some (.tup (kf rs),H))(e2:m2 ρ H=some (d,H)):xR 0 (step (step F)).bW [m1,m2] ρ H=some (.ref H.length,H++[.ins 0 (ya (kf rs) (H.length+1) (H.length+2) .non),.lst [.tup [.bl false,d,.fdc []]],.lst []]):=by
 have e:(step (step F)).bW [.ref H.length,.tup (kf rs),d] (H++[.ins 0 []])=_:=Qw (F:=F) (H:=H) (d:=d) rfl;unfold xR;simp only[ko,bnd,e1,e2,e];rw[zY (by simp)]
theorem Zu(rs:List Rule)(d:D)(H:MH):Sim na rs (H++[.ins 0 (ya (kf rs) (H.length+1) (H.length+2) .non),.lst [.tup [.bl false,zk d,.fdc []]],.lst []]) H.length (H.length+1) (H.length+2) [] 10 [.tup [.bl false,zk d,.fdc []]] [(false,d,[])] [] [] .non:=by
 refine⟨⟨Kn,?_,?_,by omega,by omega,by omega⟩,StR.cons (st:=[]) .nil .nil,rfl,λc n i a=>by simp at a,vO,λn hn=>by simp at hn,by simp,by simp⟩
 .rw[zH ∅,show H.length+1-H.length=1 by omega];rfl
 .rw[zH ∅,show H.length+2-H.length=2 by omega];rfl
theorem ZD{ans:List Int}:RmR (H++[.ins 1 (xV (H.length+1) (H.length+2) (ans.map .int) 0),.dic (vj st),.lst []]) H.length (H.length+1) (H.length+2) ⟨st,ans,[],0⟩:=by
 refine⟨Kn,?_,?_,by omega,by omega,by omega⟩
 .rw[zH ∅,show H.length+1-H.length=1 by omega];rfl
 .rw[zH ∅,show H.length+2-H.length=2 by omega];rfl
end
section
variable{B:MH}{na:Nat}{rs:List Rule}{H:MH}{nr np n0:Nat}{L:List Do}{r:Rm}{F:Fs}
noncomputable abbrev blk(rs:List Rule)(d:D)(n:Nat):MH:=[.ins 0 (ya (kf rs) (n+1) (n+2) .non),.lst [.tup [.bl false,zk d,.fdc []]],.lst []]
def Wd.add(w:Wd B na rs H nr np n0 L r)(hn0:B.length<=n0){d:D}{T:Tr Int}{c:Nat}(R:Rep rs [(false,d,[])] [] [] T c)(hc:5*c+210<=cap)(hb:r.sp.length+((L.map Do.c).sum+c)<cap):Wd B na rs ((H++blk rs d H.length).set n0 (.lst ((L.map λd=>.ref d.nd)++[.ref H.length]))) nr np n0 (L++[⟨H.length,H.length+1,H.length+2,[],10,T,c⟩]) r:=by
 have n0lt:=zS w.l;have l1:(H++blk rs d H.length)[n0]?=some (.lst (L.map λd=>.ref d.nd)):=by rw[zA n0lt];exact w.l
 have f0:Fm [n0] (H++blk rs d H.length) ((H++blk rs d H.length).set n0 (.lst ((L.map λd=>.ref d.nd)++[.ref H.length]))):=Fm.set (by simp);have f1:Fm [n0] H ((H++blk rs d H.length).set n0 (.lst ((L.map λd=>.ref d.nd)++[.ref H.length]))):=(Fm.app _).trans f0;have d0:DicP na (H++blk rs d H.length) ((H++blk rs d H.length).set n0 (.lst ((L.map λd=>.ref d.nd)++[.ref H.length]))):=uA l1 (λ_=>nofun);have d1:DicP na H ((H++blk rs d H.length).set n0 (.lst ((L.map λd=>.ref d.nd)++[.ref H.length]))):=(uw _).trans d0
 have S:=(Zu (na:=na) rs d H).frame f0 d0 (λn hn z=>by
  simp only[zb,zc,zQ] at hn z
  omega)
 have get:∀i e,(L++[⟨H.length,H.length+1,H.length+2,[],10,T,c⟩])[i]?=some e->(i=L.length/\e=⟨H.length,H.length+1,H.length+2,[],10,T,c⟩)\/(i<L.length/\L[i]?=some e):=λi e h=>by
  by_cases q:i<L.length
  .rw[zA q] at h
   exact .inr ⟨q,h⟩
  .rw[zH ∅] at h
   have z:i-L.length=0:=by have:=zS h;simp at this;omega
   rw[z] at h;injection h with h;exact .inl ⟨by omega,h.symm⟩
 have ap0:∀(i:Nat) (e:Do),L[i]?=some e->Ap e.own [n0]:=λi e he n hn z=>by
  simp only[zb (a:=n) (b:=n0),zc,zQ] at z;exact(w.rm i e he).2 (z▸hn)
 have rlt:=λn hn=>Lp.lt' w.g n hn
 refine⟨λi e h=>?_,λi k e1 e2 hik h1 h2=>?_,λi e h=>?_,w.g.frame f1 (λn hn z=>?_),?_,w.n,w.an,?_,f1.pre w.p (λn hn=>?_),λi e h=>?_,w.lr⟩
 .rcases get i e h with ⟨rfl,rfl⟩ | ⟨hi,he⟩
  .exact⟨.mk S R,zg _,by simp only;omega⟩
  .obtain⟨⟨S,R⟩,h1,h2⟩:=w.ac i e he
   exact⟨⟨S.frame f1 d1 (ap0 i e he),R⟩,h1,h2⟩
 .rcases get i e1 h1 with ⟨rfl,rfl⟩ | ⟨hi,he⟩<;>rcases get k e2 h2 with ⟨rfl,rfl⟩ | ⟨hk,he2⟩
  .exact absurd rfl hik
  .intro n hn z
   have:=(w.ac k e2 he2).1.lt n z;simp only[zb,zc,zQ] at hn;omega
  .intro n hn z
   have:=(w.ac i e1 he).1.lt n hn;simp only[zb,zc,zQ] at z;omega
  .exact w.dj i k e1 e2 hik he he2
 .rcases get i e h with ⟨rfl,rfl⟩ | ⟨hi,he⟩
  .refine⟨λn hn z=>?_,λz=>?_⟩
   .have:=rlt n z
    simp only[zb,zc,zQ] at hn;omega
   .simp only[zb,zc,zQ] at z
    omega
  .exact w.rm i e he
 .simp only[zb (a:=n) (b:=n0),zc,zQ] at z
  exact w.n (z▸hn)
 .rw[qg]
  exact zL (zS l1)
 .simp only[qg,List.sum_append,zq,jd,yL,List.sum_nil]
  omega
 .simp only[zb,zc,zQ] at hn
  omega
 .rcases get i e h with ⟨rfl,rfl⟩ | ⟨hi,he⟩
  .intro n hn
   have:=w.p.length_le;simp only[zb,zc,zQ] at hn;omega
  .exact w.lo i e he
where
 Lp.lt' {H:MH} {nr na np:Nat} {r:Rm} (g:RmR H nr na np r):∀n∈[nr,na,np],n<H.length:=λn hn=>by
  simp only[zb,zc,zQ] at hn;rcases hn with rfl | rfl | rfl
  .exact zS g.r
  .exact zS g.a
  .exact zS g.p
theorem Zm(hC:5*C+210<=cap):∀(ds:List D) {H:MH} {L:List Do} (o:Option W),Wd B na rs H nr np n0 L r->B.length<=n0->(∀d∈ds,Rep rs [(false,d,[])] [] [] (tr d) C)->r.sp.length+((L.map Do.c).sum+ds.length*C)<cap->L.length+ds.length<=1000->
  ∃H' L',vw 1 (zC 0) kG (xR 0 (step (step F)).bW [ze 1,ze 0]) n0 (ds.map zk) [o,some (.tup (kf rs))] H=some H'/\Wd B na rs H' nr np n0 L' r/\trees L'=trees L++ds.map tr/\L'.length=L.length+ds.length
 | [],H,L,o,w,hn,hR,hb,hl=>⟨H,L,by simp[vw],w,by simp,by simp⟩
 | d::ds,H,L,o,w,hn,hR,hb,hl=>by
  simp only[zm,v7,Nat.one_mul] at hb hl;have w1:=w.add hn (hR d z9) hC ∅;obtain⟨H',L',e,w2,tr2,ln⟩:=Zm hC ds none w1 hn (λd hd=>hR d (zP _ hd)) (by simp only[qg,List.sum_append,zq,jd,yL,List.sum_nil];omega) (by simp;omega);refine⟨H',L',?_,w2,?_,?_⟩
  .simp only[zq]
   unfold vw;have g:zC 0 (zk d) [o,some (.tup (kf rs))] H=some ([some (zk d),some (.tup (kf rs))],H):=rfl;have m:=sv (F:=F) (rs:=rs) (H:=H) (d:=zk d) (ρ:=[some (zk d),some (.tup (kf rs))]) (m1:=ze 1) (m2:=ze 0) rfl rfl;have l1:(H++blk rs d H.length)[n0]?=some (.lst (L.map λd=>.ref d.nd)):=by rw[zA (zS w.l)];exact w.l
   simp only[g,kG];rw[m];simp only[l1];rw[zY (by rw[zB];exact zN (show L.length<1001 by omega) (by decide))];exact e
  .rw[tr2]
   simp[trees]
  .rw[ln]
   simp only[zK,zm,zV];omega
noncomputable def uD(q:List Int×Rm):W:=.tup [.fls (q.1.map .int),kA q.2.st,.fls (q.2.sp.map .int),.int q.2.k]
noncomputable def xi(Ts:List (Tr Int))(r:Rm)(ns:List Int):List Int×Rm:=xb (ns.foldl vn (Ts,r)).1 (ns.foldl vn (Ts,r)).2
def fx{l:List Int}:low m (.fls (l.map .int))=true:=tY λw hw=>by obtain⟨v,_,rfl⟩:=kO.mp hw;exact vv
theorem si{q:List Int×Rm}:low m (uD q)=true:=by
 unfold uD low lows;rw[fx];unfold lows;rw[iF];unfold lows;rw[fx];unfold lows;rw[vv];unfold lows;rfl
theorem f_by(F:Fs):(step F).aA=gc (kd 5 5 (cR F)):=rfl
theorem U1(F:Fs):cR F=zo (zI (xR 1 F.cX [ze 2,ze 3]) (zC 5)) (zo (zI (xD (qS (ze 1)) 1 [0] (zC 0) kG (xR 0 F.bW [ze 1,ze 0])) (zC 6)) (zo (yY (qS (ze 4)) (zC 7) (JM F)) (zo (yY (qS (ze 6)) (zC 8) (WQ F)) (zo (zI (ja (qS (ze 6)) 1 [] (zC 0) kG (kb (mt F) "came_to" (ze 0) [])) (zC 9)) (ku (zh zw [ze 9,kb (mt F) "store" (ze 5) [],kb (mt F) "said" (ze 5) [],kN kz "asks" (ze 5)])))))):=rfl
theorem sd:∀(Ts:List (Tr Int)) (r:Rm),(xb Ts r).1.length=Ts.length
 | [],r=>rfl
 | T::Ts,r=>by simp only[xb,zm];rw[sd Ts]
theorem sy(p:List (Tr Int)×Rm)(n:Int):(vn p n).1.length=p.1.length:=by
 unfold vn;split
 .split
  .simp
  .rfl
 .rfl
theorem nG:∀(ns:List Int) (p:List (Tr Int)×Rm),(ns.foldl vn p).1.length=p.1.length
 | [],p=>rfl
 | n::ns,p=>by rw[jQ,nG ns,sy]
theorem pM(hr:RsOk rs){ds:List D}{ans ns:List Int}(hC:5*C+210<=cap)(hR:∀d∈ds,Rep rs [(false,d,[])] [] [] (tr d) C)(hb:ds.length*C<cap)(hl:ds.length<=1000)(ha:ans.length<=cap)(H:MH) :
  (step (G6 F)).aA [.tup (kf rs),.fls (ds.map zk),kA st,.fls (ans.map .int),.fls (ns.map .int)] H=some (uD (xi (ds.map tr) ⟨st,ans,[],0⟩ ns),H):=by
 have c4:(4:Nat)<=cap:=by decide
 have g0:=ZD (H:=H) (st:=st) (ans:=ans);have mr:=Zy (F:=step (step (step (step F)))) (H:=H) (st:=st) (ans:=ans) (ρ:=[some (.tup (kf rs)),some (.fls (ds.map zk)),some (kA st),some (.fls (ans.map .int)),some (.fls (ns.map .int)),none,none,none,none,none]) (m1:=ze 2) (m2:=ze 3) rfl rfl;have p0:H<+:(H++[.ins 1 (xV (H.length+1) (H.length+2) (ans.map .int) 0),.dic (vj st),.lst []]:MH):=jj _ _;have len1:(H++[.ins 1 (xV (H.length+1) (H.length+2) (ans.map .int) 0),.dic (vj st),.lst []]:MH).length=H.length+3:=by rw[zK];rfl
 generalize (H++[.ins 1 (xV (H.length+1) (H.length+2) (ans.map .int) 0),.dic (vj st),.lst []]:MH)=H1 at g0 mr p0 len1;have w0:Wd H (H.length+1) rs (H1++[.lst []]) H.length (H.length+2) H1.length [] ⟨st,ans,[],0⟩:=
  ⟨λj d h=>by simp at h,λi j d e _ h=>by simp at h,λj d h=>by simp at h,g0.frame (B:=[]) (Fm.app _) (λn _ z=>by simp at z),at0 _ _,λz=>by simp only[zb,zc,zQ] at z;omega,ha,by simp;decide,p0.trans (jj _ _),λj d h=>by simp at h,λn hn=>by simp only[zb,zc,zQ] at hn;omega⟩
 obtain⟨H2,L,e2,w2,t2,l2⟩:=Zm (F:=step (step (step (step F)))) hC ds none w0 ∅ hR (by simpa using hb) (by simpa using hl);obtain⟨H3,L3,r3,o7,e3,w3,t3⟩:=hV (F:=F) (a:=.tup (kf rs)) (b:=.fls (ds.map zk)) (c:=kA st) (d:=.fls (ans.map .int)) (e:=.fls (ns.map .int)) hr ns none w2;have t2':trees L=ds.map tr:=by rw[t2];rfl
 have len3:L3.length=ds.length:=by
  have:(trees L3).length=ds.length:=by
   rw[show trees L3=(ns.foldl vn (trees L,⟨st,ans,[],0⟩)).1 by rw[<-t3],nG,t2',zB]
  simpa[trees] using this
 obtain⟨H4,L4,o8,e4,w4,t4,z4⟩:=pI (F:=F) (a:=.tup (kf rs)) (b:=.fls (ds.map zk)) (c:=kA st) (d:=.fls (ans.map .int)) (e:=.fls (ns.map .int)) (o7:=o7) (o9:=none) hr L3 (L1:=[]) none (L3.length+1) (by simpa using w3) ∅ (λd hd=>by simp at hd);rw[kE] at w4;simp only[kE] at z4;have q:xb (trees L3) r3=xi (ds.map tr) ⟨st,ans,[],0⟩ ns:=by
  unfold xi;rw[<-t2',<-t3]
 rw[q] at w4 t4;have ln4:L4.length=ds.length:=by
  have:(trees L4).length=ds.length:=by rw[t4,zB,<-q,sd];simpa[trees] using len3
  simpa[trees] using this
 have ca:=Wu (F:=step (step (step (step (step F))))) w4 t4 z4 (ρ:=ρB (.tup (kf rs)) (.fls (ds.map zk)) (kA st) (.fls (ans.map .int)) (.fls (ns.map .int)) H.length H1.length o7 o8 none) rfl ∅;have ms:=X0 (F:=step (step (step (step (step F))))) (mo:=ze 5) (ρ:=ρB (.tup (kf rs)) (.fls (ds.map zk)) (kA st) (.fls (ans.map .int)) (.fls (ns.map .int)) H.length H1.length o7 o8 (some (.fls ((xi (ds.map tr) ⟨st,ans,[],0⟩ ns).1.map .int)))) w4.g rfl;have md:=Cb (F:=step (step (step (step (step F))))) (mo:=ze 5) (ρ:=ρB (.tup (kf rs)) (.fls (ds.map zk)) (kA st) (.fls (ans.map .int)) (.fls (ns.map .int)) H.length H1.length o7 o8 (some (.fls ((xi (ds.map tr) ⟨st,ans,[],0⟩ ns).1.map .int)))) w4.g rfl;have mk:=w4.g.fK;have g6:step (step (step (step (step (step F)))))=G6 F:=rfl;rw[g6] at mr e2 ca ms md;rw[f_by];refine y7 (xo (ρ:=[some (.tup (kf rs)),some (.fls (ds.map zk)),some (kA st),some (.fls (ans.map .int)),some (.fls (ns.map .int)),none,none,none,none,none]) rfl rfl ?_) si w4.p (.inl nofun);rw[U1];rw[zt (ρ':=[some (.tup (kf rs)),some (.fls (ds.map zk)),some (kA st),some (.fls (ans.map .int)),some (.fls (ns.map .int)),some (.ref H.length),none,none,none,none]) (h':=H1) (u7 mr rfl)];rw[zt (ρ':=ρB (.tup (kf rs)) (.fls (ds.map zk)) (kA st) (.fls (ans.map .int)) (.fls (ns.map .int)) H.length H1.length none none none) (h':=H2) (u7 (iQ (h1:=H1) (l:=ds.map zk) rfl rfl e2) rfl)]
 rw[zt (ρ':=ρB (.tup (kf rs)) (.fls (ds.map zk)) (kA st) (.fls (ans.map .int)) (.fls (ns.map .int)) H.length H1.length o7 none none) (h':=H3) (by
  unfold yY;rw[show qS (ze 4) (ρB (.tup (kf rs)) (.fls (ds.map zk)) (kA st) (.fls (ans.map .int)) (.fls (ns.map .int)) H.length H1.length none none none) H2=some (.items (ns.map .int),H2) from rfl]
  exact e3)]
 have wl3:=w3.l
 rw[zt (ρ':=ρB (.tup (kf rs)) (.fls (ds.map zk)) (kA st) (.fls (ans.map .int)) (.fls (ns.map .int)) H.length H1.length o7 o8 none) (h':=H4) (by
  unfold yY;rw[show qS (ze 6) (ρB (.tup (kf rs)) (.fls (ds.map zk)) (kA st) (.fls (ans.map .int)) (.fls (ns.map .int)) H.length H1.length o7 none none) H3=some (.live H1.length,H3) by simp only[qS,bnd,ze,zG,zp,srcOf,wl3]];have sl:eT (.live H1.length) H3=L3.length:=by simp only[eT,wl3,zB]
  simp only[sl]
  exact e4)]
 rw[zt (ρ':=ρB (.tup (kf rs)) (.fls (ds.map zk)) (kA st) (.fls (ans.map .int)) (.fls (ns.map .int)) H.length H1.length o7 o8 (some (.fls ((xi (ds.map tr) ⟨st,ans,[],0⟩ ns).1.map .int)))) (h':=H4) (u7 ca rfl)];unfold ku zh;simp only[ko,bnd,ze,zG,zp];rw[ms];simp only;rw[md];simp only[kN,bnd,ze,zG,zp,mk,zw,zm,zV,c4,kW];rfl
end
section
variable{rs:List Rule}{H:MH}{F:Fs}{tr:D->Tr Int}{C:Nat}{st:Str->Int}{ans:List Int}
theorem f_all(F:Fs):(step F).aY=gc (kd 4 0 (cG F)):=rfl
theorem dq(F:Fs):(step F).dq=gc (kd 4 1 (dJ F)):=rfl
theorem bc(F:Fs):(step F).bc=gc (kd 4 0 (cJ F)):=rfl
def og(hr:RsOk rs){ds:List D}(hC:5*C+210<=cap)(hR:∀d∈ds,Rep rs [(false,d,[])] [] [] (tr d) C)(hb:ds.length*C<cap)(hl:ds.length<=1000)(ha:ans.length<=cap)(H:MH) :
  (step (step (G6 F))).aY [.tup (kf rs),.fls (ds.map zk),kA st,.fls (ans.map .int)] H=some (uD (xb (ds.map tr) ⟨st,ans,[],0⟩),H):=by
 have e:=pM (F:=F) (st:=st) (ns:=[]) hr hC hR hb hl ha H;have c0:(0:Nat)<=cap:=by decide
 rw[f_all];generalize step (G6 F)=G at e ⊢;refine c8 (xo (ρ:=[some (.tup (kf rs)),some (.fls (ds.map zk)),some (kA st),some (.fls (ans.map .int))]) rfl rfl ?_) si;unfold cG ku zh;simp only[ko,bnd,ze,zG,zp,j1,zV,c0,kW];have e':G.aA [.tup (kf rs),.fls (ds.map zk),kA st,.fls (ans.map .int),.fls []] H=some (uD (xb (ds.map tr) ⟨st,ans,[],0⟩),H):=e;rw[e']
noncomputable def Kr(v:Int)(r:Rm):W:=.tup [.int v,kA r.st,.fls (r.sp.map .int),.int r.k]
theorem QS:low m (Kr v r)=true:=by
 unfold Kr low lows;rw[vv];unfold lows;rw[iF];unfold lows;rw[fx];unfold lows;rw[vv];unfold lows;rfl
def DD(hr:RsOk rs){T:Tr Int}(hC:5*C+210<=cap)(hR:Rep rs [(false,d,[])] [] [] T C)(hb:C<cap)(ha:ans.length<=cap)(H:MH) :
  (step (step (step (G6 F)))).dq [.tup (kf rs),zk d,kA st,.fls (ans.map .int)] H=some (Kr (ky T ⟨st,ans,[],0⟩).1 (ky T ⟨st,ans,[],0⟩).2.1,H):=by
 have e:=og (F:=F) (st:=st) (tr:=λ_=>T) (ds:=[d]) hr hC (λx hx=>by simp at hx;subst hx;exact hR) (by simpa using hb) (by simp) ha H;have c1:(1:Nat)<=cap:=by decide
 have c4:(4:Nat)<=cap:=by decide
 rw[dq];generalize step (step (G6 F))=G at e ⊢;refine c8 (xo (ρ:=[some (.tup (kf rs)),some (zk d),some (kA st),some (.fls (ans.map .int)),none]) rfl rfl ?_) QS;have e':G.aY [.tup (kf rs),.fls [zk d],kA st,.fls (ans.map .int)] H=some (.tup [.fls [.int (ky T ⟨st,ans,[],0⟩).1],kA (ky T ⟨st,ans,[],0⟩).2.1.st,.fls ((ky T ⟨st,ans,[],0⟩).2.1.sp.map .int),.int (ky T ⟨st,ans,[],0⟩).2.1.k],H):=e;unfold Kr;generalize (ky T ⟨st,ans,[],0⟩).1=v at e' ⊢;generalize (ky T ⟨st,ans,[],0⟩).2.1=q at e' ⊢;simp![dJ,j1,c1,e',xC,yb,ck,pF,ut,zw,c4]
def Xx(hr:RsOk rs){T:Tr Int}(hC:5*C+210<=cap)(hR:Rep rs [(false,d,[])] [] [] T C)(hb:C<cap)(ha:ans.length<=cap)(H:MH) :
  (step (G6 F)).bc [.tup (kf rs),zk d,kA st,.fls (ans.map .int)] H=some (.fls (bo (ky T ⟨st,ans,[],0⟩).2.2),H):=by
 have m1:=sv (F:=step (step (step (step F)))) (rs:=rs) (H:=H) (d:=zk d) (ρ:=[some (.tup (kf rs)),some (zk d),some (kA st),some (.fls (ans.map .int))]) (m1:=ze 0) (m2:=ze 1) rfl rfl;have S0:=Zu (na:=(H++blk rs d H.length).length+1) rs d H;have p0:H<+:H++blk rs d H.length:=jj _ _;have l0:(H++blk rs d H.length).length=H.length+3:=by rw[zK];rfl
 generalize (H++blk rs d H.length)=H1 at m1 S0 p0 l0;have m2:=Zy (F:=step (step (step (step F)))) (H:=H1) (st:=st) (ans:=ans) (ρ:=[some (.tup (kf rs)),some (zk d),some (kA st),some (.fls (ans.map .int))]) (m1:=ze 2) (m2:=ze 3) rfl rfl;have g0:=ZD (H:=H1) (st:=st) (ans:=ans);have S1':=S0.app [.ins 1 (xV (H1.length+1) (H1.length+2) (ans.map .int) 0),.dic (vj st),.lst []];have p1:H<+:(H1++[.ins 1 (xV (H1.length+1) (H1.length+2) (ans.map .int) 0),.dic (vj st),.lst []]:MH):=p0.trans (jj _ _);generalize (H1++[.ins 1 (xV (H1.length+1) (H1.length+2) (ans.map .int) 0),.dic (vj st),.lst []]:MH)=H2 at m2 g0 S1' p1;have g6:step (step (step (step (step (step F)))))=G6 F:=rfl
 obtain⟨w,H',ca',s',e,hh,R',g',fm,hc,z1,z2⟩:=W6 (F:=F) hr (.mk S1' hR) g0 (λn hn z=>by
  simp only[zb,zc,zQ] at hn z
  omega) ∅ (zg _) (by simpa using hb) ha
 rw[g6] at m1 m2 e;have pre:H<+:H':=fm.pre p1 λn hn=>by
  simp only[jk,kE,zb,zc,zQ] at hn;omega
 have raw:kd 4 0 (cJ (G6 F)) [.tup (kf rs),zk d,kA st,.fls (ans.map .int)] H=some (w,H'):=by
  refine xo (ρ:=[some (.tup (kf rs)),some (zk d),some (kA st),some (.fls (ans.map .int))]) rfl rfl ?_;unfold cJ ku zh;simp only[ko,bnd,m1,m2,e]
 rw[bc];rcases hh with rfl | ⟨n,rfl,hn,ho⟩
 .exact y7 raw (by unfold low;exact pZ _) pre (.inl nofun)
 .exact J2 raw pre (by have:=p1.length_le;omega) ho (pZ _)
end
noncomputable abbrev Rr(rs:List Rule):Rn:=gR rs rs.length
noncomputable def treeOf(rs:List Rule)(d:D):Tr Int:=(den (Rr rs) d ρ0 []).bind λp=>.ret p.1
noncomputable abbrev cst(rs:List Rule)(d:D):Nat:=cost (xy rs rs.length) 0 d
noncomputable abbrev Cd(rs:List Rule)(d:D):Prop:=Wf rs rs.length d [] [] []
section
variable{rs:List Rule}
def sP(hr:RsOk rs)(w:Cd rs d):Rep rs [(false,d,[])] [] [] (treeOf rs d) (cst rs d):=
 ud (bodies hr rs.length (zg _)) hr d w (env:=[]) (ρ:=ρ0) (h:=0) (m:=0) (cs:=[]) ⟨λv hv=>by simp at hv,λv hv=>by simp at hv,λv hv=>by simp at hv⟩ (zg _) [] [] (λp=>.ret p.1) 0 λv cs' _=>.done
def ff(T:Tr Int)(r:Rm):(ky (stepT T r).1 (stepT T r).2).1=(ky T r).1/\(ky (stepT T r).1 (stepT T r).2).2.1=(ky T r).2.1:=by
 cases T with
 | ret v=>exact⟨rfl,rfl⟩
 | tch t k=>exact⟨rfl,rfl⟩
theorem QB:∀(n:Nat) (T:Tr Int) (r:Rm),xi [T] r (List.replicate n 0)=([(ky T r).1],(ky T r).2.1)
 | 0,T,r=>rfl
 | n+1,T,r=>by
  have ih:=QB n (stepT T r).1 (stepT T r).2;unfold xi at ih ⊢;rw[jt,jQ];have e:vn ([T],r) 0=([(stepT T r).1],(stepT T r).2):=rfl;rw[e,ih,(ff T r).1,(ff T r).2]
noncomputable def asks:List (Tch×Int)->Nat
 | []=>0
 | (.ask,_)::l=>asks l+1
 | _::l=>asks l
end
theorem sX:∀(m:Nat) (T:Tr Int) (Ts:List (Tr Int)) (r:Rm),xi (T::Ts) r (List.replicate m 0)=xb (T::Ts) r
 | 0,T,Ts,r=>rfl
 | m+1,T,Ts,r=>by
  have ih:=sX m (stepT T r).1 Ts (stepT T r).2;unfold xi at ih ⊢;have e:vn (T::Ts,r) 0=((stepT T r).1::Ts,(stepT T r).2):=zY ⟨Int.le_refl _,by simp only[zm];omega⟩;rw[jt,jQ,e,ih];simp only[xb];rw[(ff T r).1,(ff T r).2]
theorem rH(v:Int):∀(Ts:List (Tr Int)) (r:Rm),xb (Ts++[.ret v]) r=((xb Ts r).1++[v],(xb Ts r).2)
 | [],r=>rfl
 | T::Ts,r=>by
  simp only[jk,xb];rw[rH v Ts]
def JI{Ts:List (Tr Int)}{V:Tr Int}{r:Rm}{n:Int}(h0:0<=n)(h1:n<Ts.length):vn (Ts++[V],r) n=((vn (Ts,r) n).1++[V],(vn (Ts,r) n).2):=by
 have k:n.toNat<Ts.length:=by omega
 unfold vn;rw[zY ⟨h0,by rw[zK];omega⟩,zY ⟨h0,h1⟩];simp only[zA k,zE k,yZ _ _ k]
theorem gZ{V:Tr Int}:∀(ns:List Int) {Ts:List (Tr Int)} {r:Rm},(∀n∈ns,0<=n/\n<Ts.length)->ns.foldl vn (Ts++[V],r)=((ns.foldl vn (Ts,r)).1++[V],(ns.foldl vn (Ts,r)).2)/\(ns.foldl vn (Ts,r)).1.length=Ts.length
 | [],Ts,r,_=>⟨rfl,rfl⟩
 | n::ns,Ts,r,h=>by
  have hn:=h n z9;have l:(vn (Ts,r) n).1.length=Ts.length:=sy (Ts,r) n;have ih:=gZ (V:=V) ns (Ts:=(vn (Ts,r) n).1) (r:=(vn (Ts,r) n).2) λm hm=>by rw[l];exact h m (zP _ hm)
  simp only[jQ];rw[JI hn.1 hn.2];exact⟨ih.1,ih.2.trans l⟩
def X6{v:Int}{ns:List Int}{Ts:List (Tr Int)}(h:∀n∈ns,0<=n/\n<Ts.length):xi (Ts++[.ret v]) r (ns++[(Ts.length:Int)])=((xi Ts r ns).1++[v],(xi Ts r ns).2):=by
 obtain⟨e,l⟩:=gZ (V:=.ret v) ns (r:=r) h;unfold xi;rw[List.foldl_append,e];generalize ns.foldl vn (Ts,r)=p at l ⊢;have t:vn (p.1++[.ret v],p.2) (Ts.length:Int)=(p.1++[.ret v],p.2):=by
  unfold vn;rw[zY ⟨by omega,by rw[zK,l];simp;omega⟩,jw,<-l];simp only[zH (zg _),qj,zp,stepT,jU _ _ (zg _),List.set_cons_zero]
 simp only[jQ,List.foldl_nil];rw[t];exact rH v _ _
noncomputable def DS:Tch->Prop
 | .read v=>v∈SH
 | .write v _=>v∈SH
 | _=>True
noncomputable def TS:Tr Int->Prop
 | .ret _=>True
 | .tch t k=>DS t/\∀v,TS (k v)
def UC{T:Tr Int}{c:Nat}(r:Rep rs stk ws cs T c):TS T:=by
 induction r with
 | done=>trivial
 | gg h r ih=>exact ih
 | tch h r ih=>
  refine⟨?_,ih⟩;cases h with
  | readS h=>exact h
  | writeS h=>exact h
  | ask=>trivial
  | say=>trivial
mutual
noncomputable def kg:D->Nat
 | .write _ a=>kg a+1
 | .say a=>kg a+1
 | .lett _ a b=>max (kg a) (kg b)+1
 | .own _ a b=>max (kg a) (kg b)+1
 | .add a b=>max (kg a) (kg b)+1
 | .less a b=>max (kg a) (kg b)+1
 | .thenn a b=>max (kg a) (kg b)+1
 | .loop a b=>max (kg a) (kg b)+1
 | .iff a b c=>max (kg a) (max (kg b) (kg c))+1
 | .call _ as bs=>max (uj as) (uj bs)+1
 | _=>0
noncomputable def uj:List D->Nat
 | []=>0
 | d::r=>max (kg d) (uj r)
end
noncomputable abbrev wS(l:List Str):Prop:=∀v∈l,dt 1 (.str v)=true
def Zs(h:wS l)(hv:dt 1 (.str v)=true):wS (l++[v]):=by
 intro u hu;rcases zW.mp hu with z | z
 .exact h u z
 .simp at z;subst z;exact hv
def ui{r:List W}(hx:dt 1 (.str x)=true)(hl:r.length<=3)(h:∀w∈r,dt (n+1) w=true):dt (n+2) (th x r)=true:=c9 (by simp;omega) λw hw=>by
 rcases zb.mp hw with rfl | z
 .exact jI hx ∅
 .exact h w z
def Zq(h:dt 1 (.str v)=true):dt (n+1) (.str v)=true:=jI h ∅
section
variable{rs:List Rule}{k:Nat}
def WE(h:v∈SH\/v∈O)(hO:wS O):dt 1 (.str v)=true:=h.elim Ku (hO v)
def Bj(hx:dt 1 (.str x)=true)(ha:dt (2+2*m) u=true)(hb:dt (2+2*m) v=true):dt (2+2*(m+1)) (th x [u,v])=true:=by
 rw[show 2+2*(m+1)=(2+2*m)+2 by omega];refine ui hx (by simp) λw hw=>?_
 simp only[zb,zc,zQ] at hw;rcases hw with rfl | rfl
 .exact jI ha ∅
 .exact jI hb ∅
mutual
theorem yy(hl:∀(i:Nat) (r:Rule),rs[i]?=some r->r.ns.length<=3/\r.hs.length<=3):∀(d:D) {N O H:List Str} {n:Nat},Wf rs k d N O H->wS N->wS O->wS H->kg d<=n->dt (2+2*n) (zk d)=true
 | .number i,N,O,H,n,w,hN,hO,hH,hd=>by
  rw[vd];exact ui ⋯ (by simp) (by simp[dt])
 | .name v,N,O,H,n,w,hN,hO,hH,hd=>by
  simp only[Wf] at w;rw[vd];exact ui ⋯ (by simp) (by simpa using Zq (hN v w))
 | .read v,N,O,H,n,w,hN,hO,hH,hd=>by
  simp only[Wf] at w;rw[vd];exact ui ⋯ (by simp) (by simpa using Zq (WE w hO))
 | .doo v,N,O,H,n,w,hN,hO,hH,hd=>by
  simp only[Wf] at w;rw[vd];exact ui ⋯ (by simp) (by simpa using Zq (hH v w))
 | .ask,N,O,H,n,w,hN,hO,hH,hd=>by
  rw[vd];exact ui ⋯ (by simp) (by simp)
 | .write v a,N,O,H,n,w,hN,hO,hH,hd=>by
  simp only[Wf] at w;simp only[kg] at hd;obtain⟨m,rfl⟩:∃m,n=m+1:=⟨n-1,by omega⟩;have ha:=yy hl a w.2 hN hO hH (show kg a<=m by omega);rw[show 2+2*(m+1)=(2+2*m)+2 by omega];refine ui ⋯ (by simp) λu hu=>?_
  simp only[zb,zc,zQ] at hu;rcases hu with rfl | rfl
  .exact Zq (WE w.1 hO)
  .exact jI ha ∅
 | .say a,N,O,H,n,w,hN,hO,hH,hd=>by
  simp only[Wf] at w;simp only[kg] at hd;obtain⟨m,rfl⟩:∃m,n=m+1:=⟨n-1,by omega⟩;have ha:=yy hl a w hN hO hH (show kg a<=m by omega);rw[show 2+2*(m+1)=(2+2*m)+2 by omega];refine ui ⋯ (by simp) λu hu=>?_
  simp only[zb,zc,zQ] at hu;subst hu;exact jI ha ∅
 | .lett v a b,N,O,H,n,w,hN,hO,hH,hd=>by
  simp only[Wf] at w;simp only[kg] at hd;obtain⟨m,rfl⟩:∃m,n=m+1:=⟨n-1,by omega⟩;have ha:=yy hl a w.2.1 hN hO hH (show kg a<=m by omega);have hb:=yy hl b w.2.2 (Zs hN w.1.2.2) hO hH (show kg b<=m by omega);rw[show 2+2*(m+1)=(2+2*m)+2 by omega];refine ui ⋯ (by simp) λu hu=>?_
  simp only[zb,zc,zQ] at hu;rcases hu with rfl | rfl | rfl
  .exact Zq w.1.2.2
  .exact jI ha ∅
  .exact jI hb ∅
 | .own v a b,N,O,H,n,w,hN,hO,hH,hd=>by
  simp only[Wf] at w;simp only[kg] at hd;obtain⟨m,rfl⟩:∃m,n=m+1:=⟨n-1,by omega⟩;have ha:=yy hl a w.2.1 hN hO hH (show kg a<=m by omega);have hb:=yy hl b w.2.2 hN (Zs hO w.1.2.2) hH (show kg b<=m by omega);rw[show 2+2*(m+1)=(2+2*m)+2 by omega];refine ui ⋯ (by simp) λu hu=>?_
  simp only[zb,zc,zQ] at hu;rcases hu with rfl | rfl | rfl
  .exact Zq w.1.2.2
  .exact jI ha ∅
  .exact jI hb ∅
 | .add a b,N,O,H,n,w,hN,hO,hH,hd | .less a b,N,O,H,n,w,hN,hO,hH,hd | .thenn a b,N,O,H,n,w,hN,hO,hH,hd | .loop a b,N,O,H,n,w,hN,hO,hH,hd=>by
  simp only[Wf] at w;simp only[kg] at hd;obtain⟨m,rfl⟩:∃m,n=m+1:=⟨n-1,by omega⟩;exact Bj ⋯ (yy hl a w.1 hN hO hH (show kg a<=m by omega)) (yy hl b w.2 hN hO hH (show kg b<=m by omega))
 | .iff a b c,N,O,H,n,w,hN,hO,hH,hd=>by
  simp only[Wf] at w;simp only[kg] at hd;obtain⟨m,rfl⟩:∃m,n=m+1:=⟨n-1,by omega⟩;have ha:=yy hl a w.1 hN hO hH (show kg a<=m by omega);have hb:=yy hl b w.2.1 hN hO hH (show kg b<=m by omega);have hc:=yy hl c w.2.2 hN hO hH (show kg c<=m by omega);rw[show 2+2*(m+1)=(2+2*m)+2 by omega];refine ui ⋯ (by simp) λu hu=>?_
  simp only[zb,zc,zQ] at hu;rcases hu with rfl | rfl | rfl
  .exact jI ha ∅
  .exact jI hb ∅
  .exact jI hc ∅
 | .call i as bs,N,O,H,n,w,hN,hO,hH,hd=>by
  simp only[Wf] at w;obtain⟨hi,⟨r,hr,la,lb⟩,wa,wb⟩:=w;simp only[kg] at hd;obtain⟨m,rfl⟩:∃m,n=m+1:=⟨n-1,by omega⟩;have hL:=hl i r hr;rw[show 2+2*(m+1)=(2+2*m)+2 by omega];refine ui ⋯ (by simp) λu hu=>?_
  simp only[zb,zc,zQ] at hu;rcases hu with rfl | rfl | rfl
  .rfl
  .exact c9 (by rw[xw,zB];omega) (mO hl as wa hN hO hH ∅)
  .exact c9 (by rw[xw,zB];omega) (mO hl bs wb hN hO hH ∅)
theorem mO(hl:∀(i:Nat) (r:Rule),rs[i]?=some r->r.ns.length<=3/\r.hs.length<=3):∀(l:List D) {N O H:List Str} {n:Nat},uy rs k l N O H->wS N->wS O->wS H->uj l<=n->∀w∈ki l,dt (2+2*n) w=true
 | [],N,O,H,n,w,hN,hO,hH,hd=>λu hu=>by simp[ki] at hu
 | d::l,N,O,H,n,w,hN,hO,hH,hd=>λu hu=>by
  simp only[uy] at w;simp only[uj] at hd;simp only[ki,zb] at hu;rcases hu with rfl | hu
  .exact yy hl d w.1 hN hO hH ∅
  .exact mO hl l w.2 hN hO hH ∅ u hu
end
noncomputable def D.parts:D->List D
 | .write _ a=>[a]
 | .say a=>[a]
 | .lett _ a b=>[a,b]
 | .own _ a b=>[a,b]
 | .add a b=>[a,b]
 | .less a b=>[a,b]
 | .thenn a b=>[a,b]
 | .loop a b=>[a,b]
 | .iff a b c=>[a,b,c]
 | .call _ as bs=>as++bs
 | _=>[]
def tup_of(d:D):∃l,zk d=.tup l:=by cases d<;>(simp only[zk];exact⟨_,rfl⟩)
def Xo(d:D):vi (zk d)=d.parts.map zk:=by
 have key:∀(x:Str) (p:Int×Int),(x==("call":Str))=false->fm x=some p->∀r:List W,vi (th x r)=r.drop (p.2.toNat-1):=by
  intro x p hc hf r;simp only[vi,hc,hf];rfl
 cases d with
 | number i=>simp only[zk];rw[key _ (2,2) ⋯ ⋯];rfl
 | name i=>simp only[zk];rw[key _ (2,2) ⋯ ⋯];rfl
 | read i=>simp only[zk];rw[key _ (2,2) ⋯ ⋯];rfl
 | doo i=>simp only[zk];rw[key _ (2,2) ⋯ ⋯];rfl
 | ask=>simp only[zk];rw[key _ (1,1) ⋯ ⋯];rfl
 | write v a=>simp only[zk];rw[key _ (3,2) ⋯ ⋯];rfl
 | say a=>simp only[zk];rw[key _ (2,1) ⋯ ⋯];rfl
 | lett v a b=>simp only[zk];rw[key _ (4,2) ⋯ ⋯];rfl
 | own v a b=>simp only[zk];rw[key _ (4,2) ⋯ ⋯];rfl
 | add a b=>simp only[zk];rw[key _ (3,1) ⋯ ⋯];rfl
 | less a b=>simp only[zk];rw[key _ (3,1) ⋯ ⋯];rfl
 | thenn a b=>simp only[zk];rw[key _ (3,1) ⋯ ⋯];rfl
 | loop a b=>simp only[zk];rw[key _ (3,1) ⋯ ⋯];rfl
 | iff a b c=>simp only[zk];rw[key _ (4,1) ⋯ ⋯];rfl
 | call i as bs=>simp only[zk];rw[dP,xw,xw,D.parts,qg]
def CQ{H:List Str}(w:Wf rs k d N O H):Sh (kf rs) k H (zk d):=by
 cases d with
 | number i=>simp only[zk];exact .number i
 | name i=>simp only[zk];exact .name i
 | read i=>simp only[zk];exact .read i
 | doo i=>simp only[zk];simp only[Wf] at w;exact .doo i w
 | ask=>simp only[zk];exact .ask
 | write v a=>obtain⟨l,e⟩:=tup_of a;simp only[zk];rw[e];exact .write v l
 | say a=>obtain⟨l,e⟩:=tup_of a;simp only[zk];rw[e];exact .say l
 | lett v a b=>obtain⟨l,e⟩:=tup_of a;obtain⟨l',e'⟩:=tup_of b;simp only[zk];rw[e,e'];exact .lett v l l'
 | own v a b=>obtain⟨l,e⟩:=tup_of a;obtain⟨l',e'⟩:=tup_of b;simp only[zk];rw[e,e'];exact .own v l l'
 | add a b=>obtain⟨l,e⟩:=tup_of a;obtain⟨l',e'⟩:=tup_of b;simp only[zk];rw[e,e'];exact .add l l'
 | less a b=>obtain⟨l,e⟩:=tup_of a;obtain⟨l',e'⟩:=tup_of b;simp only[zk];rw[e,e'];exact .less l l'
 | thenn a b=>obtain⟨l,e⟩:=tup_of a;obtain⟨l',e'⟩:=tup_of b;simp only[zk];rw[e,e'];exact .thenn l l'
 | loop a b=>obtain⟨l,e⟩:=tup_of a;obtain⟨l',e'⟩:=tup_of b;simp only[zk];rw[e,e'];exact .loop l l'
 | iff a b c=>obtain⟨l,e⟩:=tup_of a;obtain⟨l',e'⟩:=tup_of b;obtain⟨l2,e2⟩:=tup_of c;simp only[zk];rw[e,e',e2];exact .iff l l' l2
 | call i as bs=>
  simp only[Wf] at w;obtain⟨hi,⟨r,hr,la,lb⟩,wa,wb⟩:=w;simp only[zk];exact .call i _ _ hi (zD r.ns) r.hs (zk r.body) (oE hr) (by rw[xw,zB];exact lb)
theorem mY:∀{l:List D} {N O H:List Str},uy rs k l N O H->∀d∈l,Wf rs k d N O H/\kg d<=uj l
 | [],N,O,H,w,d,hd=>by simp at hd
 | x::l,N,O,H,w,d,hd=>by
  simp only[uy] at w;simp only[uj];rcases zb.mp hd with rfl | z
  .exact⟨w.1,by omega⟩
  .have:=mY w.2 d z
   exact⟨this.1,by omega⟩
def Vs{d:D}{H:List Str}(w:Wf rs k d N O H):∀a∈d.parts,(∃N' O',Wf rs k a N' O' H)/\kg a+1<=kg d:=by
 intro p hp;cases d with
 | write v a=>simp only[D.parts,zb,zc,zQ] at hp;subst hp;simp only[Wf] at w;exact⟨⟨_,_,w.2⟩,by simp only[kg];omega⟩
 | say a=>simp only[D.parts,zb,zc,zQ] at hp;subst hp;simp only[Wf] at w;exact⟨⟨_,_,w⟩,by simp only[kg];omega⟩
 | lett v a b | own v a b=>simp only[D.parts,zb,zc,zQ] at hp;simp only[Wf] at w;rcases hp with rfl | rfl;exact⟨⟨_,_,w.2.1⟩,by simp only[kg];omega⟩;exact⟨⟨_,_,w.2.2⟩,by simp only[kg];omega⟩
 | add a b | less a b | thenn a b | loop a b=>simp only[D.parts,zb,zc,zQ] at hp;simp only[Wf] at w;rcases hp with rfl | rfl;exact⟨⟨_,_,w.1⟩,by simp only[kg];omega⟩;exact⟨⟨_,_,w.2⟩,by simp only[kg];omega⟩
 | iff a b c=>simp only[D.parts,zb,zc,zQ] at hp;simp only[Wf] at w;rcases hp with rfl | rfl | rfl;exact⟨⟨_,_,w.1⟩,by simp only[kg];omega⟩;exact⟨⟨_,_,w.2.1⟩,by simp only[kg];omega⟩;exact⟨⟨_,_,w.2.2⟩,by simp only[kg];omega⟩
 | call i as bs=>
  simp only[Wf] at w;simp only[D.parts] at hp;rcases zW.mp hp with z | z
  .have:=mY w.2.2.1 p z
   exact⟨⟨_,_,this.1⟩,by simp only[kg];omega⟩
  .have:=mY w.2.2.2 p z
   exact⟨⟨_,_,this.1⟩,by simp only[kg];omega⟩
 | _=>simp[D.parts] at hp
theorem p9{H:List Str}:∀(n:Nat) {d:D} {N O:List Str},Wf rs k d N O H->kg d<=n->okd (kf rs) k H (n+1) (zk d)
 | n,d,N,O,w,hd=>by
  refine⟨CQ w,λp hp=>?_⟩;rw[Xo] at hp;obtain⟨a,ha,rfl⟩:=kO.mp hp;obtain⟨⟨N',O',w'⟩,hd'⟩:=Vs w a ha;cases n with
  | zero=>omega
  | succ n=>exact p9 n w' ∅
end
theorem UB(F:Fs):bj F=zo (Yg F) (zo (Ys F) (zo (Zd F) (zo (sL F) (zo (rQ F) (zo (Qi F) (zo (Js F) (WU F))))))):=rfl
noncomputable abbrev kn(N O H:List Str):W:=.tup [.tup (zD N),.tup (zD O),.tup (zD H)]
noncomputable abbrev ρF(ns:List Int)(a:Int)(N O H:List Str)(x y:Option W):En:=[some (jv ns),some (.int a),some (kn N O H),some (.tup (zD N)),some (.tup (zD O)),some (.tup (zD H)),x,y]
def Qv{l:List W}{i:Int}(h0:0<=i)(h1:i<l.length):∃v∈l,atI l i=some v:=by
 have hj:i.toNat<l.length:=by omega
 exact⟨l[i.toNat],List.getElem_mem hj,by unfold atI xl;rw[zY h0,zY h1];simp[hj]⟩
def eB{l:List W}{i:Int}(h0:0<=i)(h1:i<l.length):∃v∈l,∀h,zv (.fls l) (.int i) h=some (v,h):=by
 obtain⟨v,hv,e⟩:=Qv h0 h1;exact⟨v,hv,λh=>by simp[zv,getL,e]⟩
def pb{l:List W}{i:Int}(h0:0<=i)(h1:i<l.length):∃v∈l,∀h,zv (.tup l) (.int i) h=some (v,h):=by
 obtain⟨v,hv,e⟩:=Qv h0 h1;exact⟨v,hv,λh=>by simp[zv,e]⟩
def iy{l:List Str}{i:Int}(h0:0<=i)(h1:i<l.length):∃v∈l,∀h,zv (.tup (zD l)) (.int i) h=some (.str v,h):=by
 obtain⟨v,hv,e⟩:=pb (l:=zD l) h0 (by rw[vF];exact h1);unfold zD at hv;obtain⟨x,hx,rfl⟩:=kO.mp hv;exact⟨x,hx,e⟩
def ng{l:List Str}(h:wS l)(hl:l.length<=1000):dt 2 (.tup (zD l))=true:=by
 refine c9 (by rw[vF];exact hl) λw hw=>?_
 unfold zD at hw;obtain⟨x,hx,rfl⟩:=kO.mp hw;exact h x hx
theorem Kx(l:List Str):mq (.tup (zD l))=l.isEmpty:=by cases l<;>rfl
def iS{l:List Str}(hw:wS l)(hl:l.length<=1000):eqB h (.tup (zD l)) (.tup [])=some l.isEmpty:=by
 rw[Zf (ng hw hl) ∅,Kx]
noncomputable def wn(l:List Str):Prop:=∀v∈l,v="x" \/ v="y" \/ v="x1"
noncomputable def wo(l:List Str):Prop:=∀v∈l,v="p" \/ v="q"
noncomputable def wh(l:List Str):Prop:=∀v∈l,v="f" \/ v="g1"
def sx(h:wn l):wS l:=λv hv=>by rcases h v hv with rfl | rfl | rfl<;>decide +kernel
def FC(h:wo l):wS l:=λv hv=>by rcases h v hv with rfl | rfl<;>decide +kernel
def pO(h:wh l):wS l:=λv hv=>by rcases h v hv with rfl | rfl<;>decide +kernel
def Fx{l:List Str}{v:Str}(h:wo l)(hv:v="x" \/ v="y" \/ v="x1"):v∉l:=λz=>by
 have:=h v z;rcases hv with rfl | rfl | rfl<;>revert this<;>decide +kernel
def Ui{l:List Str}{v:Str}(h:wh l)(hv:v="x" \/ v="y" \/ v="x1"):v∉l:=λz=>by
 have:=h v z;rcases hv with rfl | rfl | rfl<;>revert this<;>decide +kernel
def D5{l:List Str}{v:Str}(h:wn l)(hv:v="p" \/ v="q"):v∉l:=λz=>by
 have:=h v z;rcases hv with rfl | rfl<;>revert this<;>decide +kernel
def Fv{l:List Str}{v:Str}(h:wh l)(hv:v="p" \/ v="q"):v∉l:=λz=>by
 have:=h v z;rcases hv with rfl | rfl<;>revert this<;>decide +kernel
def YB{l:List Str}{v:Str}(h:wn l)(hv:v="x" \/ v="y" \/ v="x1"):wn (l++[v]):=λu hu=>by
 rcases zW.mp hu with z | z
 .exact h u z
 .simp at z;subst z;exact hv
def Yu{l:List Str}{v:Str}(h:wo l)(hv:v="p" \/ v="q"):wo (l++[v]):=λu hu=>by
 rcases zW.mp hu with z | z
 .exact h u z
 .simp at z;subst z;exact hv
noncomputable def xO(O:List Str):List Str:=([("a":Str),"b","c","d"]:List Str)++(O++(O++O))
def t7(O:List Str):[W.str "a",.str "b",.str "c",.str "d"]++(List.replicate 3 (zD O)).flatten=zD (xO O):=by
 simp[xO,zD,List.replicate]
def ZA(hv:v∈xO O):v∈SH\/v∈O:=by
 unfold xO at hv;rcases zW.mp hv with z | z
 .exact .inl z
 .rcases zW.mp z with z | z
  .exact .inr z
  .rcases zW.mp z with z | z<;>exact .inr z
def sD(O:List Str):(xO O).length=4+3*O.length:=by simp[xO];omega
structure RG(rs:List Rule):Prop where
 l:rs.length<=2
 g:RsOk rs
 b:∀(i:Nat) (r:Rule),rs[i]?=some r->(r.ns.length<=2/\r.hs.length<=2)/\wn r.ns/\wh r.hs/\kg r.body<=2
def RG.dt1{rs:List Rule}(h:RG rs){H:List Str}(w:Wf rs rs.length d N O H)(hN:wn N)(hO:wo O)(hH:wh H)(hd:kg d<=n):dt (2+2*n) (zk d)=true:=yy h.g.l d w (sx hN) (FC hO) (pO hH) hd
theorem RG.dt(h:RG rs):ML.dt 8 (.tup (kf rs))=true:=by
 refine c9 (by unfold kf;rw[zB];have:=h.l;omega) λw hw=>?_
 obtain⟨r,hr,rfl⟩:=kO.mp hw;obtain⟨i,hi⟩:=jB.mp hr;obtain⟨⟨l1,l2⟩,w1,w2,d2⟩:=h.b i r hi;refine c9 (by simp) λv hv=>?_
 simp only[zb,zc,zQ] at hv;rcases hv with rfl | rfl | rfl
 .exact jI (ng (sx w1) ∅) ∅
 .exact jI (ng (pO w2) ∅) ∅
 .exact yy (n:=2) h.g.l r.body (h.g.w i r hi) (sx w1) (λv hv=>by simp at hv) (pO w2) d2
def JW{ns:List Int}{N O H:List Str}{rs:List Rule}(hr:RG rs)(hl:ns.length<=63)(hN':wn N)(hO':wo O)(hH':wh H)(lN:N.length<=100)(lO:O.length<=100)(lH:H.length<=100) :
  ∃x:D,(∀h,(step (step (step F))).cT [jv ns,.int a,kn N O H] h=some (zk x,h))/\Wf rs rs.length x N O H/\kg x<=0:=by
 have hN:=sx hN';have hH:=pO hH';have e:=λ(k many:Int) (h:MH) (hm:0<many)=>xZ (F:=F) (k:=k) (many:=many) (h:=h) hl hm
 generalize step (step F)=G at e;suffices hs:∃x:D,(∀h,bj G [some (jv ns),some (.int a),some (kn N O H),none,none,none,none,none] h=some (.ret (zk x),h))/\Wf rs rs.length x N O H/\kg x<=0 by
  obtain⟨x,e,w,d⟩:=hs;refine⟨x,λh=>aw (n:=2) ?_ (hr.dt1 w hN' hO' hH' d),w,d⟩;simp only[kd,zm,zV,kW,zq,jd,List.replicate,jk,kE];simp only[e h]
 have c1':(1:Nat)<=cap:=by decide
 have c2':(2:Nat)<=cap:=by decide
 have c4':(4:Nat)<=cap:=by decide
 have c6':(6:Nat)<=cap:=by decide
 have s0:∀h,Yg G [some (jv ns),some (.int a),some (kn N O H),none,none,none,none,none] h=some (.nx (ρF ns a N O H none none),h):=λh=>by
  simp![Yg]
 have s1:∀h,Ys G (ρF ns a N O H none none) h=some (.nx (ρF ns a N O H (some (.int (qV ns a 8))) none),h):=λh=>by
  simp![Ys,e a 8 _ ∅]
 generalize qV ns a 8=d at s1;have row:∀h,bj G [some (jv ns),some (.int a),some (kn N O H),none,none,none,none,none] h=zo (Zd G) (zo (sL G) (zo (rQ G) (zo (Qi G) (zo (Js G) (WU G))))) (ρF ns a N O H (some (.int d)) none) h:=λh=>by
  rw[UB,zt (s0 h),zt (s1 h)]
 by_cases k2:d<2
 .obtain⟨v,hv,ev⟩:=eB (l:=[.int 0,.int 1,.int 2,.int 3,.int 7,.int 1008]) (kF (ns:=ns) (k:=a+1) (many:=6) ∅).1 (by simpa using (kF (ns:=ns) (k:=a+1) (many:=6) ∅).2)
  have:∃i,v=.int i:=by
   simp only[zb,zc,zQ] at hv;rcases hv with rfl | rfl | rfl | rfl | rfl | rfl<;>exact⟨_,rfl⟩
  obtain⟨i,rfl⟩:=this;refine⟨.number i,λh=>?_,by simp only[Wf],by simp only[kg,zg]⟩;rw[row];refine y0 ?_;simp![Zd,vT,k2,j1,c6',addW,k8,e (a+1) 6 _ ∅,ev,zw,c2',zk]
 have p2:∀h,Zd G (ρF ns a N O H (some (.int d)) none) h=some (.nx (ρF ns a N O H (some (.int d)) none),h):=λh=>by
  simp![Zd,vT,k2]
 have eN:=λh=>iS (h:=h) hN ∅
 have eH:=λh=>iS (h:=h) hH ∅
 by_cases k3:(d==2)=true/\N.isEmpty=false
 .have hp:(0:Int)<(N.length:Int):=by
   cases N with
   | nil=>simp at k3
   | cons _ _=>simp only[zm];omega
  obtain⟨v,hv,ev⟩:=iy (l:=N) (kF (ns:=ns) (k:=a+1) (many:=N.length) hp).1 (kF (ns:=ns) (k:=a+1) (many:=N.length) hp).2;refine⟨.name v,λh=>?_,by simp only[Wf];exact hv,by simp only[kg,zg]⟩;rw[row,zt (p2 h)];refine y0 ?_;simp![sL,vt,k3.1,k3.2,eN,zw,kH,vF,addW,k8,e (a+1) N.length _ hp,ev,c2',zk]
 have p3:∀h,sL G (ρF ns a N O H (some (.int d)) none) h=some (.nx (ρF ns a N O H (some (.int d)) none),h):=λh=>by
  cases q1:(d==2) with
  | false=>simp![sL,vt,q1]
  | true=>
   have q2:N.isEmpty=true:=by
    cases q:N.isEmpty with
    | true=>rfl
    | false=>exact absurd ⟨q1,q⟩ k3
   simp![sL,vt,q1,eN,zw,q2]
 by_cases k4:(d==3)=true/\H.isEmpty=false
 .have hp:(0:Int)<(H.length:Int):=by
   cases H with
   | nil=>simp at k4
   | cons _ _=>simp only[zm];omega
  obtain⟨v,hv,ev⟩:=iy (l:=H) (kF (ns:=ns) (k:=a+1) (many:=H.length) hp).1 (kF (ns:=ns) (k:=a+1) (many:=H.length) hp).2;refine⟨.doo v,λh=>?_,by simp only[Wf];exact hv,by simp only[kg,zg]⟩;rw[row,zt (p2 h),zt (p3 h)];refine y0 ?_;simp![rQ,vt,k4.1,k4.2,eH,zw,kH,vF,addW,k8,e (a+1) H.length _ hp,ev,c2',zk]
 have p4:∀h,rQ G (ρF ns a N O H (some (.int d)) none) h=some (.nx (ρF ns a N O H (some (.int d)) none),h):=λh=>by
  cases q1:(d==3) with
  | false=>simp![rQ,vt,q1]
  | true=>
   have q2:H.isEmpty=true:=by
    cases q:H.isEmpty with
    | true=>rfl
    | false=>exact absurd ⟨q1,q⟩ k4
   simp![rQ,vt,q1,eH,zw,q2]
 cases k5:(d==4) with
 | true=>
  refine⟨.ask,λh=>?_,by simp only[Wf],by simp only[kg,zg]⟩;rw[row,zt (p2 h),zt (p3 h),zt (p4 h)];refine y0 ?_;simp![Qi,vt,k5,zw,c1',zk]
 | false=>
  have hp:(0:Int)<((xO O).length:Int):=by rw[sD];omega
  obtain⟨v,hv,ev⟩:=iy (l:=xO O) (kF (ns:=ns) (k:=a+1) (many:=(xO O).length) hp).1 (kF (ns:=ns) (k:=a+1) (many:=(xO O).length) hp).2;have c7:4+(List.replicate 3 (zD O)).flatten.length<=cap:=by
   have:(List.replicate 3 (zD O)).flatten.length=3*O.length:=by simp[List.replicate,zD];omega
   rw[this];exact zT (show 4+3*O.length<=400 by omega) (by decide)
  have hs3:(zD O).length<=1000:=by rw[vF];omega
  refine⟨.read v,λh=>?_,by simp only[Wf];exact ZA hv,by simp only[kg,zg]⟩;have p6:Js G (ρF ns a N O H (some (.int d)) none) h=some (.nx (ρF ns a N O H (some (.int d)) (some (.tup (zD (xO O))))),h):=by
   rw[<-t7];have m:∀h,kB (.tup (zD O)) (.int 3) h=some (.tup (List.replicate 3 (zD O)).flatten,h):=λh=>by
    simp only[kB];rw[zY ⟨by omega,by omega,hs3⟩];rfl
   have ad:∀h,addW (.tup [.str "a",.str "b",.str "c",.str "d"]) (.tup (List.replicate 3 (zD O)).flatten) h=some (.tup ([.str "a",.str "b",.str "c",.str "d"]++(List.replicate 3 (zD O)).flatten),h):=λh=>by
    simp only[addW,k8,zm,zV];rw[zY c7]
   generalize (List.replicate 3 (zD O)).flatten=Z at m ad;simp![Js,zw,c4',m,ad]
  rw[row,zt (p2 h),zt (p3 h),zt (p4 h),zt (ρ':=(ρF ns a N O H (some (.int d)) none)) (h':=h) (by simp![Qi,vt,k5]),zt p6];simp![WU,kH,vF,addW,k8,e (a+1) (xO O).length _ hp,ev,zw,c2',zk]
theorem U9(F:Fs):aG F=zo (KU F) (zo (sT F) (zo (nX F) (zo (tV F) (zo (sW F) (zo (tT F) (zo (tZ F) (zo (tS F) (zo (rG F) (zo (rP F) (li F)))))))))):=rfl
noncomputable def b9(G:Fs)(ns:List Int)(rs:List Rule)(d:Nat):Prop:=∀(a:Int) (N O H:List Str),wn N->wo O->wh H->N.length+d<=20->O.length+d<=20->H.length<=20->
 ∃x:D,(∀h,G.au [jv ns,.int a,.int (d:Int),kn N O H,.tup (kf rs)] h=some (zk x,h))/\Wf rs rs.length x N O H/\kg x<=d
noncomputable def Jb(G:Fs)(ns:List Int)(rs:List Rule)(d:Nat):Prop:=∀(a:Int) (N O H:List Str),wn N->wo O->wh H->N.length+d<=20->O.length+d<=20->H.length<=20->
 ∃x:D,(∀h,G.cQ [jv ns,.int a,.int ((d:Int)+1),kn N O H,.tup (kf rs)] h=some (zk x,h))/\Wf rs rs.length x N O H/\kg x<=d+1
def lG(l:List Str)(v:Str):zD l++[.str v]=zD (l++[v]):=by simp[zD]
noncomputable abbrev ρD(ns:List Int)(a:Int)(d:Int)(K:W)(rl:List W)(o5 o6 o7 o8 o9 o10:Option W):En:=[some (jv ns),some (.int a),some (.int d),some K,some (.tup rl),o5,o6,o7,o8,o9,o10]
noncomputable abbrev ρE(ns:List Int)(a:Int)(d:Nat)(N O H:List Str)(rl:List W)(y:Int)(o6 o7 o8 o9 o10:Option W):En:=ρD ns a ((d:Int)+1) (kn N O H) rl (some (.int y)) o6 o7 o8 o9 o10
def Bf{i j:Nat}{ρ:En}(e:ρ[i]?=some (some (.int d))):ke (zi ii (ze i) (eC (.int m))) ρ h=some (decide (d<m),h):=by simp![e,vT]
def gX{i:Nat}{ρ:En}(e:ρ[i]?=some (some (.int d))):ke (zi (qq false) (ze i) (eC (.int m))) ρ h=some (d==m,h):=by simp![e,vt]
def m3:kB (.int a) (.int 3) h=some (.int (a*3),h):=by
 have:(small a||small 3)=true:=by rw[show small 3=true by decide];simp
 simp only[kB,this,kW]
def JB{ns:List Int}(hr:RG rs)(hl:ns.length<=63)(hd:d+1<=5)(HD:b9 (step (step (step F))) ns rs d)(HC:kf rs≠[]->Jb (step (step (step F))) ns rs d):b9 (step (step (step (step F)))) ns rs (d+1):=by
 intro a N O H hN hO' hH lN lO lH;have hrl:=hr.dt;have e:=λ(k many:Int) (h:MH) (hm:0<many)=>xZ (F:=step F) (k:=k) (many:=many) (h:=h) hl hm
 have eL:=λ(a:Int)=>JW (F:=F) (ns:=ns) (a:=a) (N:=N) (O:=O) (H:=H) hr hl hN hO' hH ∅ ∅ ∅
 have rlE:∃rl,rl=kf rs:=⟨_,rfl⟩;obtain⟨rl,erl⟩:=rlE;rw[<-erl] at hrl HC;generalize step (step (step F))=G at e HD HC eL;have ed:((d+1:Nat):Int)=(d:Int)+1:=by omega
 rw[ed];suffices hs:∃x:D,(∀h,aG G (ρD ns a ((d:Int)+1) (kn N O H) rl none none none none none none) h=some (.ret (zk x),h))/\Wf rs rs.length x N O H/\kg x<=d+1 by
  obtain⟨x,e,w,o⟩:=hs;refine⟨x,λh=>aw (n:=2+2*(d+1)) ?_ (hr.dt1 w hN hO' hH o),w,o⟩;rw[<-erl];simp only[kd,zm,zV,kW,zq,jd,List.replicate,jk,kE];have:=e h;simp only[ρD] at this;simp only[this]
 have c1:(1:Nat)<=cap:=by decide
 have c2:(2:Nat)<=cap:=by decide
 have c3:(3:Nat)<=cap:=by decide
 have c4:(4:Nat)<=cap:=by decide
 have c5:(5:Nat)<=cap:=by decide
 have s0:∀h,KU G (ρD ns a ((d:Int)+1) (kn N O H) rl none none none none none none) h=some (.nx (ρD ns a ((d:Int)+1) (kn N O H) rl (some (.int (qV ns a 15))) none none none none none),h):=λh=>by
  simp![KU,e a 15 _ ∅]
 have rg:=kF (ns:=ns) (k:=a) (many:=15) ∅;generalize qV ns a 15=y at s0 rg;have row:∀h,aG G (ρD ns a ((d:Int)+1) (kn N O H) rl none none none none none none) h=zo (sT G) (zo (nX G) (zo (tV G) (zo (sW G) (zo (tT G) (zo (tZ G) (zo (tS G) (zo (rG G) (zo (rP G) (li G))))))))) (ρE ns a d N O H rl y none none none none none) h:=λh=>by
  rw[U9,zt (s0 h)]
 have dz:(((d:Int)+1)==0)=false:=by rw[jr];omega
 by_cases k1:y<2
 .obtain⟨x,ew,p,o⟩:=eL (a+1)
  refine⟨x,λh=>?_,p,by omega⟩;rw[row];refine y0 ?_;simp![sT,vt,dz,vT,k1,addW,k8,ew]
 have p1:∀h,sT G (ρE ns a d N O H rl y none none none none none) h=some (.nx (ρE ns a d N O H rl y none none none none none),h):=λh=>by
  simp![sT,vt,dz,vT,k1]
 have eR:=λh=>Zf (h:=h) hrl ∅
 have iR:mq (.tup rl)=rl.isEmpty:=by cases rl<;>rfl
 by_cases k2:y<4/\rl≠[]
 .obtain⟨x,ew,p,o⟩:=HC k2.2 a N O H hN hO' hH ∅ ∅ lH
  rw[<-erl] at ew;refine⟨x,λh=>?_,p,o⟩;have q:rl.isEmpty=false:=by
   cases rl with
   | nil=>exact absurd rfl k2.2
   | cons _ _=>rfl
  rw[row,zt (p1 h)];refine y0 ?_;simp![nX,vT,k2.1,eR,iR,q,zw,ew]
 have p2:∀h,nX G (ρE ns a d N O H rl y none none none none none) h=some (.nx (ρE ns a d N O H rl y none none none none none),h):=λh=>by
  by_cases q1:y<4
  .have q:rl.isEmpty=true:=by
    cases rl with
    | nil=>rfl
    | cons _ _=>exact absurd ⟨q1,by simp⟩ k2
   simp![nX,vT,q1,eR,iR,q,zw]
  .simp![nX,vT,q1]
 obtain⟨x1,e1,wf1,o1⟩:=HD (a*3+7) N O H hN hO' hH ∅ ∅ lH;rw[<-erl] at e1;have p3:∀h,tV G (ρE ns a d N O H rl y none none none none none) h=some (.nx (ρE ns a d N O H rl y (some (zk x1)) none none none none),h):=λh=>by
  simp![tV,m3,addW,k8,xB,e1]
 have row3:∀h,aG G (ρD ns a ((d:Int)+1) (kn N O H) rl none none none none none none) h=zo (sW G) (zo (tT G) (zo (tZ G) (zo (tS G) (zo (rG G) (zo (rP G) (li G)))))) (ρE ns a d N O H rl y (some (zk x1)) none none none none) h:=λh=>by
  rw[row,zt (p1 h),zt (p2 h),zt (p3 h)]
 by_cases k4:y<6
 .have hp:(0:Int)<((xO O).length:Int):=by rw[sD];omega
  obtain⟨v,hv,ev⟩:=iy (l:=xO O) (kF (ns:=ns) (k:=a+3) (many:=(xO O).length) hp).1 (kF (ns:=ns) (k:=a+3) (many:=(xO O).length) hp).2;have c7:4+(List.replicate 3 (zD O)).flatten.length<=cap:=by
   have:(List.replicate 3 (zD O)).flatten.length=3*O.length:=by simp[List.replicate,zD];omega
   rw[this];exact zT (show 4+3*O.length<=400 by omega) (by decide)
  have hs3:(zD O).length<=1000:=by rw[vF];omega
  refine⟨.write v x1,λh=>?_,by simp only[Wf];exact⟨ZA hv,wf1⟩,by simp only[kg];omega⟩
  .rw[row3]
   refine y0 ?_;have m:∀h,kB (.tup (zD O)) (.int 3) h=some (.tup (List.replicate 3 (zD O)).flatten,h):=λh=>by
    simp only[kB];rw[zY ⟨by omega,by omega,hs3⟩];rfl
   have ad:∀h,addW (.tup [.str "a",.str "b",.str "c",.str "d"]) (.tup (List.replicate 3 (zD O)).flatten) h=some (.tup ([.str "a",.str "b",.str "c",.str "d"]++(List.replicate 3 (zD O)).flatten),h):=λh=>by
    simp only[addW,k8,zm,zV];rw[zY c7]
   rw[t7] at ad;generalize (List.replicate 3 (zD O)).flatten=Z at m ad;have a3:∀h,addW (.int a) (.int 3) h=some (.int (a+3),h):=λh=>by simp[addW,k8]
   unfold sW;refine sE ((Bf (j:=0) rfl).trans (by simp[k4])) ?_;rw[zt (ρ':=ρE ns a d N O H rl y (some (zk x1)) (some (.tup (zD (xO O)))) none none none) (h':=h) (by simp![zw,c4,yb,m,ad])];simp![kH,vF,a3,e (a+3) (xO O).length _ hp,ev,zw,c3,zk]
 have p4:∀h,sW G (ρE ns a d N O H rl y (some (zk x1)) none none none none) h=some (.nx (ρE ns a d N O H rl y (some (zk x1)) none none none none),h):=λh=>
  iq ((Bf (j:=0) rfl).trans (by simp[k4]))
 cases k5:(y==6) with
 | true=>
  refine⟨.say x1,λh=>?_,by simp only[Wf];exact wf1,by simp only[kg];omega⟩;rw[row3,zt (p4 h)];refine aT ((gX rfl).trans (by rw[k5])) ?_;simp![zw,c2,zk]
 | false=>
 have p5:∀h,tT G (ρE ns a d N O H rl y (some (zk x1)) none none none none) h=some (.nx (ρE ns a d N O H rl y (some (zk x1)) none none none none),h):=λh=>
  iq ((gX rfl).trans (by rw[k5]))
 have a3:∀h,addW (.int a) (.int 3) h=some (.int (a+3),h):=λh=>by simp[addW,k8]
 cases k6:(y==7) with
 | true=>
  obtain⟨v',hv,ev⟩:=eB (l:=[.str "x",.str "y",.str "x1"]) (kF (ns:=ns) (k:=a+3) (many:=3) ∅).1 (by simpa using (kF (ns:=ns) (k:=a+3) (many:=3) ∅).2);have:∃v:Str,v'=.str v/\(v="x" \/ v="y" \/ v="x1"):=by
   simp only[zb,zc,zQ] at hv;rcases hv with rfl | rfl | rfl
   .exact⟨_,rfl,.inl rfl⟩
   .exact⟨_,rfl,.inr (.inl rfl)⟩
   .exact⟨_,rfl,.inr (.inr rfl)⟩
  obtain⟨v,rfl,pv⟩:=this;obtain⟨x2,e2,wf2,o2⟩:=HD (a*3+23) (N++[v]) O H (YB hN pv) hO' hH (by simp;omega) ∅ lH;rw[<-erl] at e2;have dv:dt 1 (.str v)=true:=by rcases pv with rfl | rfl | rfl<;>decide +kernel
  have a4:∀h,addW (.tup (zD N)) (.tup [.str v]) h=some (.tup (zD (N++[v])),h):=λh=>by
   rw[<-lG];simp only[addW,k8,zm,zV,vF];rw[zY (zT (show N.length+(0+1)<=100 by omega) (by decide))]
  have a5:∀h,gz (kn N O H) (some 1) none h=some (.tup [.tup (zD O),.tup (zD H)],h):=λh=>by simp[gz,WG]
  have a6:∀h,addW (.tup [.tup (zD (N++[v]))]) (.tup [.tup (zD O),.tup (zD H)]) h=some (kn (N++[v]) O H,h):=λh=>by
   simp only[addW,k8,zm,zV];rw[zY (by decide)];rfl
  have a7:∀h,addW (.int (a*3)) (.int 23) h=some (.int (a*3+23),h):=λh=>by simp[addW,k8]
  refine⟨.lett v x1 x2,λh=>?_,by simp only[Wf];exact⟨⟨Fx hO' pv,Ui hH pv,dv⟩,wf1,wf2⟩,by simp only[kg];omega⟩
  .rw[row3,zt (p4 h),zt (p5 h)]
   refine aT ((gX rfl).trans (by rw[k6])) ?_;rw[zt (ρ':=ρE ns a d N O H rl y (some (zk x1)) none (some (.str v)) none none) (h':=h) (by simp![j1,c3,a3,e (a+3) 3 _ ∅,ev])];simp![m3,a7,xB,xC,zw,c1,c4,a4,uB,uT,a5,a6,e2,zk]
 | false=>
 have p6:∀h,tZ G (ρE ns a d N O H rl y (some (zk x1)) none none none none) h=some (.nx (ρE ns a d N O H rl y (some (zk x1)) none none none none),h):=λh=>
  iq ((gX rfl).trans (by rw[k6]))
 cases k7:(y==8) with
 | true=>
  obtain⟨v',hv,ev⟩:=eB (l:=[.str "p",.str "q"]) (kF (ns:=ns) (k:=a+3) (many:=2) ∅).1 (by simpa using (kF (ns:=ns) (k:=a+3) (many:=2) ∅).2);have:∃v:Str,v'=.str v/\(v="p" \/ v="q"):=by
   simp only[zb,zc,zQ] at hv;rcases hv with rfl | rfl
   .exact⟨_,rfl,.inl rfl⟩
   .exact⟨_,rfl,.inr rfl⟩
  obtain⟨v,rfl,vpq⟩:=this;have dv:dt 1 (.str v)=true:=by rcases vpq with rfl | rfl<;>decide +kernel
  obtain⟨x2,e2,wf2,o2⟩:=HD (a*3+23) N (O++[v]) H hN (Yu hO' vpq) hH ∅ (by simp;omega) lH;rw[<-erl] at e2;have a4:∀h,addW (.tup (zD O)) (.tup [.str v]) h=some (.tup (zD (O++[v])),h):=λh=>by
   rw[<-lG];simp only[addW,k8,zm,zV,vF];rw[zY (zT (show O.length+(0+1)<=100 by omega) (by decide))]
  have a7:∀h,addW (.int (a*3)) (.int 23) h=some (.int (a*3+23),h):=λh=>by simp[addW,k8]
  refine⟨.own v x1 x2,λh=>?_,by simp only[Wf];exact⟨⟨D5 hN vpq,Fv hH vpq,dv⟩,wf1,wf2⟩,by simp only[kg];omega⟩
  .rw[row3,zt (p4 h),zt (p5 h),zt (p6 h)]
   refine aT ((gX rfl).trans (by rw[k7])) ?_;rw[zt (ρ':=ρE ns a d N O H rl y (some (zk x1)) none (some (.str v)) none none) (h':=h) (by simp![j1,c2,a3,e (a+3) 2 _ ∅,ev])];rw[zt (ρ':=ρE ns a d N O H rl y (some (zk x1)) none (some (.str v)) (some (kn N (O++[v]) H)) none) (h':=h) (by simp![zw,c1,c3,xC,yb,ck,a4])];simp![m3,a7,xB,zw,c4,e2,zk]
 | false=>
 have p7:∀h,tS G (ρE ns a d N O H rl y (some (zk x1)) none none none none) h=some (.nx (ρE ns a d N O H rl y (some (zk x1)) none none none none),h):=λh=>
  iq ((gX rfl).trans (by rw[k7]))
 obtain⟨x2,e2,wf2,o2⟩:=HD (a*3+41) N O H hN hO' hH ∅ ∅ lH;rw[<-erl] at e2;have a8:∀h,addW (.int (a*3)) (.int 41) h=some (.int (a*3+41),h):=λh=>by simp[addW,k8]
 have p8:∀h,rG G (ρE ns a d N O H rl y (some (zk x1)) none none none none) h=some (.nx (ρE ns a d N O H rl y (some (zk x1)) none none none (some (zk x2))),h):=λh=>by
  simp![rG,m3,a8,xB,e2]
 have row8:∀h,aG G (ρD ns a ((d:Int)+1) (kn N O H) rl none none none none none none) h=zo (rP G) (li G) (ρE ns a d N O H rl y (some (zk x1)) none none none (some (zk x2))) h:=λh=>by
  rw[row3,zt (p4 h),zt (p5 h),zt (p6 h),zt (p7 h),zt (p8 h)]
 cases k9:(y==9) with
 | true=>
  obtain⟨x3,e3,wf3,o3⟩:=HD (a*3+61) N O H hN hO' hH ∅ ∅ lH;rw[<-erl] at e3;have a9:∀h,addW (.int (a*3)) (.int 61) h=some (.int (a*3+61),h):=λh=>by simp[addW,k8]
  refine⟨.iff x1 x2 x3,λh=>?_,by simp only[Wf];exact⟨wf1,wf2,wf3⟩,by simp only[kg];omega⟩
  .rw[row8]
   refine aT ((gX rfl).trans (by rw[k9])) ?_;simp![m3,a9,xB,zw,c4,e3,zk]
 | false=>
 have g10:0<=y-10/\y-10<5:=by
  rw[jr] at k5 k6 k7 k9;omega
 obtain⟨v',hv,ev⟩:=eB (l:=[.tup [.str "then"],.tup [.str "add"],.tup [.str "less"],.tup [.str "loop"],.tup [.str "then"]]) (i:=y-10) g10.1 (by simpa using g10.2);have:∃(x:Str) (y2:D),v'=.tup [.str x]/\zk y2=th x [zk x1,zk x2]/\Wf rs rs.length y2 N O H/\kg y2<=d+1:=by
  simp only[zb,zc,zQ] at hv;rcases hv with rfl | rfl | rfl | rfl | rfl
  .exact⟨_,.thenn x1 x2,rfl,by simp only[zk],by simp only[Wf];exact⟨wf1,wf2⟩,by simp only[kg];omega⟩
  .exact⟨_,.add x1 x2,rfl,by simp only[zk],by simp only[Wf];exact⟨wf1,wf2⟩,by simp only[kg];omega⟩
  .exact⟨_,.less x1 x2,rfl,by simp only[zk],by simp only[Wf];exact⟨wf1,wf2⟩,by simp only[kg];omega⟩
  .exact⟨_,.loop x1 x2,rfl,by simp only[zk],by simp only[Wf];exact⟨wf1,wf2⟩,by simp only[kg];omega⟩
  .exact⟨_,.thenn x1 x2,rfl,by simp only[zk],by simp only[Wf];exact⟨wf1,wf2⟩,by simp only[kg];omega⟩
 obtain⟨x,y2,rfl,ty,ww,dd⟩:=this;refine⟨y2,λh=>?_,ww,dd⟩
 .rw[row8,ty]
  unfold rP;rw[Je ((gX rfl).trans (by rw[k9]))];have a10:∀h,addW (.tup [.str x]) (.tup [zk x1,zk x2]) h=some (th x [zk x1,zk x2],h):=λh=>by
   simp only[addW,k8,zm,zV];rw[zY (by decide)];rfl
  simp![li,zw,j1,c1,c2,c5,xB,ev,a10]
def Qu{ns:List Int}(hr:RG rs)(hl:ns.length<=63):b9 (step (step (step (step F)))) ns rs 0:=by
 intro a N O H hN hO' hH lN lO lH;have e:=λ(k many:Int) (h:MH) (hm:0<many)=>xZ (F:=step F) (k:=k) (many:=many) (h:=h) hl hm
 obtain⟨x,ew,p,o⟩:=JW (F:=F) (ns:=ns) (a:=a+1) (N:=N) (O:=O) (H:=H) hr hl hN hO' hH ∅ ∅ ∅;generalize step (step (step F))=G at e ew;refine⟨x,λh=>aw (n:=2) ?_ (hr.dt1 p hN hO' hH o),p,o⟩;simp![aG,KU,sT,nX,tV,sW,tT,tZ,tS,rG,rP,li,e a 15 _ ∅,vt,addW,k8,ew]
theorem U5(F:Fs):cC F=zo (Yq F) (zo (WF F) (zo (Yk F) (zo (WC F) (Yc F)))):=rfl
theorem Uj(F:Fs):bR F=zo (WR F) (zo (BF F) (Uy F)):=rfl
def m5:kB (.int 5) (.int a) h=some (.int (5*a),h):=by
 have:(small 5||small a)=true:=by rw[show small 5=true by decide];rfl
 simp only[kB,this,kW]
def m7:kB (.int 7) (.int a) h=some (.int (7*a),h):=by
 have:(small 7||small a)=true:=by rw[show small 7=true by decide];rfl
 simp only[kB,this,kW]
noncomputable abbrev ρC(ns:List Int)(a d:Int)(K:W)(rl:List W)(o5 o6 o7 o8:Option W):En:=[some (jv ns),some (.int a),some (.int d),some K,some (.tup rl),o5,o6,o7,o8]
theorem nZ{G:Fs}{rs:List Rule}{N O H:List Str}(HD:b9 G ns rs d)(hN:wn N)(hO:wo O)(hH:wh H)(lN:N.length+d<=20)(lO:O.length+d<=20)(lH:H.length<=20) :
  ∀is:List Int,∃xs:List D,xs.length=is.length/\(∀x∈xs,Wf rs rs.length x N O H/\kg x<=d)/\∀(h0:MH) (acc:List W) (o5 o6 o8:Option W),acc.length+is.length<=1000->
   ∃o,forL (zC 8) (kx (kK qa (ze 7) [zh G.au [ze 0,zi addW (zi addW (zi kB (ze 1) (eC (.int 3))) (eC (.int 7))) (zi kB (eC (.int 5)) (ze 8)),zi xB (ze 2) (eC (.int 1)),ze 3,ze 4]])) (is.map W.int) (ρC ns a ((d:Int)+1) (kn N O H) (kf rs) o5 o6 (some (.ref h0.length)) o8) (h0++[.lst acc]) =
    some (.nx (ρC ns a ((d:Int)+1) (kn N O H) (kf rs) o5 o6 (some (.ref h0.length)) o),h0++[.lst (acc++xs.map zk)])
 | []=>⟨[],rfl,λw hw=>by simp at hw,λh0 acc o5 o6 o8 _=>⟨o8,by simp[forL]⟩⟩
 | i::is=>by
  obtain⟨xs,h1,h2,h3⟩:=nZ (a:=a) HD hN hO hH lN lO lH is;obtain⟨x,ew,p,o⟩:=HD (a*3+7+5*i) N O H hN hO hH lN lO lH;refine⟨x::xs,by simp[h1],λv hv=>?_,λh0 acc o5 o6 o8 hc=>?_⟩
  .rcases zb.mp hv with rfl | z
   .exact⟨p,o⟩
   .exact h2 v z
  .simp only[zm] at hc
   obtain⟨o',e⟩:=h3 h0 (acc++[zk x]) o5 o6 (some (.int i)) (by simp;omega);refine⟨o',?_⟩;simp only[zq];generalize kf rs=rl at ew e ⊢;unfold forL;have g:zC 8 (.int i) (ρC ns a ((d:Int)+1) (kn N O H) rl o5 o6 (some (.ref h0.length)) o8) (h0++[.lst acc])=some (ρC ns a ((d:Int)+1) (kn N O H) rl o5 o6 (some (.ref h0.length)) (some (.int i)),h0++[.lst acc]):=by simp[zC]
   rw[g];have hcap:acc.length<cap:=zN (show acc.length<1000 by omega) (by decide);have b:(kx (kK qa (ze 7) [zh G.au [ze 0,zi addW (zi addW (zi kB (ze 1) (eC (.int 3))) (eC (.int 7))) (zi kB (eC (.int 5)) (ze 8)),zi xB (ze 2) (eC (.int 1)),ze 3,ze 4]])) (ρC ns a ((d:Int)+1) (kn N O H) rl o5 o6 (some (.ref h0.length)) (some (.int i))) (h0++[.lst acc])=some (.nx (ρC ns a ((d:Int)+1) (kn N O H) rl o5 o6 (some (.ref h0.length)) (some (.int i))),h0++[.lst (acc++[zk x])]):=by
    simp![kK,getL,at0,qa,mG,m3,m5,addW,k8,xB,ew,hcap]
   simp only[b];rw[e];simp
theorem sY{H:List Str}:∀{l:List D},(∀x∈l,Wf rs k x N O H/\kg x<=n)->uy rs k l N O H/\uj l<=n
 | [],_=>by simp[uy,uj]
 | x::l,h=>by
  have h1:=h x z9;have h2:=sY (l:=l) λy hy=>h y (zP _ hy)
  simp only[uy,uj];exact⟨⟨h1.1,h2.1⟩,by omega⟩
def nq(n:Nat):upto n=((_root_.List.range n).map λ(i:Nat)=>(i:Int)).map W.int:=by simp[upto]
def Qj{ns:List Int}(hl:ns.length<=63)(hrg:RG rs)(hne:kf rs≠[])(HD:b9 (step (step F)) ns rs d):Jb (step (step (step F))) ns rs d:=by
 intro a N O H hN hO hH lN lO lH;have e:=λ(k many:Int) (h:MH) (hm:0<many)=>xZ (F:=F) (k:=k) (many:=many) (h:=h) hl hm
 generalize step (step F)=G at e HD;have hp:(0:Int)<((kf rs).length:Int):=by
  cases h:kf rs with
  | nil=>exact absurd h hne
  | cons _ _=>simp only[zm];omega
 have rg:=kF (ns:=ns) (k:=a+3) (many:=(kf rs).length) hp;have er:=λh=>e (a+3) (kf rs).length h hp
 obtain⟨j,hj⟩:=jG rg.1;rw[hj] at rg er;have hjr:(kf rs).length=rs.length:=by unfold kf;rw[zB]
 have hjl:j<rs.length:=by omega
 obtain⟨r,hr⟩:∃r,rs[j]?=some r:=⟨rs[j],zE hjl⟩;obtain⟨⟨b1,b2⟩,b3,b4,b5⟩:=hrg.b j r hr;have ei:∀h,zv (.tup (kf rs)) (.int (j:Int)) h=some (.tup [.tup (zD r.ns),.tup (zD r.hs),zk r.body],h):=λh=>CH ∅ ∅ (by have:=oE hr;simpa[bP] using this)
 obtain⟨xs,h1,h2,h3⟩:=nZ (a:=a) HD hN hO hH lN lO lH ((_root_.List.range (r.ns.length+r.hs.length)).map λ(i:Nat)=>(i:Int));simp only[zB,jF] at h1 h3;have wt:=sY (l:=xs.take r.ns.length) λx hx=>h2 x (List.mem_of_mem_take hx)
 have wd:=sY (l:=xs.drop r.ns.length) λx hx=>h2 x (qK hx)
 have ww:Wf rs rs.length (.call j (xs.take r.ns.length) (xs.drop r.ns.length)) N O H:=by
  simp only[Wf];exact⟨hjl,⟨r,hr,by rw[qQ];omega,by rw[vg];omega⟩,wt.1,wd.1⟩
 have dd:kg (.call j (xs.take r.ns.length) (xs.drop r.ns.length))<=d+1:=by simp only[kg];omega
 refine⟨.call j (xs.take r.ns.length) (xs.drop r.ns.length),λh=>?_,ww,dd⟩
 .have pw:=hrg.dt1 ww hN hO hH dd
  simp only[zk,xw,List.map_take,List.map_drop] at pw ⊢;refine Qr (t:=[.lst (xs.map zk)]) ?_ pw;clear pw ww wt wd;generalize kf rs=rl at er ei h3 ⊢;obtain⟨o,e3⟩:=h3 h [] (some (.int (j:Int))) (some (.int (r.ns.length:Int))) none (by simp;omega);rw[kE] at e3;suffices hs:cC G (ρC ns a ((d:Int)+1) (kn N O H) rl none none none none) h=some (.ret (th "call" [.int (j:Int),.tup ((xs.map zk).take r.ns.length),.tup ((xs.map zk).drop r.ns.length)]),h++[.lst (xs.map zk)]) by
   simp only[kd,zm,zV,kW,zq,jd,List.replicate,jk,kE];simp only[ρC] at hs;simp only[hs]
  have c0:(0:Nat)<=cap:=by decide
  have c4:(4:Nat)<=cap:=by decide
  have s0:Yq G (ρC ns a ((d:Int)+1) (kn N O H) rl none none none none) h=some (.nx (ρC ns a ((d:Int)+1) (kn N O H) rl (some (.int (j:Int))) none none none),h):=by
   simp![Yq,addW,k8,kH,er]
  have s1:WF G (ρC ns a ((d:Int)+1) (kn N O H) rl (some (.int (j:Int))) none none none) h=some (.nx (ρC ns a ((d:Int)+1) (kn N O H) rl (some (.int (j:Int))) (some (.int (r.ns.length:Int))) none none),h):=by
   simp![WF,ei,xC,kH,vF]
  have s2:Yk G (ρC ns a ((d:Int)+1) (kn N O H) rl (some (.int (j:Int))) (some (.int (r.ns.length:Int))) none none) h=some (.nx (ρC ns a ((d:Int)+1) (kn N O H) rl (some (.int (j:Int))) (some (.int (r.ns.length:Int))) (some (.ref h.length)) none),h++[.lst []]):=by
   simp![Yk,xU,c0]
  have s3:WC G (ρC ns a ((d:Int)+1) (kn N O H) rl (some (.int (j:Int))) (some (.int (r.ns.length:Int))) (some (.ref h.length)) none) (h++[.lst []])=some (.nx (ρC ns a ((d:Int)+1) (kn N O H) rl (some (.int (j:Int))) (some (.int (r.ns.length:Int))) (some (.ref h.length)) o),h++[.lst (xs.map zk)]):=by
   rw[<-e3];have ir:(qk [zi addW (ze 6) (zh kH [zi zv (zi zv (ze 4) (ze 5)) (eC (.int 1))])]) (ρC ns a ((d:Int)+1) (kn N O H) rl (some (.int (j:Int))) (some (.int (r.ns.length:Int))) (some (.ref h.length)) none) (h++[.lst []])=some (.items (upto (r.ns.length+r.hs.length)),h++[.lst []]):=by
    have q:-(2 ^ 62:Int)<=(r.ns.length:Int)+(r.hs.length:Int)/\(r.ns.length:Int)+(r.hs.length:Int)<2 ^ 62:=by omega
    have q2:((r.ns.length:Int)+(r.hs.length:Int)).toNat=r.ns.length+r.hs.length:=by omega
    have lw:∀h,kH [.tup (zD r.hs)] h=some (.int (r.hs.length:Int),h):=λh=>by simp[kH,vF]
    have ad:∀h,addW (.int (r.ns.length:Int)) (.int (r.hs.length:Int)) h=some (.int ((r.ns.length:Int)+(r.hs.length:Int)),h):=λh=>by simp[addW,k8]
    have rw1:∀h,ae [.int ((r.ns.length:Int)+(r.hs.length:Int))] h=some (.items (upto (r.ns.length+r.hs.length)),h):=λh=>by
     unfold ae;simp only;rw[zY q,q2]
    simp![qk,ei,yb,lw,ad,rw1]
   unfold WC yY;rw[ir];simp only;rw[nq]
  have s4:Yc G (ρC ns a ((d:Int)+1) (kn N O H) rl (some (.int (j:Int))) (some (.int (r.ns.length:Int))) (some (.ref h.length)) o) (h++[.lst (xs.map zk)])=some (.ret (th "call" [.int (j:Int),.tup ((xs.map zk).take r.ns.length),.tup ((xs.map zk).drop r.ns.length)]),h++[.lst (xs.map zk)]):=by
   have t1:=pP (l:=xs.map zk) (k:=r.ns.length) (by rw[zB];omega);have t2:=lj (l:=xs.map zk) (k:=r.ns.length);simp![Yc,uB,uT,gz,getL,at0,xE,zw,c4,t1,t2]
  rw[U5,zt s0,zt s1,zt s2,zt s3,s4]
theorem DN(m:Nat)(F:Fs):up (m+4) F=step (step (step (step (up m F)))):=rfl
theorem fw{ns:List Int}(hl:ns.length<=63)(hrg:RG rs)(F:Fs):∀(d:Nat),d<=4->∀m,4+2*d<=m->b9 (up m F) ns rs d
 | 0,_,m,hm=>by
  obtain⟨m',rfl⟩:∃m',m=m'+4:=⟨m-4,by omega⟩;rw[DN];exact Qu hrg hl
 | d+1,hd,m,hm=>by
  obtain⟨m',rfl⟩:∃m',m=m'+4:=⟨m-4,by omega⟩;rw[DN];exact JB hrg hl ∅ (fw hl hrg F d ∅ (m'+3) ∅) λhne=>Qj hl hrg hne (fw hl hrg F d ∅ (m'+2) ∅)
mutual
theorem y6:∀(d:D) {N O H:List Str},Wf rs k d N O H->Wf (rs++[r]) k d N O H
 | .number i,N,O,H,w=>by simp only[Wf]
 | .name v,N,O,H,w | .read v,N,O,H,w | .doo v,N,O,H,w=>by simp only[Wf] at w ⊢;exact w
 | .ask,N,O,H,w=>by simp only[Wf]
 | .write v a,N,O,H,w=>by simp only[Wf] at w ⊢;exact⟨w.1,y6 a w.2⟩
 | .say a,N,O,H,w=>by simp only[Wf] at w ⊢;exact y6 a w
 | .lett v a b,N,O,H,w | .own v a b,N,O,H,w=>by simp only[Wf] at w ⊢;exact⟨w.1,y6 a w.2.1,y6 b w.2.2⟩
 | .add a b,N,O,H,w | .less a b,N,O,H,w | .thenn a b,N,O,H,w | .loop a b,N,O,H,w=>by simp only[Wf] at w ⊢;exact⟨y6 a w.1,y6 b w.2⟩
 | .iff a b c,N,O,H,w=>by simp only[Wf] at w ⊢;exact⟨y6 a w.1,y6 b w.2.1,y6 c w.2.2⟩
 | .call i as bs,N,O,H,w=>by
  simp only[Wf] at w ⊢;obtain⟨hi,⟨r',hr,la,lb⟩,wa,wb⟩:=w;exact⟨hi,⟨r',by rw[zA (zS hr)];exact hr,la,lb⟩,iZ as wa,iZ bs wb⟩
theorem iZ:∀(l:List D) {N O H:List Str},uy rs k l N O H->uy (rs++[r]) k l N O H
 | [],N,O,H,w=>by simp only[uy]
 | d::l,N,O,H,w=>by simp only[uy] at w ⊢;exact⟨y6 d w.1,iZ l w.2⟩
end
def RG.snoc{rs:List Rule}(h:RG rs)(hl:rs.length<=1){r:Rule}(ln:r.ns.length<=2/\r.hs.length<=2)(w1:wn r.ns)(w2:wh r.hs)(w:Wf rs rs.length r.body r.ns [] r.hs)(hd:kg r.body<=2):RG (rs++[r]):=by
 have get:∀(i:Nat) (r':Rule),(rs++[r])[i]?=some r'->(i=rs.length/\r'=r)\/rs[i]?=some r':=λi r' e=>by
  by_cases q:i<rs.length
  .rw[zA q] at e;exact .inr e
  .rw[zH ∅] at e
   have z:i-rs.length=0:=by have:=zS e;simp at this;omega
   rw[z] at e;injection e with e;exact .inl ⟨by omega,e.symm⟩
 refine⟨by simp;omega,⟨λi r' e=>?_,λi r' e=>?_,λi r' e=>?_⟩,λi r' e=>?_⟩
 .rcases get i r' e with ⟨rfl,rfl⟩ | z
  .exact y6 _ w
  .exact y6 _ (h.g.w i r' z)
 .rcases get i r' e with ⟨rfl,rfl⟩ | z
  .exact λv hv=>Ui w2 (w1 v hv)
  .exact h.g.d i r' z
 .rcases get i r' e with ⟨rfl,rfl⟩ | z
  .omega
  .exact h.g.l i r' z
 .rcases get i r' e with ⟨rfl,rfl⟩ | z
  .exact⟨ln,w1,w2,hd⟩
  .exact h.b i r' z
noncomputable abbrev ρR(ns:List Int)(a:Int)(rl:List W)(o3 o4 o5 o6:Option W):En:=[some (jv ns),some (.int a),some (.tup rl),o3,o4,o5,o6]
noncomputable def J5(F:Fs):MS:=(zo (zI (zi zv (zh j1 [zh zw [],zh zw [eC (.str "x")],zh zw [eC (.str "y"),eC (.str "x")]]) (zh F.aa [ze 0,zi addW (zi addW (ze 1) (eC (.int 1))) (zi kB (eC (.int 5)) (ze 3)),eC (.int 3)])) (zC 4))
 (zo (zI (zi zv (zh j1 [zh zw [],zh zw [eC (.str "f")],zh zw [eC (.str "f"),eC (.str "g1")]]) (zh F.aa [ze 0,zi addW (zi addW (ze 1) (eC (.int 2))) (zi kB (eC (.int 5)) (ze 3)),eC (.int 3)])) (zC 5))
 (zo (zI (zh F.au [ze 0,zi addW (zi addW (ze 1) (eC (.int 20))) (zi kB (eC (.int 7)) (ze 3)),eC (.int 2),zh zw [ze 4,zh zw [],ze 5],ze 2]) (zC 6))
 (zI (zi addW (ze 2) (zh zw [zh zw [ze 4,ze 5,ze 6]])) (zC 2)))))
theorem l6{G:Fs}(e:∀(k many:Int) (h:MH),0<many->G.aa [jv ns,.int k,.int many] h=some (.int (qV ns k many),h))(HD:∀rs,RG rs->b9 G ns rs 2) :
  ∀(is:List Int) (rs:List Rule),RG rs->rs.length+is.length<=2->∃rs',RG rs'/\∀(h:MH) (o3 o4 o5 o6:Option W),∃p3 p4 p5 p6,forL (zC 3) (J5 G) (is.map W.int) (ρR ns a (kf rs) o3 o4 o5 o6) h=some (.nx (ρR ns a (kf rs') p3 p4 p5 p6),h)
 | [],rs,hr,_=>⟨rs,hr,λh o3 o4 o5 o6=>⟨o3,o4,o5,o6,by simp[forL]⟩⟩
 | i::is,rs,hr,hl=>by
  simp only[zm] at hl;have c0:(0:Nat)<=cap:=by decide
  have c1:(1:Nat)<=cap:=by decide
  have c2:(2:Nat)<=cap:=by decide
  have c3:(3:Nat)<=cap:=by decide
  obtain⟨v1,hv1,ev1⟩:=eB (l:=[.tup [],.tup [.str "x"],.tup [.str "y",.str "x"]]) (kF (ns:=ns) (k:=a+1+5*i) (many:=3) ∅).1 (by simpa using (kF (ns:=ns) (k:=a+1+5*i) (many:=3) ∅).2);have:∃N:List Str,v1=.tup (zD N)/\N.length<=2/\wn N:=by
   simp only[zb,zc,zQ] at hv1;rcases hv1 with rfl | rfl | rfl
   .exact⟨[],rfl,by simp,λv hv=>by simp at hv⟩
   .exact⟨["x"],rfl,by simp,λv hv=>by simp only[zb,zc,zQ] at hv;exact .inl hv⟩
   .exact⟨["y","x"],rfl,by simp,λv hv=>by simp only[zb,zc,zQ] at hv;rcases hv with hv | hv;exact .inr (.inl hv);exact .inl hv⟩
  obtain⟨N,rfl,lN,wN⟩:=this;obtain⟨v2,hv2,ev2⟩:=eB (l:=[.tup [],.tup [.str "f"],.tup [.str "f",.str "g1"]]) (kF (ns:=ns) (k:=a+2+5*i) (many:=3) ∅).1 (by simpa using (kF (ns:=ns) (k:=a+2+5*i) (many:=3) ∅).2);have:∃N:List Str,v2=.tup (zD N)/\N.length<=2/\wh N:=by
   simp only[zb,zc,zQ] at hv2;rcases hv2 with rfl | rfl | rfl
   .exact⟨[],rfl,by simp,λv hv=>by simp at hv⟩
   .exact⟨["f"],rfl,by simp,λv hv=>by simp only[zb,zc,zQ] at hv;exact .inl hv⟩
   .exact⟨["f","g1"],rfl,by simp,λv hv=>by simp only[zb,zc,zQ] at hv;exact hv⟩
  obtain⟨H,rfl,lH,wH⟩:=this;obtain⟨x,ew,wx,dx⟩:=HD rs hr (a+20+7*i) N [] H wN (λv hv=>by simp at hv) wH ∅ (by simp) ∅;obtain⟨rs',hr',ih⟩:=l6 (a:=a) e HD is (rs++[⟨N,H,x⟩]) (hr.snoc ∅ ⟨lN,lH⟩ wN wH wx dx) (by simp;omega);refine⟨rs',hr',λh o3 o4 o5 o6=>?_⟩;obtain⟨p3,p4,p5,p6,e6⟩:=ih h (some (.int i)) (some (.tup (zD N))) (some (.tup (zD H))) (some (zk x));refine⟨p3,p4,p5,p6,?_⟩;have rw1:kf (rs++[⟨N,H,x⟩])=kf rs++[.tup [.tup (zD N),.tup (zD H),zk x]]:=by simp[kf,bP]
  have rl:(kf rs).length=rs.length:=by unfold kf;rw[zB]
  rw[rw1] at e6;simp only[zq];unfold forL;have g:zC 3 (.int i) (ρR ns a (kf rs) o3 o4 o5 o6) h=some (ρR ns a (kf rs) (some (.int i)) o4 o5 o6,h):=by simp[zC]
  rw[g];have cr:(kf rs).length+1<=cap:=zT (show(kf rs).length+1<=10 by omega) (by decide);generalize kf rs=rl at ew e6 cr ⊢;have a1:∀x y:Int,∀h,addW (.int x) (.int y) h=some (.int (x+y),h):=λx y h=>by simp[addW,k8]
  have a2:∀w h,addW (.tup rl) (.tup [w]) h=some (.tup (rl++[w]),h):=λw h=>by
   simp only[addW,k8,zm,zV];rw[zY (by simpa using cr)]
  have ew':∀h,G.au [jv ns,.int (a+20+7*i),.int 2,.tup [.tup (zD N),.tup [],.tup (zD H)],.tup rl] h=some (zk x,h):=λh=>ew h
  have b:J5 G (ρR ns a rl (some (.int i)) o4 o5 o6) h=some (.nx (ρR ns a (rl++[.tup [.tup (zD N),.tup (zD H),zk x]]) (some (.int i)) (some (.tup (zD N))) (some (.tup (zD H))) (some (zk x))),h):=by
   unfold J5;rw[zt (ρ':=ρR ns a rl (some (.int i)) (some (.tup (zD N))) o5 o6) (h':=h) (by simp![zw,j1,c0,c1,c2,c3,a1,m5,e (a+1+5*i) 3 _ ∅,ev1])];rw[zt (ρ':=ρR ns a rl (some (.int i)) (some (.tup (zD N))) (some (.tup (zD H))) o6) (h':=h) (by simp![zw,j1,c0,c1,c2,c3,a1,m5,e (a+2+5*i) 3 _ ∅,ev2])];rw[zt (ρ':=ρR ns a rl (some (.int i)) (some (.tup (zD N))) (some (.tup (zD H))) (some (zk x))) (h':=h) (by simp![zw,c0,c3,a1,m7,ew'])];simp![zw,c1,c3,a2]
  simp only[b];rw[e6]
def YF{ns:List Int}(hl:ns.length<=63)(hm:8<=m):∃rs,RG rs/\∀h,(step (up m F)).bK [jv ns,.int 1] h=some (.tup (kf rs),h):=by
 have HD:=λrs (hr:RG rs)=>fw hl hr F 2 ∅ m ∅
 have e:∀(k many:Int) (h:MH),0<many->(up m F).aa [jv ns,.int k,.int many] h=some (.int (qV ns k many),h):=by
  obtain⟨m',rfl⟩:∃m',m=m'+2:=⟨m-2,by omega⟩;exactλk many h hm=>xZ (F:=up m' F) hl hm
 generalize up m F=G at e HD;have rg:=kF (ns:=ns) (k:=1) (many:=3) ∅;have e1:=λh=>e 1 3 h ∅
 obtain⟨j,hj⟩:=jG rg.1;rw[hj] at rg e1;obtain⟨rs',hr',ih⟩:=l6 (a:=1) e HD ((_root_.List.range j).map λ(i:Nat)=>(i:Int)) [] ⟨by simp,⟨λi r hi=>by simp at hi,λi r hi=>by simp at hi,λi r hi=>by simp at hi⟩,λi r hi=>by simp at hi⟩ (by simp;omega);refine⟨rs',hr',λh=>aw (n:=8) ?_ hr'.dt⟩;obtain⟨p3,p4,p5,p6,e6⟩:=ih h none none none none;have e6:forL (zC 3) (J5 G) (((_root_.List.range j).map λ(i:Nat)=>(i:Int)).map W.int) (ρR ns 1 [] none none none none) h=_:=e6;have c0:(0:Nat)<=cap:=by decide
 have s0:WR G [some (jv ns),some (.int 1),none,none,none,none,none] h=some (.nx (ρR ns 1 [] none none none none),h):=by
  simp![WR,zw,c0]
 have s1:BF G (ρR ns 1 [] none none none none) h=some (.nx (ρR ns 1 (kf rs') p3 p4 p5 p6),h):=by
  rw[<-e6];have ir:(qk [zh G.aa [ze 0,ze 1,eC (.int 3)]]) (ρR ns 1 [] none none none none) h=some (.items (upto j),h):=by
   have q:-(2 ^ 62:Int)<=(j:Int)/\(j:Int)<2 ^ 62:=by omega
   have rw1:∀h,ae [.int (j:Int)] h=some (.items (upto j),h):=λh=>by
    unfold ae;simp only;rw[zY q,jw]
   simp![qk,e1,rw1]
  show(yY _ _ (J5 G)) _ _=_
  unfold yY;rw[ir];simp only;rw[nq]
 have hs:bR G [some (jv ns),some (.int 1),none,none,none,none,none] h=some (.ret (.tup (kf rs')),h):=by
  rw[Uj,zt s0,zt s1];simp![Uy]
 simp only[kd,zm,zV,kW,zq,jd,List.replicate,jk,kE];simp only[hs]
def RG.good(h:RG rs):RulesGood (kf rs):=⟨λi hi=>by
 have hi':i<rs.length:=by unfold kf at hi;rw[zB] at hi;exact hi
 have hr:rs[i]?=some rs[i]:=zE hi';obtain⟨⟨l1,l2⟩,w1,w2,d2⟩:=h.b i _ hr
 exact⟨zD rs[i].ns,rs[i].hs,zk rs[i].body,oE hr,jI (yy (n:=2) h.g.l rs[i].body (h.g.w i _ hr) (sx w1) (λv hv=>by simp at hv) (pO w2) d2) ∅,p9 2 (h.g.w i _ hr) d2,by omega⟩⟩
def Ue{ns:List Int}(hl:ns.length<=63)(hm:15<=m)(hr:RG rs):∃x:D,Cd rs x/\kg x<=2/\∀h,(step (up m F)).aF [jv ns,.int a,.int 2,.tup (kf rs)] h=some (zk x,h):=by
 have n0:wn []:=λv hv=>by simp at hv
 have o0:wo []:=λv hv=>by simp at hv
 have h0:wh []:=λv hv=>by simp at hv
 obtain⟨x,ew,p,o⟩:=fw hl hr F 2 ∅ m ∅ a [] [] [] n0 o0 h0 (by simp) (by simp) (by simp);have rlen:(kf rs).length=rs.length:=by unfold kf;rw[zB]
 obtain⟨v,ev⟩:=gv hr.good F m (kf rs).length 3 (by have:=hr.l;omega) ∅ ∅ [] (zk x) [] (by rw[rlen];exact p9 2 p o) (jI (hr.dt1 p n0 o0 h0 o) ∅) (λp hp=>by simp at hp);have e:∀(k many:Int) (h:MH),0<many->(up m F).aa [jv ns,.int k,.int many] h=some (.int (qV ns k many),h):=by
  obtain⟨m',rfl⟩:∃m',m=m'+2:=⟨m-2,by omega⟩;exactλk many h hm=>xZ (F:=up m' F) hl hm
 generalize up m F=G at e ew ev;have c0:(0:Nat)<=cap:=by decide
 have c2:(2:Nat)<=cap:=by decide
 have c3:(3:Nat)<=cap:=by decide
 have ew':∀h,G.au [jv ns,.int a,.int 2,.tup [.tup [],.tup [],.tup []],.tup (kf rs)] h=some (zk x,h):=λh=>ew h
 by_cases k:80<v
 .have rg:=kF (ns:=ns) (k:=a) (many:=4) ∅
  have e1:=λh=>e a 4 h ∅
  generalize qV ns a 4=y at rg e1;have:∃c:Str,c∈SH/\∀h,zv (.str "abcd") (.int y) h=some (.str c,h):=by
   have hy:y=0\/y=1\/y=2\/y=3:=by omega
   have hc:(("abcd":Str).length<=cap):=by decide +kernel
   have hx:("abcd":Str).cps.toList=[97,98,99,100]:=by decide +kernel
   rcases hy with rfl | rfl | rfl | rfl
   .exact⟨⟨#[97]⟩,by decide +kernel,λh=>by simp[zv,hc,hx,atI,xl]⟩
   .exact⟨⟨#[98]⟩,by decide +kernel,λh=>by simp[zv,hc,hx,atI,xl]⟩
   .exact⟨⟨#[99]⟩,by decide +kernel,λh=>by simp[zv,hc,hx,atI,xl]⟩
   .exact⟨⟨#[100]⟩,by decide +kernel,λh=>by simp[zv,hc,hx,atI,xl]⟩
  obtain⟨c,c6,ec⟩:=this;have wr:Cd rs (.read c):=by simp only[Wf];exact .inl c6
  refine⟨.read c,wr,by simp only[kg];omega,λh=>aw (n:=2) ?_ (hr.dt1 (n:=0) wr n0 o0 h0 (by simp only[kg,zg]))⟩;simp![bQ,zw,c0,c2,c3,ew',ev,vT,k,e1,ec,zk]
 .refine⟨x,p,o,λh=>aw (n:=6) ?_ (hr.dt1 p n0 o0 h0 o)⟩
  simp![bQ,zw,c0,c2,c3,ew',ev,vT,k]
noncomputable def FF(P Q h:Nat):Nat->Nat
 | 0=>1+h
 | n+1=>(P+2)*FF P Q h n+Q
theorem W4:∀n,1+h<=FF P Q h n
 | 0=>zg _
 | n+1=>by
  have:=W4 (P:=P) (Q:=Q) (h:=h) n;simp only[FF,v7];omega
section
variable{rs:List Rule}{B:Nat->Nat->Nat}{P Q h k:Nat}
def eJ(hP:2<=P)(hQ:9<=Q)(h1:y<=4*x+9):y<=(P+2)*x+Q:=by
 have:=qJ x hP;rw[v7];omega
mutual
theorem yn(hr:∀(i:Nat) (r:Rule),rs[i]?=some r->r.ns.length<=2)(hP:2<=P)(hQ:9<=Q)(hB:∀i,i<k->∀m,B i m+2<=P*m+Q):∀(d:D) {N O H:List Str} {n:Nat},Wf rs k d N O H->kg d<=n->cost B h d<=FF P Q h n
 | .number i,N,O,H,n,w,hd | .name v,N,O,H,n,w,hd | .read v,N,O,H,n,w,hd | .doo v,N,O,H,n,w,hd | .ask,N,O,H,n,w,hd=>by have:=W4 (P:=P) (Q:=Q) (h:=h) n;simp only[cost];omega
 | .write v a,N,O,H,n,w,hd=>by
  simp only[Wf] at w;simp only[kg] at hd;obtain⟨m,rfl⟩:∃m,n=m+1:=⟨n-1,by omega⟩;have:=yn hr hP hQ hB a w.2 (show kg a<=m by omega);exact eJ hP hQ (by simp only[cost];omega)
 | .say a,N,O,H,n,w,hd=>by
  simp only[Wf] at w;simp only[kg] at hd;obtain⟨m,rfl⟩:∃m,n=m+1:=⟨n-1,by omega⟩;have:=yn hr hP hQ hB a w (show kg a<=m by omega);exact eJ hP hQ (by simp only[cost];omega)
 | .lett v a b,N,O,H,n,w,hd | .own v a b,N,O,H,n,w,hd=>by
  simp only[Wf] at w;simp only[kg] at hd;obtain⟨m,rfl⟩:∃m,n=m+1:=⟨n-1,by omega⟩;have:=yn hr hP hQ hB a w.2.1 (show kg a<=m by omega);have:=yn hr hP hQ hB b w.2.2 (show kg b<=m by omega);exact eJ hP hQ (by simp only[cost];omega)
 | .add a b,N,O,H,n,w,hd | .less a b,N,O,H,n,w,hd | .thenn a b,N,O,H,n,w,hd | .loop a b,N,O,H,n,w,hd=>by
  simp only[Wf] at w;simp only[kg] at hd;obtain⟨m,rfl⟩:∃m,n=m+1:=⟨n-1,by omega⟩;have:=yn hr hP hQ hB a w.1 (show kg a<=m by omega);have:=yn hr hP hQ hB b w.2 (show kg b<=m by omega);exact eJ hP hQ (by simp only[cost];omega)
 | .iff a b c,N,O,H,n,w,hd=>by
  simp only[Wf] at w;simp only[kg] at hd;obtain⟨m,rfl⟩:∃m,n=m+1:=⟨n-1,by omega⟩;have:=yn hr hP hQ hB a w.1 (show kg a<=m by omega);have:=yn hr hP hQ hB b w.2.1 (show kg b<=m by omega);have:=yn hr hP hQ hB c w.2.2 (show kg c<=m by omega);exact eJ hP hQ (by simp only[cost];omega)
 | .call i as bs,N,O,H,n,w,hd=>by
  simp only[Wf] at w;obtain⟨hi,⟨r,hri,la,lb⟩,wa,wb⟩:=w;simp only[kg] at hd;obtain⟨m,rfl⟩:∃m,n=m+1:=⟨n-1,by omega⟩;have h1:=(lf hr hP hQ hB as wa (show uj as<=m by omega)).1;have h2:=(lf hr hP hQ hB bs wb (show uj bs<=m by omega)).2;have h3:=hB i hi (x4 B h bs);have h4:=Nat.mul_le_mul_left P h2;have h5:=qJ (FF P Q h m) (show as.length<=2 by have:=hr i r hri;omega);simp only[cost,FF,v7];omega
theorem lf(hr:∀(i:Nat) (r:Rule),rs[i]?=some r->r.ns.length<=2)(hP:2<=P)(hQ:9<=Q)(hB:∀i,i<k->∀m,B i m+2<=P*m+Q):∀(l:List D) {N O H:List Str} {n:Nat},uy rs k l N O H->uj l<=n->uC B h l<=l.length*FF P Q h n/\x4 B h l<=FF P Q h n
 | [],N,O,H,n,w,hd=>by simp[uC,x4]
 | d::l,N,O,H,n,w,hd=>by
  simp only[uy] at w;simp only[uj] at hd;have h1:=yn hr hP hQ hB d w.1 (show kg d<=n by omega);have h2:=lf hr hP hQ hB l w.2 (show uj l<=n by omega);simp only[uC,x4,zm,v7,Nat.one_mul];omega
end
end
theorem RG.cost(h:RG rs)(w:Cd rs d)(hd:kg d<=2):cst rs d<=604297:=by
 have ln:∀(i:Nat) (r:Rule),rs[i]?=some r->r.ns.length<=2:=λi r e=>(h.b i r e).1.1
 have b0:∀K,∀r,rs[0]?=some r->0<K->∀m,xy rs K 0 m+2<=16*m+63:=λK r e hK m=>by
  rw[fE e hK];show K15.cost (xy rs 0) m r.body+2<=_
  have:=yn (B:=xy rs 0) (P:=2) (Q:=9) (h:=m) (k:=0) ln ∅ ∅ (λi hi=>by omega) r.body (n:=2) (h.g.w 0 r e) (h.b 0 r e).2.2.2;simp only[FF] at this;omega
 have b1:∀K,∀r,rs[1]?=some r->1<K->∀m,xy rs K 1 m+2<=324*m+1523:=λK r e hK m=>by
  rw[fE e hK];show K15.cost (xy rs 1) m r.body+2<=_
  have:=yn (B:=xy rs 1) (P:=16) (Q:=63) (h:=m) (k:=1) ln ∅ ∅ (λi hi m=>by
   have:i=0:=by omega
   subst this;have l0:0<rs.length:=by have:=zS e;omega
   exact b0 1 _ (zE l0) ∅ m) r.body (n:=2) (h.g.w 1 r e) (h.b 1 r e).2.2.2
  simp only[FF] at this;omega
 have:=yn (B:=xy rs rs.length) (P:=324) (Q:=1523) (h:=0) (k:=rs.length) ln ∅ ∅ (λi hi m=>by
  have hl:=h.l;have e:=zE hi;have:i=0\/i=1:=by omega
  rcases this with rfl | rfl
  .have:=b0 rs.length _ e hi m;omega
  .exact b1 rs.length _ e hi m) d (n:=2) w hd
 simp only[FF] at this;omega
noncomputable def gd:Nat->W->Bool
 | 0,_=>false
 | _+1,.int _=>true
 | n+1,.tup l=>l.all (gd n)
 | n+1,.fls l=>l.all (gd n)
 | _+1,_=>false
theorem mL{f:W->Option PyData}:∀{l:List W},(∀w∈l,∃d,f w=some d/\PyData.eqv d d=true)->∃ds,vk f l=some ds/\PyData.eqvAll ds ds=true
 | [],_=>⟨[],rfl,by simp[PyData.eqvAll]⟩
 | w::l,h=>by
  obtain⟨d,e1,e2⟩:=h w z9;obtain⟨ds,e3,e4⟩:=mL (l:=l) λw hw=>h w (zP _ hw)
  exact⟨d::ds,by unfold vk;rw[e1,e3],by simp[PyData.eqvAll,e2,e4]⟩
theorem nj:∀{n m:Nat} {w:W},gd n w=true->n<=m->∃d,kT m h w=some d/\PyData.eqv d d=true
 | 0,_,_,g,_=>by cases g
 | n+1,0,_,_,hm=>by omega
 | n+1,m+1,.int i,_,_=>⟨.int i,rfl,by simp[PyData.eqv]⟩
 | n+1,m+1,.tup l,g,hm=>by
  unfold gd at g;obtain⟨ds,e1,e2⟩:=mL (f:=kT m h) (l:=l) λw hw=>nj (kJ.mp g w hw) ∅
  exact⟨.tuple ds,by unfold kT;rw[e1];rfl,by simp only[PyData.eqv];exact e2⟩
 | n+1,m+1,.fls l,g,hm=>by
  unfold gd at g;obtain⟨ds,e1,e2⟩:=mL (f:=kT m h) (l:=l) λw hw=>nj (kJ.mp g w hw) ∅
  exact⟨.list ds,by unfold kT;rw[e1];rfl,by simp only[PyData.eqv];exact e2⟩
 | n+1,_,.non,g,_=>by cases g
 | n+1,_,.bl _,g,_=>by cases g
 | n+1,_,.str _,g,_=>by cases g
 | n+1,_,.ref _,g,_=>by cases g
 | n+1,_,.fdc _,g,_=>by cases g
 | n+1,_,.fn _,g,_=>by cases g
def l7(g:gd n w=true)(hn:n<=60):eqB h w w=some true:=by
 obtain⟨d,e1,e2⟩:=nj (h:=h) g (show n<=deep from hn);unfold eqB;cases w with
 | int i=>simp[nF]
 | tup l=>simp only[nF,e1,e2]
 | fls l=>simp only[nF,e1,e2]
 | _=>cases n<;>cases g
theorem Yt(l:List Int):gd (n+2) (.fls (l.map .int))=true:=by
 unfold gd;rw[List.all_map];exact kJ.mpr λx _=>rfl
theorem WY(st:Str->Int):gd (n+2) (kA st)=true:=by
 unfold kA gd;rw[List.all_map];exact kJ.mpr λx _=>rfl
theorem sN{q:List Int×Rm}:gd 3 (uD q)=true:=by
 unfold uD gd;simp only[ju,List.all_nil,WY,Yt,Bool.true_and,Bool.and_true];rfl
noncomputable def stOf(a b c d:Int):Str->Int:=λv=>if v="a" then a else if v="b" then b else if v="c" then c else d
def Uw(a b c d:Int):kA (stOf a b c d)=.tup [.int a,.int b,.int c,.int d]:=by
 have n1:¬("b":Str)="a":=by decide +kernel
 have n2:¬("c":Str)="a":=by decide +kernel
 have n3:¬("c":Str)="b":=by decide +kernel
 have n4:¬("d":Str)="a":=by decide +kernel
 have n5:¬("d":Str)="b":=by decide +kernel
 have n6:¬("d":Str)="c":=by decide +kernel
 simp only[kA,SH,zq,jd,stOf,n1,n2,n3,n4,n5,n6,kW,jq]
section
variable{G F:Fs}{ns:List Int}
def YS(e:∀(k many:Int) (h:MH),0<many->G.aa [jv ns,.int k,.int many] h=some (.int (qV ns k many),h)):∃st,∀h,(step G).bI [jv ns,.int a] h=some (kA st,h):=by
 refine⟨stOf (qV ns (a+0) 6) (qV ns (a+1) 6) (qV ns (a+2) 6) (qV ns (a+3) 6),λh=>?_⟩;show gc (kd 2 0 (bN G)) _ _=_
 refine y7 (h':=h) (xo (ρ:=[some (jv ns),some (.int a)]) rfl rfl ?_) iF (zR _);have rg:qk [eC (.int 4)] [some (jv ns),some (.int a)] h=some (.items [.int 0,.int 1,.int 2,.int 3],h):=by
  simp only[qk,ko,bnd,eC,ae];rw[zY ∅];rfl
 have c:=f6 (mi:=qk [eC (.int 4)]) (ks:=[0,1]) (t:=kG) (m:=zh G.aa [ze 1,zi addW (ze 2) (ze 0),eC (.int 6)]) (ρ:=[some (jv ns),some (.int a)]) (h:=h) (l:=[.int 0,.int 1,.int 2,.int 3]) (λ_=>true) (λw=>match w with | .int i=>.int (qV ns (a+i) 6) | w=>w)
  rg (λw _ H'=>rfl) (λw hw _ H'=>by
   have:∃i,w=.int i:=by
    simp only[zb,zc,zQ] at hw;rcases hw with rfl | rfl | rfl | rfl<;>exact⟨_,rfl⟩
   obtain⟨i,rfl⟩:=this;simp only[zh,ko,bnd,zi,ze,eC,zq,jd,zG,zp,qO,addW,k8];exact e _ _ _ ∅) (λw hw _=>by
   simp only[zb,zc,zQ] at hw
   rcases hw with rfl | rfl | rfl | rfl<;>exact vv) (by decide)
 rw[filter_true] at c;unfold bN;simp only[ku,zh,ko,bnd,zi,ze,eC] at c ⊢;simp only[c,xE,getL,Uw,zq,jd]
theorem Y0(e:∀(k many:Int) (h:MH),0<many->G.aa [jv ns,.int k,.int many] h=some (.int (qV ns k many),h)):∃ans:List Int,ans.length<=4/\∀h,(step G).bG [jv ns,.int a] h=some (.fls (ans.map .int),h):=by
 have rgn:=kF (ns:=ns) (k:=a) (many:=4) ∅;obtain⟨j,hj⟩:=jG rgn.1;refine⟨(_root_.List.range j).map λ(i:Nat)=>qV ns (a+1+(i:Int)) 9,by simp;omega,λh=>?_⟩;show gc (kd 2 0 (bM G)) _ _=_
 refine y7 (h':=h) (xo (ρ:=[some (jv ns),some (.int a)]) rfl rfl ?_) fx (zR _);have rg:qk [zh G.aa [ze 0,ze 1,eC (.int 4)]] [some (jv ns),some (.int a)] h=some (.items (upto j),h):=by
  have q:-(2 ^ 62:Int)<=(j:Int)/\(j:Int)<2 ^ 62:=by omega
  simp only[qk,ko,bnd,zh,ze,eC,zG,zp,e a 4 h ∅,hj,ae];rw[zY q,jw]
 have c:=f6 (mi:=qk [zh G.aa [ze 0,ze 1,eC (.int 4)]]) (ks:=[0,1]) (t:=kG) (m:=zh G.aa [ze 1,zi addW (zi addW (ze 2) (eC (.int 1))) (ze 0),eC (.int 9)]) (ρ:=[some (jv ns),some (.int a)]) (h:=h) (l:=upto j) (λ_=>true) (λw=>match w with | .int i=>.int (qV ns (a+1+i) 9) | w=>w)
  rg (λw _ H'=>rfl) (λw hw _ H'=>by
   obtain⟨i,_,rfl⟩:=kO.mp hw;simp only[zh,ko,bnd,zi,ze,eC,zq,jd,zG,zp,qO,addW,k8];exact e _ _ _ ∅) (λw hw _=>by
   obtain⟨i,_,rfl⟩:=kO.mp hw
   exact vv) (by unfold upto;rw[zB,jF];exact zT (show j<=4 by omega) (by decide))
 rw[filter_true] at c;unfold bM;unfold ku;rw[c];simp only[upto,j0];rfl
end
noncomputable def LB:MS:=(zo (jp (ke (zi (qq false) (zi zv (ze 13) (eC (.int 0))) (eC (.str "write"))))
 (zI (zi zv (ze 13) (eC (.int 2))) (uk (ze 12) (zi zv (ze 13) (eC (.int 1)))))
 kL)
 (jp (uR (ke (zi (qq false) (zi zv (ze 13) (eC (.int 0))) (eC (.str "read")))) (ke (zi (qq true) (zi zv (ze 13) (eC (.int 2))) (zi qv (ze 12) (zi zv (ze 13) (eC (.int 1)))))))
 (ku (eC (.bl false)))
 kL))
def FU:(¬("read":Str)="write" /\ ¬("say":Str)="write" /\ ¬("ask":Str)="write")/\¬("write":Str)="read" /\ ¬("say":Str)="read" /\ ¬("ask":Str)="read":=by decide +kernel
section
variable{h:MH}{a0 a1 a2 a3 a4 a5 a6 a7 a8 a9 a10 a11:W}
def Bm(t:Tch)(r:Rm)(hs:DS t):LB [some a0,some a1,some a2,some a3,some a4,some a5,some a6,some a7,some a8,some a9,some a10,some a11,some (.ref h.length),some (dW t (kS t r).1)] (h++[.dic (vj r.st)])=some (.nx [some a0,some a1,some a2,some a3,some a4,some a5,some a6,some a7,some a8,some a9,some a10,some a11,some (.ref h.length),some (dW t (kS t r).1)],h++[.dic (vj (kS t r).2.st)]):=by
 have w:=FU;cases t with
 | read v=>simp![LB,dW,kS,xC,yb,ck,ve,w,qv,yT,at0,keyOf,lC (st:=r.st) hs,vt]
 | write v y=>
  have c:(vj r.st).length<cap:=by unfold vj;rw[zB];decide
  simp![LB,dW,kS,xC,yb,ck,ve,w,uk,bg,at0,keyOf,c,mG,Qq (st:=r.st) (x:=y) hs]
 | say y=>simp![LB,dW,kS,xC,yb,ck,ve,w]
 | ask=>simp![LB,dW,kS,xC,yb,ck,ve,w]
theorem iV:∀(T:Tr Int) (r:Rm),TS T->∀o,∃o',forL (zC 13) LB (bo (ky T r).2.2) [some a0,some a1,some a2,some a3,some a4,some a5,some a6,some a7,some a8,some a9,some a10,some a11,some (.ref h.length),o] (h++[.dic (vj r.st)])=some (.nx [some a0,some a1,some a2,some a3,some a4,some a5,some a6,some a7,some a8,some a9,some a10,some a11,some (.ref h.length),o'],h++[.dic (vj (ky T r).2.1.st)])
 | .ret v,r,_,o=>⟨o,rfl⟩
 | .tch t k,r,ht,o=>by
  obtain⟨o',e⟩:=iV (k (kS t r).1) (kS t r).2 (ht.2 _) (some (dW t (kS t r).1));refine⟨o',?_⟩;simp only[ky];show forL (zC 13) LB (dW t (kS t r).1::bo _) _ _=_
  unfold forL;have g:zC 13 (dW t (kS t r).1) [some a0,some a1,some a2,some a3,some a4,some a5,some a6,some a7,some a8,some a9,some a10,some a11,some (.ref h.length),o] (h++[.dic (vj r.st)])=some ([some a0,some a1,some a2,some a3,some a4,some a5,some a6,some a7,some a8,some a9,some a10,some a11,some (.ref h.length),some (dW t (kS t r).1)],h++[.dic (vj r.st)]):=rfl;simp only[g,Bm t r ht.1];exact e
end
theorem abcd:signs "abcd" = SH.map .str:=by
 have:("abcd":Str).cps.toList=[97,98,99,100]:=by decide +kernel
 unfold signs SH;rw[this];have e:(⟨#[97]⟩:Str)="a" /\ (⟨#[98]⟩:Str)="b" /\ (⟨#[99]⟩:Str)="c" /\ (⟨#[100]⟩:Str)="d":=by decide +kernel
 simp only[zq,jd,e]
def tj{h:MH}{ρ:En}(e12:ρ[12]?=some (some (.ref h.length))):ja (rq (eC (.str "abcd"))) 1 [12] (zC 0) kG (zi qv (ze 1) (ze 0)) ρ (h++[.dic (vj st)])=some (.fls (SH.map λv=>.int (st v)),h++[.dic (vj st)]):=by
 have c:=Zg (mi:=rq (eC (.str "abcd"))) (ks:=[12]) (m:=zi qv (ze 1) (ze 0)) (ρ:=ρ) (h:=h++[.dic (vj st)]) (l:=SH.map .str) (f:=λw=>match w with | .str v=>.int (st v) | w=>w)
  (by rw[<-abcd];rfl) (λw hw X=>by
   obtain⟨v,hv,rfl⟩:=kO.mp hw;have q:(h++[.dic (vj st)]++X)[h.length]?=some (.dic (vj st)):=by
    rw[kZ,zH (zg _),qj];rfl
   simp only[zi,bnd,ze,zq,jd,e12,zG,zp,qO,qv,yT,q,keyOf,lC hv]) ⋯ (λw hw=>by
   obtain⟨v,_,rfl⟩:=kO.mp hw
   exact vv)
 rw[j0] at c;exact c
def Wq{ρ:En}{h:MH}(e3:ρ[3]?=some (some (kA st))):aI [eC (.str "abcd"),ze 3] ρ h=some (.ref h.length,h++[.dic (vj st)]):=by
 have f:iB h (.str "abcd")=iB h qf:=(zY ⋯).trans (jX some abcd);have z:=Jg (st:=st) (H:=h);unfold g8 at z;simp only[<-f] at z;simp only[aI,zh,ko,bnd,eC,ze,e3,g8];exact z
theorem ZK:∀(Ts:List (Tr Int)) (r:Rm),(xb Ts r).1.length=Ts.length
 | [],r=>rfl
 | T::Ts,r=>by simp only[xb,zm];rw[ZK Ts]
def U4{ns:List Int}{Ts:List (Tr Int)}(h:∀n∈ns,0<=n/\n<Ts.length):(xi Ts r ns).1.length=Ts.length:=by
 unfold xi;rw[ZK,(gZ (V:=.ret 0) ns (r:=r) h).2]
theorem Dr(F:Fs):cU F=zo (Q0 F) (zo (Q1 F) (zo (Q2 F) (zo (Q3 F) (zo (Q4 F) (zo (Q5 F) (zo (Q6 F) (zo (Q7 F) (zo (Q8 F) (zo (Q9 F) (zo (BG F) (zo (BJ F) (zo (Uq F) (zo (Ux F) (zo (BP F) (zo (Bp F) (zo (CP F) (Bt F))))))))))))))))):=rfl
noncomputable abbrev zs(k:Nat):W:=.fls (List.replicate k (.int 0))
noncomputable abbrev n5:W:=th "number" [.int 5]
structure LawF(G:Fs)(s R x A O t1 t2 t3 o2 o3:W)(xs TV NS:List W)(m k0:Nat)(v1:Int)(T:Tr Int)(r:Rm):Prop where
 rules:∀h,G.bK [s,.int 1] h=some (R,h)
 ls:∀h,ja (qk [zi addW (eC (.int 1)) (zh G.aa [ze 0,eC (.int 60),eC (.int 3)])]) 1 [0,1] (zC 0) kG (zh G.aF [ze 1,zi addW (eC (.int 90)) (zi kB (eC (.int 31)) (ze 0)),eC (.int 2),ze 2]) (some s::some R::List.replicate 12 none) h=some (.fls (x::xs),h)
 st:∀h,G.bI [s,.int 70] h=some (kA r.st,h)
 ak:∀h,G.bG [s,.int 75] h=some (A,h)
 due:∀h,G.aY [R,.fls (x::xs),kA r.st,A] h=some (O,h)
 bz:∀k,k<=m+3->∀h,G.aA [R,.fls (x::xs),kA r.st,A,zs k] h=some (O,h)
 tr:∀h,G.bc [R,x,kA r.st,A] h=some (.fls (bo (ky T r).2.2),h)
 ts:TS T
 lt:(ky T r).2.2.length=m
 mc:m<=700000
 k0m:k0<=m
 eO:∀h,eqB h O O=some true
 mz:∀k,k<=m+3->∀h,kB (.fls [.int 0]) (.int k) h=some (zs k,h)
 tu:∀h ρ,ρ[0]?=some (some s)->ρ[2]?=some (some (.fls (x::xs)))->ja (qk [zh gx [eC (.int 1),zh fg [eC (.int 10),zh kH [ze 0]]]]) 1 [0,2] (zC 0) kG (zh G.aa [ze 1,zi addW (eC (.int 300)) (ze 0),zh kH [ze 2]]) ρ h=some (.fls NS,h)
 told:∀h,G.aA [R,.fls (x::xs),kA r.st,A,.fls NS] h=some (.tup [.fls TV,t1,t2,t3],h)
 more:∀h,G.aA [R,.fls (x::(xs++[n5])),kA r.st,A,.fls (NS++[.int ((xs.length:Int)+1)])] h=some (.tup [.fls (TV++[.int 5]),t1,t2,t3],h)
 e1:∀h,eqB h (.tup [.fls (TV++[.int 5]),t1,t2,t3]) (.tup [.fls (TV++[.int 5]),t1,t2,t3])=some true
 one:∀h,G.dq [R,x,kA r.st,A] h=some (.tup [.int v1,kA (ky T r).2.1.st,o2,o3],h)
 dr:∀h,G.aa [s,.int 320,.int ((m:Int)+1)] h=some (.int k0,h)
 b1:∀h,G.aA [R,.fls [x],kA r.st,A,zs k0] h=some (.tup [.fls [.int v1],kA (ky T r).2.1.st,o2,o3],h)
 e2:∀h,eqB h (.tup [.fls [.int v1],kA (ky T r).2.1.st,o2,o3]) (.tup [.fls [.int v1],kA (ky T r).2.1.st,o2,o3])=some true
 lx:xs.length+2<=100
 lv:TV.length<=100
 ln:NS.length<=100
section
variable{G:Fs}{s R x A O t1 t2 t3 o2 o3:W}{xs TV NS:List W}{m k0:Nat}{v1:Int}{T:Tr Int}{r:Rm}
def i6(e:a ρ h=some (.nx ρ,h)):zo a b ρ h=b ρ h:=zt e
noncomputable abbrev ρa(s R x A O:W)(xs:List W)(S:W)(o6 o7 o8 o9 o10 o11:Option W):En:=[some s,some R,some (.fls (x::xs)),some S,some A,some O,o6,o7,o8,o9,o10,o11,none,none]
def rL(hg:g w ρ h=some (ρ1,h1))(hb:b ρ1 h1=some (.nx ρ2,h2)):forL g b (w::l) ρ h=forL g b l ρ2 h2:=by
 rw[forL];simp only[hg,hb]
def sizes(L:LawF G s R x A O t1 t2 t3 o2 o3 xs TV NS m k0 v1 T r)(h:MH):Q7 G (ρa s R x A O xs (kA r.st) (some (.int m)) none none none none none) h=some (.nx (ρa s R x A O xs (kA r.st) (some (.int m)) (some (.int ((m:Int)+3))) none none none none),h):=by
 have c2:(2:Nat)<=cap:=by decide
 have c1:(1:Nat)<=cap:=by decide
 have a3:∀h,addW (.int m) (.int 3) h=some (.int ((m:Int)+3),h):=λh=>by simp[addW,k8]
 have it:qS (zh zw [ze 6,zi addW (ze 6) (eC (.int 3))]) (ρa s R x A O xs (kA r.st) (some (.int m)) none none none none none) h=some (.items [.int m,.int ((m:Int)+3)],h):=by simp![zw,c2,a3,qS,srcOf]
 have one:∀(i:Int) (k:Nat),i=k->k<=m+3->(jp (ke (zi (qq true) (zh G.aA [ze 1,ze 2,ze 3,ze 4,zi kB (zh j1 [eC (.int 0)]) (ze 7)]) (ze 5))) (ku (eC (.bl false))) kL) (ρa s R x A O xs (kA r.st) (some (.int m)) (some (.int i)) none none none none) h=some (.nx (ρa s R x A O xs (kA r.st) (some (.int m)) (some (.int i)) none none none none),h):=λi k hi hk=>by
  subst hi;have z:=L.mz k hk;have b:=L.bz k hk;generalize zs k=z' at z b;simp![j1,c1,z,b,L.eO]
 have g:∀(i:Int) (o:Option W),zC 7 (.int i) (ρa s R x A O xs (kA r.st) (some (.int m)) o none none none none) h=some (ρa s R x A O xs (kA r.st) (some (.int m)) (some (.int i)) none none none none,h):=λi o=>rfl
 have o1:=one m m rfl ∅;have o2:=one ((m:Int)+3) (m+3) rfl (zg _);unfold Q7 yY;rw[it];exact(rL (g _ _) o1).trans (rL (g _ _) o2)
def Y2(L:LawF G s R x A O t1 t2 t3 o2 o3 xs TV NS m k0 v1 T r)(h:MH):cU G (some s::List.replicate 13 none) h=some (.ret (.bl true),h++[.dic (vj (ky T r).2.1.st)]):=by
 have c0:(0:Nat)<=cap:=by decide
 have c1:(1:Nat)<=cap:=by decide
 have c2:(2:Nat)<=cap:=by decide
 have c4:(4:Nat)<=cap:=by decide
 have c100:(300:Nat)<=cap:=by decide
 have lx:=L.lx;have lv:=L.lv;have ln:=L.ln;have lt:=L.lt;have mc:=L.mc;have ad:∀(a b:List W) h,a.length+b.length<=300->addW (.fls a) (.fls b) h=some (.fls (a++b),h):=λa b h hc=>by
  simp[addW,k8,getL,zT hc c100]
 have ad1:∀(a b c d:W) h,addW (.tup [a]) (.tup [b,c,d]) h=some (.tup [a,b,c,d],h):=λa b c d h=>by simp[addW,k8,c4]
 have a1:=λh=>ad (x::xs) [n5] h (by simp only[zm,zV];omega)
 have a2:=λh=>ad NS [.int ((xs.length:Int)+1)] h (by simp only[zm,zV];omega)
 have a3:=λh=>ad TV [.int 5] h (by simp only[zm,zV];omega)
 have ix:∀h,zv (.fls (x::xs)) (.int 0) h=some (x,h):=λh=>ut
 have ln1:∀h,kH [.fls (x::xs)] h=some (.int ((xs.length:Int)+1),h):=λh=>rfl
 have ln2:∀h,kH [.fls (bo (ky T r).2.2)] h=some (.int m,h):=λh=>by
  rw[<-lt];show some (W.int ((bo (ky T r).2.2).length:Int),h)=_
  unfold bo;rw[zB]
 have am:∀h,addW (.int m) (.int 1) h=some (.int ((m:Int)+1),h):=λh=>by simp[addW,k8]
 have sl:∀h,gz (.fls (x::xs)) none (some 1) h=some (.fls [x],h):=λh=>by
  simp only[gz,getL];have:=pP (l:=x::xs) (k:=1) (by simp only[zm];omega);simpa using this
 have dr:∀(a b c d:W) h,gz (.tup [a,b,c,d]) (some 1) none h=some (.tup [b,c,d],h):=λa b c d h=>rfl
 have hk:=L.k0m;rw[Dr];rw[zt (ρ':=some s::some R::List.replicate 12 none) (h':=h) (by simp![Q0,L.rules])];rw[zt (ρ':=[some s,some R,some (.fls (x::xs)),none,none,none,none,none,none,none,none,none,none,none]) (h':=h) (by unfold Q1;exact u7 (L.ls h) rfl)];rw[zt (ρ':=[some s,some R,some (.fls (x::xs)),some (kA r.st),none,none,none,none,none,none,none,none,none,none]) (h':=h) (by simp![Q2,L.st])];rw[zt (ρ':=[some s,some R,some (.fls (x::xs)),some (kA r.st),some A,none,none,none,none,none,none,none,none,none]) (h':=h) (by simp![Q3,L.ak])];rw[zt (ρ':=ρa s R x A O xs (kA r.st) none none none none none none) (h':=h) (by simp![Q4,L.due])];refine(i6 (by simp![Q5,j1,c0,show ∀h,G.aA [R,.fls (x::xs),kA r.st,A,.fls []] h=some (O,h) from L.bz 0 ∅,L.eO])).trans ?_;rw[zt (ρ':=ρa s R x A O xs (kA r.st) (some (.int m)) none none none none none) (h':=h) (by simp![Q6,ix,L.tr,ln2])];rw[zt (sizes L h)];rw[zt (ρ':=ρa s R x A O xs (kA r.st) (some (.int m)) (some (.int ((m:Int)+3))) (some (.fls NS)) none none none) (h':=h) (by unfold Q8;exact u7 (L.tu h _ rfl rfl) rfl)];rw[zt (ρ':=ρa s R x A O xs (kA r.st) (some (.int m)) (some (.int ((m:Int)+3))) (some (.fls NS)) (some (.tup [.fls TV,t1,t2,t3])) none none) (h':=h) (by simp![Q9,L.told])];rw[zt (ρ':=ρa s R x A O xs (kA r.st) (some (.int m)) (some (.int ((m:Int)+3))) (some (.fls NS)) (some (.tup [.fls TV,t1,t2,t3])) (some (.tup [.fls (TV++[.int 5]),t1,t2,t3])) none) (h':=h) (by simp![BG,j1,zw,c1,c2,a1,a2,ln1,L.more])];refine(i6 (by simp![BJ,xC,j1,zw,c1,a3,uB,uT,dr,ad1,L.e1])).trans ?_;rw[zt (ρ':=ρa s R x A O xs (kA r.st) (some (.int m)) (some (.int ((m:Int)+3))) (some (.fls NS)) (some (.tup [.fls TV,t1,t2,t3])) (some (.tup [.fls (TV++[.int 5]),t1,t2,t3])) (some (.tup [.int v1,kA (ky T r).2.1.st,o2,o3]))) (h':=h) (by simp![Uq,ix,L.one])];rw[zt (ρ':=ρa s R x A O xs (kA r.st) (some (.int m)) (some (.int k0)) (some (.fls NS)) (some (.tup [.fls TV,t1,t2,t3])) (some (.tup [.fls (TV++[.int 5]),t1,t2,t3])) (some (.tup [.int v1,kA (ky T r).2.1.st,o2,o3]))) (h':=h) (by simp![Ux,am,L.dr])];refine(i6 (by simp![BP,uB,uT,sl,j1,c1,L.mz k0 ∅,L.b1,zw,xC,dr,ad1,L.e2])).trans ?_;rw[zt (ρ':=[some s,some R,some (.fls (x::xs)),some (kA r.st),some A,some O,some (.int m),some (.int k0),some (.fls NS),some (.tup [.fls TV,t1,t2,t3]),some (.tup [.fls (TV++[.int 5]),t1,t2,t3]),some (.tup [.int v1,kA (ky T r).2.1.st,o2,o3]),some (.ref h.length),none]) (h':=h++[.dic (vj r.st)]) (by unfold Bp;exact u7 (Wq rfl) rfl)];obtain⟨o,lp⟩:=iV (h:=h) (a0:=s) (a1:=R) (a2:=.fls (x::xs)) (a3:=kA r.st) (a4:=A) (a5:=O) (a6:=.int m) (a7:=.int k0) (a8:=.fls NS) (a9:=.tup [.fls TV,t1,t2,t3]) (a10:=.tup [.fls (TV++[.int 5]),t1,t2,t3]) (a11:=.tup [.int v1,kA (ky T r).2.1.st,o2,o3]) T r L.ts none;have it:∀(ρ:En) (H:MH),qS (zh G.bc [ze 1,zi zv (ze 2) (eC (.int 0)),ze 3,ze 4]) (some s::some R::some (.fls (x::xs))::some (kA r.st)::some A::ρ) H=some (.items (bo (ky T r).2.2),H):=λρ H=>by simp![ix,L.tr,qS,srcOf]
 refine(zt (by unfold CP yY;rw[it];exact lp)).trans ?_;have sh:=tj (h:=h) (st:=(ky T r).2.1.st) (ρ:=[some s,some R,some (.fls (x::xs)),some (kA r.st),some A,some O,some (.int m),some (.int k0),some (.fls NS),some (.tup [.fls TV,t1,t2,t3]),some (.tup [.fls (TV++[.int 5]),t1,t2,t3]),some (.tup [.int v1,kA (ky T r).2.1.st,o2,o3]),some (.ref h.length),o]) rfl;have tw:∀H,xE [.fls (SH.map λv=>.int ((ky T r).2.1.st v))] H=some (kA (ky T r).2.1.st,H):=λH=>rfl
 have eS:∀H,eqB H (kA (ky T r).2.1.st) (kA (ky T r).2.1.st)=some true:=λH=>l7 (WY (n:=0) _) ∅
 simp![Bt,yb,sh,tw,eS]
end
def Dp.len{T:Tr Int}{c:Nat}(h:Dp T c):∀r,(ky T r).2.2.length<=c:=by
 induction h with
 | ret=>intro r;simp[ky]
 | @tch t k c h ih=>
  intro r;have:=ih (kS t r).1 (kS t r).2;simp only[ky,zm];omega
def DE{n:Nat}(hn:n<=1000000)(h:MH):kB (.fls [.int 0]) (.int n) h=some (zs n,h):=by
 have e:(List.replicate n [W.int 0]).flatten=List.replicate n (.int 0):=by
  induction n with
  | zero=>rfl
  | succ n ih=>rw[jt,qi,ih ∅,jt];rfl
 simp only[kB,zm,zV];rw[zY ⟨by omega,by omega,by omega⟩,jw,e]
def FN{i:Int}:kB (.int 31) (.int i) h=some (.int (31*i),h):=by
 have:(small 31||small i)=true:=by rw[show small 31=true by decide];rfl
 simp only[kB,this,kW]
def ZF(hn:n<=1000)(e:m ρ h=some (.int n,h)):qk [m] ρ h=some (.items (upto n),h):=by
 have q:-(2 ^ 62:Int)<=(n:Int)/\(n:Int)<2 ^ 62:=by omega
 simp only[qk,ko,bnd,e,ae];rw[zY q,jw]
theorem many{G:Fs}{s R:W}{j:Nat}{ρ:En}(hj:j<=3)(f:Nat->W)(e0:ρ[0]?=some (some s))(e1:ρ[1]?=some (some R))(d:∀h,G.aa [s,.int 60,.int 3] h=some (.int j,h))(e:∀(k:Nat) h,G.aF [s,.int (90+31*(k:Int)),.int 2,R] h=some (f k,h))(lw:∀k m,low m (f k)=true) :
  ja (qk [zi addW (eC (.int 1)) (zh G.aa [ze 0,eC (.int 60),eC (.int 3)])]) 1 [0,1] (zC 0) kG (zh G.aF [ze 1,zi addW (eC (.int 90)) (zi kB (eC (.int 31)) (ze 0)),eC (.int 2),ze 2]) ρ h=some (.fls (f 0::(List.range j).map λk=>f (k+1)),h):=by
 have rg:=ZF (m:=zi addW (eC (.int 1)) (zh G.aa [ze 0,eC (.int 60),eC (.int 3)])) (ρ:=ρ) (h:=h) (n:=j+1) ∅ (by
  simp only[zi,bnd,eC,zh,ko,ze,e0,d,addW,k8];congr 3
  omega)
 have c:=f6 (mi:=qk [zi addW (eC (.int 1)) (zh G.aa [ze 0,eC (.int 60),eC (.int 3)])]) (ks:=[0,1]) (t:=kG) (m:=zh G.aF [ze 1,zi addW (eC (.int 90)) (zi kB (eC (.int 31)) (ze 0)),eC (.int 2),ze 2]) (ρ:=ρ) (h:=h) (l:=upto (j+1)) (λ_=>true) (λw=>match w with | .int i=>f i.toNat | w=>w)
  rg (λw _ H'=>rfl) (λw hw _ H'=>by
   obtain⟨k,_,rfl⟩:=kO.mp hw;simp only[zh,ko,bnd,zi,ze,eC,zq,jd,e0,e1,zG,zp,qO,addW,k8,FN,jw];exact e k _) (λw hw _=>by
   obtain⟨k,_,rfl⟩:=kO.mp hw
   exact lw _ _) (by unfold upto;rw[zB,jF];exact zT (show j+1<=4 by omega) (by decide))
 rw[filter_true] at c;rw[c];unfold upto;rw[j0,List.range_succ_eq_map];simp only[zq,j0];rfl
theorem turns{G:Fs}{D:List W}{ns:List Int}{ρ:En}{h:MH}{N:Nat}(f:Nat->Int)(e0:ρ[0]?=some (some (jv ns)))(e2:ρ[2]?=some (some (.fls D)))(hN:(N:Int)=if (if (ns.length:Int)<10 then (ns.length:Int) else 10)>1 then (if (ns.length:Int)<10 then (ns.length:Int) else 10) else 1)(h10:N<=10)(e:∀(k:Nat) h,G.aa [jv ns,.int (300+(k:Int)),.int D.length] h=some (.int (f k),h)) :
  ja (qk [zh gx [eC (.int 1),zh fg [eC (.int 10),zh kH [ze 0]]]]) 1 [0,2] (zC 0) kG (zh G.aa [ze 1,zi addW (eC (.int 300)) (ze 0),zh kH [ze 2]]) ρ h=some (.fls (((List.range N).map f).map .int),h):=by
 have l1:∀h,kH [jv ns] h=some (.int ns.length,h):=λh=>by
  show some (W.int ((ns.map W.int).length:Int),h)=_
  rw[zB]
 have l2:∀h,kH [.fls D] h=some (.int D.length,h):=λh=>rfl
 have rg:=ZF (m:=zh gx [eC (.int 1),zh fg [eC (.int 10),zh kH [ze 0]]]) (ρ:=ρ) (h:=h) (n:=N) ∅ (by
  rw[hN]
  simp only[bnd,eC,zh,ko,ze,e0,l1,fg,gx])
 have c:=f6 (mi:=qk [zh gx [eC (.int 1),zh fg [eC (.int 10),zh kH [ze 0]]]]) (ks:=[0,2]) (t:=kG) (m:=zh G.aa [ze 1,zi addW (eC (.int 300)) (ze 0),zh kH [ze 2]]) (ρ:=ρ) (h:=h) (l:=upto N) (λ_=>true) (λw=>match w with | .int i=>.int (f i.toNat) | w=>w)
  rg (λw _ H'=>rfl) (λw hw _ H'=>by
   obtain⟨k,_,rfl⟩:=kO.mp hw;simp only[zh,ko,bnd,zi,ze,eC,zq,jd,e0,e2,zG,zp,qO,addW,k8,l2,jw];exact e k _) (λw hw _=>by
   obtain⟨k,_,rfl⟩:=kO.mp hw
   exact vv) (by unfold upto;rw[zB,jF];exact zT h10 (by decide))
 rw[filter_true] at c;rw[c];unfold upto;rw[j0,j0];rfl
theorem CU{F:Fs}{ns:List Int}(hl:ns.length<=63)(h:MH):(up 31 F).dY [jv ns] h=some (.bl true,h):=by
 obtain⟨rs,hr,eR⟩:=YF (F:=F) (m:=29) hl ∅;have dw:∀(k many:Int) (h:MH),0<many->(up 30 F).aa [jv ns,.int k,.int many] h=some (.int (qV ns k many),h):=λk many h hm=>xZ (F:=up 28 F) hl hm
 have rgn:=λ(k many:Int) (hm:0<many)=>kF (ns:=ns) (k:=k) (many:=many) hm
 obtain⟨j,hj⟩:=jG (rgn 60 3 ∅).1;have hj3:j<=2:=by have:=(rgn 60 3 ∅).2;omega
 have ex:=λk:Nat=>Ue (F:=F) (m:=29) (a:=90+31*(k:Int)) hl ∅ hr
 obtain⟨f,hf⟩:∃f:Nat->D,∀k,Cd rs (f k)/\kg (f k)<=2/\∀h,(up 30 F).aF [jv ns,.int (90+31*(k:Int)),.int 2,.tup (kf rs)] h=some (zk (f k),h):=⟨λk=>(ex k).choose,λk=>(ex k).choose_spec⟩;obtain⟨st,eS⟩:=YS (G:=up 29 F) (ns:=ns) (a:=70) λk many h hm=>xZ (F:=up 27 F) hl hm
 obtain⟨ans,la,eA⟩:=Y0 (G:=up 29 F) (ns:=ns) (a:=75) λk many h hm=>xZ (F:=up 27 F) hl hm
 have cz:(5*604297+210:Nat)<=cap:=by decide
 have cz2:(4*604297:Nat)<cap:=by decide
 have rep:∀k,Rep rs [(false,f k,[])] [] [] (treeOf rs (f k)) 604297:=λk=>(sP hr.g (hf k).1).mono (hr.cost (hf k).1 (hf k).2.1)
 have t5:treeOf rs (.number 5)=.ret 5:=by unfold treeOf;simp only[den,Tr.bind]
 have rep5:Rep rs [(false,.number 5,[])] [] [] (treeOf rs (.number 5)) 604297:=(sP hr.g (show Cd rs (.number 5) by simp only[Wf])).mono (by simp only[cost];omega);obtain⟨ds,eds⟩:∃ds,ds=f 0::(List.range j).map λk=>f (k+1):=⟨_,rfl⟩
 have hds:∀d∈ds,Rep rs [(false,d,[])] [] [] (treeOf rs d) 604297:=λd hd=>by
  rw[eds] at hd;rcases zb.mp hd with rfl | hd
  .exact rep 0
  .obtain⟨k,_,rfl⟩:=kO.mp hd
   exact rep _
 have ldl:ds.length=j+1:=by rw[eds];simp
 have edw:ds.map zk=zk (f 0)::(List.range j).map λk=>zk (f (k+1)):=by rw[eds];simp
 have edt:ds.map (treeOf rs)=treeOf rs (f 0)::((List.range j).map λk=>f (k+1)).map (treeOf rs):=by rw[eds];rfl
 have ld3:ds.length<=3:=by omega
 have rb:∀(ds:List D),(∀d∈ds,Rep rs [(false,d,[])] [] [] (treeOf rs d) 604297)->ds.length<=4->∀(tn:List Int) h,(up 30 F).aA [.tup (kf rs),.fls (ds.map zk),kA st,.fls (ans.map .int),.fls (tn.map .int)] h=some (uD (xi (ds.map (treeOf rs)) ⟨st,ans,[],0⟩ tn),h):=λds hd hl tn h=>
  pM (F:=up 23 F) (tr:=treeOf rs) hr.g cz hd (xH (qJ _ hl) cz2) ∅ ∅ h
 have ra:=λh=>og (F:=up 22 F) (st:=st) (ans:=ans) (tr:=treeOf rs) (ds:=ds) hr.g cz hds (xH (qJ _ (show ds.length<=4 by omega)) cz2) ∅ ∅ h
 have r1:=λh=>DD (F:=up 21 F) (st:=st) (ans:=ans) hr.g cz (rep 0) ∅ ∅ h
 have tr:=λh=>Xx (F:=up 23 F) (st:=st) (ans:=ans) hr.g cz (rep 0) ∅ ∅ h
 have lens:=(rep 0).dp.len ⟨st,ans,[],0⟩;obtain⟨m,em⟩:∃m,(ky (treeOf rs (f 0)) ⟨st,ans,[],0⟩).2.2.length=m:=⟨_,rfl⟩;rw[em] at lens;have rk:=rgn 320 ((m:Int)+1) ∅;obtain⟨k0,hk0⟩:=jG rk.1;obtain⟨N,hN⟩:=jG (a:=if (if (ns.length:Int)<10 then (ns.length:Int) else 10)>1 then (if (ns.length:Int)<10 then (ns.length:Int) else 10) else 1) (by split<;>omega);have N10:N<=10:=by
  have:(if (if (ns.length:Int)<10 then (ns.length:Int) else 10)>1 then (if (ns.length:Int)<10 then (ns.length:Int) else 10) else 1)<=10:=by split<;>(try split)<;>omega
  omega
 obtain⟨tn,etn⟩:∃tn,tn=(List.range N).map λk:Nat=>qV ns (300+(k:Int)) ((j+1:Nat):Int):=⟨_,rfl⟩
 have htn:∀n∈tn,0<=n/\n<(ds.map (treeOf rs)).length:=λn hn=>by
  rw[etn] at hn;obtain⟨k,_,rfl⟩:=kO.mp hn;rw[zB,ldl];exact rgn _ _ ∅
 have ltn:tn.length=N:=by rw[etn,zB,jF]
 have zr:∀k,(List.replicate k (0:Int)).map W.int=List.replicate k (.int 0):=λk=>List.map_replicate
 have bz:∀k h,(up 30 F).aA [.tup (kf rs),.fls (ds.map zk),kA st,.fls (ans.map .int),zs k] h=some (uD (xb (ds.map (treeOf rs)) ⟨st,ans,[],0⟩),h):=λk h=>by
  have:=rb ds hds ∅ (List.replicate k 0) h;rw[zr,edt,sX] at this;rw[edt];exact this
 have b1:=rb [f 0] (λd hd=>by rw[wV.mp hd];exact rep 0) (by simp) (List.replicate k0 0);simp only[zq,jd,zr,QB] at b1;have bt:=rb ds hds ∅ tn;have bm:=rb (ds++[.number 5]) (λd hd=>(zW.mp hd).elim (hds d) λz=>by rw[wV.mp z];exact rep5) (by simp;omega) (tn++[((ds.map (treeOf rs)).length:Int)]);simp only[qg,zq,jd,t5,X6 htn] at bm;have lby:=U4 (r:=⟨st,ans,[],0⟩) htn;rw[zB,ldl] at lby
 rw[zB,ldl] at bm;simp only[edw] at ra bz bt bm;unfold uD at bm;simp only[qg,zq,jd,zk] at bm;have eqT:∀h,eqB h (.tup [.fls ((xi (ds.map (treeOf rs)) ⟨st,ans,[],0⟩ tn).1.map .int++[.int 5]),kA (xi (ds.map (treeOf rs)) ⟨st,ans,[],0⟩ tn).2.st,.fls ((xi (ds.map (treeOf rs)) ⟨st,ans,[],0⟩ tn).2.sp.map .int),.int (xi (ds.map (treeOf rs)) ⟨st,ans,[],0⟩ tn).2.k]) (.tup [.fls ((xi (ds.map (treeOf rs)) ⟨st,ans,[],0⟩ tn).1.map .int++[.int 5]),kA (xi (ds.map (treeOf rs)) ⟨st,ans,[],0⟩ tn).2.st,.fls ((xi (ds.map (treeOf rs)) ⟨st,ans,[],0⟩ tn).2.sp.map .int),.int (xi (ds.map (treeOf rs)) ⟨st,ans,[],0⟩ tn).2.k])=some true:=λh=>by
  have:=l7 (h:=h) (sN (q:=((xi (ds.map (treeOf rs)) ⟨st,ans,[],0⟩ tn).1++[5],(xi (ds.map (treeOf rs)) ⟨st,ans,[],0⟩ tn).2))) ∅;unfold uD at this;rw[qg] at this;exact this
 have eqO:∀h,eqB h (uD ([(ky (treeOf rs (f 0)) ⟨st,ans,[],0⟩).1],(ky (treeOf rs (f 0)) ⟨st,ans,[],0⟩).2.1)) (uD ([(ky (treeOf rs (f 0)) ⟨st,ans,[],0⟩).1],(ky (treeOf rs (f 0)) ⟨st,ans,[],0⟩).2.1))=some true:=λh=>l7 sN ∅
 have L:LawF (up 30 F) (jv ns) (.tup (kf rs)) (zk (f 0)) (.fls (ans.map .int)) (uD (xb (ds.map (treeOf rs)) ⟨st,ans,[],0⟩)) _ _ _ _ _ ((List.range j).map λk=>zk (f (k+1))) ((xi (ds.map (treeOf rs)) ⟨st,ans,[],0⟩ tn).1.map .int) (tn.map .int) m k0 (ky (treeOf rs (f 0)) ⟨st,ans,[],0⟩).1 (treeOf rs (f 0)) ⟨st,ans,[],0⟩:=
  { rules:=eR,ls:=λh=>many ∅ (λk=>zk (f k)) rfl rfl (λh=>by rw[dw 60 3 h ∅,hj]) (λk h=>(hf k).2.2 h) (λk m=>kX m _),st:=eS,ak:=eA,due:=ra,bz:=λk _ h=>bz k h,tr:=tr,ts:=UC (rep 0),lt:=em,mc:=by omega,k0m:=by omega,eO:=λh=>l7 sN ∅,mz:=λk hk h=>DE ∅ h,tu:=λh ρ e0 e2=>(turns (λk:Nat=>qV ns (300+(k:Int)) ((j+1:Nat):Int)) e0 e2 hN.symm N10 (λk h=>by rw[zm,zB,jF];exact dw _ _ h ∅)).trans (by rw[etn]),told:=bt,more:=λh=>by rw[zB,jF];exact bm h,e1:=λh=>eqT h,one:=r1,dr:=λh=>by rw[dw _ _ h ∅,hk0],b1:=b1,e2:=λh=>eqO h,lx:=by rw[zB,jF];omega,lv:=by rw[zB,lby];omega,ln:=by rw[zB,ltn];omega }
 show gc (kd 1 13 (cU (up 30 F))) _ _=_
 exact Qr (t:=[.dic _]) (n:=1) (xo (ρ:=some (jv ns)::List.replicate 13 none) rfl rfl (Y2 L h)) rfl
theorem WT:∀n,lv n=up n Fs.bot
 | 0=>rfl
 | n+1=>by show step (lv n)=step (up n Fs.bot);rw[WT n]
def main(ns:List Int)(hl:ns.length<=63):∃h',(lv 200).dY [.fls (ns.map W.int)] []=some (.bl true,h'):=by
 refine⟨[],?_⟩;rw[WT];exact CU (F:=up 169 Fs.bot) hl []
end K15
namespace K15
open PySem PySem.W PyProof.Rows ML
set_option maxHeartbeats 0 in
def txt{XP:(Str->Option Value)->Heap->Prop}{w:World}{s₀:Shared}{mg mb:Str->Option Value}{h:Heap}(G:Ground q ["FORMS","WAYS"] [] XP w s₀ mg mb h):V4 (iC (Kw h) mg) defs:=by
 repeat refine⟨by
  first
  | exact oY G (by kernel_rfl) rfl (ML.hb1 λ_ _ _ _ _ _ _=>by kernel_rfl) rfl
  | exact oY G (by kernel_rfl) rfl (ML.hb2 λ_ _ _ _ _ _ _ _=>by kernel_rfl) rfl
  | exact oY G (by kernel_rfl) rfl (ML.hb3 λ_ _ _ _ _ _ _ _ _=>by kernel_rfl) rfl
  | exact oY G (by kernel_rfl) rfl (ML.hb4 λ_ _ _ _ _ _ _ _ _ _=>by kernel_rfl) rfl
  | exact oY G (by kernel_rfl) rfl (ML.hb5 λ_ _ _ _ _ _ _ _ _ _ _=>by kernel_rfl) rfl,?_⟩
 trivial
set_option maxHeartbeats 0 in
def seen{XP:(Str->Option Value)->Heap->Prop}{w:World}{s₀:Shared}{mg mb:Str->Option Value}{h:Heap}(G:Ground q ["FORMS","WAYS"] [] XP w s₀ mg mb h)(Y:H.says w h):∃cl,T pw (Kw h) w mg cl:=by
 obtain⟨c0,C0,e0,g0⟩:=J6 (x:="Doing") G (by kernel_rfl);obtain⟨c1,C1,e1,g1⟩:=J6 (x:="Room") G (by kernel_rfl);obtain⟨h2,h3,h4,h5⟩:=XA Y G.T.g;refine⟨⟨λn=>if n=0 then C0 else if n=1 then C1 else 0,pw,w⟩,txt G,?_,?_,h4,⟨rfl,rfl⟩,?_,?_,?_,h5⟩
 .have e:toT Yn=cons:=by kernel_rfl
  rw[<-e];exact h2
 .have e:(tabsC.map λp=>(p.1,toT p.2))=tabs:=by kernel_rfl
  rw[<-e];exact h3
 .refine V0 λp hp f hf=>?_
  simp only[kz,zb,zc,zQ] at hp;rcases hp with rfl | rfl
  .exact Zk (q:=q) (loose:=["FORMS","WAYS"]) (x:="Doing") (fs:=["rules","steps","worths","touch_ahead"]) g0 e0 (by kernel_rfl) f hf
  .exact Zk (q:=q) (loose:=["FORMS","WAYS"]) (x:="Room") (fs:=["shelves","answers","spoken","asks"]) g1 e1 (by kernel_rfl) f hf
 .repeat refine⟨by
   first
   | exact iE (q:=q) (loose:=["FORMS","WAYS"]) (x:="Doing") g0 e0 (by kernel_rfl) ⋯ (ML.hb3 λ_ _ _ _ _ _ _ _ _=>by kernel_rfl)
   | exact iE (q:=q) (loose:=["FORMS","WAYS"]) (x:="Doing") g0 e0 (by kernel_rfl) ⋯ (ML.hb2 λ_ _ _ _ _ _ _ _=>by kernel_rfl)
   | exact iE (q:=q) (loose:=["FORMS","WAYS"]) (x:="Doing") g0 e0 (by kernel_rfl) ⋯ (ML.hb1 λ_ _ _ _ _ _ _=>by kernel_rfl)
   | exact iE (q:=q) (loose:=["FORMS","WAYS"]) (x:="Doing") g0 e0 (by kernel_rfl) ⋯ (ML.hb4 λ_ _ _ _ _ _ _ _ _ _=>by kernel_rfl)
   | exact iE (q:=q) (loose:=["FORMS","WAYS"]) (x:="Room") g1 e1 (by kernel_rfl) ⋯ (ML.hb2 λ_ _ _ _ _ _ _ _=>by kernel_rfl)
   | exact iE (q:=q) (loose:=["FORMS","WAYS"]) (x:="Room") g1 e1 (by kernel_rfl) ⋯ (ML.hb1 λ_ _ _ _ _ _ _=>by kernel_rfl),?_⟩
  trivial
 .repeat refine⟨by
   first
   | exact Yp (q:=q) (loose:=["FORMS","WAYS"]) (x:="Doing") g0 e0 (by kernel_rfl) ⋯ (ML.hb3 λ_ _ _ _ _ _ _ _ _=>by kernel_rfl) rfl
   | exact Yp (q:=q) (loose:=["FORMS","WAYS"]) (x:="Room") g1 e1 (by kernel_rfl) ⋯ (ML.hb3 λ_ _ _ _ _ _ _ _ _=>by kernel_rfl) rfl,?_⟩
  trivial
end K15
open PySem PySem.W PyProof.Rows ML
set_option maxRecDepth 100000 in
set_option maxHeartbeats 0 in
theorem PySem.Challenge.cw_shelfwork_k15_whole_turns_holds : PySem.Challenge.rw_shelfwork_k15_whole_turns.Holds := by
 refine holds_law K15.said λsaid=>?_
 refine holds_open (q:=K15.q) (loose:=["FORMS","WAYS"]) (Xt:=λs=>xlAt K15.q [] s&&recOk [] s) (XP:=XL K15.q []) (Yf:=K15.H.obs) (Ya:=K15.H.val) (YP:=K15.H.says) (N:=8000) K15.left (Hook.of K15.H) (Hook.keeps K15.H) (λs e=>xl_of s (jx.mp e).1) XL.keeps rfl rfl rfl (λs e=>recFacts_of (jx.mp e).2) rfl said ⋯ ⟨rfl,rfl,rfl,rfl,rfl,by decide +kernel⟩ ?hw ?hc
 case hw=>w_witness2
 case hc=>
  exact ML.walk_lawD (l:=PySem.Challenge.rw_shelfwork_k15_whole_turns) (D:=K15.gk) (g:=(K15.lv 200).dY) (b:=K15.cU (K15.lv 199)) (Γ:=K15.rc (K15.lv 199)) (y:="_law_script") (room:=199) (K15.T K15.pw) rfl rfl ⟨rfl,by decide,by decide⟩ rfl rfl (ML.hb1 λ_ _ _ _ _ _ _=>by kernel_rfl) (by kernel_rfl) rfl (by kernel_rfl) rfl K15.main (λw K mg base cl t=>(K15.lvl t 199).1) λw s₀ mg mb h G Y=>(let ⟨cl,t⟩:=K15.seen G Y;⟨cl,(K15.txt G).2.2.2.2.2.2.2.2.2.2.2.2.2.2.2.2.2.2.2.2.2.2.2.2.2.2.2.2.2.2.2.2.2.2.2.1,t⟩)

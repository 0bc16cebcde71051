import PyProof.Rows.All
import KE.KSortTup
import KE.KDictOf
import KE.KDictList
import KE.KIsAll
import PySem.Challenge.RW_shelfwork_k32_whole_kinds
set_option compiler.extract_closed false
set_option Elab.async false
set_option linter.all false
set_option maxRecDepth 100000
set_option maxHeartbeats 1000000
open Option renaming some→À,none→Á
open Bool renaming true→Â,false→Ä
open PySem renaming Value→Ã,Shared→Å,wpAny→Æ,Addr→Ç,Str→È,starEach→Ê,tupleKeyHash→Ì,model→Í,Expr→Î,Program→Ï,sizeLine→Ð,World→Ñ,IsTupleKey→Ò,compareOp→Ó,SetTable→Ô,Heap→Õ,Around→Ø,bootBuiltins→Ù,backTo→Þ,sysModules→à,mainGlobals→â,binaryOp→ä,eval→å,Builtin→ç,wpAny_bind→ê,behindInMarks→ë,foldedSetIterable→í,Scope→î,assignEach→ô,Obj→ø,cLine→û,rawInt→ā,DictEntry→ą,FuncData→ć,wpAny_loadPart'→Ċ,attributeBase→Ď,Stmt→ď,holding→Đ,swapsWith→đ,pyNext→Ē,carriedByValue→ĕ,Pos→ė,sliceBounds→Ę,importedModules→ě,ofAClassStatement→ğ,tupleKind→Ĥ,pyIter→ĥ,Keyword→ĩ,keywordEach→ĭ,Operator→į,firstArgMember→Ĳ,call→ķ,codeAny→Ĺ,setSearchFrom→Ļ,GenState→ľ,NameKind→Ŀ,assign→ŀ,letOwnedTupleGo→Ł,OsState→ł,getItem→Ń,storedH→ń,IsPart→ň,typeLookup→ŉ,KeyKind→œ,swapsWithSole→Ŕ,swappedStores→ŕ,strKind→ř,setWalkUnseen→Ŝ,strKind_is→ŝ,backToKw→Ş,pickOrder→ş,spliced→š,wpAny_Call_method_late→ţ,callerA→Ť,IsPair→ť,wpAny_specialOf→ū,weight_type_call_type→Ů,wpAny_notOrdered_dict→ů,wpAny_eqIsQuiet_tuple→Ű,wpAny_isSame_ref_self→ű,wpAny_loadName_local→ų,codeAny_call_builtin→Ŷ,attributeErrorLeaves→ŷ,entryFor→Ÿ,codeAny_extend_loopS→Ż,treeTable→ž
open List renaming replicate→É,length→Ú,range→ß,getD→Ĕ,foldl→Ŋ,length_eraseIdx_of_lt→Ŏ
open PySem.Value renaming ref→Ë,none→Ö,isStrOf→ù,type→ú,str→Ĝ,int→ī,bool→Š
open PySem.Builtin.SmallTypes renaming nextOf→Û,ownedTupleIsFree→ñ,ownedTupleHandOut→Ħ
open PySem.Heap renaming SameBut→Ü,ExtBut→ŵ
open PySem.Builtin.Tuple renaming tupleExact→Ý,tupleItemsOf→ġ,tupleIsExact→ŋ,tupleTooMany→Ō
open PySem.Obj renaming mapSeq→á,putSet→ĸ,isFreed_of_fields→ŭ
open PySem.SetTable renaming runEnd→ã,bits→è,turns→é,below→ò,advance→Ć,insertAt→č,leap→ĝ,fill→ħ,Probe→Ĵ,has→Ŧ,grown→ź
open PySem.Builtin.Slice renaming slicePlaces→æ,sliceAdjust→ì,sliceApplied→Ĉ,sliceFields→ŏ
open PySem.W renaming keepIn→ï,fnOf→Č,codeIn→İ,boot_heap→ĵ,boot_drawn→Ķ,kas_rev→ļ,openGood→Ľ,boot_toks→ņ,kitOne→Ň,methodObj→ő,hashAt→Ř,instObj→Ũ,KeysLit→ũ,lookIn→Ŵ
open PySem.Builtin.List renaming listTooLong→ð,listExtendWith→Ą,listLengthHint→Ņ,listFitsIndex→ō,listSameRef→ś
open PySem.Builtin.Frozenset renaming updateFrom→ó,isAnySet→ĉ,slot1→Ė,unchanged→Ġ,baseOf→Ĩ,sizeOf→Ś
open True renaming intro→õ
open PySem.PyData renaming eqv→ö,strOk→ý,eqvAll→þ,canLayAll0→ÿ,canLay0→ē,depthAll→Ī,depth→ı,keyHash→Ų
open PySem.Str renaming ofString→ü
open PySem.SetTable.probe renaming go→Ā
open Array renaming getD→Ă,replicate→Ū
open PyProof.Rows renaming seqObj→ă,IsTup→Ő,AllBare→Œ,envOfC→Ŗ,subscriptTail_builtinR→Ţ,entry_list_sort→Ŭ,slot_list_sort→ż,args_list_sort→Ž
open ForInStep renaming yield→ċ
open False renaming elim→ę
open PySem.SetTable.layClean renaming free→Ě
open List.Pairwise renaming nil→Ğ
open List.Perm renaming cons→Ģ,swap→Ź
open Sum renaming inr→ģ,inl→ſ
open PySem.Builtin.Str renaming occurrences→Ĭ
open Int renaming toNat_natCast→Į
open PySem.SetTable.below renaming go→ĳ
open PySem.NameKind renaming free→ĺ,cell→ŗ
open PUnit renaming unit→ŧ
def aRf(h:0=0:=by rfl):=h
def aDc(h:0=0:=by decide):=h
local macro_rules|`(↥$t)=>`(autoParam $t aRf._auto_1)
local macro_rules|`(⇑$t)=>`(autoParam $t aDc._auto_1)
local macro_rules
 |`(tactic|erw[$r,*]$[$l]?)=>do
  let a<-r.getElems.mapM λx=>let t:Lean.Term:=⟨x.raw[1]⟩;if x.raw[0].isNone then `(Lean.Parser.Tactic.simpLemma|$t:term) else `(Lean.Parser.Tactic.simpLemma|<-$t:term)
  `(tactic|simp only[$a,*]$[$l]?)
def aaa{α:Sort _}{a b:α}(h:a=b:=by kernel_rfl):a=b:=h
abbrev aab:=PySem.W.Frag
def za:=@PySem.wpAny_bind
def zc:=@PySem.Heap.get?_push_of_some
def zf:=@PySem.wpAny_pure
def zg:=@Option.map_eq_some_iff
def zj:=@List.mem_cons
def zm:=@Option.bind_eq_some_iff
def zp:=@List.mem_cons_of_mem
def zq:=@Nat.le_trans
def zr:=@Nat.le_refl
def zu:=@Bool.and_eq_true
def zx:=@List.map_cons
def zy:=@List.not_mem_nil
def zz:=@List.mem_cons_self
def zA:=@List.getElem?_eq_some_iff
def zE:=@PySem.Heap.get?_push_size
def zF:=@List.mem_append
def zG:=@List.length_cons
def zH:=@List.length_map
def zJ:=@PySem.Heap.lt_size
def zK:=@List.mem_map
def zL:=@List.getElem?_eq_getElem
def zM:=@Nat.ne_of_lt
def zN:=@Nat.lt_of_lt_of_le
def zO:=@List.size_toArray
def zP:=@Bool.false_eq_true
def zQ:=@if_pos
def zR:=@List.length_append
def zU:=@Bool.false_ne_true
def zV:=@Array.length_toList
def zW:=@if_neg
def zX:=@Option.some.inj
def zY:=@List.getElem?_append_left
def zZ:=@List.getElem?_map
def kh:=@List.mem_append_right
def kE:=@PySem.wpAny_newObj_type
def kI:=@List.length_nil
def kJ:=@List.all_eq_true
def kO:=@decide_eq_true
def kY:=@or_false
def kZ:=@List.map_nil
def jb:=@List.map_map
def jc:=@List.nil_append
def jd:=@List.mem_filter
def je:=@if_true
def jf:=@PySem.wpAny_holding
def jh:=@PySem.wpAny_call_entry
def ji:=@List.getElem?_append_right
def jj:=@decide_eq_false
def jk:=@PySem.wpAny_setState_of
def jl:=@congrArg
def jm:=@Į
def jn:=@List.mem_singleton
def jo:=@PyProof.Rows.slot_tuple_getitem
def jq:=@Ne.symm
def jr:=@PySem.W.kia_one
def jt:=@List.cons_append
def ju:=@Bool.and_eq_true_iff
def jw:=@List.prefix_refl
def jx:=@PySem.wpAny_callSpecial?_slot
def jy:=@if_false
def jz:=@List.getElem?_eq_none
def jA:=@PySem.wpAny_setField_rec
def jB:=@PySem.sizeLine_eq
def jC:=@List.mem_of_getElem?
def jD:=@Nat.lt_succ_of_lt
def jE:=@PyProof.Rows.F.plain_set_update_loop
def jF:=@PySem.Around.under_plainId
def jG:=@beq_eq_false_iff_ne
def jH:=@PySem.wpAny_Call_Name_kw
def jJ:=@beq_self_eq_true
def jK:=@PySem.Heap.get?_update_self
def jL:=@PyProof.Rows.callWith_type1
def jM:=@List.length_filter_le
def jN:=@PySem.wpAny_field
def jO:=@PySem.codeAny_builtin
def jP:=@PySem.Heap.size_push
def jQ:=@Nat.zero_le
def jR:=@List.mem_of_mem_drop
def jT:=@Nat.lt_or_eq_of_le
def jU:=@List.nodup_cons
def jV:=@List.mem_range
def jW:=@List.getElem?_eq_none_iff
def jX:=@List.find?_cons
def jY:=@Nat.lt_succ_self
def jZ:=@Nat.lt_irrefl
def j4:=@List.all_cons
def j5:=@PySem.F.called_set
def j6:=@PySem.wpAny_mono
def j7:=@PySem.wpAny_seqItems
def j8:=@of_decide_eq_true
def j9:=@List.filterMap_cons_some
def qb:=@PySem.Calls.spliced_nil
def qd:=@Nat.pow_le_pow_right
def qe:=@Nat.le_of_not_lt
def qg:=@List.filter_cons
def qi:=@List.getElem?_set_self
def qj:=@PySem.Calls.spliced_cons
def ql:=@List.map_congr_left
def qm:=@List.set_append_right
def qp:=@List.map_append
def qt:=@List.length_singleton
def qu:=@PySem.Heap.get?_update_other
def qw:=@PySem.wpAny_truthy_bool
def qx:=@PySem.Heap.SameBut.update
def qy:=@List.prefix_append
def qz:=@List.pairwise_cons
def qC:=@Option.getD_some
def qD:=@Option.bind_some
def qF:=@List.lookup_cons
def qG:=@List.eq_nil_of_length_eq_zero
def qH:=@PySem.wpAny_typeOf
def qI:=@List.getElem?_set_ne
def qJ:=@PyProof.Rows.F.entry_set_update_loop
def qK:=@Nat.le_succ
def qL:=@List.replicate_succ
def qM:=@List.of_mem_zip
def qN:=@PySem.wpAny_setEpoch_of
def qO:=@List.length_drop
def qP:=@List.take_append_drop
def qQ:=@List.mem_iff_getElem?
def qR:=@List.Perm.refl
def qT:=@PySem.wpAny_isInstance
def qU:=@List.filterMap_cons_none
def qW:=@Bool.not_eq_true'
def qX:=@PyProof.Rows.callWith_builtin1
def qY:=@Nat.le_of_lt
def qZ:=@List.getElem_of_mem
def q8:=@List.getElem?_replicate
def q9:=@List.getElem?_cons_zero
def vd:=@List.length_take
def vf:=@List.getElem_mem
def vg:=@List.nodup_nil
def vh:=@PySem.plainId_quiet
def vm:=@List.length_replicate
def vo:=@List.cons.injEq
def vp:=@decide_eq_true_eq
def vq:=@List.flatten_cons
def vA:=@List.mem_of_mem_take
def vB:=@PySem.wpAny_passesOwn
def vC:=@PySem.builtinLookup_eq_fast
def vD:=@List.pairwise_iff_getElem
def vG:=@PySem.wpAny_rule
def vH:=@PySem.wpAny_pyIter_list
def vI:=@PySem.wpAny_attempt
def vJ:=@PySem.mem_of_lookup
def vK:=@List.filter_eq_self
def vL:=@List.filterMap_cons
def vM:=@PySem.Heap.SameBut.refl
def vN:=@beq_iff_eq
def vO:=@Option.isSome_iff_exists
def vP:=@Nat.pow_succ
def vQ:=@Nat.ne_of_gt
def vR:=@Nat.add_zero
def vU:=@PySem.F.slot_tuple_iterator_next
def vV:=@Array.size_setIfInBounds
def vW:=@PySem.isSubtype_type
def vX:=@List.length_zip
def vY:=@List.length_eq_zero_iff
def vZ:=@List.forIn_cons
def v6:=@List.append_nil
def v7:=@Int.emod_lt_of_pos
def v8:=@Bool.eq_iff_iff
def v9:=@PySem.wpAny_forIn_list
def wg:=@PySem.wpAny_updateSeq
def wj:=@PySem.wpAny_pyIter_tuple
def wu:=@List.contains_iff_mem
def ww:=@List.mem_flatMap
def wz:=@List.ext_getElem
def wA:=@PySem.Calls.callWith_builtin
def wB:=@PySem.call_meets
def wC:=@List.sum_cons
def wD:=@List.any_cons
def wF:=@PySem.wpAny_runValue
def wG:=@Nat.mod_lt
def wI:=@PySem.codeAny_mono
def wJ:=@List.getElem?_range
def wK:=@List.filter_map
def wL:=@Int.emod_nonneg
def wM:=@PySem.wpAny_typeNameOfWhole_keyiter
def wO:=@PySem.F.slot_tuple_mul
def wQ:=@PySem.AutoSeq1.idx_int
def wR:=@List.filterMap_map
def wU:=@Array.forIn_toList
def wV:=@Array.find?_toList
def wW:=@Option.isNone_iff_eq_none
def wX:=@List.drop_eq_getElem_cons
def wY:=@PySem.F.slot_dict_keyiterator_next
def wZ:=@PySem.wpAny_setEntries_of
def yc:=@PySem.wpAny_of_eq
def yd:=@PySem.typeLookup_type
def ye:=@not_or
def yf:=@PySem.Value.isStrOf_shape
def yg:=@PySem.W.kitx_list
def yh:=@PySem.F.args_tuple_add_2
def yj:=@PyProof.Rows.boot_sorted
def ym:=@Nat.le_of_lt_succ
def yo:=@List.append_assoc
def yp:=@PySem.F.plainAttrs_list
def yq:=@PySem.F.entry_tuple_add
def yr:=@PySem.W.KasT.kasWp_bind
def yt:=@Int.eq_ofNat_of_zero_le
def yu:=@PySem.Obj.data_mapFields
def yw:=@List.isEmpty_iff
def yx:=@List.getElem_inj
def yz:=@List.flatMap_def
def yC:=@List.any_eq_true
def yD:=@PySem.F.slot_tuple_add
def yE:=@PySem.Calls.call_function_entry
def yF:=@PyProof.Rows.tupleItemsOf_
def yG:=@PySem.wpAny_typeNameOf_keyiter
def yH:=@ŝ
def yI:=@PySem.F.slot_dict_get
def yJ:=@Nat.zero_add
def yK:=@Nat.lt_or_ge
def yL:=@PySem.F.slot_list_getattribute
def yM:=@PySem.F.plain_list_iadd
def yN:=@Array.getElem?_toList
def yO:=@Nat.not_lt
def yP:=@List.mem_append_left
def yQ:=@Array.mem_toList_iff
def yR:=@PySem.wpAny_askSetting
def yS:=@List.length_reverse
def yU:=@List.filter_sublist
def yV:=@PySem.wpAny_isOneOf_keyiter
def yW:=@PySem.wpAny_execs_nil
def yX:=@PySem.PassesOwn.never
def yZ:=@List.zip_cons_cons
def xf:=@List.mem_filterMap
def xg:=@List.map_take
def xm:=@List.map_drop
def xn:=@PySem.F.slot_zip_next
def xq:=@PySem.F.slot_int_rmul
def xr:=@Bool.not_true
def xu:=@PySem.wpAny_load
def xx:=@PySem.wpAny_updateSeq_pair
def xF:=@PySem.W.kitx_dict
def xG:=@Option.some.injEq
def xH:=@Nat.lt_trichotomy
def xJ:=@List.take_sublist
def xK:=@List.reverse_cons
def xM:=@List.nodup_append
def xN:=@List.length_range
def xO:=@List.ext_getElem?
def xP:=@PySem.Heap.get?_none_of_le
def xQ:=@Function.comp_def
def xR:=@PySem.Calls.evalArgs_plain
def xT:=@PySem.wpAny_setField
def xU:=@PySem.entryFor_alias
def xV:=@Nat.mul_comm
def xW:=@PySem.wpAny_throw
def xX:=@Nat.succ_ne_self
def xY:=@Nat.mod_eq_of_lt
def xZ:=@Nat.le_add_right
def uc:=@List.zipIdx_cons
def ud:=@List.take_length
def ue:=@List.reverse_nil
def uf:=@List.mem_reverse
def ug:=@List.drop_length
def uh:=@PySem.Heap.get?_update_ne
def ul:=@PySem.wpAny_onRaise
def um:=@PySem.wpAny_newList
def uo:=@PySem.tupleKind_room_in1
def uq:=@Nat.pow_add
def ur:=@PySem.F.args_tuple_mul_2
def ut:=@Array.getD_eq_getD_getElem?
def uv:=@Option.ne_none_iff_exists'
def uw:=@Array.getElem?_eq_some_iff
def ux:=@PySem.wpAny_storeSet_of
def uy:=@PySem.wpAny_sequenceKey
def uz:=@PySem.wpAny_pyIter_slot
def uA:=@PySem.typeIs_int
def uB:=@PySem.slot_list_getitem
def uC:=@List.getElem?_zip_eq_some
def uD:=@PySem.F.entry_tuple_mul
def uE:=@PySem.concat_meets
def uG:=@List.length_erase_of_mem
def uH:=@List.getElem?_take_of_lt
def uJ:=@PyProof.Rows.slicePart_none
def uK:=@PySem.noFill_tuple_add
def uL:=@and_true
def uM:=@PySem.F.args_dict_get_3
def uN:=@List.pairwise_singleton
def uO:=@List.getElem?_cons_succ
def uP:=@List.eraseIdx_cons_succ
def uQ:=@List.cons.inj
def uR:=@Bool.or_false
def uT:=@PyProof.Rows.entry_tuple_getitem
def uU:=@PySem.W.cellsFrom_some
def uV:=@PySem.F.entry_dict_get
def uW:=@List.take_of_length_le
def uX:=@List.length_pos_of_mem
def uY:=@List.filter_eq_nil_iff
def uZ:=@PySem.F.args_tuple_iterator_next_1
def u0:=@Array.toList_filterMap
def u5:=@PySem.codeAny_of_tree
def u6:=@Nat.sub_self
def u9:=@Nat.lt_trans
def ph:=@List.any_map
def pA:=@Int.ediv_one
def pB:=@PySem.F.entry_tuple_iterator_next
def pC:=@PyProof.Rows.args_tuple_getitem
def pD:=@Nat.not_succ_le_self
def pF:=@List.mem_erase_of_ne
def pG:=@List.getElem?_zipIdx
def pH:=@PyProof.Rows.IsTup.new
def pI:=@PySem.Calls.Name_function_global
def pJ:=@Array.getElem_toList
def pK:=@PySem.wpAny_newTuple
def pL:=@PySem.wpAny_binaryOp_repeat_ref
def pM:=@PySem.isSubtype_stop
def pN:=@List.map_id
def pO:=@Int.toNat_of_nonneg
def pP:=@Bool.or_eq_true_iff
def pQ:=@PySem.wpAny_getItem_list_slice
def pR:=@decide_eq_true_iff
def pU:=@PySem.Walks.list
def pW:=@PySem.W.kitx_tuple
def pX:=@Nat.pos_of_ne_zero
def pY:=@List.length_zipIdx
def pZ:=@PySem.AutoSeq1.sub_tuple_tuple
local macro_rules|`(⋯)=>`(by decide +kernel)
local macro_rules|`(∅)=>`(by omega)
namespace ML
open PySem PySem.W PyProof.Rows
inductive Cn where
 | int (i:Int) | str (x:È) | tup (l:List Cn)
noncomputable def rX(h:Õ)(v:Ã):Option (Array Ã):=match v with
 | .ref a=>(h.get? a).bind λo=>match o.cls with
  | .type t=>if t="tuple" then (match o.data with | .seq its _=>if o.dict.isNone then À its else Á | _=>Á) else Á
  | _=>Á
 | _=>Á
noncomputable def isI(i:Int)(v:Ã):Bool:=match v with | .int j _=>i==j | _=>Ä
noncomputable def Ft(x:È)(v:Ã):Bool:=match v with | .str y _=>x==y | _=>Ä
noncomputable def ft{α β:Type}(p:α->β->Bool):List α->List β->Bool
 | [],[]=>Â
 | a::l,b::r=>p a b&&ft p l r
 | _,_=>Ä
noncomputable def fy(h:Õ):Nat->Cn->Ã->Bool
 | 0,_,_=>Ä
 | n+1,w,v=>match w with
  | .int i=>isI i v
  | .str x=>Ft x v
  | .tup l=>(rX h v).any λits=>decide (its.size<=Ð)&&ft (fy h n) l its.toList
noncomputable def dictAt(h:Õ)(v:Ã):Option (Array ą):=match v with
 | .ref a=>(h.get? a).bind λo=>match o.cls with
  | .type t=>if t="dict" then (match o.data with | .dict es _=>if o.dict.isNone&&o.slots.isEmpty&&a != à then À es else Á | _=>Á) else Á
  | _=>Á
 | _=>Á
noncomputable def WD(h:Õ)(l:List (È×Cn))(v:Option Ã):Bool×List Int:=match v.bind (dictAt h) with
 | some es=>(ft (λp (e:ą)=>Ft p.1 e.key&&fy h 9 p.2 e.val) l es.toList,es.toList.map (·.hash))
 | none=>(Ä,[])
noncomputable def Y0(cons:List (È×Cn))(bins:List È)(h:Õ):Bool:=h.isNs â&&cons.all (λp=>(h.nsMap â p.1).any λv=>fy h 9 p.2 v)&&bins.all λx=>(h.nsMap â x).isNone
noncomputable def Yv(tabs:List (È×List (È×Cn)))(h:Õ):List (Bool×List Int):=tabs.map λp=>WD h p.2 (h.nsMap â p.1)
noncomputable def Js(tabs:List (È×List (È×Cn)))(w:Ñ):List (Bool×List Int):=tabs.map λp=>(Â,p.2.map λk=>Ų w.params k.1)
noncomputable def Jg(cons:List (È×Cn))(tabs:List (È×List (È×Cn)))(bins:List È):PySem.W.Hook:=
 ⟨Bool×List (Bool×List Int),λs=>(Y0 cons bins s.heap,Yv tabs s.heap),λw=>(Â,Js tabs w),
  λw h=>∃h₀:Õ,(∀b o,h₀.get? b=À o->h.get? b=À o)/\Y0 cons bins h₀=Â/\Yv tabs h₀=Js tabs w,
  λw s e=>⟨s.heap,λ_ _ z=>z,jl Prod.fst e,jl Prod.snd e⟩,λw h h' ⟨h₀,a,b⟩ k=>⟨h₀,λ_ _ z=>k _ _ (a _ _ z),b⟩⟩
def Ur{p q:Ï}{loose:List È}{Xt:Å->Bool}{α:Type}{Yf:Å->α}{Ya:Ñ->α}{N:Nat}{g0:Bool}(row:String)
  (hf:∀w:Ñ,(openEnds ž p (w.withFollow row Ä) N).map (λs=>(openSeen q loose (ě p.main.body) Xt g0 s,Yf s))=À (Ľ q loose,Ya (w.withFollow row Ä)))
  (ht:∀w:Ñ,(openEnds ž p (w.withFollow row Â) N).map (λs=>(openSeen q loose (ě p.main.body) Xt g0 s,Yf s))=À (Ľ q loose,Ya (w.withFollow row Â))):LeftO p q loose Xt Yf Ya N g0:=
 byRow2 row (P:=λw=>(openEnds ž p w N).map (λs=>(openSeen q loose (ě p.main.body) Xt g0 s,Yf s))=À (Ľ q loose,Ya w)) hf ht
noncomputable def Xe(tb:String->Option ç)(p:Ï)(w:Ñ)(Ei:Nat)(ann:Option Ã):Nat->SharedT->Thread->Option SharedT
 | 0,_,_=>Á
 | n+1,s,t=>match through t with
  | true=>À s
  | false=>match stepOk Ei ann t with
   | false=>Á
   | true=>match stepT (denote tb) p w s t with
    | some (s',t')=>Xe tb p w Ei ann n s' t'
    | none=>Á
def WO{tb:String->Option ç}{p:Ï}{w:Ñ}{Ei:Nat}{ann:Option Ã}(n:Nat):∀{s s':SharedT} {t:Thread},Xe tb p w Ei ann n s t=À s'->topRun tb p w Ei ann n s.abs t=À s'.abs:=by
 induction n with
 | zero=>intro _ _ _ h;cases h
 | succ n ih=>
  intro s s' t h;unfold Xe at h;unfold topRun;cases he:through t with
  | true=>rw[he] at h;cases h;rfl
  | false=>
   rw[he] at h;cases hk:stepOk Ei ann t with
   | false=>rw[hk] at h;cases h
   | true=>
    rw[hk] at h;cases hs:stepT (denote tb) p w s t with
    | none=>rw[hs] at h;cases h
    | some r=>rw[hs] at h;rw[stepT_spec hs];exact ih h
noncomputable def treeOf:List ø->Nat->BT->BT
 | [],_,t=>t
 | o::l,n,t=>treeOf l (n+1) (t.ins n o)
noncomputable def XY(H:Õ)(d:Drawn)(k:Nat)(os:ł):SharedT:=⟨treeOf H.objs.toList 0 .nil,H.objs.size,H.life,Array.mk [],d,k,os⟩
noncomputable def Xj(p q:Ï)(loose:List È)(H:Õ)(d5:Å):=
 (staticsOk (ě p.main.body) H d5.heap&&namesBound p d5.heap&&gensDone d5&&laidKept H d5.heap,openSeen q loose (ě p.main.body) (λs=>xlAt q [] s&&recOk [] s) Â d5)
noncomputable def Jv{α:Type}(p q:Ï)(loose:List È)(obs:Å->α)(H:Õ)(d:Drawn)(k:Nat)(w:Ñ)(os:ł):=
 (Xe ž p w H.objs.size (H.nsMap â "__annotations__") 8000 (XY H d k os) (topStub p)).map λs=>(Xj p q loose H s.abs,obs s.abs)
theorem CK:@Jv=@Jv:=rfl
lay_quick Jv
name_quick runBQ for Jv by CK
theorem boot_abs(P:Params)(os:ł):(XY (ĵ P) Ķ ņ os).abs=⟨ĵ P,Array.mk [],Ķ,ņ,os⟩:=by kernel_rfl
theorem Uv(P:Params):((ĵ P).isNs â&&(Array.mk []:Array ľ).size==0)=Â:=by kernel_rfl
def U6{p q:Ï}{loose:List È}{h:Hook}(row:String)(e:opening p=plainProg p.main.scope.names)(f:∀s,fenceModules? p s=À s)
  (hf:∀(w:Ñ) (os:ł),PySem.W.Fast.runBQ p q loose h.obs (ĵ (w.withFollow row Ä).params) Ķ ņ (w.withFollow row Ä) os=À ((Â,Ľ q loose),h.val (w.withFollow row Ä)))
  (ht:∀(w:Ñ) (os:ł),PySem.W.Fast.runBQ p q loose h.obs (ĵ (w.withFollow row Â).params) Ķ ņ (w.withFollow row Â) os=À ((Â,Ľ q loose),h.val (w.withFollow row Â))) :
  LeftO p q loose (λs=>xlAt q [] s&&recOk [] s) h.obs h.val 8000:=by
 have k:∀(b:Bool) (w:Ñ),(∀os:ł,PySem.W.Fast.runBQ p q loose h.obs (ĵ (w.withFollow row b).params) Ķ ņ (w.withFollow row b) os=À ((Â,Ľ q loose),h.val (w.withFollow row b)))->(openEnds ž p (w.withFollow row b) 8000).map (λs=>(openSeen q loose (ě p.main.body) (λs=>xlAt q [] s&&recOk [] s) Â s,h.obs s))=À (Ľ q loose,h.val (w.withFollow row b)):=λb w r=>by
  rw[<-PySem.W.Fast.runBQ_eq] at r;generalize w.withFollow row b=w at r ⊢;obtain⟨⟨H,g,d,k,os⟩,hs,hv⟩:=zg.mp (boot_open (N:=8000) e rfl f w);erw[Prod.mk.injEq] at hv;obtain⟨rfl,rfl,rfl,rfl⟩:=hv;obtain⟨s,h1,h2⟩:=zg.mp (r os);have h3:=WO _ h1;rw[boot_abs] at h3;erw[Xj,Prod.mk.injEq] at h2;obtain⟨⟨h4,h5⟩,h6⟩:=h2;unfold openEnds topFrom;rw[hs];erw[qD];rw[Uv];erw[h3,qD];rw[h4];exact jl À (Prod.ext h5 h6)
 exact Ur row (λw=>k Ä w (hf w)) λw=>k Â w (ht w)
end ML
namespace K32
open PySem PySem.W PyProof.Rows ML
def pw:Ï:=PySem.Challenge.pw_shelfwork_k32_whole_kinds
def isNm(x:String):Î->Bool | .Name y ..=>y==x | _=>Ä
def drops:ď->Bool
 | .Assign [t] ..=>isNm "FORMS" t||isNm "__name__" t
 | _=>Ä
def q:Ï:={ pw with main:={ pw.main with body:=pw.main.body.filter λs=>!drops s } }
def consC:List (È×Cn):=[("SHELVES",(.tup [.str "a",.str "b",.str "c",.str "d"]))]
def tabsC:List (È×List (È×Cn)):=[("FORMS",[("number",(.tup [.int 2,.int 2])),("name",(.tup [.int 2,.int 2])),("read",(.tup [.int 2,.int 2])),("write",(.tup [.int 3,.int 2])),("add",(.tup [.int 3,.int 1])),("less",(.tup [.int 3,.int 1])),("then",(.tup [.int 3,.int 1])),("if",(.tup [.int 4,.int 1])),("loop",(.tup [.int 3,.int 1])),("let",(.tup [.int 4,.int 2])),("own",(.tup [.int 4,.int 2])),("say",(.tup [.int 2,.int 1])),("ask",(.tup [.int 1,.int 1])),("do",(.tup [.int 2,.int 2])),("call",(.tup [.int 4,.int 2]))])]
def GJ:List È:=["all","dict","enumerate","isinstance","len","list","range","set","sorted","sum","tuple","zip"]
noncomputable def H:Hook:=Jg consC tabsC GJ
set_option maxHeartbeats 0 in
theorem said:PySem.Challenge.rw_shelfwork_k32_whole_kinds.wellSaid=Â:=by kernel_rfl
set_option maxHeartbeats 0 in
theorem leftF(w:Ñ)(os:ł):PySem.W.Fast.runBQ pw q ["FORMS"] H.obs (ĵ (w.withFollow "special-get-raises" Ä).params) Ķ ņ (w.withFollow "special-get-raises" Ä) os=À ((Â,Ľ q ["FORMS"]),H.val (w.withFollow "special-get-raises" Ä)):=by kernel_rfl
set_option maxHeartbeats 0 in
theorem leftT(w:Ñ)(os:ł):PySem.W.Fast.runBQ pw q ["FORMS"] H.obs (ĵ (w.withFollow "special-get-raises" Â).params) Ķ ņ (w.withFollow "special-get-raises" Â) os=À ((Â,Ľ q ["FORMS"]),H.val (w.withFollow "special-get-raises" Â)):=by kernel_rfl
set_option maxHeartbeats 0 in
def left:LeftO pw q ["FORMS"] (λs=>xlAt q [] s&&recOk [] s) H.obs H.val 8000:=U6 "special-get-raises" aaa (λs=>aaa) leftF leftT
end K32
section
namespace L2
open PySem PySem.Spec PyProof.Rows
abbrev Key:=Sum Int È
def iI:Key->Ã->Bool
 | .inl k,v=>Value.isInt k v
 | .inr x,v=>ù x v
def G6(w:Ñ):Key->Int
 | .inl k=>hashInt k
 | .inr x=>hashStr w x
def vn:∀{k:Key} {v:Ã},iI k v=Â->(∃i t,k=ſ i/\v=ī i t)\/(∃x t,k=ģ x/\v=Ĝ x t)
 | .inl i,v,h=>by
  obtain⟨t,e⟩:=Value.isInt_shape (k:=i) (v:=v) h;exact .inl ⟨i,t,rfl,e⟩
 | .inr x,v,h=>by
  obtain⟨t,e⟩:=yf (x:=x) (v:=v) h;exact .inr ⟨x,t,rfl,e⟩
def QC(i:Int)(t:Tok):iI (.inl i) (.int i t)=Â:=by simp[iI,Value.isInt]
def VD(x:È)(t:Tok):iI (.inr x) (.str x t)=Â:=by simp[iI,ù]
def D6(a b:Int):decide ((ſ a:Key)=ſ b)=(a==b):=by
 by_cases e:a=b
 .subst e;simp
 .have h:¬(ſ a:Key)=ſ b:=λq=>e (Sum.inl.inj q)
  rw[jj h];exact(jG.mpr e).symm
def Cs(a b:È):decide ((ģ a:Key)=ģ b)=decide (a=b):=by
 by_cases e:a=b
 .subst e;simp
 .have h:¬(ģ a:Key)=ģ b:=λq=>e (Sum.inr.inj q)
  rw[jj h,jj e]
def Cj(a:Int)(b:È):decide ((ſ a:Key)=ģ b)=Ä:=jj (λq=>nomatch q)
def CL(a:È)(b:Int):decide ((ģ a:Key)=ſ b)=Ä:=jj (λq=>nomatch q)
def qf(prog:Ï)(w:Ñ):œ prog w Key where
 is:=iI
 hash:=G6 w
 inj:=λv a b ha hb=>by
  rcases vn ha with ⟨i,t,rfl,rfl⟩ | ⟨x,t,rfl,rfl⟩
  .rcases vn hb with ⟨j,u,rfl,e⟩ | ⟨y,u,rfl,e⟩
   .injection e with e1 _;rw[e1]
   .exact nomatch e
  .rcases vn hb with ⟨j,u,rfl,e⟩ | ⟨y,u,rfl,e⟩
   .exact nomatch e
   .injection e with e1 _;rw[e1]
 byValue:=λk v h=>by
  rcases vn h with ⟨i,t,rfl,rfl⟩ | ⟨x,t,rfl,rfl⟩<;>rfl
 pyHash:=λhv h=>by
  rcases vn hv with ⟨i,t,rfl,rfl⟩ | ⟨x,t,rfl,rfl⟩
  .exact wpAny_pyHash_int h
  .exact wpAny_pyHash_str h
 eqBool:=λhu hv h=>by
  rcases vn hu with ⟨i,t,rfl,rfl⟩ | ⟨x,t,rfl,rfl⟩
  .rcases vn hv with ⟨j,u,rfl,rfl⟩ | ⟨y,u,rfl,rfl⟩
   .rw[D6] at h;exact wpAny_eqBool_int h
   .rw[Cj] at h;exact SeqAt.EqAt.int_str i t y u _ _ _ _ h
  .rcases vn hv with ⟨j,u,rfl,rfl⟩ | ⟨y,u,rfl,rfl⟩
   .rw[CL] at h;exact SeqAt.EqAt.str_int x t j u _ _ _ _ h
   .rw[Cs] at h;exact wpAny_eqBool_str h
 «strs»:=λk x t v h=>by
  rcases vn h with ⟨i,u,rfl,e⟩ | ⟨y,u,rfl,e⟩
  .exact nomatch e
  .injection e with e1 _
   subst e1;cases v<;>rfl
def ZK(prog:Ï)(w:Ñ)(i:Int)(t:Tok):(qf prog w).is (.inl i) (.int i t)=Â:=QC i t
def ZS(prog:Ï)(w:Ñ)(x:È)(t:Tok):(qf prog w).is (.inr x) (.str x t)=Â:=VD x t
end L2
namespace L2
open PySem PySem.Spec PyProof.Rows
inductive V where
 | non | bl (b:Bool) | int (i:Int) | str (x:È) | byt (b:Array UInt8) | flt (b:UInt64) | ref (a:Ç) | ty (n:String)
 deriving DecidableEq
def RelV:V->Ã->Prop
 | .non,u=>u=Ö
 | .bl b,u=>u=Š b
 | .int i,u=>∃t,u=ī i t
 | .str x,u=>∃t,u=Ĝ x t
 | .byt b,u=>∃t,u=Value.bytes b t
 | .flt b,u=>∃t,u=Value.float b t
 | .ref a,u=>u=Ë a
 | .ty n,u=>u=ú n
abbrev Vals:List V->List Ã->Prop:=Paired RelV
theorem Vals.length{xs:List V}{us:List Ã}(r:Vals xs us):xs.length=us.length:=Paired.length r
theorem Vals.get:∀{xs:List V} {us:List Ã} {i:Nat} {x:V},Vals xs us->xs[i]?=À x->∃u,us[i]?=À u/\RelV x u
 | _,_,_,_,.nil,e=>by simp at e
 | _,_,0,_,.cons r _,e=>by simp at e;subst e;exact⟨_,rfl,r⟩
 | _,_,i+1,x,.cons _ t,e=>by
  obtain⟨u,h1,h2⟩:=Vals.get (i:=i) (x:=x) t (by simpa using e);exact⟨u,by simpa using h1,h2⟩
theorem Vals.set{x:V}{u:Ã}(r:RelV x u):∀{xs:List V} {us:List Ã} (i:Nat),Vals xs us->Vals (xs.set i x) (us.set i u)
 | _,_,_,.nil=>.nil
 | _,_,0,.cons _ t=>.cons r t
 | _,_,i+1,.cons q t=>.cons q (Vals.set r i t)
def Vals.append{xs ys:List V}{us ws:List Ã}(h:Vals xs us)(s:Vals ys ws):Vals (xs++ys) (us++ws):=by
 induction h with
 | nil=>exact s
 | cons r t ih=>exact .cons r ih
theorem Vals.take:∀{xs:List V} {us:List Ã} (n:Nat),Vals xs us->Vals (xs.take n) (us.take n)
 | _,_,0,_=>.nil
 | _,_,_+1,.nil=>.nil
 | _,_,n+1,.cons r t=>.cons r (Vals.take n t)
theorem Vals.drop:∀{xs:List V} {us:List Ã} (n:Nat),Vals xs us->Vals (xs.drop n) (us.drop n)
 | _,_,0,r=>r
 | _,_,_+1,.nil=>.nil
 | _,_,n+1,.cons _ t=>Vals.drop n t
def RelO:Option V->Option Ã->Prop
 | some v,À u=>RelV v u
 | none,Á=>True
 | _,_=>False
def KV{κ:Type}:List (κ×V)->List (κ×Ã)->Prop:=Paired λ(p:κ×V) (q:κ×Ã)=>p.1=q.1/\RelV p.2 q.2
def kV:Key->V
 | .inl i=>.int i
 | .inr x=>.str x
inductive HO where
 | lst (xs:List V)
 | tup (xs:List V)
 | dK (cx:List (Key×V)) | dT (cx:List (List Key×V))
 | set (S:Int->Bool) (n:Nat)
 | ins (C dx:Ç) (fs:List (È×V))
 | own (x:Ç)
 | xd (fs:List (È×V))
 | met (f x:Ç)
 | rng (lo hi:Int)
 | frz (o:ø) (u:HO)
 | tbl (ps:Array Ã)
 | ext (φ:Õ->Prop)
abbrev Hp:=Ç->Option HO
def upd(H:Hp)(a:Ç)(o:HO):Hp:=λb=>if b=a then À o else H b
def jp{H:Hp}{a:Ç}{o:HO}:upd H a o a=À o:=by unfold upd;rw[zQ rfl]
def kG{H:Hp}{a b:Ç}{o:HO}(h:b≠a):upd H a o b=H b:=by unfold upd;rw[zW h]
def F9{H:Hp}{a b:Ç}{o u:HO}(h:H a=À o)(h':H b=À u)(d:o≠u):a≠b:=by
 intro e;subst e;rw[h] at h';exact d (zX h')
def qh{H:Hp}{a b:Ç}{o:HO}(h:H a=À o)(h':H b=Á):a≠b:=by
 intro e;subst e;rw[h] at h';cases h'
def NoDi(h:Õ)(a:Ç):Prop:=∃o,h.get? a=À o/\o.dict=Á
def NoDi.new(h:Õ)(o:ø)(n:↥(o.dict=Á))(f:↥(o.isFreed=Ä)):NoDi (h.push o) h.objs.size:=⟨o,zE _ f,n⟩
section
variable(P:Ï)(w:Ñ)
def ObjOk(H:Hp)(h:Õ)(a:Ç):HO->Prop
 | .lst xs=>xs.length<=Ð/\∃(its:List Ã) (n:Nat),Vals xs its/\h.get? a=À { cls:=.type "list",data:=.seq its.toArray n }
 | .tup xs=>xs.length<=Ð/\∃its:List Ã,Vals xs its/\Ő h a its.toArray/\NoDi h a
 | .dK cx=>cx.length<=Ð/\(a==à)=Ä/\∃vs,KV cx vs/\h.DictOf (qf P w) a vs
 | .dT cx=>cx.length<=Ð/\(a==à)=Ä/\∃xs:List (List Key×Ç×Ã),
   Paired (λ(p:List Key×V) (q:List Key×Ç×Ã)=>p.1=q.1/\H q.2.1=À (.tup (p.1.map kV))/\RelV p.2 q.2.2) cx xs /\
   ∃o es ep,h.get? a=À o/\o.ExactDict/\o.data=.dict es ep/\es.toList=xs.map (entryOfKey (Ĥ (qf P w)))/\(xs.map (·.1)).Nodup
 | .set S n=>h.SetOf (intKind P w) a S n
 | .ins C dx fs=>H dx=À (.own a)/\fs.length<=1000/\dx≠a/\h.get? a=À (Ũ C dx) /\
   ∃mA,h.Ns1 dx mA/\(∀f,RelO (fs.lookup f) (mA f))/\PySem.Within mA (fs.map (·.1))
 | .own _=>∃o,h.get? a=À o
 | .xd fs=>∃mA,h.Ns1 a mA/\∀f,RelO (fs.lookup f) (mA f)
 | .rng lo hi=>∃t u v,h.get? a=À { cls:=.type "range",data:=.fields #[.int lo t,.int hi u,.int 1 v] }
 | .frz o u=>h.get? a=À o/\ObjOk H h a u
 | .tbl ps=>h.get? a=À { cls:=.none,data:=.fields ps }
 | .met f x=>h.get? a=À (ő (.ref f) (.ref x))
 | .ext φ=>φ h/\(∃o,h.get? a=À o)/\∀h1 h2:Õ,φ h1->(∀o,h1.get? a=À o->h2.get? a=À o)->φ h2
def HOk(H:Hp)(h:Õ):Prop:=∀a o,H a=À o->ObjOk P w H h a o
end
section
variable{P:Ï}{w:Ñ}{H H':Hp}{h h':Õ}{a:Ç}{o:HO}
theorem ObjOk.lt(x:ObjOk P w H h a o):a<h.objs.size:=by
 cases o with
 | lst xs=>obtain⟨_,_,_,_,e⟩:=x;exact zJ e
 | tup xs=>obtain⟨_,_,_,p,_⟩:=x;exact p.lt
 | dK cx=>obtain⟨_,_,_,_,o,_,_,e,_⟩:=x;exact zJ e
 | dT cx=>obtain⟨_,_,_,_,o,_,_,e,_⟩:=x;exact zJ e
 | set S n=>obtain⟨o,_,_,_,e,_⟩:=x;exact zJ e
 | ins C dx fs=>obtain⟨_,_,_,e,_⟩:=x;exact zJ e
 | own y=>obtain⟨_,e⟩:=x;exact zJ e
 | xd fs=>obtain⟨_,⟨_,_,_,e,_⟩,_⟩:=x;exact zJ e
 | rng lo hi=>obtain⟨_,_,_,e⟩:=x;exact zJ e
 | frz ob u=>obtain⟨e,_⟩:=x;exact zJ e
 | tbl ps=>exact zJ (show h.get? a=À _ from x)
 | met f y=>exact zJ (show h.get? a=À _ from x)
 | ext φ=>obtain⟨_,⟨_,e⟩,_⟩:=x;exact zJ e
theorem Paired.mapP{α β:Type}{F G:α->β->Prop}:∀{l₁:List α} {LK:List β},Paired F l₁ LK->(∀a b,F a b->G a b)->Paired G l₁ LK
 | _,_,.nil,_=>.nil
 | _,_,.cons r t,f=>.cons (f _ _ r) (Paired.mapP t f)
def ObjOk.stay(x:ObjOk P w H h a o)(k:∀b u,(b=a\/H b=À (.own a))->h.get? b=À u->h'.get? b=À u)
  (ho:∀b,H b=À (.own a)->H' b=À (.own a)) (ht:∀b xs,H b=À (.tup xs)->H' b=À (.tup xs)):ObjOk P w H' h' a o:=by
 induction o with
 | lst xs=>obtain⟨z,its,n,r,e⟩:=x;exact⟨z,its,n,r,k _ _ (.inl rfl) e⟩
 | tup xs=>obtain⟨z,its,r,⟨ob,e,c⟩,o2,e2,d2⟩:=x;exact⟨z,its,r,⟨ob,k _ _ (.inl rfl) e,c⟩,o2,k _ _ (.inl rfl) e2,d2⟩
 | dK cx=>obtain⟨z,y,vs,r,ob,es,ep,e,c⟩:=x;exact⟨z,y,vs,r,ob,es,ep,k _ _ (.inl rfl) e,c⟩
 | dT cx=>
  obtain⟨z,y,xs,r,ob,es,ep,e,c⟩:=x;exact⟨z,y,xs,Paired.mapP r λp q z=>⟨z.1,ht _ _ z.2.1,z.2.2⟩,ob,es,ep,k _ _ (.inl rfl) e,c⟩
 | set S n=>obtain⟨ob,es,ep,t,e,c⟩:=x;exact⟨ob,es,ep,t,k _ _ (.inl rfl) e,c⟩
 | ins C dx fs=>
  obtain⟨d,z,ne,e,mA,⟨od,es,ep,e2,c⟩,r⟩:=x;exact⟨ho _ d,z,ne,k _ _ (.inl rfl) e,mA,⟨od,es,ep,k _ _ (.inr d) e2,c⟩,r⟩
 | own y=>obtain⟨ob,e⟩:=x;exact⟨ob,k _ _ (.inl rfl) e⟩
 | xd fs=>obtain⟨mA,⟨od,es,ep,e,c⟩,r⟩:=x;exact⟨mA,⟨od,es,ep,k _ _ (.inl rfl) e,c⟩,r⟩
 | rng lo hi=>obtain⟨t,u,v,e⟩:=x;exact⟨t,u,v,k _ _ (.inl rfl) e⟩
 | frz ob u ih=>obtain⟨e,q⟩:=x;exact⟨k _ _ (.inl rfl) e,ih q⟩
 | tbl ps=>
  have e:h.get? a=À { cls:=.none,data:=.fields ps }:=x;show h'.get? a=À { cls:=.none,data:=.fields ps }
  exact k a _ (.inl rfl) e
 | met f y=>
  have e:h.get? a=À (ő (.ref f) (.ref y)):=x;show h'.get? a=À (ő (.ref f) (.ref y))
  exact k a _ (.inl rfl) e
 | ext φ=>obtain⟨p,⟨o,e⟩,st⟩:=x;exact⟨st _ _ p λo q=>k _ _ (.inl rfl) q,⟨o,k _ _ (.inl rfl) e⟩,st⟩
theorem HOk.lt(x:HOk P w H h)(e:H a=À o):a<h.objs.size:=(x a o e).lt
def HOk.fresh(x:HOk P w H h)(e:h.objs.size<=a):H a=Á:=by
 cases q:H a with
 | none=>rfl
 | some u=>exact absurd (zN (x.lt q) e) (jZ _)
def HOk.kept(x:HOk P w H h)(k:∀b u,h.get? b=À u->h'.get? b=À u):HOk P w H h':=λa o e=>
 (x a o e).stay (λb u _ q=>k b u q) (λ_ q=>q) λ_ _ q=>q
def HOk.laid(x:HOk P w H h)(k:∀b u,h.get? b=À u->h'.get? b=À u)(hp:h.objs.size<=a)(new:ObjOk P w (upd H a o) h' a o):HOk P w (upd H a o) h':=λb u e=>by
 have hn:=x.fresh hp;by_cases hb:b=a
 .subst hb;rw[jp] at e;cases e;exact new
 .rw[kG hb] at e
  exact(x b u e).stay (λc v _ q=>k c v q) (λc q=>by rw[kG (qh q hn)];exact q) λc xs q=>by rw[kG (qh q hn)];exact q
end
def Rd(H:Hp)(a:Ç)(u:HO):Prop:=H a=À u\/∃o,H a=À (.frz o u)
def Rd.ok{P:Ï}{w:Ñ}{H:Hp}{h:Õ}{a:Ç}{u:HO}(r:Rd H a u)(x:HOk P w H h):ObjOk P w H h a u:=by
 rcases r with r | ⟨o,r⟩
 .exact x a u r
 .obtain⟨_,q⟩:=x a _ r
  exact q
def oC:Option HO->Prop
 | some (.lst _)=>True
 | some (.dK _)=>True
 | some (.dT _)=>True
 | some (.set _ _)=>True
 | some (.ins _ _ _)=>True
 | some (.ext _)=>True
 | _=>False
section
variable{P:Ï}{w:Ñ}{H:Hp}{h h':Õ}{x e:Ç}{o':HO}
theorem HOk.write(ok:HOk P w H h)(mu:oC (H x))(he:e=x\/H e=À (.own x))(k:∀b u,b≠e->h.get? b=À u->h'.get? b=À u)(Lv:∃u,h'.get? e=À u)
  (new:ObjOk P w (upd H x o') h' x o'):HOk P w (upd H x o') h':=λb u q=>by
 have LL:∀c y,H c=À (.own y)->c≠x:=λc y r z=>by subst z;rw[r] at mu;exact mu
 have Ng:∀c xs,H c=À (.tup xs)->c≠x:=λc xs r z=>by subst z;rw[r] at mu;exact mu
 by_cases hb:b=x
 .subst hb;rw[jp] at q;cases q;exact new
 .rw[kG hb] at q
  by_cases hbe:b=e
  .have q':H b=À (.own x):=by
    rcases he with z | z
    .exact absurd (hbe.trans z) hb
    .rw[hbe];exact z
   rw[q] at q';cases q';obtain⟨v,hv⟩:=Lv;exact⟨v,by rw[hbe];exact hv⟩
  .refine(ok b u q).stay (λc v hc r=>k c v ?_ r) (λc r=>by rw[kG (LL c b r)];exact r) λc xs r=>by rw[kG (Ng c xs r)];exact r
   rcases hc with rfl | hc
   .exact hbe
   .rintro rfl
    rcases he with z | z
    .exact LL c b hc z
    .rw[hc] at z;cases z;exact hb rfl
end
structure Un(fs ex:List Ç)(H H':Hp)(h h':Õ):Prop where
 keep:∀b o,h.get? b=À o->H b=Á->b∉fs->b∉ex->h'.get? b=À o
 slot:∀b o,h.get? b=À o->H b=Á->b∈fs->b∉ex->∃sl,h'.get? b=À { o with slots:=sl }
 free:∀b o,h.get? b=À o->H b=Á->b∉ex->H' b=Á
 there:∀b o,h.get? b=À o->b∉ex->∃o',h'.get? b=À o'
 tups:∀b xs,H b=À (.tup xs)->H' b=À (.tup xs)
 frzs:∀b o u,H b=À (.frz o u)->H' b=À (.frz o u)
 tbls:∀b ps,H b=À (.tbl ps)->∃more,H' b=À (.tbl (ps++more))
section
variable{fs Io ex ex':List Ç}{H H1 H2:Hp}{h h1 h2 h':Õ}{a x e:Ç}{o:HO}
def Un.any(u:Un fs ex H H1 h h1){b:Ç}{ob:ø}(q:h.get? b=À ob)(n:H b=Á)(hx:b∉ex):∃sl,h1.get? b=À { ob with slots:=sl }:=by
 by_cases hb:b∈fs
 .exact u.slot b ob q n hb hx
 .exact⟨ob.slots,u.keep b ob q n hb hx⟩
def Un.kept(k:∀b u,h.get? b=À u->h'.get? b=À u):Un fs ex H H h h':=
 ⟨λb ob q _ _ _=>k b ob q,λb ob q _ _ _=>⟨ob.slots,k b ob q⟩,λ_ _ _ n _=>n,λb ob q _=>⟨ob,k b ob q⟩,λ_ _ q=>q,λ_ _ _ q=>q,λ_ ps q=>⟨#[],by rw[q];simp⟩⟩
def Un.refl:Un fs ex H H h h:=Un.kept λ_ _ q=>q
def Un.laid(k:∀b u,h.get? b=À u->h'.get? b=À u)(hp:h.objs.size<=a)(hn:H a=Á):Un fs ex H (upd H a o) h h' where
 keep:=λb u q _ _ _=>k b u q
 slot:=λb u q _ _ _=>⟨u.slots,k b u q⟩
 free:=λb u q n _=>by rw[kG (zM (zN (zJ q) hp))];exact n
 there:=λb u q _=>⟨u,k b u q⟩
 tups:=λb xs q=>by rw[kG (qh q hn)];exact q
 frzs:=λb u xs q=>by rw[kG (qh q hn)];exact q
 tbls:=λb ps q=>⟨#[],by rw[kG (qh q hn),q];simp⟩
def Un.write(mu:oC (H x))(he:e=x\/H e=À (.own x))(k:∀b u,b≠e->h.get? b=À u->h'.get? b=À u)(Lv:∃u,h'.get? e=À u):Un fs ex H (upd H x o) h h':=by
 have hx:∀b,H b=Á->b≠x:=λb n z=>by subst z;rw[n] at mu;exact mu
 have hb:∀b,H b=Á->b≠e:=λb n z=>by
  subst z;rcases he with r | r
  .exact hx b n r
  .rw[n] at r;cases r
 have hm:∀b u,H b=À u->¬oC (À u)->b≠x:=λb u q nm z=>by subst z;rw[q] at mu;exact nm mu
 refine⟨λb u q n _ _=>k b u (hb b n) q,λb u q n _ _=>⟨u.slots,k b u (hb b n) q⟩,λb u q n _=>by rw[kG (hx b n)];exact n,λb u q _=>?_,
  λb xs q=>by rw[kG (hm b _ q λz=>z)];exact q,λb u xs q=>by rw[kG (hm b _ q λz=>z)];exact q,λb ps q=>⟨#[],by rw[kG (hm b _ q λz=>z),q];simp⟩⟩
 by_cases hbe:b=e
 .subst hbe;exact Lv
 .exact⟨u,k b u hbe q⟩
end
def X1(h:Õ)(H:Hp):List Ç:=(ß h.objs.size).filter λa=>(H a).isSome
def gu(h:Õ)(H:Hp):Õ:=PySem.W.hideAll h (X1 h H)
def VH(h:Õ)(H:Hp):(gu h H).objs.size=h.objs.size:=PySem.W.hideAll_size _ _
def WQ{h:Õ}{H:Hp}{b:Ç}{o:ø}(e:h.get? b=À o)(n:H b=Á):(gu h H).get? b=À o:=
 PySem.W.hideAll_get _ e λhm=>by
  have q:(H b).isSome=Â:=(jd.mp hm).2;rw[n] at q;simp at q
def Bf{h:Õ}{H:Hp}{b:Ç}{o:ø}(e:(gu h H).get? b=À o):h.get? b=À o/\H b=Á:=by
 have e':h.get? b=À o:=PySem.W.of_hideAll (X1 h H) e;refine⟨e',?_⟩;cases q:H b with
 | none=>rfl
 | some x=>
  have hm:b∈X1 h H:=jd.mpr ⟨jV.mpr (zJ e'),by simp[q]⟩;have z:(gu h H).get? b=Á:=PySem.W.hideAll_none (X1 h H) hm;rw[z] at e;cases e
end L2
namespace L2
open PySem PySem.Spec PyProof.Rows
structure Mod(K:aab)(mg:È->Option Ã)(base:Õ):Prop where
 kin:K.In base
 glob:base.Ns â mg
 blt:∃mb,base.Ns builtinsNs mb/\∀x:È,x≠"__name__"->mb x=Ù x
 nolimit:base.NoLimit
structure Cx where
 prog:Ï
 w:Ñ
 K:aab
 mg:È->Option Ã
 base:Õ
 A:Ø
 N:List È
 s₀:Å
 H₀:Hp
 env:Env
 outer:List Env
 stack:List Env
 ex:List Ç
 fn:È->Bool
 calm:Bool
 pn:List (Ç×ø)
 xe:Ã->Å->Prop
def frs(l:List Env):List Ç:=l.filterMap (·.frame)
abbrev Cx.fs(X:Cx):List Ç:=frs X.outer
def ZY(sc:î)(x:È):Prop:=sc.names.lookup x=À .local\/sc.names.lookup x=À .cell\/sc.names.lookup x=À .free
def Loc(sc:î)(x:È):Prop:=sc.names.lookup x=À .local\/sc.names.lookup x=À .cell
def Look(env:Env)(h:Õ)(m:È->Option Ã)(x:È)(u:Ã):Prop:=
 (env.kindOf x=À .local/\m x=À u)\/((env.kindOf x=À .cell\/env.kindOf x=À .free)/\∃c,env.cells.lookup x=À c/\h.IsCell c (À u))
structure Cx.Ok(X:Cx):Prop where
 mod:Mod X.K X.mg X.base
 kind:X.env.scope.kind=.function
 glob:X.env.globals=â
 blt:X.env.builtins=builtinsNs
 above:X.s₀.heap.objs.size<=X.env.locals
 inj:∀x y c,X.env.cells.lookup x=À c->X.env.cells.lookup y=À c->x=y
 has:∀x,(X.env.kindOf x=À .cell\/X.env.kindOf x=À .free)->∃c,X.env.cells.lookup x=À c
 cab:∀x c,X.fn x=Â->X.env.cells.lookup x=À c->X.s₀.heap.objs.size<=c
 hd:X.calm=Â->X.A.handled=Á
 frames:X.A.frames=À X.stack
 stk:X.stack=X.outer\/(X.stack=X.env::X.outer/\X.env.frame=À X.env.locals)
 exf:∀b∈X.ex,b≠X.env.locals/\∀x c,X.env.cells.lookup x=À c->c≠b
 bs:∀b o,X.base.get? b=À o->X.s₀.heap.get? b=À o/\X.H₀ b=Á
 bsz:X.base.objs.size<=X.s₀.heap.objs.size
 noex:∀b o,X.base.get? b=À o->b∉X.ex
 exfs:∀b∈X.ex,b∉X.fs
 funs:X.s₀.heap.FunFrames X.base X.outer
 frf:∀b∈X.fs,X.H₀ b=Á
structure Inv(X:Cx)(ag:List (Ç×ø))(σ:List (Option V))(H:Hp)(s:Å):Prop where
 ok:X.Ok
 os:s.os=X.s₀.os
 bare:Œ s.gens
 base:Un X.fs X.ex X.H₀ H X.s₀.heap s.heap
 loc:∃m,s.heap.Ns X.env.locals m/\∀(i:Nat) (x:È) (v:V),X.N[i]?=À x->σ[i]?=À (À v)->ZY X.env.scope x->∃u,RelV v u/\Look X.env s.heap m x u
 cell:∀x c,X.env.cells.lookup x=À c->∃v,s.heap.IsCell c v
 free:H X.env.locals=Á
 freeC:∀x c,X.env.cells.lookup x=À c->H c=Á
 pin:∀p∈X.pn++ag,s.heap.get? p.1=À p.2/\H p.1=Á/\p.1≠X.env.locals/\p.1∉X.fs/\∀v,p.2.data≠.cell v
 hok:HOk X.prog X.w H s.heap
 len:σ.length=X.N.length
section
variable{X:Cx}{ag:List (Ç×ø)}{σ:List (Option V)}{H H':Hp}{s:Å}{h':Õ}
def Cx.Ok.nofr(ok:X.Ok){b:Ç}{o:ø}(e:X.base.get? b=À o):b∉X.fs:=λhb=>by
 have:=(ok.funs.mem hb).1;rw[e] at this;cases this
theorem Inv.bs(I:Inv X ag σ H s):∀b o,X.base.get? b=À o->s.heap.get? b=À o/\H b=Á:=λb o e=>
 ⟨I.base.keep b o (I.ok.bs b o e).1 (I.ok.bs b o e).2 (I.ok.nofr e) (I.ok.noex b o e),I.base.free b o (I.ok.bs b o e).1 (I.ok.bs b o e).2 (I.ok.noex b o e)⟩
def Inv.bk(I:Inv X ag σ H s):∀b o,X.base.get? b=À o->s.heap.get? b=À o:=λb o e=>(I.bs b o e).1
theorem Inv.mod(I:Inv X ag σ H s):Mod X.K X.mg X.base:=I.ok.mod
def Inv.kIn(I:Inv X ag σ H s):X.K.In s.heap:=I.ok.mod.kin.keeps I.bk
theorem Inv.lt(I:Inv X ag σ H s):X.env.locals<s.heap.objs.size:=let ⟨_,hn,_⟩:=I.loc;hn.lt
def Inv.sz(I:Inv X ag σ H s):X.s₀.heap.objs.size<=s.heap.objs.size:=zq I.ok.above (qY I.lt)
def Inv.nofs(I:Inv X ag σ H s){a:Ç}(h:s.heap.objs.size<=a):a∉X.fs:=λhb=>by
 obtain⟨_,o,ho,_⟩:=I.ok.funs.mem hb;exact absurd (zN (zJ ho) (zq I.sz h)) (jZ _)
def Inv.cne(I:Inv X ag σ H s):∀x c,X.env.cells.lookup x=À c->c≠X.env.locals:=λx c e z=>by
 obtain⟨v,o,ho,hd⟩:=I.cell x c e;obtain⟨m,⟨o',es,ep,AO,AQ,_⟩,_⟩:=I.loc;rw[z,AO] at ho;cases ho;rw[AQ] at hd;cases hd
theorem Inv.funs(I:Inv X ag σ H s):s.heap.FunFrames X.base X.outer:=by
 have all:∀(l:List Env),(∀b∈frs l,b∈X.fs)->X.s₀.heap.FunFrames X.base l->s.heap.FunFrames X.base l:=by
  intro l;induction l with
  | nil=>intro _ _;trivial
  | cons env r ih=>
   intro hs hl;obtain⟨hk,⟨L,o,hf,hn,ho,hd⟩,hr⟩:=hl;have hL:L∈X.fs:=hs L (by unfold frs;rw[vL,hf];exact zz);obtain⟨sl,e⟩:=I.base.slot L o ho (I.ok.frf L hL) hL λz=>I.ok.exfs L z hL
   exact⟨hk,⟨L,_,hf,hn,e,hd⟩,ih (λb hb=>hs b (by unfold frs;rw[vL,hf];exact zp _ hb)) hr⟩
 exact all X.outer (λ_ hb=>hb) I.ok.funs
theorem Inv.stack(I:Inv X ag σ H s):s.heap.FunFrames X.base X.stack:=by
 rcases I.ok.stk with e | ⟨e,hf⟩
 .rw[e];exact I.funs
 .rw[e]
  obtain⟨m,hn,_⟩:=I.loc;refine .cons (by rw[I.ok.kind];decide) hf hn ?_ I.funs;exact xP (zq I.ok.bsz I.ok.above)
def Inv.stkSub(I:Inv X ag σ H s):∀b∈frs X.stack,b∈X.env.locals::X.fs:=λb hb=>by
 rcases I.ok.stk with e | ⟨e,hf⟩
 .rw[e] at hb;exact zp _ hb
 .rw[e] at hb
  unfold frs at hb;rw[vL,hf] at hb;exact hb
def Inv.stkFree(I:Inv X ag σ H s):∀b∈frs X.stack,H b=Á:=λb hb=>by
 rcases zj.mp (I.stkSub b hb) with e | hb
 .rw[e];exact I.free
 .obtain⟨_,o,ho,_⟩:=I.ok.funs.mem hb
  exact I.base.free b o ho (I.ok.frf b hb) λz=>I.ok.exfs b z hb
def Inv.step{g':Array ľ}{t':Nat}{d':Drawn}{ch:List Ç}(I:Inv X ag σ H s)
  (Ic:∀b∈ch,(b∈X.ex\/X.s₀.heap.objs.size<=b)/\b≠X.env.locals/\(∀x c,X.env.cells.lookup x=À c->c≠b)/\∀p∈X.pn++ag,p.1≠b)
  (keep:∀b o,b≠X.env.locals->b∉X.fs->b∉ch->s.heap.get? b=À o->H b=Á->h'.get? b=À o)
  (slot:∀b o,b≠X.env.locals->b∈X.fs->b∉ch->s.heap.get? b=À o->H b=Á->∃sl,h'.get? b=À { o with slots:=sl }) (free:∀b o,b∉ch->s.heap.get? b=À o->H b=Á->H' b=Á)
  (there:∀b o,b∉ch->s.heap.get? b=À o->∃o',h'.get? b=À o')
  (tups:∀b xs,H b=À (.tup xs)->H' b=À (.tup xs)) (frzs:∀b o u,H b=À (.frz o u)->H' b=À (.frz o u)) (tbls:∀b ps,H b=À (.tbl ps)->∃more,H' b=À (.tbl (ps++more)))
  (ns:∀m,s.heap.Ns X.env.locals m->h'.Ns X.env.locals m) (hok:HOk X.prog X.w H' h') (hg:Œ g') :
  Inv X ag σ H' { s with heap:=h',gens:=g',drawn:=d',toks:=t' }:=by
 have OJ:∀b o,X.s₀.heap.get? b=À o->b≠X.env.locals:=λb o e=>zM (zN (zJ e) I.ok.above)
 have MP:∀b o,X.s₀.heap.get? b=À o->b∉X.ex->b∉ch:=λb o e hx hb=>by
  rcases(Ic b hb).1 with z | z
  .exact hx z
  .exact absurd (zN (zJ e) z) (jZ _)
 have cellK:∀x c,X.env.cells.lookup x=À c->∀v,s.heap.IsCell c v->h'.IsCell c v:=λx c e v ⟨o,ho,hd⟩=>by
  have LM:c∉ch:=λz=>(Ic c z).2.2.1 x c e rfl
  by_cases hc:c∈X.fs
  .obtain⟨sl,q⟩:=slot c o (I.cne x c e) hc LM ho (I.freeC x c e)
   exact⟨_,q,hd⟩
  .exact⟨o,keep c o (I.cne x c e) hc LM ho (I.freeC x c e),hd⟩
 refine⟨I.ok,I.os,hg,⟨λb o e n hb hx=>?_,λb o e n hb hx=>?_,λb o e n hx=>?_,λb o e hx=>?_,λb xs e=>tups b xs (I.base.tups b xs e),λb o xs e=>frzs b o xs (I.base.frzs b o xs e),λb ps e=>?_⟩,?_,λx c e=>?_,?_,λx c e=>?_,λp hp=>?_,hok,I.len⟩
 .exact keep b o (OJ b o e) hb (MP b o e hx) (I.base.keep b o e n hb hx) (I.base.free b o e n hx)
 .obtain⟨sl,e1⟩:=I.base.slot b o e n hb hx
  obtain⟨Rn,e2⟩:=slot b _ (OJ b o e) hb (MP b o e hx) e1 (I.base.free b o e n hx);exact⟨Rn,e2⟩
 .obtain⟨o',e1⟩:=I.base.there b o e hx
  exact free b o' (MP b o e hx) e1 (I.base.free b o e n hx)
 .obtain⟨o',e1⟩:=I.base.there b o e hx
  exact there b o' (MP b o e hx) e1
 .obtain⟨m1,e1⟩:=I.base.tbls b ps e
  obtain⟨m2,e2⟩:=tbls b _ e1;exact⟨m1++m2,by rw[e2,Array.append_assoc]⟩
 .obtain⟨m,hn,hl⟩:=I.loc
  refine⟨m,ns m hn,λi x v e1 e2 e3=>?_⟩;obtain⟨u,r,l⟩:=hl i x v e1 e2 e3;refine⟨u,r,?_⟩;rcases l with l | ⟨k,c,e,z⟩
  .exact .inl l
  .exact .inr ⟨k,c,e,cellK x c e _ z⟩
 .obtain⟨v,z⟩:=I.cell x c e
  exact⟨v,cellK x c e v z⟩
 .obtain⟨m,⟨o,_,_,ho,_⟩,_⟩:=I.loc
  exact free _ o (λz=>(Ic _ z).2.1 rfl) ho I.free
 .obtain⟨v,o,ho,hd⟩:=I.cell x c e
  exact free c o (λz=>(Ic c z).2.2.1 x c e rfl) ho (I.freeC x c e)
 .obtain⟨e,n,ne,nf,d⟩:=I.pin p hp
  have LM:p.1∉ch:=λz=>(Ic p.1 z).2.2.2 p hp rfl
  exact⟨keep p.1 p.2 ne nf LM e n,free p.1 p.2 LM e n,ne,nf,d⟩
def Inv.un{t':Nat}(I:Inv X ag σ H s)(u:Un X.fs [] H H' s.heap h')(hok:HOk X.prog X.w H' h'):Inv X ag σ H' { s with heap:=h',toks:=t' }:=by
 obtain⟨m,⟨o,es,ep,ho,r⟩,_⟩:=id I.loc;obtain⟨sl,hL⟩:=u.any ho I.free (by simp)
 exact I.step (g':=s.gens) (d':=s.drawn) (ch:=[]) (λ_ z=>nomatch z) (λb o _ hb _ e n=>u.keep b o e n hb (by simp)) (λb o _ hb _ e n=>u.slot b o e n hb (by simp)) (λb o _ e n=>u.free b o e n (by simp)) (λb o _ e=>u.there b o e (by simp)) u.tups u.frzs u.tbls (λm' hm=>by
  obtain⟨o',es',IW,AO,r'⟩:=hm;rw[ho] at AO;cases AO
  exact⟨_,es',IW,hL,r'⟩) hok I.bare
def Inv.call{g':Array ľ}{t':Nat}{d':Drawn}{ch:List Ç}(I:Inv X ag σ H s)(u:Un (frs X.stack) ch H H' s.heap h')(hok:HOk X.prog X.w H' h')(hg:Œ g')
  (Ic:∀b∈ch,(b∈X.ex\/X.s₀.heap.objs.size<=b)/\b≠X.env.locals/\(∀x c,X.env.cells.lookup x=À c->c≠b)/\∀p∈X.pn++ag,p.1≠b) :
  Inv X ag σ H' { s with heap:=h',gens:=g',drawn:=d',toks:=t' }:=by
 obtain⟨m,⟨o,es,ep,ho,r⟩,_⟩:=id I.loc;obtain⟨sl,hL⟩:=u.any ho I.free λz=>(Ic _ z).2.1 rfl
 exact I.step (ch:=ch) Ic (λb o hL hb hc e n=>u.keep b o e n (λz=>(zj.mp (I.stkSub b z)).elim hL hb) hc) (λb o _ _ hc e n=>u.any e n hc) (λb o hc e n=>u.free b o e n hc) (λb o hc e=>u.there b o e hc) u.tups u.frzs u.tbls (λm' hm=>by
  obtain⟨o',es',IW,AO,r'⟩:=hm;rw[ho] at AO;cases AO
  exact⟨_,es',IW,hL,r'⟩) hok hg
def Inv.turned{t':Nat}{it:Ç}(I:Inv X ag σ H s)(k:∀b o,b≠it->s.heap.get? b=À o->h'.get? b=À o)(hn:H it=Á)(hL:it≠X.env.locals)
  (h1:it∈X.ex\/X.s₀.heap.objs.size<=it) (h2:∀x c,X.env.cells.lookup x=À c->c≠it) (h3:∀p∈X.pn++ag,p.1≠it):Inv X ag σ H { s with heap:=h',toks:=t' }:=by
 have OK:∀b u,H b=À u->b≠it:=λb u e z=>by rw[z,hn] at e;cases e
 refine I.step (g':=s.gens) (d':=s.drawn) (ch:=[it]) (λb hb=>?_) (λb o _ _ hc e _=>k b o (λz=>hc (by simp[z])) e) (λb o _ _ hc e _=>⟨o.slots,k b o (λz=>hc (by simp[z])) e⟩) (λ_ _ _ _ n=>n)
  (λb o hc e=>⟨o,k b o (λz=>hc (by simp[z])) e⟩) (λ_ _ e=>e) (λ_ _ _ e=>e) (λb ps e=>⟨#[],by rw[e];simp⟩) (λm hm=>?_) (λb u e=>?_) I.bare
 .have e:b=it:=by simpa using hb
  subst e;exact⟨h1,hL,h2,h3⟩
 .obtain⟨o,es,ep,ho,r⟩:=hm
  exact⟨o,es,ep,k _ o (jq hL) ho,r⟩
 .refine(I.hok b u e).stay (λc v hc q=>k c v ?_ q) (λ_ q=>q) λ_ _ q=>q
  rcases hc with z | z
  .rw[z];exact OK b u e
  .exact OK c _ z
def Inv.tok(I:Inv X ag σ H s)(t:Nat):Inv X ag σ H { s with toks:=t }:=I.un (h':=s.heap) (t':=t) Un.refl I.hok
theorem Inv.kept{t':Nat}(I:Inv X ag σ H s)(k:∀b u,s.heap.get? b=À u->h'.get? b=À u):Inv X ag σ H { s with heap:=h',toks:=t' }:=I.un (Un.kept k) (I.hok.kept k)
theorem Inv.laid{a:Ç}{o:HO}{t':Nat}(I:Inv X ag σ H s)(k:∀b u,s.heap.get? b=À u->h'.get? b=À u)(hp:s.heap.objs.size<=a)(new:ObjOk X.prog X.w (upd H a o) h' a o) :
  Inv X ag σ (upd H a o) { s with heap:=h',toks:=t' }:=I.un (Un.laid k hp (I.hok.fresh hp)) (I.hok.laid k hp new)
theorem Inv.write{x e:Ç}{o:HO}{t':Nat}(I:Inv X ag σ H s)(mu:oC (H x))(he:e=x\/H e=À (.own x))(k:∀b u,b≠e->s.heap.get? b=À u->h'.get? b=À u)(Lv:∃u,h'.get? e=À u)
  (new:ObjOk X.prog X.w (upd H x o) h' x o):Inv X ag σ (upd H x o) { s with heap:=h',toks:=t' }:=I.un (Un.write mu he k Lv) (I.hok.write mu he k Lv new)
def Inv.pins_of{IK:List (Ç×ø)}(I:Inv X ag σ H s)(h:∀p∈IK,s.heap.get? p.1=À p.2/\H p.1=Á/\p.1≠X.env.locals/\p.1∉X.fs/\∀v,p.2.data≠.cell v):Inv X IK σ H s:=
 ⟨I.ok,I.os,I.bare,I.base,I.loc,I.cell,I.free,I.freeC,λp hp=>(zF.mp hp).elim (λz=>I.pin p (yP _ z)) (h p),I.hok,I.len⟩
def Zb{N:List È}(hN:N.Nodup){i j:Nat}{x:È}(a:N[i]?=À x)(b:N[j]?=À x):i=j:=by
 obtain⟨h1,e1⟩:=zA.mp a;obtain⟨h2,e2⟩:=zA.mp b;exact(yx hN).mp (e1.trans e2.symm)
def oz{M:Model}{A:Ø}{E:Ã->Å->Prop}{i:Nat}{x:È}{v:V}{u:Ã}{Q:Unit->Å->Prop}(I:Inv X ag σ H s)(hN:X.N.Nodup)(hi:X.N[i]?=À x)(hx:Loc X.env.scope x)(r:RelV v u)
  (h:∀s',Inv X ag (σ.set i (À v)) H s'->(∃a,Ü a s.heap s'.heap/\(a=X.env.locals\/X.env.cells.lookup x=À a))->Q () s') (hf:X.fn x=Â\/X.env.scope.names.lookup x=À .local:=by first | exact .inl rfl | exact .inr rfl | assumption):Æ M A (storeName X.env x u) Q E s:=by
 obtain⟨m,hn,hl⟩:=id I.loc;have Nh:(X.env.scope.kind==.class||(X.env.scope.kind==.module&&X.env.locals != X.env.globals))=Ä:=by rw[I.ok.kind];rfl
 have LN:i<σ.length:=by rw[I.len];exact(zA.mp hi).1
 have cne:=I.cne;have tracked:∀{a:Ç} {h':Õ},(∃o,s.heap.get? a=À o/\H a=Á)->Ü a s.heap h'->HOk X.prog X.w H h':=λ{a h'} ha hs b ob e=>by
  obtain⟨_,_,IL⟩:=ha;refine(I.hok b ob e).stay (λc w' hc q=>(hs.2 c ?_).trans q) (λ_ q=>q) λ_ _ q=>q
  rintro rfl;rcases hc with rfl | hc
  .rw[IL] at e;cases e
  .rw[IL] at hc;cases hc
 rcases hx with hk | hk
 .refine wpAny_storeName_local hk hn (λh' Ro hs=>?_) Nh
  obtain⟨oL,_,_,Rp,_⟩:=id hn;refine h _ ⟨I.ok,I.os,I.bare,⟨λb o e n hb hx=>?_,λb o e n hb hx=>?_,I.base.free,λb o e hx=>?_,I.base.tups,I.base.frzs,I.base.tbls⟩,⟨_,Ro,λj y v' e1 e2 e3=>?_⟩,λy c e=>?_,I.free,I.freeC,λp hp=>?_,tracked ⟨oL,Rp,I.free⟩ hs,by simpa using I.len⟩ ⟨_,hs,.inl rfl⟩
  .exact(hs.2 b (zM (zN (zJ e) I.ok.above))).trans (I.base.keep b o e n hb hx)
  .obtain⟨sl,e1⟩:=I.base.slot b o e n hb hx
   exact⟨sl,(hs.2 b (zM (zN (zJ e) I.ok.above))).trans e1⟩
  .obtain⟨o',e1⟩:=I.base.there b o e hx
   exact⟨o',(hs.2 b (zM (zN (zJ e) I.ok.above))).trans e1⟩
  .by_cases hj:j=i
   .subst hj
    rw[hi] at e1;cases e1;rw[qi LN] at e2;cases e2;exact⟨u,r,.inl ⟨hk,by simp⟩⟩
   .rw[qI (jq hj)] at e2
    obtain⟨u',r',q⟩:=hl j y v' e1 e2 e3;refine⟨u',r',?_⟩;rcases q with ⟨k,e⟩ | ⟨k,c,e,z⟩
    .refine .inl ⟨k,?_⟩
     have:y≠x:=λe=>hj (Zb hN e1 (e▸hi))
     simp[this,e]
    .exact .inr ⟨k,c,e,z.sameBut hs (cne y c e)⟩
  .obtain⟨w',z⟩:=I.cell y c e
   exact⟨w',z.sameBut hs (cne y c e)⟩
  .obtain⟨e,n,ne,nf,d⟩:=I.pin p hp
   exact⟨(hs.2 p.1 ne).trans e,n,ne,nf,d⟩
 .have Ni:X.fn x=Â:=by
   rcases hf with z | z
   .exact z
   .rw[z] at hk;cases hk
  obtain⟨c,hc⟩:=I.ok.has x (.inl hk);obtain⟨w',z⟩:=I.cell x c hc;refine wpAny_storeName_cell I.ok.kind hk hc z (λh' IM hs=>?_);obtain⟨oc,OL,Nj⟩:=id z;refine h { s with heap:=h' } ⟨I.ok,I.os,I.bare,⟨λb o e n hb hx=>?_,λb o e n hb hx=>?_,I.base.free,λb o e hx=>?_,I.base.tups,I.base.frzs,I.base.tbls⟩,⟨m,hn.sameBut hs (jq (cne x c hc)),λj y v' e1 e2 e3=>?_⟩,λy c' e=>?_,I.free,I.freeC,λp hp=>?_,tracked ⟨oc,OL,I.freeC x c hc⟩ hs,by simpa using I.len⟩ ⟨c,hs,.inr hc⟩
  .exact(hs.2 b (zM (zN (zJ e) (I.ok.cab x c Ni hc)))).trans (I.base.keep b o e n hb hx)
  .obtain⟨sl,e1⟩:=I.base.slot b o e n hb hx
   exact⟨sl,(hs.2 b (zM (zN (zJ e) (I.ok.cab x c Ni hc)))).trans e1⟩
  .obtain⟨o',e1⟩:=I.base.there b o e hx
   exact⟨o',(hs.2 b (zM (zN (zJ e) (I.ok.cab x c Ni hc)))).trans e1⟩
  .by_cases hj:j=i
   .subst hj
    rw[hi] at e1;cases e1;rw[qi LN] at e2;cases e2;exact⟨u,r,.inr ⟨.inl hk,c,hc,IM⟩⟩
   .rw[qI (jq hj)] at e2
    obtain⟨u',r',q⟩:=hl j y v' e1 e2 e3;refine⟨u',r',?_⟩;rcases q with q | ⟨k,c',e,z'⟩
    .exact .inl q
    .refine .inr ⟨k,c',e,z'.sameBut hs ?_⟩
     rintro rfl;exact hj (Zb hN e1 (I.ok.inj _ _ _ e hc▸hi))
  .by_cases hcc:c'=c
   .subst hcc;exact⟨_,IM⟩
   .obtain⟨w2,z2⟩:=I.cell y c' e
    exact⟨w2,z2.sameBut hs hcc⟩
  .obtain⟨e,n,ne,nf,d⟩:=I.pin p hp
   refine⟨(hs.2 p.1 ?_).trans e,n,ne,nf,d⟩;intro q;rw[q,OL] at e;have q':oc=p.2:=zX e;exact d w' (by rw[<-q'];exact Nj)
def lP{M:Model}{A:Ø}{E:Ã->Å->Prop}{i:Nat}{x:È}{v:V}{u:Ã}{Q:Unit->Å->Prop}(I:Inv X ag σ H s)(hN:X.N.Nodup)(hi:X.N[i]?=À x)(hx:Loc X.env.scope x)(r:RelV v u)
  (h:∀s',Inv X ag (σ.set i (À v)) H s'->Q () s') (hf:X.fn x=Â\/X.env.scope.names.lookup x=À .local:=by first | exact .inl rfl | exact .inr rfl | assumption):Æ M A (storeName X.env x u) Q E s:=
 oz I hN hi hx r (λs' I' _=>h s' I') hf
def Inv.call'{s':Å}{ch:List Ç}(I:Inv X ag σ H s)(ho:s'.os=s.os)(u:Un (frs X.stack) ch H H' s.heap s'.heap)(hok:HOk X.prog X.w H' s'.heap)(hg:Œ s'.gens)
  (Ic:∀b∈ch,(b∈X.ex\/X.s₀.heap.objs.size<=b)/\b≠X.env.locals/\(∀x c,X.env.cells.lookup x=À c->c≠b)/\∀p∈X.pn++ag,p.1≠b):Inv X ag σ H' s':=by
 obtain⟨h',g',d',t',o'⟩:=s';have e:o'=s.os:=ho;subst e;exact I.call (g':=g') (t':=t') (d':=d') u hok hg Ic
end
abbrev XK:=Ã->Option Ç->Hp->Prop
abbrev St:=List (Option V)
abbrev VK:=V->Hp->Prop
abbrev TE:=St->Hp->VK->Prop
abbrev TT:=St->Hp->(Bool->Hp->Prop)->Prop
abbrev TA:=St->Hp->(List V->Hp->Prop)->Prop
structure Ends where
 nx:St->Hp->Prop
 rt:VK
 bk:St->Hp->Prop:=λ_ _=>False
 ct:St->Hp->Prop:=λ_ _=>False
abbrev TS:=Ends->St->Hp->Prop
def EP(X:Cx)(ag:List (Ç×ø))(σ:St)(Q:VK)(u:Ã)(s':Å):Prop:=∃v H',Inv X ag σ H' s'/\RelV v u/\Q v H'
def TP(X:Cx)(ag:List (Ç×ø))(σ:St)(Q:Bool->Hp->Prop)(b:Bool)(s':Å):Prop:=∃H',Inv X ag σ H' s'/\Q b H'
def AP(X:Cx)(ag:List (Ç×ø))(σ:St)(Q:List V->Hp->Prop)(us:List Ã)(s':Å):Prop:=∃vs H',Inv X ag σ H' s'/\Vals vs us/\Q vs H'
def SP(X:Cx)(ag:List (Ç×ø))(D:Ends)(f:Flow)(s':Å):Prop:=
 match f with
 | .next=>∃hG H',Inv X ag hG H' s'/\D.nx hG H'
 | .brk=>∃hG H',Inv X ag hG H' s'/\D.bk hG H'
 | .cont=>∃hG H',Inv X ag hG H' s'/\D.ct hG H'
 | .ret u=>∃v hG H',Inv X ag hG H' s'/\RelV v u/\D.rt v H'
def PE(X:Cx)(e:Î)(t:TE):Prop:=
 ∀(ag:List (Ç×ø)) (s:Å) (σ:St) (H:Hp) (Q:VK),Inv X ag σ H s->t σ H Q->Æ (Í X.prog X.w) X.A (å e X.env) (EP X ag σ Q) X.xe s
def PT(X:Cx)(e:Î)(t:TT):Prop:=
 ∀(ag:List (Ç×ø)) (s:Å) (σ:St) (H:Hp) (Q:Bool->Hp->Prop),Inv X ag σ H s->t σ H Q->Æ (Í X.prog X.w) X.A (isTrue e X.env (å e X.env)) (TP X ag σ Q) X.xe s
def PW(X:Cx)(e:Î)(t:TT):Prop:=
 ∀(whole:Sem Ã) (ag:List (Ç×ø)) (s:Å) (σ:St) (H:Hp) (Q:Bool->Hp->Prop),Inv X ag σ H s->t σ H Q->Æ (Í X.prog X.w) X.A (isTrue e X.env whole) (TP X ag σ Q) X.xe s
def PW.pt{X:Cx}{e:Î}{t:TT}(h:PW X e t):PT X e t:=h _
def PA(X:Cx)(es:List Î)(t:TA):Prop:=
 ∀(pos:ė) (ag:List (Ç×ø)) (s:Å) (σ:St) (H:Hp) (Q:List V->Hp->Prop),Inv X ag σ H s->t σ H Q->Æ (Í X.prog X.w) X.A (š (Þ pos (Ê es X.env))) (AP X ag σ Q) X.xe s
def PS(X:Cx)(st:ď)(t:TS):Prop:=
 ∀(ag:List (Ç×ø)) (s:Å) (σ:St) (H:Hp) (D:Ends),Inv X ag σ H s->t D σ H->Æ (Í X.prog X.w) X.A (exec st X.env) (SP X ag D) X.xe s
def PSs(X:Cx)(st:List ď)(t:TS):Prop:=
 ∀(ag:List (Ç×ø)) (s:Å) (σ:St) (H:Hp) (D:Ends),Inv X ag σ H s->t D σ H->Æ (Í X.prog X.w) X.A (execs st X.env) (SP X ag D) X.xe s
def kg{α:Type}{t:Sem α}{Q Q':α->Å->Prop}{M:Model}{A:Ø}{E:Ã->Å->Prop}{s:Å}(h:Æ M A t Q E s)(hQ:∀a s,Q a s->Q' a s):Æ M A t Q' E s:=j6 h hQ λ_ _ x=>x
end L2
namespace L2
open PySem PySem.Spec PyProof.Rows
section
variable{X:Cx}
def Hy(i:Nat):TE:=λσ H Q=>∃v,σ[i]?=À (À v)/\Q v H
def tC(v:V):TE:=λ_ H Q=>Q v H
def Do{i:Nat}{x:È}{pos:ė}(hN:X.N[i]?=À x)(hv:ZY X.env.scope x)(hd:⇑((x==("__debug__":È))=Ä))(Ep:⇑((x==("__classdict__":È))=Ä)):PE X (.Name x pos) (Hy i):=by
 intro ag s σ H Q I h;obtain⟨v,e,h⟩:=h;obtain⟨m,hn,hl⟩:=I.loc;obtain⟨u,r,l⟩:=hl i x v hN e hv;have fin:EP X ag σ Q u s:=⟨v,H,I,r,h⟩;rcases l with ⟨hk,hm⟩ | ⟨hk,c,hc,AF⟩
 .exact wpAny_Name (ų I.ok.kind hk hn hm fin) hd
 .rcases hk with hk | hk
  .exact wpAny_Name (wpAny_loadName_cell I.ok.kind hk hc AF fin) hd
  .exact wpAny_Name (wpAny_loadName_free I.ok.kind hk hc AF fin Ep) hd
def V6{i j pos}:PE X (.Constant (.int i) j pos) (tC (.int i)):=λ_ _ _ H _ I h=>wpAny_Constant_int ⟨.int i,H,I.tok _,⟨_,rfl⟩,h⟩
def FX{b j pos}:PE X (.Constant (.bool b) j pos) (tC (.bl b)):=λ_ _ _ H _ I h=>Constant_bool ⟨.bl b,H,I,rfl,h⟩
def Fp{j pos}:PE X (.Constant .none j pos) (tC .non):=λ_ _ _ H _ I h=>Constant_none ⟨.non,H,I,rfl,h⟩
def Cg{x j pos}:PE X (.Constant (.str x) j pos) (tC (.str x)):=λ_ _ _ H _ I h=>Calls.Constant_str ⟨.str x,H,I.tok _,⟨_,rfl⟩,h⟩
def Gl(X:Cx)(x:È):Prop:=X.env.kindOf x=À .globalImplicit
def nM{E:Ã->Å->Prop}{ag:List (Ç×ø)}{s:Å}{σ:St}{H:Hp}{x:È}{u:Ã}{pos:ė}{Q:Ã->Å->Prop}(I:Inv X ag σ H s)(hg:Gl X x)(hm:X.mg x=À u)(h:Q u s)
  (hd:⇑((x==("__debug__":È))=Ä)):Æ (Í X.prog X.w) X.A (å (.Name x pos) X.env) Q E s:=
 pI I.ok.kind hg (Calls.loadGlobal_global (by rw[I.ok.glob];exact I.mod.glob.keeps I.bk) hm h) hd
def y6{E:Ã->Å->Prop}{ag:List (Ç×ø)}{s:Å}{σ:St}{H:Hp}{x:È}{u:Ã}{pos:ė}{Q:Ã->Å->Prop}(I:Inv X ag σ H s)(hg:Gl X x)(hm:X.mg x=Á)(hv:Ù x=À u)(h:Q u s)
  (hn:⇑(x≠"__name__")) (hd:⇑((x==("__debug__":È))=Ä)):Æ (Í X.prog X.w) X.A (å (.Name x pos) X.env) Q E s:=by
 obtain⟨mb,h1,h2⟩:=I.mod.blt;exact pI I.ok.kind hg (Calls.loadGlobal_builtin (by rw[I.ok.glob];exact I.mod.glob.keeps I.bk) hm (by rw[I.ok.blt];exact h1.keeps I.bk) ((h2 x hn).trans hv) h) hd
def iB{x:È}{v:V}{u:Ã}{pos:ė}(hg:Gl X x)(hm:X.mg x=À u)(r:RelV v u)(hd:⇑((x==("__debug__":È))=Ä)):PE X (.Name x pos) (tC v):=
 λ_ _ _ H _ I h=>nM I hg hm ⟨v,H,I,r,h⟩ hd
def U5{x:È}{v:V}{u:Ã}{pos:ė}(hg:Gl X x)(hm:X.mg x=Á)(hv:Ù x=À u)(r:RelV v u)(hn:⇑(x≠"__name__"))(hd:⇑((x==("__debug__":È))=Ä)):PE X (.Name x pos) (tC v):=
 λ_ _ _ H _ I h=>y6 I hg hm hv ⟨v,H,I,r,h⟩ hn hd
variable{a b:Î}{ta tb:TE}{pos:ė}
def tB(t:TE):TT:=λσ H Q=>t σ H λx H1=>∃c,x=.bl c/\Q c H1
def FL{e:Î}{t:TE}(h:PE X e t)(he:∀whole,isTrue e X.env whole=(do let v <-whole;standAt e.pos;Đ [v] (truthy v)):=by intro _;rfl):PT X e (tB t):=by
 intro ag s σ H Q I hw;refine isTrue_plain (kg (h ag s σ H _ I hw) ?_) (he _);rintro v s1 ⟨x,H1,I1,r1,q1⟩;obtain⟨d,rfl,q⟩:=q1;cases r1;exact qw ⟨H1,I1,q⟩
variable{tA MQ:TT}{rest:List Î}
def Hb(t u:TT):TT:=λσ H Q=>t σ H λc H1=>if c=Â then u σ H1 Q else Q Ä H1
def HV(t u:TT):TT:=λσ H Q=>t σ H λc H1=>if c=Â then Q Â H1 else u σ H1 Q
def G9(t:TT):TT:=λσ H Q=>t σ H λc H1=>Q (!c) H1
def pw_and1(ha:PT X a tA):PW X (.BoolOp .And [a] pos) tA:=by
 intro wh ag s σ H Q I h;refine isTrue_and (kg (ha ag s σ H Q I h) λc s1 e=>?_);cases c with
 | true=>exact isTrue_and_nil e
 | false=>exact e
def pw_or1(ha:PT X a tA):PW X (.BoolOp .Or [a] pos) tA:=by
 intro wh ag s σ H Q I h;refine isTrue_or (kg (ha ag s σ H Q I h) λc s1 e=>?_);cases c with
 | false=>exact isTrue_or_nil e
 | true=>exact e
def pw_and(ha:PT X a tA)(hb:PW X (.BoolOp .And (b::rest) pos) MQ):PW X (.BoolOp .And (a::b::rest) pos) (Hb tA MQ):=by
 intro wh ag s σ H Q I h;refine isTrue_and (kg (ha ag s σ H _ I h) ?_);rintro c s1 ⟨H1,I1,q1⟩;cases c with
 | true=>exact hb wh ag s1 σ H1 Q I1 q1
 | false=>exact⟨H1,I1,q1⟩
def pw_or(ha:PT X a tA)(hb:PW X (.BoolOp .Or (b::rest) pos) MQ):PW X (.BoolOp .Or (a::b::rest) pos) (HV tA MQ):=by
 intro wh ag s σ H Q I h;refine isTrue_or (kg (ha ag s σ H _ I h) ?_);rintro c s1 ⟨H1,I1,q1⟩;cases c with
 | true=>exact⟨H1,I1,q1⟩
 | false=>exact hb wh ag s1 σ H1 Q I1 q1
def DI(ha:PT X a tA):PT X (.UnaryOp .Not a pos) (G9 tA):=by
 intro ag s σ H Q I h;exact isTrue_not (ha ag s σ H (λc H1=>Q (!c) H1) I h)
def Gq(ta tb:TE):TE:=λσ H Q=>ta σ H λx H1=>∃c,x=.bl c/\if c=Â then tb σ H1 Q else Q (.bl Ä) H1
def Hq(ta tb:TE):TE:=λσ H Q=>ta σ H λx H1=>∃c,x=.bl c/\if c=Â then Q (.bl Â) H1 else tb σ H1 Q
def Gk(ta:TE):TE:=λσ H Q=>ta σ H λx H1=>∃c,x=.bl c/\Q (.bl (!c)) H1
def DO{op}{t:TE}(h:PE X a t):PE X (.BoolOp op [a] pos) t:=λag s σ H Q I hw=>BoolOp_one (h ag s σ H Q I hw)
def Cf(ha:PE X a ta)(hb:PE X (.BoolOp .And (b::rest) pos) tb):PE X (.BoolOp .And (a::b::rest) pos) (Gq ta tb):=by
 intro ag s σ H Q I h;refine BoolOp_and (kg (ha ag s σ H _ I h) ?_);rintro v s1 ⟨x,H1,I1,r1,q1⟩;obtain⟨c,rfl,q1⟩:=q1;cases r1;refine qw ?_;cases c with
 | true=>exact hb ag s1 σ H1 Q I1 q1
 | false=>exact⟨.bl Ä,H1,I1,rfl,q1⟩
def F2(ha:PE X a ta)(hb:PE X (.BoolOp .Or (b::rest) pos) tb):PE X (.BoolOp .Or (a::b::rest) pos) (Hq ta tb):=by
 intro ag s σ H Q I h;refine BoolOp_or (kg (ha ag s σ H _ I h) ?_);rintro v s1 ⟨x,H1,I1,r1,q1⟩;obtain⟨c,rfl,q1⟩:=q1;cases r1;refine qw ?_;cases c with
 | false=>exact hb ag s1 σ H1 Q I1 q1
 | true=>exact⟨.bl Â,H1,I1,rfl,q1⟩
def Fv(ha:PE X a ta):PE X (.UnaryOp .Not a pos) (Gk ta):=by
 intro ag s σ H Q I h;refine UnaryOp_ (kg (ha ag s σ H _ I h) ?_);rintro v s1 ⟨x,H1,I1,r1,q1⟩;obtain⟨c,rfl,q1⟩:=q1;cases r1;exact not_of (qw ⟨.bl (!c),H1,I1,rfl,q1⟩)
def HL(t:TT)(ta tb:TE):TE:=λσ H Q=>t σ H λc H1=>if c=Â then ta σ H1 Q else tb σ H1 Q
def W5{c:Î}(hc:PT X c tA)(ha:PE X a ta)(hb:PE X b tb):PE X (.IfExp c a b pos) (HL tA ta tb):=by
 intro ag s σ H Q I h;refine wpAny_IfExp (kg (hc ag s σ H _ I h) ?_);rintro d s1 ⟨H1,I1,q1⟩;cases d with
 | true=>exact ha ag s1 σ H1 Q I1 q1
 | false=>exact hb ag s1 σ H1 Q I1 q1
end
end L2
namespace L2
open PySem PySem.Spec PyProof.Rows
def SqL(K:aab)(H:Hp)(a:Ç)(xs:List V):Prop:=
 Rd H a (.lst xs) \/
  ∃(o:ø) (its:Array Ã) (n:Nat),K.lookup a=À o/\o.cls=.type "list" /\ o.dict=Á/\o.data=.seq its n/\its.size<=Ð/\Vals xs its.toList
def SqT(K:aab)(H:Hp)(a:Ç)(xs:List V):Prop:=
 Rd H a (.tup xs) \/
  ∃(o:ø) (its:Array Ã) (n:Nat),K.lookup a=À o/\(o.cls=.type "tuple" /\ o.dict=Á)/\o.data=.seq its n/\its.size<=Ð/\Vals xs its.toList
def Hc:Ã->Option V
 | .none=>À .non
 | .bool b=>À (.bl b)
 | .int i _=>À (.int i)
 | .str x _=>À (.str x)
 | .bytes b _=>À (.byt b)
 | .float b _=>À (.flt b)
 | .ref a=>À (.ref a)
 | .type n=>À (.ty n)
 | _=>Á
theorem RelV.abs{x:V}{u:Ã}(r:RelV x u):Hc u=À x:=by
 cases x with
 | non=>cases r;rfl
 | bl _=>cases r;rfl
 | int _=>obtain⟨t,rfl⟩:=r;rfl
 | str _=>obtain⟨t,rfl⟩:=r;rfl
 | byt _=>obtain⟨t,rfl⟩:=r;rfl
 | flt _=>obtain⟨t,rfl⟩:=r;rfl
 | ref _=>cases r;rfl
 | ty _=>cases r;rfl
theorem RelV.inj{x y:V}{u:Ã}(r:RelV x u)(q:RelV y u):x=y:=zX (r.abs.symm.trans q.abs)
theorem Vals.inj{xs ys:List V}{us:List Ã}(h:Vals xs us)(q:Vals ys us):xs=ys:=by
 induction h generalizing ys with
 | nil=>cases q;rfl
 | cons r t ih=>cases q with | cons r' t'=>rw[r.inj r',ih t']
section
variable{X:Cx}{ag:List (Ç×ø)}{σ:St}{H:Hp}{s:Å}{a:Ç}{xs ys:List V}
def SqL.of{K:aab}(h:H a=À (.lst xs)):SqL K H a xs:=.inl (.inl h)
def SqT.of{K:aab}(h:H a=À (.tup xs)):SqT K H a xs:=.inl (.inl h)
def Inv.list(I:Inv X ag σ H s)(h:SqL X.K H a xs):∃its:List Ã,Vals xs its/\PlainL s.heap a its.toArray/\xs.length<=Ð:=by
 rcases h with h | ⟨o,its,n,hk,hc,hd,hs,hz,r⟩
 .obtain⟨z,its,n,r,e⟩:=h.ok I.hok
  exact⟨its,r,⟨_,n,e,rfl,rfl,rfl⟩,z⟩
 .refine⟨its.toList,r,⟨o,n,I.kIn a o hk,hc,hd,by simpa using hs⟩,?_⟩
  have e:=r.length;erw[zV] at e;omega
def Inv.tuple(I:Inv X ag σ H s)(h:SqT X.K H a xs):∃its:List Ã,Vals xs its/\Ő s.heap a its.toArray/\xs.length<=Ð:=by
 rcases h with h | ⟨o,its,n,hk,⟨hc,_⟩,hs,hz,r⟩
 .obtain⟨z,its,r,p,_⟩:=h.ok I.hok
  exact⟨its,r,p,z⟩
 .refine⟨its.toList,r,⟨o,I.kIn a o hk,hc,n,by simpa using hs⟩,?_⟩
  have e:=r.length;erw[zV] at e;omega
def Inv.list_inj(I:Inv X ag σ H s)(h:SqL X.K H a xs)(h':SqL X.K H a ys):xs=ys:=by
 obtain⟨its,r,⟨o,n,e,_,_,d⟩,_⟩:=I.list h;obtain⟨its',r',⟨o',n',e',_,_,d'⟩,_⟩:=I.list h';rw[e] at e';cases e';rw[d] at d';injection d' with d1 _;have:its=its':=by simpa using jl Array.toList d1
 subst this;exact r.inj r'
def Inv.tupleD(I:Inv X ag σ H s)(h:SqT X.K H a xs):NoDi s.heap a:=by
 rcases h with h | ⟨o,its,n,hk,⟨hc,hd⟩,hs,hz,r⟩
 .obtain⟨z,its,r,p,d⟩:=h.ok I.hok
  exact d
 .exact⟨o,I.kIn a o hk,hd⟩
def Inv.tuple_inj(I:Inv X ag σ H s)(h:SqT X.K H a xs)(h':SqT X.K H a ys):xs=ys:=by
 obtain⟨its,r,⟨o,e,_,n,d⟩,_⟩:=I.tuple h;obtain⟨its',r',⟨o',e',_,n',d'⟩,_⟩:=I.tuple h';rw[e] at e';cases e';rw[d] at d';injection d' with d1 _;have:its=its':=by simpa using jl Array.toList d1
 subst this;exact r.inj r'
end
abbrev Cx.wish(X:Cx)(E:Ã->Å->Prop):Cx:={ X with xe:=E }
abbrev Cx.nox(X:Cx):Cx:=X.wish λ_ _=>False
theorem Cx.Ok.wish{X:Cx}(ok:X.Ok)(E:Ã->Å->Prop):(X.wish E).Ok:=
 ⟨ok.mod,ok.kind,ok.glob,ok.blt,ok.above,ok.inj,ok.has,ok.cab,ok.hd,ok.frames,ok.stk,ok.exf,ok.bs,ok.bsz,ok.noex,ok.exfs,ok.funs,ok.frf⟩
def Cx.Ok.unwish{X:Cx}{E:Ã->Å->Prop}(ok:(X.wish E).Ok):X.Ok:=
 ⟨ok.mod,ok.kind,ok.glob,ok.blt,ok.above,ok.inj,ok.has,ok.cab,ok.hd,ok.frames,ok.stk,ok.exf,ok.bs,ok.bsz,ok.noex,ok.exfs,ok.funs,ok.frf⟩
section
variable{X:Cx}{ag:List (Ç×ø)}{σ:St}{H:Hp}{s:Å}{E:Ã->Å->Prop}
theorem Inv.wish(I:Inv X ag σ H s)(E:Ã->Å->Prop):Inv (X.wish E) ag σ H s:=⟨I.ok.wish E,I.os,I.bare,I.base,I.loc,I.cell,I.free,I.freeC,I.pin,I.hok,I.len⟩
theorem Inv.unwish(I:Inv (X.wish E) ag σ H s):Inv X ag σ H s:=⟨I.ok.unwish,I.os,I.bare,I.base,I.loc,I.cell,I.free,I.freeC,I.pin,I.hok,I.len⟩
theorem SP.unwish{D:Ends}{f:Flow}{s':Å}(h:SP (X.wish E) ag D f s'):SP X ag D f s':=by
 cases f with
 | next=>obtain⟨hG,H',I,q⟩:=h;exact⟨hG,H',I.unwish,q⟩
 | brk=>obtain⟨hG,H',I,q⟩:=h;exact⟨hG,H',I.unwish,q⟩
 | cont=>obtain⟨hG,H',I,q⟩:=h;exact⟨hG,H',I.unwish,q⟩
 | ret u=>obtain⟨v,hG,H',I,r,q⟩:=h;exact⟨v,hG,H',I.unwish,r,q⟩
theorem PSs.nox{st:List ď}{t:TS}(h:PSs X.nox st t):PSs X st t:=λag s σ H D I hw=>
 j6 (h ag s σ H D (I.wish _) hw) (λ_ _ q=>q.unwish) λ_ _ z=>ę z
end
section
variable{X:Cx}{st:ď}{rest:List ď}{t u:TS}{e:Î}{te:TE}{pos:ė}
def XZ:TS:=λD σ H=>D.nx σ H
def Hf(t u:TS):TS:=λD σ H=>t { D with nx:=u D } σ H
def BG:PSs X [] XZ:=λ_ _ σ H _ I h=>yW ⟨σ,H,I,h⟩
def Wy(h1:PS X st t)(h2:PSs X rest u):PSs X (st::rest) (Hf t u):=by
 intro ag s σ H D I h;refine wpAny_execs_cons (kg (h1 ag s σ H { D with nx:=u D } I h) λf s1 q=>?_);cases f with
 | next=>
  obtain⟨hG,H',I',q⟩:=q;exact h2 ag s1 hG H' D I' q
 | ret v=>exact q
 | brk=>exact q
 | cont=>exact q
def Br(h1:PS X st t):PSs X [st] t:=by
 intro ag s σ H D I h;refine wpAny_execs_cons (kg (h1 ag s σ H D I h) λf s1 q=>?_);cases f with
 | next=>exact yW q
 | ret v=>exact q
 | brk=>exact q
 | cont=>exact q
def U1:PS X (.Pass pos) XZ:=λ_ _ σ H _ I h=>wpAny_Pass ⟨σ,H,I,h⟩
def Inv.quiet{ag:List (Ç×ø)}{σ:St}{H:Hp}{s:Å}(I:Inv X ag σ H s):interactive X.env=Ä:=by simp[interactive,I.ok.kind]
def Gs(te:TE):TS:=λD σ H=>te σ H λ_ H1=>D.nx σ H1
def BE(he:PE X e te)(hs:↥(đ e Á pos.line X.env=pure Ä)):PS X (.Expr e pos) (Gs te):=by
 intro ag s σ H D I h;exact wpAny_Expr_any (kg (he ag s σ H _ I h) λv s1 Rq=>(by obtain⟨x,H1,I1,r1,q1⟩:=Rq;exact⟨σ,H1,I1,q1⟩)) I.quiet hs
def Hg(te:TE):TS:=λD σ H=>te σ H D.rt
def B8(he:PE X e te):PS X (.Return (À e) pos) (Hg te):=by
 intro ag s σ H D I h;exact wpAny_Return_some (kg (he ag s σ H _ I h) λv s1 Rr=>(by obtain⟨x,H1,I1,r1,q1⟩:=Rr;exact⟨x,σ,H1,I1,r1,q1⟩))
def Hx(c:TT)(t u:TS):TS:=λD σ H=>c σ H λb H1=>if b=Â then t D σ H1 else u D σ H1
def F4{c:Î}{a b:List ď}{tc:TT}(hc:PT X c tc)(ha:PSs X a t)(hb:PSs X b u):PS X (.If c a b pos) (Hx tc t u):=by
 intro ag s σ H D I h;refine wpAny_If (kg (hc ag s σ H _ I h) ?_);rintro d s1 ⟨H1,I1,q1⟩;cases d with
 | true=>exact ha ag s1 σ H1 D I1 q1
 | false=>exact hb ag s1 σ H1 D I1 q1
end
abbrev TG:=V->St->Hp->(St->Hp->Prop)->Prop
abbrev Zx:=List V->St->Hp->(St->Hp->Prop)->Prop
def PG(X:Cx)(target:Î)(t:TG):Prop:=
 ∀(ag:List (Ç×ø)) (s:Å) (σ:St) (H:Hp) (v:V) (u:Ã) (Q:St->Hp->Prop),Inv X ag σ H s->RelV v u->t v σ H Q->
  Æ (Í X.prog X.w) X.A (ŀ target X.env u) (λ_ s'=>∃hG H',Inv X ag hG H' s'/\Q hG H') X.xe s
def PGs(X:Cx)(ts:List Î)(t:Zx):Prop:=
 ∀(ag:List (Ç×ø)) (s:Å) (σ:St) (H:Hp) (vs:List V) (us:List Ã) (Q:St->Hp->Prop),Inv X ag σ H s->Vals vs us->t vs σ H Q->
  Æ (Í X.prog X.w) X.A (assignInOrder ((ô ts X.env).map (·.2)) us) (λ_ s'=>∃hG H',Inv X ag hG H' s'/\Q hG H') X.xe s
abbrev Yl:=V->V->V->Hp->(Hp->Prop)->Prop
def JH(X:Cx)(t:Yl):Prop:=
 ∀(ag:List (Ç×ø)) (s:Å) (σ:St) (H:Hp) (o i v:V) (ov iv u:Ã) (Q:Hp->Prop),Inv X ag σ H s->RelV o ov->RelV i iv->RelV v u->t o i v H Q->
  Æ (Í X.prog X.w) X.A (setItem ov iv u) (λ_ s'=>∃H',Inv X ag σ H' s'/\Q H') X.xe s
abbrev Xc:=V->V->Hp->VK->Prop
def J8(X:Cx)(op:į)(t:Xc):Prop:=
 ∀(ag:List (Ç×ø)) (s:Å) (σ:St) (H:Hp) (x y:V) (v u:Ã) (Q:VK),Inv X ag σ H s->RelV x v->RelV y u->t x y H Q->
  Æ (Í X.prog X.w) X.A (inplaceOp op v u) (EP X ag σ Q) X.xe s
section
variable{X:Cx}{pos:ė}
def XE(i:Nat):TG:=λv σ H Q=>Q (σ.set i (À v)) H
def UA{i:Nat}{x:È}(hN:X.N.Nodup)(hi:X.N[i]?=À x)(hx:Loc X.env.scope x)(hf:X.fn x=Â\/X.env.scope.names.lookup x=À .local:=by first | exact .inl rfl | exact .inr rfl | assumption):PG X (.Name x pos) (XE i):=by
 intro ag s σ H v u Q I r h;exact wpAny_assign_Name (lP I hN hi hx r (λs' I'=>⟨_,H,I',h⟩) hf)
def G8:Zx:=λvs σ H Q=>vs=[]/\Q σ H
def Gh(t:TG)(u:Zx):Zx:=λvs σ H Q=>∃v r,vs=v::r/\t v σ H λhG H'=>u r hG H' Q
def BZ:PGs X [] G8:=by
 intro ag s σ H vs us Q I r h;obtain⟨e,h⟩:=h;subst e;cases r;exact assignInOrder_nil ⟨σ,H,I,h⟩
def W3{e:Î}{es:List Î}{t:TG}{u:Zx}(h1:PG X e t)(h2:PGs X es u)
  (hs:↥((ô (e::es) X.env).map (·.2)=ŀ e X.env::(ô es X.env).map (·.2))):PGs X (e::es) (Gh t u):=by
 intro ag s σ H vs us Q I r h;obtain⟨v,vr,e1,h⟩:=h;subst e1;cases r with
 | cons r rr=>
  rw[hs];refine assignInOrder_cons (kg (h1 ag s σ H _ _ _ I r h) ?_);rintro _ s1 ⟨Ip,H1,I1,q1⟩;exact h2 ag s1 Ip H1 _ _ Q I1 rr q1
def Hw(K:aab)(n:Nat)(t:Zx):TG:=λv σ H Q=>∃a xs,v=.ref a/\SqT K H a xs/\xs.length=n/\t xs σ H Q
def CH{es:List Î}{k:Nat}{t:Zx}{n:Nat}(hc:X.calm=Â)(h:PGs X es t)
  (hn:↥((ô es X.env).length=n)) (r6:↥((ô es X.env).findIdx? (·.1)=Á)):PG X (.Tuple es k pos) (Hw X.K n t):=by
 intro ag s σ H v u Q I r hw;obtain⟨a,xs,e1,hq,hl,hw⟩:=hw;subst e1;cases r;obtain⟨its,rv,ht,hz⟩:=I.tuple hq;refine assign_Tuple_tuple (I.ok.hd hc) ht (by simp[hn,<-hl,rv.length]) r6 λh' hx=>?_
 have I1:Inv X ag σ H { s with heap:=h' }:=I.kept (t':=s.toks) λb o e=>hx b o (zM (zJ e)) e
 exact h ag _ σ H xs _ Q I1 (by simpa using rv) hw
def Hm(to ti:TE)(t:Yl):TG:=λv σ H Q=>to σ H λo H1=>ti σ H1 λi H2=>t o i v H2 λH3=>Q σ H3
def Fh{o i:Î}{to ti:TE}{t:Yl}(ho:PE X o to)(hi:PE X i ti)(hs:JH X t)
  (ha:∀v,ŀ (.Subscript o i pos) X.env v=(do
   let ov <-Đ [v] (å o X.env)
   let iv <-Đ [v,ov] (å i X.env)
   standAt pos
   Đ [v,ov,iv] (setItem ov iv v)
   release [v,ov,iv] []):=by intro _;rfl):PG X (.Subscript o i pos) (Hm to ti t):=by
 intro ag s σ H v u Q I r h;rw[ha];refine za (jf (kg (ho ag s σ H _ I h) ?_));rintro ov s1 ⟨x,H1,I1,r1,q1⟩;refine za (jf (kg (hi ag s1 σ H1 _ I1 q1) ?_));rintro iv s2 ⟨y,H2,I2,r2,q2⟩;refine za (wpAny_standAt (za (jf (kg (hs ag s2 σ H2 x y v ov iv u _ I2 r1 r2 r q2) ?_))));rintro _ s3 ⟨H3,I3,q3⟩;exact wpAny_release ⟨σ,H3,I3,q3⟩
def FH(te:TE)(g:TG):TS:=λD σ H=>te σ H λx H1=>g x σ H1 D.nx
def C4{tg e:Î}{te:TE}{g:TG}(he:PE X e te)(hg:PG X tg g)(hs:↥(Ŕ [tg] e pos.line X.env=pure Ä))(hw:↥(ŕ [tg] e X.env=pure Á))
  (h1:↥((ô [tg] X.env).map (·.2)=[ŀ tg X.env])):PS X (.Assign [tg] e pos) (FH te g):=by
 intro ag s σ H D I h;refine wpAny_Assign_stores (kg (he ag s σ H _ I h) ?_) hs hw;rintro v s1 ⟨x,H1,I1,r1,q1⟩;rw[h1];exact kg (hg ag s1 σ H1 x v _ I1 r1 q1) λ_ s2 q=>q
def Cp{i:Nat}{x:È}{e:Î}{te:TE}{Aw:ė}(hN:X.N.Nodup)(hi:X.N[i]?=À x)(hx:Loc X.env.scope x)(he:PE X e te)(hs:↥(đ e (À (.Name x Aw)) pos.line X.env=pure Ä))(hf:X.fn x=Â\/X.env.scope.names.lookup x=À .local:=by first | exact .inl rfl | exact .inr rfl | assumption) :
  PS X (.Assign [.Name x Aw] e pos) (FH te (XE i)):=by
 intro ag s σ H D I h;refine wpAny_Assign_Name (kg (he ag s σ H _ I h) ?_) hs;rintro v s1 ⟨y,H1,I1,r1,q1⟩;exact lP I1 hN hi hx r1 (λs2 I2=>⟨_,H1,I2,q1⟩) hf
def Hk(i:Nat)(te:TE)(ti:Xc):TS:=λD σ H=>∃x,σ[i]?=À (À x)/\te σ H λy H1=>ti x y H1 λz H2=>D.nx (σ.set i (À z)) H2
def CS{i:Nat}{x:È}{e:Î}{te:TE}{op:į}{ti:Xc}{Aw:ė}(hN:X.N.Nodup)(hi:X.N[i]?=À x)(hx:Loc X.env.scope x)(he:PE X e te)(ho:J8 X op ti)(hf:X.fn x=Â\/X.env.scope.names.lookup x=À .local:=by first | exact .inl rfl | exact .inr rfl | assumption) :
  PS X (.AugAssign (.Name x Aw) op e pos) (Hk i te ti):=by
 intro ag s σ H D I h;obtain⟨v,e1,h⟩:=h;obtain⟨m,hn,hl⟩:=I.loc;have Nk:ZY X.env.scope x:=by rcases hx with k | k;exact .inl k;exact .inr (.inl k)
 obtain⟨u,r,l⟩:=hl i x v hi e1 Nk;refine wpAny_AugAssign_Name ?_;have go:Æ (Í X.prog X.w) X.A (å e X.env) (λw mN=>Æ (Í X.prog X.w) X.A (inplaceOp op u w) (λr AY=>Æ (Í X.prog X.w) X.A (storeName X.env x r) (λ_=>SP X ag D .next) X.xe AY) X.xe mN) X.xe s:=by
  refine kg (he ag s σ H _ I h) ?_;rintro w s1 ⟨y,H1,I1,r1,q1⟩;refine kg (ho ag s1 σ H1 v y u w _ I1 r r1 q1) ?_;rintro z s2 ⟨zv,H2,I2,r2,q2⟩;exact lP I2 hN hi hx r2 (λs3 I3=>⟨_,H2,I3,q2⟩) hf
 rcases l with ⟨hk,hm⟩ | ⟨hk,c,hc,AF⟩
 .exact ų I.ok.kind hk hn hm go
 .rcases hk with hk | hk
  .exact wpAny_loadName_cell I.ok.kind hk hc AF go
  .rcases hx with k | k
   .have:X.env.scope.names.lookup x=À .free:=hk
    rw[k] at this;cases this
   .have:X.env.scope.names.lookup x=À .free:=hk
    rw[k] at this;cases this
def HQ(f:Int->Int->Int):Xc:=λx y H Q=>∃i j,x=.int i/\y=.int j/\Q (.int (f i j)) H
def FQ:J8 X .Add (HQ λi j=>i+j):=by
 intro ag s σ H x y v u Q I r1 r2 h;obtain⟨i,j,e1,e2,q⟩:=h;subst e1;subst e2;obtain⟨t,rfl⟩:=r1;obtain⟨t',rfl⟩:=r2;exact iadd_int ⟨.int _,H,I.tok _,⟨_,rfl⟩,q⟩
end
section
variable{X:Cx}{pos:ė}
def C6(c:TT)(tb:TS):TS:=λD σ H=>∃W:Nat->St->Hp->Prop,(∃m,W m σ H)/\∀m σ H,W m σ H->
 c σ H λb H1=>if b=Â then ∃N:St->Hp->Prop,(∀hG H',N hG H'->∃m',m'<m/\W m' hG H')/\tb { D with nx:=N,ct:=N,bk:=D.nx } σ H1 else D.nx σ H1
def YW{c:Î}{body:List ď}{tc:TT}{tb:TS}(hp:PassesOwn (Í X.prog X.w) X.A X.env X.xe)(hc:PT X c tc)(hb:PSs X body tb):PS X (.While c body [] pos) (C6 tc tb):=by
 intro ag s σ H D I h;obtain⟨W,⟨m0,w0⟩,turn⟩:=h;refine wpAny_While (codeAny_whileLoop (λn s'=>∃hG H',Inv X ag hG H' s'/\W n hG H') ?_ m0 ⟨σ,H,I,w0⟩);rintro n s1 ⟨Ip,H1,I1,w1⟩;refine vB hp (kg (hc ag s1 Ip H1 _ I1 (turn n Ip H1 w1)) ?_);rintro b s2 ⟨H2,I2,q2⟩;cases b with
 | true=>
  obtain⟨N,hN,q2⟩:=q2;rw[zQ rfl];refine vB hp (kg (hb ag s2 Ip H2 _ I2 q2) λf s3 q3=>?_);cases f with
  | next=>
   obtain⟨AZ,H3,I3,n3⟩:=q3;obtain⟨m',hm,w3⟩:=hN AZ H3 n3;exact⟨m',hm,AZ,H3,I3,w3⟩
  | cont=>
   obtain⟨AZ,H3,I3,n3⟩:=q3;obtain⟨m',hm,w3⟩:=hN AZ H3 n3;exact⟨m',hm,AZ,H3,I3,w3⟩
  | brk=>exact q3
  | ret v=>exact q3
 | false=>
  rw[zW zU];exact yW ⟨Ip,H2,I2,q2⟩
end
structure It where
 go:Nat->Hp->Prop
 yld:Nat->Hp->V->Hp->Prop
 stop:Nat->Hp->Prop
def am(X:Cx)(ag:List (Ç×ø))(H:Hp)(b:Ç):Prop:=
 H b=Á/\b≠X.env.locals/\b∉X.fs/\(b∈X.ex\/X.s₀.heap.objs.size<=b)/\(∀x c,X.env.cells.lookup x=À c->c≠b)/\∀p∈X.pn++ag,p.1≠b
def Inv.fpOk{X:Cx}{ag:List (Ç×ø)}{σ:St}{H H':Hp}{s:Å}{b:Ç}(I:Inv X ag σ H s)(hb:s.heap.objs.size<=b)(hn:H' b=Á):am X ag H' b:=by
 refine⟨hn,vQ (zN I.lt hb),I.nofs hb,.inr (zq I.sz hb),λx c e z=>?_,λp hp z=>?_⟩
 .obtain⟨v,q⟩:=I.cell x c e
  exact absurd (zN q.lt (by rw[z];exact hb)) (jZ _)
 .exact absurd (zN (zJ (I.pin p hp).1) (by rw[z];exact hb)) (jZ _)
structure Turn(P:Ï)(w:Ñ)(K:aab)(tg:Î)(J:It)(fp:List Ç)(it:Ç)(tn:Nat->Õ->Prop):Prop where
 mem:it∈fp
 obj:∀i h,tn i h->∀b∈fp,∃o,h.get? b=À o/\∀v,o.data≠.cell v
 keep:∀i h h',tn i h->(∀b∈fp,∀o,h.get? b=À o->h'.get? b=À o)->tn i h'
 item:∀(X:Cx),X.prog=P->X.w=w->X.K=K->X.calm=Â->∀(i:Nat) (ag:List (Ç×ø)) (s:Å) (σ:St) (H:Hp) (E:Ã->Å->Prop),Inv X ag σ H s->(∀b∈fp,am X ag H b)->tn i s.heap->J.go i H->
  Æ (Í P w) X.A (Ē (.ref it)) (λr s1=>∃u,r=À u /\
   Æ (Í P w) X.A (Ł tg (.ref it) u) (λ_ s2=>∃x H',Inv X ag σ H' s2/\RelV x u/\J.yld i H x H'/\tn (i+1) s2.heap/\∀b∈fp,H' b=Á) E s1) E s
 done:∀(X:Cx),X.prog=P->X.w=w->X.K=K->X.calm=Â->∀(i:Nat) (ag:List (Ç×ø)) (s:Å) (σ:St) (H:Hp) (E:Ã->Å->Prop),Inv X ag σ H s->(∀b∈fp,am X ag H b)->tn i s.heap->J.stop i H->
  Æ (Í P w) X.A (Ē (.ref it)) (λr s1=>r=Á/\Inv X ag σ H s1) E s
 self:∀(A:Ø) (i:Nat) (s:Å) (Q:Ã->Å->Prop) (E:Ã->Å->Prop),tn i s.heap->Q (.ref it) s->Æ (Í P w) A (ĥ (.ref it)) Q E s
abbrev TI:=St->Hp->(It->Hp->Prop)->Prop
def PIE(X:Cx)(ag:List (Ç×ø))(σ:St)(tg:Î)(R:It->Hp->Prop)(Nl:Ã)(s2:Å):Prop:=
 ∃(it:Ç) (fp:List Ç) (tn:Nat->Õ->Prop) (J:It) (H':Hp),Nl=.ref it/\Inv X ag σ H' s2/\Turn X.prog X.w X.K tg J fp it tn/\tn 0 s2.heap/\(∀b∈fp,am X ag H' b)/\R J H'
def PI(X:Cx)(tg iter:Î)(wi:TI):Prop:=
 ∀(ag:List (Ç×ø)) (s:Å) (σ:St) (H:Hp) (R:It->Hp->Prop),Inv X ag σ H s->wi σ H R->
  Æ (Í X.prog X.w) X.A (å iter X.env) (λv s1=>Æ (Í X.prog X.w) X.A (ĥ v) (PIE X ag σ tg R) X.xe s1) X.xe s
def rQ {M : Model} {A : Ø} {E : Ã -> Å -> Prop} {s : Å} {tg : Î} {it : Ç} {u : Ã} {o : ø} {n : String} {vs : Array Ã} {Q : Unit -> Å -> Prop} (ho : s.heap.get? it = À o) (hc : o.cls = .type n) (hd : o.data = .fields vs)
    (hn : ["enumerate", "zip", "dict_itemiterator", "dict_reverseitemiterator", "odict_iterator", "itertools.zip_longest", "itertools.pairwise"].contains n = Ä) (hQ : Q () s) : Æ M A (Ł tg (.ref it) u) Q E s := by
  unfold Ł;cases tg <;> first
    | exact zf hQ
    | (cases u <;> first
        | exact zf hQ
        | (refine za (xu ho ?_)
           rw [hc, hd];show Æ M A (if (["enumerate", "zip", "dict_itemiterator", "dict_reverseitemiterator", "odict_iterator", "itertools.zip_longest", "itertools.pairwise"].contains n && vs[0]? == À (ā _)) = Â then _ else _) Q E s
           rw [zW (by intro h;rw [hn, Bool.false_and] at h;cases h)]
           exact zf hQ))
def XG(K:aab)(a:Ç):It:=
 ⟨λi H=>∃xs x,SqL K H a xs/\xs[i]?=À x,λi H x H'=>H'=H/\∀xs,SqL K H a xs->xs[i]?=À x,λi H=>∃xs,SqL K H a xs/\xs.length<=i⟩
def Dp(K:aab)(a:Ç):It:=
 ⟨λi H=>∃xs x,SqT K H a xs/\xs[i]?=À x,λi H x H'=>H'=H/\∀xs,SqT K H a xs->xs[i]?=À x,λi H=>∃xs,SqT K H a xs/\xs.length<=i⟩
def Xw(lo:Int)(n:Nat):It:=⟨λi _=>i<n,λi H x H'=>H'=H/\x=.int (lo+i),λi _=>n<=i⟩
def VB{P:Ï}{w:Ñ}{K:aab}{tg:Î}(a it:Ç):Turn P w K tg (XG K a) [it] it (λi h=>h.IsListIter it a i) where
 mem:=by simp
 obj:=λi h st b hb=>by
  have e:b=it:=by simpa using hb
  subst e;obtain⟨o,e,c,d⟩:=st;exact⟨o,e,λv z=>by rw[d] at z;cases z⟩
 keep:=λi h h' st k=>st.at λo e=>k it (by simp) o e
 item:=by
  intro X hP hw hK hc i ag s σ H E I hf st hg;subst hP hw hK;obtain⟨xs,x,hq,hx⟩:=hg;obtain⟨its,rv,p,hz⟩:=I.list hq;obtain⟨u,hu,ru⟩:=rv.get hx;obtain⟨f0,f1,f2,f3,f4,f5⟩:=hf it (by simp);refine wpAny_pyNext_list_item st p.isList (x:=u) (by simpa using hu) λh' AH sb=>?_
  have I1:Inv X ag σ H { s with heap:=h' }:=I.turned (t':=s.toks) (λb o hb e=>(sb.2 b hb).trans e) f0 f1 f3 f4 f5;obtain⟨o,e,c,d⟩:=id AH;exact⟨u,rfl,rQ (s:={ s with heap:=h' }) e c d (by decide) ⟨x,H,I1,ru,⟨rfl,λys hy=>by rw[I.list_inj hy hq];exact hx⟩,AH,λb hb=>(hf b hb).1⟩⟩
 done:=by
  intro X hP hw hK hc i ag s σ H E I hf st hg;subst hP hw hK;obtain⟨xs,hq,hx⟩:=hg;obtain⟨its,rv,p,hz⟩:=I.list hq;obtain⟨f0,f1,f2,f3,f4,f5⟩:=hf it (by simp);have hl:=rv.length;exact wpAny_pyNext_list_end (I.ok.hd hc) st p.isList (by simp;omega) λh' eb=>⟨rfl,I.turned (t':=s.toks) (λb o hb e=>eb b o hb e) f0 f1 f3 f4 f5⟩
 self:=λ_ _ _ _ _ st h=>wpAny_pyIter_listiter st h
def J3{P:Ï}{w:Ñ}{K:aab}{tg:Î}(a it:Ç):Turn P w K tg (Dp K a) [it] it (λi h=>h.IsTupleIter it a i) where
 mem:=by simp
 obj:=λi h st b hb=>by
  have e:b=it:=by simpa using hb
  subst e;obtain⟨o,e,c,d⟩:=st;exact⟨o,e,λv z=>by rw[d] at z;cases z⟩
 keep:=λi h h' st k=>st.at λo e=>k it (by simp) o e
 item:=by
  intro X hP hw hK hc i ag s σ H E I hf st hg;subst hP hw hK;obtain⟨xs,x,hq,hx⟩:=hg;obtain⟨its,rv,p,hz⟩:=I.tuple hq;obtain⟨u,hu,ru⟩:=rv.get hx;obtain⟨f0,f1,f2,f3,f4,f5⟩:=hf it (by simp);refine wpAny_pyNext_tuple_item st (show s.heap.IsTuple a its.toArray from p) (x:=u) (by simpa using hu) λh' AH sb=>?_
  have I1:Inv X ag σ H { s with heap:=h' }:=I.turned (t':=s.toks) (λb o hb e=>(sb.2 b hb).trans e) f0 f1 f3 f4 f5;obtain⟨o,e,c,d⟩:=id AH;exact⟨u,rfl,rQ (s:={ s with heap:=h' }) e c d (by decide) ⟨x,H,I1,ru,⟨rfl,λys hy=>by rw[I.tuple_inj hy hq];exact hx⟩,AH,λb hb=>(hf b hb).1⟩⟩
 done:=by
  intro X hP hw hK hc i ag s σ H E I hf st hg;subst hP hw hK;obtain⟨xs,hq,hx⟩:=hg;obtain⟨its,rv,p,hz⟩:=I.tuple hq;obtain⟨f0,f1,f2,f3,f4,f5⟩:=hf it (by simp);have hl:=rv.length;exact wpAny_pyNext_tuple_end (I.ok.hd hc) st (show s.heap.IsTuple a its.toArray from p) (by simp;omega) λh' eb=>⟨rfl,I.turned (t':=s.toks) (λb o hb e=>eb b o hb e) f0 f1 f3 f4 f5⟩
 self:=λ_ _ _ _ _ st h=>wpAny_pyIter_tupleiter st h
def KZ{P:Ï}{w:Ñ}{K:aab}{tg:Î}(it:Ç)(lo:Int)(n:Nat):Turn P w K tg (Xw lo n) [it] it (λi h=>IsRangeIter h it (lo+(i:Nat)*1) ((n:Int)-(i:Nat)) 1) where
 mem:=by simp
 obj:=λi h st b hb=>by
  have e:b=it:=by simpa using hb
  subst e
  exact⟨_,st,λv z=>by
   have z':Data.fields _=Data.cell v:=z
   cases z'⟩
 keep:=λi h h' st k=>k it (by simp) _ st
 item:=by
  intro X hP hw hK hc i ag s σ H E I hf st hg;subst hP hw hK;obtain⟨f0,f1,f2,f3,f4,f5⟩:=hf it (by simp);have W:=Walks.range (prog:=X.prog) (w:=X.w) (I.ok.hd hc) it lo 1 n;refine W.item i s _ _ hg st λv h' tk hv AH kk=>?_
  obtain⟨t,rfl⟩:=hv;have I1:Inv X ag σ H { s with heap:=h',toks:=tk }:=I.turned (λb o hb e=>kk b o (by simpa using hb) e) f0 f1 f3 f4 f5;refine⟨_,rfl,rQ (s:={ s with heap:=h',toks:=tk }) (n:="range_iterator") AH rfl rfl (by decide) ⟨.int (lo+i),H,I1,⟨t,?_⟩,⟨rfl,rfl⟩,AH,λb hb=>(hf b hb).1⟩⟩;rw[Int.mul_one]
 done:=by
  intro X hP hw hK hc i ag s σ H E I hf st hg;subst hP hw hK;obtain⟨f0,f1,f2,f3,f4,f5⟩:=hf it (by simp);exact wpAny_pyNext_range_end (I.ok.hd hc) st (by have:n<=i:=hg;omega) λh' eb=>⟨rfl,I.turned (t':=s.toks) (λb o hb e=>eb b o hb e) f0 f1 f3 f4 f5⟩
 self:=λ_ _ _ _ _ st h=>wpAny_pyIter_rangeiter st h
end L2
namespace L2
open PySem PySem.Spec PyProof.Rows
section
variable{X:Cx}{tg:Î}
def Yj{ag:List (Ç×ø)}{σ:St}{H:Hp}{s:Å}{R:It->Hp->Prop}{E:Ã->Å->Prop}{lo hi:Int}{t u v:Tok}{tk:Nat}(I:Inv X ag σ H s)(h1:-(2 ^ 62)<=lo)(h2:lo<2 ^ 62)(h3:-(2 ^ 62)<=hi)(h4:hi<2 ^ 62)
  (q:R (Xw lo (hi-lo).toNat) H):Æ (Í X.prog X.w) X.A (ĥ (.ref s.heap.objs.size)) (PIE X ag σ tg R) E { s with heap:=s.heap.push { cls:=.type "range",data:=.fields #[.int lo t,.int hi u,.int 1 v] },toks:=tk }:=by
 refine wpAny_pyIter_range (IsRange.new ..) (small_one h1 h2 h3 h4) ?_;have I1:Inv X ag σ H { s with heap:=s.heap.push { cls:=.type "range",data:=.fields #[.int lo t,.int hi u,.int 1 v] },toks:=tk }:=I.kept λb o e=>zc _ e
 refine⟨(s.heap.push { cls:=.type "range",data:=.fields #[.int lo t,.int hi u,.int 1 v] }).objs.size,[(s.heap.push { cls:=.type "range",data:=.fields #[.int lo t,.int hi u,.int 1 v] }).objs.size],_,_,H,rfl,
  I1.kept (t':=tk) λb o e=>zc _ e,KZ _ lo (hi-lo).toNat,?_,λb hb=>?_,q⟩
 .have e1:lo+((0:Nat):Int)*1=lo:=by simp
  have e2:(((hi-lo).toNat:Nat):Int)-((0:Nat):Int)=Builtin.Range.rangeSize lo hi 1:=by rw[rangeSize_one];split<;>omega
  show IsRangeIter _ _ (lo+((0:Nat):Int)*1) ((((hi-lo).toNat:Nat):Int)-((0:Nat):Int)) 1
  rw[e1,e2];exact zE _ rfl
 .have e:b=(s.heap.push { cls:=.type "range",data:=.fields #[.int lo t,.int hi u,.int 1 v] }).objs.size:=by simpa using hb
  subst e;exact I1.fpOk (zr _) (I1.hok.fresh (zr _))
def Gx(ta:TA):TI:=λσ H R=>ta σ H λvs H1=>∃j:Int,vs=[.int j]/\-(2 ^ 62)<=j/\j<2 ^ 62/\R (Xw 0 j.toNat) H1
def Wh{a:Î}{ta:TA}{p pos:ė}(hg:Gl X "range")(hm:X.mg "range" = Á)(ha:PA X [a] ta)(hs:↥(Ê [a] X.env=[(Ä,å a X.env)])):PI X tg (.Call (.Name "range" p) [a] [] pos) (Gx ta):=by
 intro ag s σ H R I h;refine Call_ (y6 I hg hm boot_range (jL (kg (ha pos ag s σ H _ I h) ?_) hs rfl));rintro us s1 ⟨vs,H1,I1,r1,q1⟩;obtain⟨j,e,q1,q2,q⟩:=q1;subst e;cases r1 with
 | cons r rr=>
  cases rr;obtain⟨t,rfl⟩:=r;exact call_range_1 (Yj I1 ∅ ∅ q1 q2 (by simpa using q))
def Hh(wi:TI)(g:TG)(tb:TS):TS:=λD σ H=>wi σ H λJ H1=>∃W:Nat->Nat->St->Hp->Prop,(∃m,W 0 m σ H1)/\∀i m σ H,W i m σ H->
 (J.stop i H/\D.nx σ H)\/(J.go i H/\∃N:St->Hp->Prop,(∀hG H',N hG H'->∃m',m'<m/\W (i+1) m' hG H')/\∀x H',J.yld i H x H'->g x σ H' λEr H2=>tb { D with nx:=N,ct:=N,bk:=D.nx } Er H2)
def iy(fp:List Ç)(h:Õ):List (Ç×ø):=fp.filterMap λb=>(h.get? b).map λo=>(b,o)
def df{fp:List Ç}{h:Õ}{b:Ç}{o:ø}(hb:b∈fp)(e:h.get? b=À o):(b,o)∈iy fp h:=xf.mpr ⟨b,hb,by rw[e];rfl⟩
def VZ{fp:List Ç}{h:Õ}{p:Ç×ø}(hp:p∈iy fp h):p.1∈fp/\h.get? p.1=À p.2:=by
 obtain⟨b,hb,e⟩:=xf.mp hp;cases q:h.get? b with
 | none=>rw[q] at e;cases e
 | some o=>
  rw[q] at e;have e':(b,o)=p:=zX e;subst e';exact⟨hb,q⟩
def Inv.pinned{ag:List (Ç×ø)}{σ:St}{H:Hp}{s:Å}{fp:List Ç}(I:Inv X ag σ H s)(hf:∀b∈fp,am X ag H b)(ho:∀b∈fp,∃o,s.heap.get? b=À o/\∀v,o.data≠.cell v):Inv X (ag++iy fp s.heap) σ H s:=
 I.pins_of λp hp=>(zF.mp hp).elim (λz=>I.pin p (kh _ z)) λz=>by
  obtain⟨hb,e⟩:=VZ z;obtain⟨f0,f1,f2,_⟩:=hf p.1 hb;obtain⟨o,e',d⟩:=ho p.1 hb;rw[e] at e';cases e';exact⟨e,f0,f1,f2,d⟩
def Inv.unpinned{ag pl:List (Ç×ø)}{σ:St}{H:Hp}{s:Å}(I:Inv X (ag++pl) σ H s):Inv X ag σ H s:=I.pins_of λp hp=>I.pin p (kh _ (yP _ hp))
def DD{iter:Î}{body:List ď}{wi:TI}{g:TG}{tb:TS}{pos:ė}(hp:PassesOwn (Í X.prog X.w) X.A X.env X.xe)(hc:X.calm=Â)(hi:PI X tg iter wi)(hg:PG X tg g)(hb:PSs X body tb)
  (hs:∀x,í iter X.env x=pure x:=by intro _;rfl):PS X (.For tg iter body [] pos) (Hh wi g tb):=by
 intro ag s σ H D I h;refine wpAny_For (kg (hi ag s σ H _ I h) λv s1 h1=>kg h1 λNl s2 h2=>?_) hs;obtain⟨it,fp,tn,J,H2,e,I2,T,Iq,f2,W,⟨m0,w0⟩,turn⟩:=h2;subst e;have IX:∀{H':Hp},(∀b∈fp,H' b=Á)->∀b∈fp,am X ag H' b:=λhn b hb=>⟨hn b hb,(f2 b hb).2⟩
 refine codeAny_forLoop_any (λn s'=>∃i hG H',Inv X ag hG H' s'/\tn i s'.heap/\(∀b∈fp,H' b=Á)/\W i n hG H') ?_ m0 ⟨0,σ,H2,I2,Iq,λb hb=>(f2 b hb).1,w0⟩;rintro n s3 ⟨i,AZ,H3,I3,LO,MR,w3⟩;rcases turn i n AZ H3 w3 with ⟨stop,qn⟩ | ⟨go,N,hN,step⟩
 .refine vB hp (kg (T.done X rfl rfl rfl hc i ag s3 AZ H3 X.xe I3 (IX MR) LO stop) ?_)
  rintro r s4 ⟨hr,I4⟩;subst hr;exact yW ⟨AZ,H3,I4,qn⟩
 .refine vB hp (kg (T.item X rfl rfl rfl hc i ag s3 AZ H3 X.xe I3 (IX MR) LO go) ?_)
  rintro r s4 ⟨u,hr,h4⟩;subst hr;refine vB hp (kg h4 ?_);rintro _ s5 ⟨x,H5,I5,r5,y5,IY,Nm⟩;have Nn:=I5.pinned (IX Nm) (T.obj _ _ IY);refine vB hp (kg (hg _ s5 AZ H5 x u _ Nn r5 (step x H5 y5)) ?_);rintro _ s6 ⟨Ie,H6,I6,q6⟩;refine vB hp (kg (hb _ s6 Ie H6 _ I6 q6) λf s7 q7=>?_);have again:∀{EG:St} {H7:Hp},Inv X (ag++iy fp s5.heap) EG H7 s7->N EG H7->∃m,m<n/\∃i hG H',Inv X ag hG H' s7/\tn i s7.heap/\(∀b∈fp,H' b=Á)/\W i m hG H':=λ{EG H7} I7 n7=>by
   obtain⟨m',hm,w7⟩:=hN EG H7 n7;refine⟨m',hm,i+1,EG,H7,I7.unpinned,T.keep _ _ _ IY λb hb o e=>(I7.pin (b,o) (kh _ (kh _ (df hb e)))).1,λb hb=>?_,w7⟩;obtain⟨o,e,d⟩:=T.obj _ _ IY b hb;exact(I7.pin (b,o) (kh _ (kh _ (df hb e)))).2.1
  cases f with
  | next=>obtain⟨EG,H7,I7,n7⟩:=q7;exact again I7 n7
  | cont=>obtain⟨EG,H7,I7,n7⟩:=q7;exact again I7 n7
  | brk=>obtain⟨EG,H7,I7,q7⟩:=q7;exact⟨EG,H7,I7.unpinned,q7⟩
  | ret v=>obtain⟨x7,EG,H7,I7,r7,q7⟩:=q7;exact⟨x7,EG,H7,I7.unpinned,r7,q7⟩
end
end L2
namespace L2
open PySem PySem.Spec PyProof.Rows
abbrev R2:=V->V->Hp->VK->Prop
def kT(X:Cx)(f:Ã->Ã->Sem Ã)(r:R2):Prop:=
 ∀(ag:List (Ç×ø)) (s:Å) (σ:St) (H:Hp) (x y:V) (v u:Ã) (Q:VK),Inv X ag σ H s->RelV x v->RelV y u->r x y H Q->
  Æ (Í X.prog X.w) X.A (f v u) (EP X ag σ Q) X.xe s
def Qj(X:Cx)(f:Ã->Sem Ã)(r:V->Hp->VK->Prop):Prop:=
 ∀(ag:List (Ç×ø)) (s:Å) (σ:St) (H:Hp) (x:V) (v:Ã) (Q:VK),Inv X ag σ H s->RelV x v->r x H Q->
  Æ (Í X.prog X.w) X.A (f v) (EP X ag σ Q) X.xe s
def qo(X:Cx)(f:Ã)(r:List V->Hp->VK->Prop):Prop:=
 ∀(ag:List (Ç×ø)) (s:Å) (σ:St) (H:Hp) (xs:List V) (us:List Ã) (Q:VK),Inv X ag σ H s->Vals xs us->r xs H Q->
  Æ (Í X.prog X.w) X.A (ķ f us) (EP X ag σ Q) X.xe s
def VE(r:R2)(ta tb:TE):TE:=λσ H Q=>ta σ H λx H1=>tb σ H1 λy H2=>r x y H2 Q
def HW(r:V->Hp->VK->Prop)(ta:TE):TE:=λσ H Q=>ta σ H λx H1=>r x H1 Q
def rI(C:Int->Int->Prop)(g:Int->Int->V):R2:=λx y H Q=>∃i j,x=.int i/\y=.int j/\C i j/\Q (g i j) H
def mf(g:Int->Int->V):R2:=λx y H Q=>∃i j,x=.int i/\y=.int j/\Q (g i j) H
def rU(g:Int->V):V->Hp->VK->Prop:=λx H Q=>∃i,x=.int i/\Q (g i) H
section
variable{X:Cx}{a b c:Î}{ta tb tc:TE}{pos:ė}
def WY(ha:PE X a ta)(hb:PE X b tb){ag:List (Ç×ø)}{s:Å}{σ:St}{H:Hp}{R:V->V->Hp->Prop}(I:Inv X ag σ H s)
  (h:ta σ H λx H1=>tb σ H1 λy H2=>R x y H2) {Q:Ã->Å->Prop} {f:Ã->Ã->Sem Ã}
  (hf:∀v u s2 x y H2,Inv X ag σ H2 s2->RelV x v->RelV y u->R x y H2->Æ (Í X.prog X.w) X.A (f v u) Q X.xe s2) :
  Æ (Í X.prog X.w) X.A (å a X.env) (λv d5=>Æ (Í X.prog X.w) X.A (å b X.env) (λu mN=>Æ (Í X.prog X.w) X.A (f v u) Q X.xe mN) X.xe d5) X.xe s:=by
 refine kg (ha ag s σ H _ I h) ?_;rintro v s1 ⟨x,H1,I1,r1,q1⟩;refine kg (hb ag s1 σ H1 _ I1 q1) ?_;rintro u s2 ⟨y,H2,I2,r2,q2⟩;exact hf v u s2 x y H2 I2 r1 r2 q2
def FZ{op:į}{r:R2}(ho:kT X (ä op) r)(ha:PE X a ta)(hb:PE X b tb):PE X (.BinOp a op b pos) (VE r ta tb):=by
 intro ag s σ H Q I h;exact wpAny_BinOp (WY ha hb I h λv u s2 x y H2 I2 rx ry q=>ho ag s2 σ H2 x y v u Q I2 rx ry q)
def XJ{op:UnaryOp}{r:V->Hp->VK->Prop}(ho:Qj X (unaryOp op) r)(ha:PE X a ta):PE X (.UnaryOp op a pos) (HW r ta):=by
 intro ag s σ H Q I h;exact UnaryOp_ (kg (ha ag s σ H _ I h) λv s1 Rt=>(by obtain⟨x,H1,I1,r1,q1⟩:=Rt;exact ho ag s1 σ H1 x v Q I1 r1 q1))
def Y8{f:Ã->Ã->Sem Ã}{C:Int->Int->Prop}{g:Int->Int->Int}
  (rule:∀(i j:Int) (t u:Tok) (s:Å) (Q:Ã->Å->Prop) (E:Ã->Å->Prop),C i j->Q (.int (g i j) s.toks) { s with toks:=s.toks+1 }->Æ (Í X.prog X.w) X.A (f (.int i t) (.int j u)) Q E s) :
  kT X f (rI C λi j=>.int (g i j)):=by
 intro ag s σ H x y v u Q I rx ry h;obtain⟨i,j,rfl,rfl,hc,q⟩:=h;obtain⟨t,rfl⟩:=rx;obtain⟨t',rfl⟩:=ry;exact rule i j t t' s _ _ hc ⟨.int (g i j),H,I.tok _,⟨_,rfl⟩,q⟩
def DY{f:Ã->Ã->Sem Ã}{g:Int->Int->Int}
  (rule:∀(i j:Int) (t u:Tok) (s:Å) (Q:Ã->Å->Prop) (E:Ã->Å->Prop),Q (.int (g i j) s.toks) { s with toks:=s.toks+1 }->Æ (Í X.prog X.w) X.A (f (.int i t) (.int j u)) Q E s) :
  kT X f (mf λi j=>.int (g i j)):=by
 intro ag s σ H x y v u Q I rx ry h;obtain⟨i,j,rfl,rfl,q⟩:=h;obtain⟨t,rfl⟩:=rx;obtain⟨t',rfl⟩:=ry;exact rule i j t t' s _ _ ⟨.int (g i j),H,I.tok _,⟨_,rfl⟩,q⟩
def Jr{f:Ã->Ã->Sem Ã}{g:Int->Int->Bool}
  (rule:∀(i j:Int) (t u:Tok) (s:Å) (Q:Ã->Å->Prop) (E:Ã->Å->Prop),Q (.bool (g i j)) s->Æ (Í X.prog X.w) X.A (f (.int i t) (.int j u)) Q E s) :
  kT X f (mf λi j=>.bl (g i j)):=by
 intro ag s σ H x y v u Q I rx ry h;obtain⟨i,j,rfl,rfl,q⟩:=h;obtain⟨t,rfl⟩:=rx;obtain⟨t',rfl⟩:=ry;exact rule i j t t' s _ _ ⟨.bl (g i j),H,I,rfl,q⟩
def GU(i j:Int):Prop:=0<j/\j<1073741824
def G0(i j:Int):Prop:=0<=j/\j<=1000000/\i.natAbs<2 ^ 64
def CMul(i j:Int):Prop:=(-(2 ^ 64)<i/\i<2 ^ 64)\/(-(2 ^ 64)<j/\j<2 ^ 64)
def CMul.ok{i j:Int}(h:CMul i j):IntMulOk i j:=by
 rcases h with ⟨h1,h2⟩ | ⟨h1,h2⟩
 .exact .of_left (intBits_le_64 h1 h2)
 .exact .of_right (intBits_le_64 h1 h2)
def Dk:kT X (ä .Add) (mf λi j=>.int (i+j)):=DY λ_ _ _ _ _ _ _ q=>add_int q
def Cr:kT X (ä .Sub) (mf λi j=>.int (i-j)):=DY λ_ _ _ _ _ _ _ q=>sub_int q
def C7:kT X (ä .Mult) (rI CMul λi j=>.int (i*j)):=Y8 λ_ _ _ _ _ _ _ hc q=>mul_int q hc.ok
def Be:kT X (ä .FloorDiv) (rI GU λi j=>.int (i/j)):=Y8 λi j _ _ _ _ _ hc q=>by
 have h1:(0:Int)<j:=hc.1;have h2:j<1073741824:=hc.2;exact floordiv_int ∅ (by rw[Int.fdiv_eq_ediv_of_nonneg i ∅];exact q) (.inl (PyProof.noPylong_small ∅))
def CP:kT X (ä .Mod) (rI (λ_ j=>0<j) λi j=>.int (i%j)):=Y8 λi j _ _ _ _ _ hc q=>by
 have h1:(0:Int)<j:=hc;exact mod_int' ∅ (by rw[Int.fmod_eq_emod_of_nonneg i ∅];exact q)
def Fg:kT X (ä .Pow) (rI G0 λi j=>.int (i ^ j.toNat)):=Y8 λ_ _ _ _ _ _ _ hc q=>pow_int_small hc.1 hc.2.1 hc.2.2 q
def HK{f:Ã->Sem Ã}{g:Int->Int}
  (rule:∀(i:Int) (t:Tok) (s:Å) (Q:Ã->Å->Prop) (E:Ã->Å->Prop),Q (.int (g i) s.toks) { s with toks:=s.toks+1 }->Æ (Í X.prog X.w) X.A (f (.int i t)) Q E s) :
  Qj X f (rU λi=>.int (g i)):=by
 intro ag s σ H x v Q I rx h;obtain⟨i,rfl,q⟩:=h;obtain⟨t,rfl⟩:=rx;exact rule i t s _ _ ⟨.int (g i),H,I.tok _,⟨_,rfl⟩,q⟩
def VW:Qj X (unaryOp .USub) (rU λi=>.int (-i)):=HK λ_ _ _ _ _ q=>neg_int q
end
def DM:V->V->Bool
 | .non,.non=>Â | .non,.int _=>Â | .int _,.non=>Â | .non,.bl _=>Â | .bl _,.non=>Â | .non,.str _=>Â | .str _,.non=>Â
 | .int _,.int _=>Â | .bl _,.bl _=>Â | .str _,.str _=>Â | .byt _,.byt _=>Â
 | .int _,.str _=>Â | .str _,.int _=>Â | .bl _,.str _=>Â | .str _,.bl _=>Â
 | _,_=>Ä
def HG:R2:=λx y H Q=>DM x y=Â/\Q (.bl (decide (x=y))) H
def HP:R2:=λx y H Q=>DM x y=Â/\Q (.bl (!decide (x=y))) H
def iT{i j:Int}:decide (V.int i=V.int j)=(i==j):=by
 rw[v8];simp
def nG{i j:Bool}:decide (V.bl i=V.bl j)=(i==j):=by
 rw[v8];simp
def iV{i j:È}:decide (V.str i=V.str j)=(i==j):=by
 rw[v8];simp
def KP{i j:Array UInt8}:decide (V.byt i=V.byt j)=(i.toList==j.toList):=by
 rw[v8];cases i;cases j;simp
section
variable{X:Cx}{a b c:Î}{ta tb tc:TE}{pos:ė}
def kD{ag:List (Ç×ø)}{σ:St}{H:Hp}{s:Å}{Q:VK}{k k':Bool}(I:Inv X ag σ H s)(q:Q (.bl k) H)(e:k=k'):EP X ag σ Q (.bool k') s:=by
 subst e;exact⟨.bl k,H,I,rfl,q⟩
def Je:kT X (Ó .Eq) HG:=by
 intro ag s σ H x y v u Q I rx ry h;obtain⟨hs,q⟩:=h;cases x with
 | non=>
  cases rx;cases y with
  | non=>cases ry;exact PySem.EqNone.eq_none_none (kD I q (by simp))
  | bl j=>cases ry;exact PySem.EqNone.eq_none_bool (kD I q (by simp))
  | int j=>obtain⟨t',rfl⟩:=ry;exact PySem.EqNone.eq_none_int (kD I q (by simp))
  | str j=>obtain⟨t',rfl⟩:=ry;exact PySem.EqNone.eq_none_str (kD I q (by simp))
  | _=>exact absurd (show Ä=Â from hs) zU
 | bl i=>
  cases rx;cases y with
  | non=>cases ry;exact PySem.EqNone.eq_bool_none (kD I q (by simp))
  | bl j=>cases ry;exact eq_bool (kD I q nG)
  | str j=>obtain⟨t',rfl⟩:=ry;exact PySem.EqMixed.eq_bool_str (kD I q (by simp))
  | _=>exact absurd (show Ä=Â from hs) zU
 | int i=>
  obtain⟨t,rfl⟩:=rx;cases y with
  | non=>cases ry;exact PySem.EqNone.eq_int_none (kD I q (by simp))
  | int j=>obtain⟨t',rfl⟩:=ry;exact eq_int (kD I q iT)
  | str j=>obtain⟨t',rfl⟩:=ry;exact PySem.EqMixed.eq_int_str (kD I q (by simp))
  | _=>exact absurd (show Ä=Â from hs) zU
 | str i=>
  obtain⟨t,rfl⟩:=rx;cases y with
  | non=>cases ry;exact PySem.EqNone.eq_str_none (kD I q (by simp))
  | bl j=>cases ry;exact PySem.EqMixed.eq_str_bool (kD I q (by simp))
  | int j=>obtain⟨t',rfl⟩:=ry;exact PySem.EqMixed.eq_str_int (kD I q (by simp))
  | str j=>obtain⟨t',rfl⟩:=ry;exact eq_str (kD I q iV)
  | _=>exact absurd (show Ä=Â from hs) zU
 | byt i=>
  obtain⟨t,rfl⟩:=rx;cases y with
  | byt j=>obtain⟨t',rfl⟩:=ry;exact PySem.W.eq_bytes (kD I q KP)
  | _=>exact absurd (show Ä=Â from hs) zU
 | _=>cases y<;>exact absurd (show Ä=Â from hs) zU
def Jf:kT X (Ó .NotEq) HP:=by
 intro ag s σ H x y v u Q I rx ry h;obtain⟨hs,q⟩:=h;cases x with
 | non=>
  cases rx;cases y with
  | non=>cases ry;exact PySem.EqNone.ne_none_none (kD I q (by simp))
  | bl j=>cases ry;exact PySem.EqNone.ne_none_bool (kD I q (by simp))
  | int j=>obtain⟨t',rfl⟩:=ry;exact PySem.EqNone.ne_none_int (kD I q (by simp))
  | str j=>obtain⟨t',rfl⟩:=ry;exact PySem.EqNone.ne_none_str (kD I q (by simp))
  | _=>exact absurd (show Ä=Â from hs) zU
 | bl i=>
  cases rx;cases y with
  | non=>cases ry;exact PySem.EqNone.ne_bool_none (kD I q (by simp))
  | bl j=>cases ry;exact ne_bool (kD I q (jl not nG))
  | str j=>obtain⟨t',rfl⟩:=ry;exact PySem.EqMixed.ne_bool_str (kD I q (by simp))
  | _=>exact absurd (show Ä=Â from hs) zU
 | int i=>
  obtain⟨t,rfl⟩:=rx;cases y with
  | non=>cases ry;exact PySem.EqNone.ne_int_none (kD I q (by simp))
  | int j=>obtain⟨t',rfl⟩:=ry;exact ne_int (kD I q (jl not iT))
  | str j=>obtain⟨t',rfl⟩:=ry;exact PySem.EqMixed.ne_int_str (kD I q (by simp))
  | _=>exact absurd (show Ä=Â from hs) zU
 | str i=>
  obtain⟨t,rfl⟩:=rx;cases y with
  | non=>cases ry;exact PySem.EqNone.ne_str_none (kD I q (by simp))
  | bl j=>cases ry;exact PySem.EqMixed.ne_str_bool (kD I q (by simp))
  | int j=>obtain⟨t',rfl⟩:=ry;exact PySem.EqMixed.ne_str_int (kD I q (by simp))
  | str j=>obtain⟨t',rfl⟩:=ry;exact ne_str (kD I q (jl not iV))
  | _=>exact absurd (show Ä=Â from hs) zU
 | byt i=>
  obtain⟨t,rfl⟩:=rx;cases y with
  | byt j=>obtain⟨t',rfl⟩:=ry;exact PySem.W.ne_bytes (kD I q (jl not KP))
  | _=>exact absurd (show Ä=Â from hs) zU
 | _=>cases y<;>exact absurd (show Ä=Â from hs) zU
def FT:kT X (Ó .Lt) (mf λi j=>.bl (decide (i<j))):=Jr λ_ _ _ _ _ _ _ q=>lt_int q
def Gj:kT X (Ó .LtE) (mf λi j=>.bl (decide (i<=j))):=Jr λ_ _ _ _ _ _ _ q=>le_int q
def Gu:kT X (Ó .Gt) (mf λi j=>.bl (decide (j<i))):=Jr λ_ _ _ _ _ _ _ q=>gt_int q
def Gm:kT X (Ó .GtE) (mf λi j=>.bl (decide (j<=i))):=Jr λ_ _ _ _ _ _ _ q=>ge_int q
def V8:kT X (Ó .In) (λx y H Q=>∃i j,x=.str i/\y=.str j/\Q (.bl (!(Ĭ j i 0 j.length 1).isEmpty)) H):=by
 intro ag s σ H x y v u Q I rx ry h;obtain⟨i,j,rfl,rfl,q⟩:=h;obtain⟨t,rfl⟩:=rx;obtain⟨t',rfl⟩:=ry;exact in_str (kD I q rfl)
def Fz:kT X (Ó .Is) (λx y H Q=>y=.non/\Q (.bl (decide (x=.non))) H):=by
 intro ag s σ H x y v u Q I rx ry h;obtain⟨rfl,q⟩:=h;cases ry;refine is_none_gen (kD I q ?_);cases x<;>first
  | (cases rx;rfl)
  | (obtain⟨t,rfl⟩:=rx;rfl)
def Ue:kT X (Ó .IsNot) (λx y H Q=>y=.non/\Q (.bl (!decide (x=.non))) H):=by
 intro ag s σ H x y v u Q I rx ry h;obtain⟨rfl,q⟩:=h;cases ry;refine isnot_none_gen (kD I q ?_);cases x<;>first
  | (cases rx;rfl)
  | (obtain⟨t,rfl⟩:=rx;rfl)
def sC:kT X (Ó .NotIn) (λx y H Q=>∃i j,x=.str i/\y=.str j/\Q (.bl (!(!(Ĭ j i 0 j.length 1).isEmpty))) H):=by
 intro ag s σ H x y v u Q I rx ry h;obtain⟨i,j,rfl,rfl,q⟩:=h;obtain⟨t,rfl⟩:=rx;obtain⟨t',rfl⟩:=ry;exact notIn_str (kD I q rfl)
def Kj{op:CmpOp}{r:R2}(ho:kT X (Ó op) r)(ha:PE X a ta)(hb:PE X b tb)(hm:ë op b=Ä):PE X (.Compare a [op] [b] pos) (VE r ta tb):=by
 intro ag s σ H Q I h;exact wpAny_Compare1 (WY ha hb I h λv u s2 x y H2 I2 rx ry q=>ho ag s2 σ H2 x y v u Q I2 rx ry q) hm
def Xk(t:TE):TT:=λσ H Q=>t σ H λx H'=>∃k,x=.bl k/\Q k H'
def Z5{op:CmpOp}{r:R2}(ho:kT X (Ó op) r)(ha:PE X a ta)(hb:PE X b tb)(hm:ë op b=Ä):PT X (.Compare a [op] [b] pos) (Xk (VE r ta tb)):=by
 intro ag s σ H Q I h
 refine wpAny_isTrue_Compare1 (kg (ha ag s σ H _ I h) λv s1 ⟨x,H1,I1,r1,q1⟩=>kg (hb ag s1 σ H1 _ I1 q1) λu s2 ⟨y,H2,I2,r2,q2⟩=>
  kg (ho ag s2 σ H2 x y v u _ I2 r1 r2 q2) λc s3 ⟨z,H3,I3,r3,k,e,q3⟩=>?_) hm
 subst e;cases r3;exact qw ⟨H3,I3,q3⟩
def sL(r r':R2)(ta tb tc:TE):TE:=λσ H Q=>ta σ H λx H1=>tb σ H1 λy H2=>r x y H2 λz H3=>∃k,z=.bl k /\
 (if k=Â then tc σ H3 λw' H4=>r' y w' H4 Q else Q (.bl Ä) H3)
def WH{op AD:CmpOp}{r r':R2}(ho:kT X (Ó op) r)(AO:kT X (Ó AD) r')(ha:PE X a ta)(hb:PE X b tb)(hc:PE X c tc)
  (hm:lastMarks [op,AD] [b,c]=Ä:=by with_unfolding_all rfl):PE X (.Compare a [op,AD] [b,c] pos) (sL r r' ta tb tc):=by
 intro ag s σ H Q I h
 refine Compare_chain (kg (ha ag s σ H _ I h) λv s1 ⟨x,H1,I1,r1,q1⟩=>chain_link (kg (hb ag s1 σ H1 _ I1 q1) λu s2 ⟨y,H2,I2,r2,q2⟩=>
  kg (ho ag s2 σ H2 x y v u _ I2 r1 r2 q2) λd s3 ⟨z,H3,I3,r3,k,e,q3⟩=>?_)) hm
 subst e;cases r3;refine qw ?_;cases k with
 | false=>exact ite_ff ⟨.bl Ä,H3,I3,rfl,q3⟩
 | true=>exact ite_tt (chain_last (kg (hc ag s3 σ H3 _ I3 q3) λw' s4 ⟨z',H4,I4,r4,q4⟩=>AO ag s4 σ H4 y z' u w' Q I4 r2 r4 q4))
def Yg{op AD:CmpOp}{r r':R2}(ho:kT X (Ó op) r)(AO:kT X (Ó AD) r')(ha:PE X a ta)(hb:PE X b tb)(hc:PE X c tc)
  (hm:lastMarks [op,AD] [b,c]=Ä:=by with_unfolding_all rfl):PT X (.Compare a [op,AD] [b,c] pos) (Xk (sL r r' ta tb tc)):=by
 intro ag s σ H Q I h
 refine isTrue_chain (kg (ha ag s σ H _ I h) λv s1 ⟨x,H1,I1,r1,q1⟩=>test_link (kg (hb ag s1 σ H1 _ I1 q1) λu s2 ⟨y,H2,I2,r2,q2⟩=>
  kg (ho ag s2 σ H2 x y v u _ I2 r1 r2 q2) λd s3 ⟨z,H3,I3,r3,k,e,q3⟩=>?_)) hm
 subst e;cases r3;refine qw ?_;cases k with
 | false=>
  obtain⟨k',e',q'⟩:=q3;cases e';exact ite_ff ⟨H3,I3,q'⟩
 | true=>
  refine ite_tt (test_last (kg (hc ag s3 σ H3 _ I3 q3) ?_));rintro w' s4 ⟨z',H4,I4,r4,q4⟩;refine kg (AO ag s4 σ H4 y z' u w' _ I4 r2 r4 q4) ?_;rintro d' s5 ⟨z2,H5,I5,r5,k2,e2,q5⟩;subst e2;cases r5;exact qw ⟨H5,I5,q5⟩
def fA:(Ð:Nat)<2 ^ 63:=by rw[jB];decide
def JI:kT X (ä .Add) (λx y H Q=>∃i j,x=.str i/\y=.str j/\i.length+j.length<=Ð/\Q (.str (i++j)) H):=by
 intro ag s σ H x y v u Q I rx ry h;obtain⟨i,j,rfl,rfl,hz,q⟩:=h;obtain⟨t,rfl⟩:=rx;obtain⟨t',rfl⟩:=ry;exact add_str (λt' tk=>⟨.str (i++j),H,I.tok _,⟨_,rfl⟩,q⟩) hz
def vals1{x:V}{us:List Ã}(r:Vals [x] us):∃u,us=[u]/\RelV x u:=by
 cases r with
 | cons r1 r2=>cases r2;exact⟨_,rfl,r1⟩
def vals2{x y:V}{us:List Ã}(r:Vals [x,y] us):∃u w',us=[u,w']/\RelV x u/\RelV y w':=by
 cases r with
 | cons r1 r2=>
  cases r2 with
  | cons r3 r4=>cases r4;exact⟨_,_,rfl,r1,r3⟩
def oU:qo X (.type "int") (λxs H Q=>(∃i,xs=[.int i]/\Q (.int i) H)\/∃k,xs=[.bl k]/\Q (.int (if k then 1 else 0)) H):=by
 intro ag s σ H xs us Q I r h;rcases h with ⟨i,rfl,q⟩ | ⟨k,rfl,q⟩
 .obtain⟨u,rfl,t,rfl⟩:=vals1 r
  exact call_int_int ⟨.int i,H,I,⟨_,rfl⟩,q⟩
 .obtain⟨u,rfl,r1⟩:=vals1 r
  cases r1;exact call_int_bool ⟨.int (if k then 1 else 0),H,I.tok _,⟨_,rfl⟩,q⟩
def Zv:qo X (.type "str") (λxs H Q=>∃i,xs=[.int i]/\i.natAbs.log2<1920/\Q (.str (toString i)) H):=by
 intro ag s σ H xs us Q I r h;obtain⟨i,rfl,hz,q⟩:=h;obtain⟨u,rfl,t,rfl⟩:=vals1 r;exact PySem.P.str_of_int hz ⟨.str _,H,I.tok _,⟨_,rfl⟩,q⟩
end
end L2
namespace L2
open PySem PySem.Spec PyProof.Rows
structure ObjM(h:Õ)(x dx C:Ç)(mA:È->Option Ã):Prop where
 obj:h.get? x=À (Ũ C dx)
 ns:h.Ns1 dx mA
 ne:dx≠x
def Vv{h:Õ}{dx:Ç}{mA:È->Option Ã}(n:h.Ns1 dx mA):∃od,h.get? dx=À od/\∀name,Ŵ name od=À (mA name):=by
 obtain⟨o,es,ep,ho,hd,hk,_,hm⟩:=n;refine⟨o,ho,λname=>?_⟩;have e:=hm name;unfold nsFind findBy at e;rw[<-wV] at e;unfold Ŵ;rw[hd];dsimp only;split
 .rename_i y q
  rw[q] at e;exact jl À e
 .rename_i q
  rw[q] at e;have a:es.toList.any (·.refKey)=Ä:=by
   rw[List.any_eq_false];intro y hy;obtain⟨z,t,A3⟩:=hk y (yQ.mp hy);simp[DictEntry.refKey,A3]
  have a':¬es.toList.any (·.refKey)=Â:=by rw[a];exact zU
  rw[zW a'];exact jl À e
def ObjM.look{h:Õ}{x dx C:Ç}{mA:È->Option Ã}(I:ObjM h x dx C mA):∃od,PySem.W.InstAt h x (Ũ C dx) C (À od)/\∀name,Ŵ name od=À (mA name):=
 let ⟨od,ho,hl⟩:=Vv I.ns
 ⟨od,⟨I.obj,rfl,rfl,ho⟩,hl⟩
section
variable{P:Ï}{w:Ñ}{H H':Hp}{h h':Õ}{a C dx:Ç}{fs Io:List (È×V)}
def BW(hok:HOk P w H h)(e:H a=À (.ins C dx fs)):∃mA,ObjM h a dx C mA/\(∀f,RelO (fs.lookup f) (mA f))/\PySem.Within mA (fs.map (·.1))/\fs.length<=1000/\H dx=À (.own a):=by
 obtain⟨d,z,ne,ob,mA,n,r,q⟩:=(show ObjOk P w H h a (.ins C dx fs) from hok a _ e);exact⟨mA,⟨ob,n,ne⟩,r,q,z,d⟩
end
structure Cls(K:aab)(C:Ç):Prop where
 pg:PySem.W.plainGet K C Str.empty=Â
 hd:PySem.W.hasDictIn K C=Â
 po:PySem.W.plainOver K C=Â
 sa:PySem.W.findIn K (.ref C) "__setattr__" = À (À (.builtin "object.__setattr__"))
def Cls.get{K:aab}{C:Ç}(c:Cls K C)(f:È):PySem.W.plainGet K C f=Â:=c.pg
section
variable{X:Cx}{ag:List (Ç×ø)}{σ:St}{H:Hp}{s:Å}{A:Ø}{E:Ã->Å->Prop}{Q:Ã->Å->Prop}{c:Ã}{b:Bool}
inductive TyOf(K:aab)(H:Hp):V->Ã->Prop where
 | non:TyOf K H .non (.type "NoneType")
 | bl (x:Bool):TyOf K H (.bl x) (.type "bool")
 | int (i:Int):TyOf K H (.int i) (.type "int")
 | str (x:È):TyOf K H (.str x) (.type "str")
 | flt (x:UInt64):TyOf K H (.flt x) (.type "float")
 | lst {a:Ç} {xs:List V} (e:H a=À (.lst xs)):TyOf K H (.ref a) (.type "list")
 | frz {a:Ç} {o:ø} {xs:List V} (e:H a=À (.frz o (.lst xs))):TyOf K H (.ref a) (.type "list")
 | tup {a:Ç} {xs:List V} (e:H a=À (.tup xs)):TyOf K H (.ref a) (.type "tuple")
 | dK {a:Ç} {cx:List (Key×V)} (e:H a=À (.dK cx)):TyOf K H (.ref a) (.type "dict")
 | dT {a:Ç} {cx:List (List Key×V)} (e:H a=À (.dT cx)):TyOf K H (.ref a) (.type "dict")
 | ins {a C dx:Ç} {fs:List (È×V)} (e:H a=À (.ins C dx fs)) (cl:Cls K C) (ha:PySem.W.findIn K (.ref C) "__class__" = À (À (.builtin "object.__class__")))
   (hn:PySem.W.specialIn K (.builtin "object.__class__") "__get__" = À (À (.builtin "getset_descriptor.__get__"))) (OM:PySem.W.takesIn K (.builtin "object.__class__")=À Â)
   (hm:PySem.W.mroIn K C (.type "object")=À Â):TyOf K H (.ref a) (.ref C)
def QI{x:V}{u t:Ã}(I:Inv X ag σ H s)(rx:RelV x u)(ty:TyOf X.K H x t)(e:Ň X.K t c=À b)(h:∀tk,Q (.bool b) { s with toks:=tk }) :
  Æ (Í X.prog X.w) A (ķ (.builtin "isinstance") [u,c]) Q E s:=by
 cases ty with
 | non=>cases (show u=Ö from rx);exact jr PySem.W.kitx_none I.kIn õ e (λz=>nomatch z) h
 | bl y=>cases (show u=Š y from rx);exact jr PySem.W.kitx_bool I.kIn õ e (λz=>nomatch z) h
 | int i=>obtain⟨t,q⟩:=(show ∃t,u=ī i t from rx);cases q;exact jr PySem.W.kitx_int I.kIn õ e (λz=>nomatch z) h
 | str y=>obtain⟨t,q⟩:=(show ∃t,u=Ĝ y t from rx);cases q;exact jr PySem.W.kitx_str I.kIn õ e (λz=>nomatch z) h
 | flt y=>obtain⟨t,q⟩:=(show ∃t,u=Value.float y t from rx);cases q;exact jr PySem.W.kitx_float I.kIn õ e (λz=>nomatch z) h
 | @lst a xs ea=>
  cases (show u=Ë a from rx);obtain⟨_,_,n,_,h1⟩:=(show ObjOk X.prog X.w H s.heap a (.lst xs) from I.hok a _ ea);exact jr yg I.kIn ⟨_,h1,rfl⟩ e (λz=>nomatch z) h
 | @frz a ob xs ea=>
  cases (show u=Ë a from rx);obtain⟨_,_,_,n,_,h1⟩:=(show ObjOk X.prog X.w H s.heap a (.frz ob (.lst xs)) from I.hok a _ ea);exact jr yg I.kIn ⟨_,h1,rfl⟩ e (λz=>nomatch z) h
 | @tup a xs ea=>
  cases (show u=Ë a from rx);obtain⟨_,_,_,p,_⟩:=(show ObjOk X.prog X.w H s.heap a (.tup xs) from I.hok a _ ea);obtain⟨o,h1,h2,_⟩:=p;exact jr pW I.kIn ⟨o,h1,h2⟩ e (λz=>nomatch z) h
 | @dK a cx ea=>
  cases (show u=Ë a from rx);obtain⟨_,_,vs,_,p⟩:=(show ObjOk X.prog X.w H s.heap a (.dK cx) from I.hok a _ ea);obtain⟨o,es,ep,h1,h2,_⟩:=p;exact jr xF I.kIn ⟨o,h1,h2.1⟩ e (λz=>nomatch z) h
 | @dT a cx ea=>
  cases (show u=Ë a from rx);obtain⟨_,_,xs,_,o,es,ep,h1,h2,_⟩:=(show ObjOk X.prog X.w H s.heap a (.dT cx) from I.hok a _ ea);exact jr xF I.kIn ⟨o,h1,h2.1⟩ e (λz=>nomatch z) h
 | @ins a C dx fs ea cl ha hn OM hm=>
  cases (show u=Ë a from rx);obtain⟨mA,O,_⟩:=BW I.hok ea;obtain⟨od,J,_⟩:=O.look;exact jr (PySem.W.kitx_own (cl.get _) cl.hd ha hn OM hm) I.kIn J e (λz=>nomatch z) h
end
end L2
namespace L2
open PySem PySem.Spec PyProof.Rows
structure Room(k:Nat)(A:Ø):Prop where
 hd:A.handled=Á
 dp:A.depth+3*k+5<recursionLimit
 un:A.units+16*k+200<û
theorem Room.deeper{k:Nat}{A:Ø}(r:Room (k+1) A)(env:Env):Room k (A.deeper env):=
 ⟨r.hd,by have:=r.dp;show A.depth+1+3*k+5<_;omega,by have:=r.un;show A.units+3+16*k+200<_;omega⟩
theorem Room.depth{k:Nat}{A:Ø}(r:Room k A):A.depth<recursionLimit:=by have:=r.dp;omega
theorem Room.units{k:Nat}{A:Ø}(r:Room k A):A.units+64<û:=by have:=r.un;omega
def Cw:TA:=λ_ H Q=>Q [] H
def Gn(ta:TE)(tr:TA):TA:=λσ H Q=>ta σ H λx H1=>tr σ H1 λxs H2=>Q (x::xs) H2
section
variable{X:Cx}{e:Î}{es:List Î}{te:TE}{t:TA}{pos:ė}
def VP:PA X [] Cw:=λ_ _ _ _ H Q I h=>qb ⟨[],H,I,.nil,h⟩
def oa(ha:PE X e te)(hr:PA X es t)(hs:↥(Ê (e::es) X.env=(Ä,å e X.env)::Ê es X.env)):PA X (e::es) (Gn te t):=by
 intro pos ag s σ H Q I h;rw[hs];show Æ _ _ (š ((Ä,å e X.env)::Þ pos (Ê es X.env))) _ _ s
 refine qj (kg (ha ag s σ H _ I h) ?_);rintro u s1 ⟨x,H1,I1,r1,q1⟩;exact kg (hr pos ag s1 σ H1 _ I1 q1) λus s2 Np=>(by obtain⟨xs,H2,I2,r2,q2⟩:=Np;exact⟨x::xs,H2,I2,.cons r1 r2,q2⟩)
def Hr(t:TA):TE:=λσ H Q=>t σ H λxs H1=>xs.length<=Ð/\∀p,H1 p=Á->Q (.ref p) (upd H1 p (.tup xs))
def GW(t:TA):TE:=λσ H Q=>t σ H λxs H1=>xs.length<=Ð/\∀p,H1 p=Á->Q (.ref p) (upd H1 p (.lst xs))
def CC{x1}(h:PA X es t):PE X (.Tuple es x1 pos) (Hr t):=by
 intro ag s σ H Q I hq;refine wpAny_Tuple_spliced (kg (h pos ag s σ H _ I hq) ?_);rintro us s1 ⟨xs,H1,I1,r,z,q⟩;refine⟨by rw[<-r.length];exact z,?_⟩;have hf:H1 s1.heap.objs.size=Á:=I1.hok.fresh (zr _);refine⟨.ref s1.heap.objs.size,upd H1 s1.heap.objs.size (.tup xs),I1.laid (t':=s1.toks) (λb u e=>zc _ e) (zr _) ?_,rfl,q _ hf⟩;exact⟨z,us,r,⟨_,zE _ rfl,rfl,_,rfl⟩,.new _ _⟩
def QU(h:PA X es t):PE X (.List es pos) (GW t):=by
 intro ag s σ H Q I hq;refine wpAny_List_spliced (kg (h pos ag s σ H _ I hq) ?_);rintro us s1 ⟨xs,H1,I1,r,z,q⟩;refine⟨by rw[<-r.length];exact z,?_⟩;have hf:H1 s1.heap.objs.size=Á:=I1.hok.fresh (zr _);refine⟨.ref s1.heap.objs.size,upd H1 s1.heap.objs.size (.lst xs),I1.laid (t':=s1.toks) (λb u e=>zc _ e) (zr _) ?_,rfl,q _ hf⟩;exact⟨z,us,0,r,zE _ rfl⟩
end
abbrev Sp:=List V->Hp->VK->XK->Prop
abbrev gH:=List Env->Hp->Å->XK->Ã->Å->Prop
structure Env0(P:Ï)(w:Ñ)(K:aab)(mg:È->Option Ã)(base:Õ)(A:Ø)(outer:List Env)(s:Å)(H:Hp):Prop where
 frames:A.frames=À outer
 mod:Mod K mg base
 bs:∀b o,base.get? b=À o->s.heap.get? b=À o/\H b=Á
 bsz:base.objs.size<=s.heap.objs.size
 funs:s.heap.FunFrames base outer
 frf:∀b∈frs outer,H b=Á
 hok:HOk P w H s.heap
 bare:Œ s.gens
def CE(outer:List Env)(P:Ï)(w:Ñ)(H:Hp)(s:Å)(Q:VK)(u:Ã)(s':Å):Prop:=
 ∃v H',s'.os=s.os/\Œ s'.gens/\Un (frs outer) [] H H' s.heap s'.heap/\HOk P w H' s'.heap/\RelV v u/\Q v H'
def CR(CX:gH)(outer:List Env)(P:Ï)(w:Ñ)(H:Hp)(s:Å)(Q:VK)(E:XK)(r:Result)(s':Å):Prop:=
 match r with
 | .ok (.ret u)=>CE outer P w H s Q u s'
 | .ok _=>False
 | .error e=>CX outer H s E e s'
structure FnOk(P:Ï)(w:Ñ)(K:aab)(mg:È->Option Ã)(base:Õ)(CX:gH)(k:Nat)(f:Ç)(fd:ć)(ps:List È)(sp:Sp):Prop where
 len:∀vs H Q E,sp vs H Q E->vs.length=ps.length
 run:∀(A:Ø) (outer:List Env) (s:Å) (H:Hp) (args:Args) (us:List Ã) (vs:List V) (Q:VK) (E:XK),Room k A->Env0 P w K mg base A outer s H->BindsTo s fd args (ps.zip us)->Vals vs us->sp vs H Q E->
  Ĺ (Í P w) A (.call (.ref f) args) (CR CX outer P w H s Q E) s
def FnOk.imp{P:Ï}{w:Ñ}{K:aab}{mg:È->Option Ã}{base:Õ}{CX:gH}{k:Nat}{f:Ç}{fd:ć}{ps:List È}{sp ON:Sp}(F:FnOk P w K mg base CX k f fd ps sp)
  (h:∀vs H Q E,ON vs H Q E->sp vs H Q E):FnOk P w K mg base CX k f fd ps ON:=
 ⟨λvs H Q E q=>F.len vs H Q E (h _ _ _ _ q),λA outer s H args us vs Q E hr he hb hv hs=>F.run A outer s H args us vs Q E hr he hb hv (h _ _ _ _ hs)⟩
section
variable{X:Cx}{ag:List (Ç×ø)}{σ:St}{H:Hp}{s s':Å}
def Inv.env0(I:Inv X ag σ H s):Env0 X.prog X.w X.K X.mg X.base X.A X.stack s H:=
 ⟨I.ok.frames,I.ok.mod,I.bs,zq I.ok.bsz I.sz,I.stack,I.stkFree,I.hok,I.bare⟩
def Inv.after{Q:VK}{u:Ã}(I:Inv X ag σ H s)(h:CE X.stack X.prog X.w H s Q u s'):EP X ag σ Q u s':=by
 obtain⟨v,H',os,bare,un,hok,r,q⟩:=h;obtain⟨hh,g,d,t,EH⟩:=s';obtain rfl:EH=s.os:=os;exact⟨v,H',I.call (h':=hh) (g':=g) (d':=d) (t':=t) (ch:=[]) un hok bare (λb z=>absurd z (by simp)),r,q⟩
end
def X7(sp:Sp)(Ig:List V)(E:XK)(t:TA):TE:=λσ H Q=>t σ H λvs H1=>sp (vs++Ig) H1 Q E
def Binds(K:aab)(fd:ć)(ps:List È)(ds:List Ã):Prop:=
 ∀(s:Å) (us:List Ã),K.In s.heap->(us++ds).length=ps.length->BindsTo s fd ⟨us,[]⟩ (ps.zip (us++ds))
def Binds.all{K:aab}{fd:ć}{ps:List È}(h:∀us:List Ã,us.length=ps.length->bindArgs fd ⟨us,[]⟩=pure (ps.zip us)):Binds K fd ps []:=λs us _ hl=>by
 rw[v6] at hl ⊢;exact .of_eq (h us hl)
def mr(CX:gH)(X:Cx)(E:XK):Prop:=∀(ag:List (Ç×ø)) (σ:St) (H:Hp) (s:Å) (e:Ã) (s':Å),Inv X ag σ H s->CX X.stack H s E e s'->X.xe e s'
section
variable{X:Cx}{CX:gH}{k:Nat}{f C:Ç}{fd:ć}{ps:List È}{sp:Sp}{Ig:List V}{ds:List Ã}{E:XK}{x m:È}{p pos apos:ė}{e o:Î}{es:List Î}{ta:TE}{t:TA}
def Wl{ag:List (Ç×ø)}{σ:St}{H:Hp}{s:Å}{Q:VK}{us:List Ã}{vs:List V}(F:FnOk X.prog X.w X.K X.mg X.base CX k f fd ps sp)(hr:Room k X.A)(hb:Binds X.K fd ps ds)(hd:Vals Ig ds)(hx:mr CX X E)
  (I:Inv X ag σ H s) (r:Vals vs us) (h:sp (vs++Ig) H Q E):Æ (Í X.prog X.w) X.A (ķ (.ref f) us) (EP X ag σ Q) X.xe s:=by
 have r2:Vals (vs++Ig) (us++ds):=r.append hd;have hl:(us++ds).length=ps.length:=by rw[<-r2.length];exact F.len _ _ _ _ h
 refine wpAny_call (wI (F.run X.A X.stack s H ⟨us,[]⟩ (us++ds) (vs++Ig) Q E hr I.env0 (hb s us I.kIn hl) r2 h) λr s' hq=>?_);cases r with
 | error e=>exact hx ag σ H s e s' I hq
 | ok fl=>
  cases fl with
  | ret u=>exact I.after hq
  | next=>exact ę hq
  | brk=>exact ę hq
  | cont=>exact ę hq
def U8(F:FnOk X.prog X.w X.K X.mg X.base CX k f fd ps sp)(hr:Room k X.A)(hg:Gl X x)(hm:X.mg x=À (.ref f))(hk:ï X.K (.ref f)=Â)(hb:Binds X.K fd ps ds)(hd:Vals Ig ds)(hx:mr CX X E)
  (ha:PA X (e::es) t) (AS:⇑((x==("__debug__":È))=Ä)) (he:↥(Ê (e::es) X.env=(Ä,å e X.env)::Ê es X.env)) (Ak:↥((Þ pos (Ê es X.env)).any (·.1)=Ä)) :
  PE X (.Call (.Name x p) (e::es) [] pos) (X7 sp Ig E t):=by
 intro ag s σ H Q I h;refine jH (nM I hg hm ?_ AS);refine PySem.W.callWith_K (h₀:=X.base) I.ok.mod.kin hk (kg (ha pos ag s σ H _ I h) ?_) he Ak;rintro us s1 ⟨vs,H1,I1,r,q⟩;refine⟨I1.kIn,?_⟩;exact Wl F hr hb hd hx I1 r q
def WM(F:FnOk X.prog X.w X.K X.mg X.base CX k f fd ps sp)(hr:Room k X.A)(hg:Gl X x)(hm:X.mg x=À (.ref f))(hk:ï X.K (.ref f)=Â)(hb:Binds X.K fd ps ds)(hd:Vals Ig ds)(hx:mr CX X E)
  (AS:⇑((x==("__debug__":È))=Ä)):PE X (.Call (.Name x p) [] [] pos) (X7 sp Ig E Cw):=by
 intro ag s σ H Q I h;refine jH (nM I hg hm ?_ AS);exact PySem.W.callWith_K0 I.kIn hk (Wl (us:=[]) F hr hb hd hx I .nil h)
end
section
variable{X:Cx}{CX:gH}{k:Nat}{f C:Ç}{fd:ć}{ps ks:List È}{sp:Sp}{E:XK}{x m:È}{p pos apos Ru:ė}{e o:Î}{es:List Î}{kws:List ĩ}{te ta:TE}{t tk:TA}{nm:Option È}
variable{g:List Ã->List Ã->List Ã}{gV:List V->List V->List V}
end
structure FnScope(N P:List È)(sc:î):Prop where
 kind:sc.kind=.function
 co:sc.isCoroutine=Ä
 gen:sc.isGenerator=Ä
 nd:N.Nodup
 pre:N.take P.length=P
 par:∀x∈P,sc.names.lookup x=À .local\/sc.names.lookup x=À .cell
 nofree:∀y∈sc.names,y.2≠.free
theorem oX{kindOf:È->Option Ŀ}{x:È}:∀{binds:List (È×Ã)} {m:È->Option Ã},(∀v,(x,v)∉binds)->bindL kindOf binds m x=m x
 | [],_,_=>rfl
 | (n,v)::r,m,h=>by
  unfold bindL;rw[oX λw hw=>h w (zp _ hw)];split
  .have:x≠n:=by rintro rfl;exact h v zz
   simp[this]
  .rfl
theorem oF{kindOf:È->Option Ŀ}{x:È}:∀{binds:List (È×Ã)} {m:È->Option Ã},(∀v,(x,v)∉binds)->bindC kindOf binds m x=m x
 | [],_,_=>rfl
 | (n,v)::r,m,h=>by
  unfold bindC;rw[oF λw hw=>h w (zp _ hw)];split
  .rfl
  .have:x≠n:=by rintro rfl;exact h v zz
   simp[this]
theorem rj{kindOf:È->Option Ŀ}{x:È}{v:Ã}:∀{P:List È} {vs:List Ã} {i:Nat} {m:È->Option Ã},P.Nodup->P[i]?=À x->vs[i]?=À v->kindOf x=À .local->
  bindL kindOf (P.zip vs) m x=À v
 | [],_,_,_,_,h,_,_=>by simp at h
 | _::_,[],_,_,_,_,h,_=>by simp at h
 | p::P,w::vs,0,m,nd,h1,h2,hk=>by
  simp at h1 h2;subst h1;subst h2;show bindL kindOf ((p,w)::P.zip vs) m p=_
  unfold bindL;rw[oX λv hv=>(jU.mp nd).1 (qM hv).1,zQ hk];simp
 | p::P,w::vs,i+1,m,nd,h1,h2,hk=>by
  show bindL kindOf ((p,w)::P.zip vs) m x=_
  unfold bindL;exact rj (i:=i) (jU.mp nd).2 (by simpa using h1) (by simpa using h2) hk
theorem pz{kindOf:È->Option Ŀ}{x:È}{v:Ã}:∀{P:List È} {vs:List Ã} {i:Nat} {m:È->Option Ã},P.Nodup->P[i]?=À x->vs[i]?=À v->kindOf x≠À .local->
  bindC kindOf (P.zip vs) m x=À v
 | [],_,_,_,_,h,_,_=>by simp at h
 | _::_,[],_,_,_,_,h,_=>by simp at h
 | p::P,w::vs,0,m,nd,h1,h2,hk=>by
  simp at h1 h2;subst h1;subst h2;show bindC kindOf ((p,w)::P.zip vs) m p=_
  unfold bindC;rw[oF λv hv=>(jU.mp nd).1 (qM hv).1,zW hk];simp
 | p::P,w::vs,i+1,m,nd,h1,h2,hk=>by
  show bindC kindOf ((p,w)::P.zip vs) m x=_
  unfold bindC;exact pz (i:=i) (jU.mp nd).2 (by simpa using h1) (by simpa using h2) hk
def start(N:List È)(vs:List V):St:=vs.map À++É (N.length-vs.length) Á
def gS(CX:gH)(P:Ï)(w:Ñ)(K:aab)(mg:È->Option Ã)(base:Õ)(N:List È)(qual:È)(scope:î)(f:Ç)(cd:Ã)(A:Ø)(outer:List Env)(s:Å)(H:Hp)(E:XK):Cx where
 prog:=P
 w:=w
 K:=K
 mg:=mg
 base:=base
 A:=A.deeper (Ŗ qual scope s.heap.objs.size f cd)
 N:=N
 s₀:=s
 H₀:=H
 env:=Ŗ qual scope s.heap.objs.size f cd
 outer:=outer
 stack:=Ŗ qual scope s.heap.objs.size f cd::outer
 ex:=[]
 calm:=Â
 fn:=λ_=>Â
 pn:=[]
 xe:=λe s'=>Æ (Í P w) (A.deeper (Ŗ qual scope s.heap.objs.size f cd)) (leaving (Ŗ qual scope s.heap.objs.size f cd) e) (λ_ Ir=>CX outer H s E e Ir) (λe' Ir=>CX outer H s E e' Ir) s'
def tF{sc:î}{n:Nat}{x:È}(h:sc.names.lookup x=À .cell):∃c,(cellsFrom n sc.names []).lookup x=À c:=by
 have q:=uU sc.names n [] (.inl h);exact vO.mp q
def Qy{CX:gH}{P:Ï}{w:Ñ}{K:aab}{mg:È->Option Ã}{base:Õ}{N ps:List È}{qual:È}{scope:î}{f:Ç}{cd:Ã}{A:Ø}{outer:List Env}{s s1:Å}{H:Hp}{E:XK}{us:List Ã}{vs:List V}
  (S:FnScope N ps scope) (hd:A.handled=Á) (e0:Env0 P w K mg base A outer s H) (hl:vs.length=ps.length) (r:Vals vs us)
  (x:InCallC s s.heap.objs.size (bindL (Ŗ qual scope s.heap.objs.size f cd).kindOf (ps.zip us) λ_=>Á) (cellsFrom (s.heap.objs.size+1) scope.names []) (bindC (Ŗ qual scope s.heap.objs.size f cd).kindOf (ps.zip us) λ_=>Á) s1) :
  Inv (gS CX P w K mg base N qual scope f cd A outer s H E) [] (start N vs) H s1:=by
 have Ak:ps.length<=N.length:=by have:=jl Ú S.pre;rw[vd] at this;omega
 obtain⟨h1,tk,rfl,hk⟩:=x.done;have LP:∀b:Ç,b∉(gS CX P w K mg base N qual scope f cd A outer s H E).ex:=λb z=>absurd (show b∈([]:List Ç) from z) (by simp)
 refine⟨⟨e0.mod,S.kind,rfl,rfl,zr _,λy z c h1 h2=>?_,λy hy=>?_,λy c _ h=>?_,λ_=>hd,Around.frames_deeper e0.frames,.inr ⟨rfl,rfl⟩,λb z=>absurd z (LP b),e0.bs,e0.bsz,λb _ _=>LP b,λb z=>absurd z (LP b),e0.funs,e0.frf⟩,
  rfl,e0.bare,Un.kept hk,⟨_,x.toInCall.ns,λi y v h1 h2 h3=>?_⟩,λy c h=>⟨_,x.cell y c h⟩,e0.hok.fresh (zr _),λy c h=>?_,λp hp=>absurd (show p∈([]:List (Ç×ø)) from hp) (by simp),e0.hok.kept hk,?_⟩
 .exact name_of_addr x.apart (vJ h1) (vJ h2)
 .have hy:scope.names.lookup y=À .cell\/scope.names.lookup y=À .free:=hy
  rcases hy with hy | hy
  .exact tF hy
  .exact absurd rfl (S.nofree _ (vJ hy))
 .exact qY (x.above y c (vJ h))
 .have hi:i<vs.length:=by
   unfold start at h2;by_cases hi:i<vs.length
   .exact hi
   .rw[ji (by simpa using hi)] at h2
    rw[q8] at h2;split at h2<;>cases h2
  have ha:vs[i]?=À v:=by
   unfold start at h2;rw[zY (by simpa using hi),zZ] at h2;cases e:vs[i]? with
   | none=>rw[e] at h2;cases h2
   | some a=>rw[e] at h2;cases h2;rfl
  obtain⟨u,hu,rv⟩:=r.get ha;have hp:ps[i]?=À y:=by
   rw[<-S.pre,uH ∅];exact h1
  have OO:ps.Nodup:=by rw[<-S.pre];exact S.nd.sublist (xJ _ _)
  refine⟨u,rv,?_⟩;rcases S.par y (jC hp) with k | k
  .exact .inl ⟨k,rj OO hp hu k⟩
  .obtain⟨c,e⟩:=tF (n:=s.heap.objs.size+1) k
   refine .inr ⟨.inl k,c,e,?_⟩;have q:=x.cell y c e;rw[pz OO hp hu (by show scope.names.lookup y≠_;rw[k];decide)] at q;exact q
 .exact e0.hok.fresh (qY (x.above y c (vJ h)))
 .unfold start
  show _=N.length
  rw[zR,zH,vm];omega
def GH{CX:gH}{P:Ï}{w:Ñ}{K:aab}{mg:È->Option Ã}{base:Õ}{k:Nat}{f:Ç}{name qual:È}{params:Arguments}{body:List ď}{scope:î}{dV kV doc pm xI ct oc:Ã}{an od:Option Ç}
  {Es:Array (Option Ã)} {N ps:List È} {sp:Sp} (lk:K.lookup f=À ⟨oc,od,.func (Č name qual params body scope dV kV doc pm an xI ct),Es⟩) (Ep:İ K xI qual=Â) (S:FnScope N ps scope)
  (len:∀vs H Q E,sp vs H Q E->vs.length=ps.length)
  (EI:∀(A:Ø) (outer:List Env) (s:Å) (H:Hp) (vs:List V) (Q:VK) (E:XK),Room k (A.deeper (Ŗ qual scope s.heap.objs.size f xI))->sp vs H Q E->
   ∃t,PSs (gS CX P w K mg base N qual scope f xI A outer s H E) body t/\t { nx:=λ_ H'=>Q .non H',rt:=Q } (start N vs) H) :
  FnOk P w K mg base CX (k+1) f (Č name qual params body scope dV kV doc pm an xI ct) ps sp:=by
 refine⟨len,λA outer s H args us vs Q E hr e0 hb r EJ=>?_⟩;have hl:=len _ _ _ _ EJ;have KX:K.In s.heap:=e0.mod.kin.keeps λb o e=>(e0.bs b o e).1
 have lim:s.heap.NoLimit:=e0.mod.nolimit.keeps λb o e=>(e0.bs b o e).1
 have LQ:∀y∈ps.zip us,scope.names.lookup y.1=À .local\/(scope.names.lookup y.1=À .cell/\((cellsFrom (s.heap.objs.size+1) scope.names []).lookup y.1).isSome=Â):=λ⟨n,v⟩ hy=>by
  rcases S.par n (qM hy).1 with q | q
  .exact .inl q
  .exact .inr ⟨q,uU _ _ _ (.inl q)⟩
 refine codeAny_call_function hr.depth (KX _ _ lk) rfl S.co S.gen rfl (PySem.W.codeRec_of KX Ep) (hb _ _ _ _ ?_);refine wpAny_newFunctionEnv_cells S.kind LQ λenv he s1 x=>?_
 subst he;refine⟨lim.keeps x.toInCall.keep,codeAny_func ?_⟩;obtain⟨t,ht,hq⟩:=EI A outer s H vs Q E (hr.deeper _) EJ;have I:Inv (gS CX P w K mg base N qual scope f xI A outer s H E) [] (start N vs) H s1:=Qy S hr.hd e0 hl r x;refine j6 (ht [] s1 (start N vs) H _ I hq) (λfl s' hs=>?_) λe s' hs=>hs
 have fin:∀{hG:St} {H':Hp} {v:V} {u:Ã},Inv (gS CX P w K mg base N qual scope f xI A outer s H E) [] hG H' s'->RelV v u->Q v H'->CE outer P w H s Q u s':=
  λ{hG H' v u} J rv q=>⟨v,H',J.os,J.bare,J.base,J.hok,rv,q⟩
 cases fl with
 | ret u=>
  obtain⟨v,hG,H',J,rv,q⟩:=hs;exact fin J rv q
 | next=>
  obtain⟨hG,H',J,q⟩:=hs;exact fin (v:=V.non) (u:=Ö) J rfl q
 | brk=>
  obtain⟨_,_,_,q⟩:=hs;exact ę q
 | cont=>
  obtain⟨_,_,_,q⟩:=hs;exact ę q
end L2
namespace L2
open PySem PySem.Spec PyProof.Rows
section
variable{X:Cx}{x:È}{p pos:ė}{e:Î}{es:List Î}{t:TA}{id T:String}{r:List V->Hp->VK->Prop}
def GO(r:List V->Hp->VK->Prop)(t:TA):TE:=λσ H Q=>t σ H λvs H1=>r vs H1 Q
def tI(hc:qo X (.builtin id) r)(hg:Gl X x)(hm:X.mg x=Á)(hv:Ù x=À (.builtin id))(ha:PA X (e::es) t)(hn:⇑(x≠"__name__"))(AS:⇑((x==("__debug__":È))=Ä))
  (he:↥(Ê (e::es) X.env=(Ä,å e X.env)::Ê es X.env)) (Ak:↥((Þ pos (Ê es X.env)).any (·.1)=Ä)):PE X (.Call (.Name x p) (e::es) [] pos) (GO r t):=by
 intro ag s σ H Q I h;refine jH (y6 I hg hm hv ?_ hn AS);exact qX (kg (ha pos ag s σ H _ I h) λus s1 Rv=>(by obtain⟨vs,H1,I1,r1,q1⟩:=Rv;exact hc ag s1 σ H1 vs us Q I1 r1 q1)) he Ak
def J9(hc:qo X (.type T) r)(hg:Gl X x)(hm:X.mg x=Á)(hv:Ù x=À (.type T))(ha:PA X (e::es) t)(hn:⇑(x≠"__name__"))(AS:⇑((x==("__debug__":È))=Ä))
  (he:↥(Ê (e::es) X.env=(Ä,å e X.env)::Ê es X.env)) (Ak:↥((Þ pos (Ê es X.env)).any (·.1)=Ä)):PE X (.Call (.Name x p) (e::es) [] pos) (GO r t):=by
 intro ag s σ H Q I h;refine jH (y6 I hg hm hv ?_ hn AS);exact jL (kg (ha pos ag s σ H _ I h) λus s1 Rw=>(by obtain⟨vs,H1,I1,r1,q1⟩:=Rw;exact hc ag s1 σ H1 vs us Q I1 r1 q1)) he Ak
end
end L2
namespace HT
open PySem PyProof.Rows
section
open PySem.SeqAt
open PySem.AutoSeq1 (wpAny_loadPart')
open PySem.MeetsSeq PySem.MeetsSeq2 PySem.MeetsSeq3
end
section
variable{prog:Ï}{w:Ñ}{A:Ø}{E:Ã->Å->Prop}{s:Å}
def cat_tup{t b:Ç}{vs ws:List Ã}{Q:Ã->Å->Prop}(ht:Ő s.heap t vs.toArray)(hb:Ő s.heap b ws.toArray)(hv:vs≠[])
  (h1:ws=[]->Q (.ref t) s) (h2:ws≠[]->Q (.ref s.heap.objs.size) { s with heap:=s.heap.push { cls:=.type "tuple",data:=.seq (vs++ws).toArray } })
  (hsz:vs.length+ws.length<=Ð):Æ (Í prog w) A (ä .Add (.ref t) (.ref b)) Q E s:=by
 obtain⟨⟨cls,dd,data,sl⟩,ho,hc,n,hd⟩:=id ht;obtain⟨⟨LR,Et,data2,Ea⟩,Eu,IP,n2,hd2⟩:=id hb;simp only at hc hd IP hd2;subst hc hd IP hd2;have e:vs.toArray++ws.toArray=(vs++ws).toArray:=by simp
 by_cases hw:ws=[]
 .exact uE ⟨_,ho,rfl⟩ ⟨_,Eu,rfl⟩ uK seq_tuple_add yD yq (yh _ _)
   (tuple_addW1 t b vs.toArray ws.toArray n n2 dd Et sl Ea (by simpa using hv) (by simp[hw])) ⟨ho,Eu,h1 hw⟩
 .refine uE ⟨_,ho,rfl⟩ ⟨_,Eu,rfl⟩ uK seq_tuple_add yD yq (yh _ _)
   (tuple_addW2 t b vs.toArray ws.toArray n n2 dd Et sl Ea (by simpa using hv) (by simpa using hw) (by rw[zO,zO];exact hsz)) ⟨ho,Eu,?_⟩
  rw[e];exact h2 hw
def sIx(n d:Nat):Option Int->Nat
 | none=>d
 | some v=>if v<0 then (v+(n:Int)).toNat else min v.toNat n
def C8(n d:Nat)(hd:d<=n)(o:Option Int):sIx n d o<=n:=by
 cases o with
 | none=>exact hd
 | some v=>
  show(if v<0 then (v+(n:Int)).toNat else min v.toNat n)<=n
  by_cases hv:v<0
  .rw[zQ hv];omega
  .rw[zW hv];exact Nat.min_le_right _ _
def ZV(v:Int)(n d:Nat):(if v<0 then max (v+(n:Int)) 0 else min v (n:Int))=((sIx n d (À v):Nat):Int):=by
 show(if v<0 then max (v+(n:Int)) 0 else min v (n:Int))=(((if v<0 then (v+(n:Int)).toNat else min v.toNat n):Nat):Int)
 by_cases hv:v<0
 .erw[zQ hv];omega
 .erw[zW hv];omega
def Jt(lo hi:Option Int)(n:Nat):ì lo hi 1 (n:Int)=(((sIx n 0 lo:Nat):Int),((sIx n n hi:Nat):Int)):=by
 have h1:¬((1:Int)<0):=by omega
 unfold ì;erw[h1,jy];refine Prod.ext ?_ ?_
 .cases lo with
  | none=>rfl
  | some v=>exact ZV v n 0
 .cases hi with
  | none=>rfl
  | some v=>exact ZV v n n
def KU(i j:Nat):æ (i:Int) (j:Int) 1=j-i:=by
 unfold æ;have h1:(1:Int)>0:=by omega
 erw[h1,je,pA];split<;>omega
def ni{v:Ã}{o:Option Int}{Q:Option Int->Å->Prop}(p:ň v o)(h:Q o s):Æ (Í prog w) A (Builtin.Slice.slicePartIndex v) Q E s:=by
 cases p with
 | none=>exact uJ h
 | int i t=>exact slicePart_int h
def dS{sl:Ç}{vl vu:Ã}{lo hi:Option Int}{n:Nat}{Q:Int×Int×Nat->Å->Prop}(hs:s.heap.IsSliceOf sl vl vu .none)(pl:ň vl lo)(pu:ň vu hi)
  (h:Q (((sIx n 0 lo:Nat):Int),1,sIx n n hi-sIx n 0 lo) s):Æ (Í prog w) A (Ĉ (.ref sl) (pure (n:Int))) Q E s:=by
 obtain⟨os,Ej,AC,Ih⟩:=id hs;unfold Ĉ ŏ;refine za (za (jN Ej Ih (x:=vl) rfl (za (jN Ej Ih (x:=vu) rfl (za (jN Ej Ih (x:=.none) rfl (zf ?_)))))));refine za (uJ ?_);show Æ _ _ (if ((1:Int)==0)=Â then _ else _) _ _ s
 rw[zW (by decide)];refine za (ni pl (za (ni pu (za (zf ?_)))));show Æ _ _ (match ì lo hi 1 (n:Int) with | (lo,hi)=>pure (lo,(1:Int),æ lo hi 1)) _ _ s
 rw[Jt lo hi n];show Æ _ _ (pure (((sIx n 0 lo:Nat):Int),(1:Int),æ ((sIx n 0 lo:Nat):Int) ((sIx n n hi:Nat):Int) 1)) _ _ s
 rw[KU];exact zf h
def WW(xs:Array Ã)(i k:Nat):((ß k).filterMap λ(m:Nat)=>xs[((i:Int)+(m:Int)*1).toNat]?).toArray=((xs.toList.drop i).take k).toArray:=by
 have e:(λ(m:Nat)=>xs[((i:Int)+(m:Int)*1).toNat]?)=λm=>xs[i+m]?:=by
  funext m
  have:((i:Int)+(m:Int)*1).toNat=i+m:=by omega
  rw[this]
 rw[e];have:=pick_run xs i k;rw[wR] at this;have e2:((λx=>xs[x]?)∘λx=>i+x)=λm=>xs[i+m]?:=rfl
 rw[e2] at this;rw[this]
def getItem_tuple_cut{t sl:Ç}{items:Array Ã}{vl vu:Ã}{lo hi:Option Int}{Q:Ã->Å->Prop}(ht:Ő s.heap t items)(hs:s.heap.IsSliceOf sl vl vu .none)(pl:ň vl lo)(pu:ň vu hi)
  (hw:¬(sIx items.size 0 lo=0/\sIx items.size items.size hi=items.size))
  (h:Q (.ref s.heap.objs.size) { s with heap:=s.heap.push { cls:=.type "tuple",data:=.seq ((items.toList.drop (sIx items.size 0 lo)).take (sIx items.size items.size hi-sIx items.size 0 lo)).toArray } })
  (hsz:items.size<=Ð):Æ (Í prog w) A (Ń (.ref t) (.ref sl)) Q E s:=by
 have An:sizeOk (.seq ((items.toList.drop (sIx items.size 0 lo)).take (sIx items.size items.size hi-sIx items.size 0 lo)).toArray):=by
  show((items.toList.drop (sIx items.size 0 lo)).take (sIx items.size items.size hi-sIx items.size 0 lo)).toArray.size<=Ð
  rw[zO,vd,qO,zV];omega
 have hj:sIx items.size items.size hi<=items.size:=C8 _ _ (zr _) hi;obtain⟨os,Ej,AC,Ih⟩:=id hs;have LS:s.TypeIs (.ref sl) "slice":=⟨os,Ej,AC⟩;unfold Ń;try with_reducible refine jf ?_
 first | refine za (zf ?_) | skip
 refine za (uy ht.typeIs (by decide) ?_)
 refine za (jx (name:=ü "__getitem__") ht.typeIs jo
  (jh jo ht.typeIs uT ?_ (pC _ _)))
 show Æ _ _ (ġ (.ref t) >>= _) _ _ s
 refine za (yF ht ?_);refine za (qH LS ?_);rw[zQ (by decide)];refine za (dS hs pl pu ?_);have LU:¬((((sIx items.size 0 lo:Nat):Int)==0&&(1:Int)==1&&(sIx items.size items.size hi-sIx items.size 0 lo)==items.size)=Â):=by
  intro q;rw[zu,zu] at q;have q1:((sIx items.size 0 lo:Nat):Int)=0:=eq_of_beq q.1.1;have q2:sIx items.size items.size hi-sIx items.size 0 lo=items.size:=eq_of_beq q.2;exact hw ⟨by omega,by omega⟩
 show Æ _ _ (if (((sIx items.size 0 lo:Nat):Int)==0&&(1:Int)==1&&(sIx items.size items.size hi-sIx items.size 0 lo)==items.size)=Â then _ else _) _ _ s
 rw[zW LU,WW];first
  | exact za (m:=Ý _) (kE (zf ⟨_,rfl,zf h⟩) An)
  | exact za (m:=Ý _) (kE (za (zf (zf ⟨_,rfl,zf h⟩))) An)
  | exact za (za (m:=Ý _) (kE (zf (zf ⟨_,rfl,zf h⟩)) An))
  | exact za (za (m:=Ý _) (kE (zf ⟨_,rfl,zf h⟩) An))
end
end HT
namespace L2
open PySem PySem.Spec PyProof.Rows
abbrev TO:=St->Hp->(Option Int->Hp->Prop)->Prop
def PO(X:Cx)(e:Option Î)(t:TO):Prop:=
 ∀(ag:List (Ç×ø)) (s:Å) (σ:St) (H:Hp) (Q:Option Int->Hp->Prop),Inv X ag σ H s->t σ H Q->
  Æ (Í X.prog X.w) X.A (evalPart e X.env) (λu s'=>∃o H',Inv X ag σ H' s'/\ň u o/\Q o H') X.xe s
def BR:TO:=λ_ H Q=>Q Á H
def Gw(t:TE):TO:=λσ H Q=>t σ H λx H1=>∃i,x=.int i/\Q (À i) H1
section
variable{X:Cx}{e:Î}{te:TE}{lo hi:Option Î}{tl th:TO}{pos p2:ė}
def Us:PO X Á BR:=by
 intro ag s σ H Q I h;rw[evalPart_none];exact zf ⟨Á,H,I,.none,h⟩
def Z9(h:PE X e te):PO X (À e) (Gw te):=by
 intro ag s σ H Q I hw;rw[evalPart_some];refine kg (h ag s σ H _ I hw) ?_;rintro u s1 ⟨x,H1,I1,r1,q1⟩;obtain⟨i,rfl,q⟩:=q1;obtain⟨t,rfl⟩:=r1;exact⟨À i,H1,I1,.int i t,q⟩
def Vd(X:Cx)(r:V->Option Int->Option Int->Hp->VK->Prop):Prop:=
 ∀(ag:List (Ç×ø)) (s:Å) (σ:St) (H:Hp) (x:V) (v vl vu:Ã) (lo hi:Option Int) (sl:Ç) (Q:VK),Inv X ag σ H s->RelV x v->s.heap.IsSliceOf sl vl vu .none->ň vl lo->ň vu hi->r x lo hi H Q->
  ∃T id,ŉ (.type T) "__getitem__" = pure (À (.builtin id))/\s.TypeIs v T/\Æ (Í X.prog X.w) X.A (Ń v (.ref sl)) (EP X ag σ Q) X.xe s
def HY(r:V->Option Int->Option Int->Hp->VK->Prop)(te:TE)(tl th:TO):TE:=λσ H Q=>te σ H λx H1=>tl σ H1 λl H2=>th σ H2 λu H3=>r x l u H3 Q
def tK{r:V->Option Int->Option Int->Hp->VK->Prop}(hr:Vd X r)(he:PE X e te)(hl:PO X lo tl)(hu:PO X hi th):PE X (.Subscript e (.Slice lo hi Á p2) pos) (HY r te tl th):=by
 intro ag s σ H Q I h;refine Subscript_ (kg (he ag s σ H _ I h) ?_);rintro v s1 ⟨x,H1,I1,r1,q1⟩;refine wpAny_Slice (kg (hl ag s1 σ H1 _ I1 q1) ?_);rintro vl s2 ⟨l,H2,I2,pl,q2⟩;refine kg (hu ag s2 σ H2 _ I2 q2) ?_;rintro vu s3 ⟨u,H3,I3,pu,q3⟩;rw[evalPart_none];refine zf ?_;have I4:Inv X ag σ H3 { s3 with heap:=s3.heap.push { cls:=.type "slice",data:=.fields #[vl,vu,.none] } }:=I3.kept (t':=s3.toks) λb ob q=>zc _ q
 obtain⟨T,id,hT,ht,hg⟩:=hr ag { s3 with heap:=s3.heap.push { cls:=.type "slice",data:=.fields #[vl,vu,.none] } } σ H3 x v vl vu l u s3.heap.objs.size Q I4 r1 (Heap.IsSliceOf.new ..) pl pu q3;show Æ (Í X.prog X.w) X.A (subscriptTail e (.Slice lo hi Á p2) v (.ref s3.heap.objs.size)) (EP X ag σ Q) X.xe { s3 with heap:=s3.heap.push { cls:=.type "slice",data:=.fields #[vl,vu,.none] } }
 exact tail_any (ops:=[.ref s3.heap.objs.size,v]) ht hT hg (by with_unfolding_all rfl)
def eg(xs:List V)(lo hi:Option Int):List V:=(xs.drop (HT.sIx xs.length 0 lo)).take (HT.sIx xs.length xs.length hi-HT.sIx xs.length 0 lo)
def lg(xs:List V)(lo hi:Option Int):(eg xs lo hi).length<=xs.length:=by
 unfold eg;rw[vd,qO];omega
def G1(K:aab):V->Option Int->Option Int->Hp->VK->Prop:=λx lo hi H Q=>∃a xs,x=.ref a/\SqT K H a xs /\
 ¬(HT.sIx xs.length 0 lo=0/\HT.sIx xs.length xs.length hi=xs.length)/\∀p,H p=Á->Q (.ref p) (upd H p (.tup (eg xs lo hi)))
def B7:Vd X (G1 X.K):=by
 intro ag s σ H x v vl vu lo hi sl Q I rx hs pl pu h;obtain⟨a,xs,rfl,hx,hw,q⟩:=h;cases rx;obtain⟨its,r,ht,hz⟩:=I.tuple hx;have d6:its.toArray.size=xs.length:=by rw[zO];exact r.length.symm
 refine⟨"tuple",_,jo.lookup,ht.typeIs,?_⟩;refine HT.getItem_tuple_cut ht hs pl pu (by rw[d6];exact hw) ?_ (by rw[d6];exact hz);rw[d6];refine⟨.ref s.heap.objs.size,_,I.laid (t':=s.toks) (o:=.tup (eg xs lo hi)) (λb ob q=>zc _ q) (zr _) ?_,rfl,q _ (I.hok.fresh (zr _))⟩;exact⟨zq (lg xs lo hi) hz,_,(r.drop (HT.sIx xs.length 0 lo)).take (HT.sIx xs.length xs.length hi-HT.sIx xs.length 0 lo),pH _ _,.new _ _⟩
def Gp(K:aab):R2:=λx y H Q=>∃a b xs ys,x=.ref a/\y=.ref b/\SqT K H a xs/\SqT K H b ys/\xs≠[]/\xs.length+ys.length<=Ð /\
 (ys=[]->Q (.ref a) H)/\(ys≠[]->∀p,H p=Á->Q (.ref p) (upd H p (.tup (xs++ys))))
def Vals.nil_iff{xs:List V}{us:List Ã}(r:Vals xs us):us=[]↔xs=[]:=by
 cases r with
 | nil=>simp
 | cons _ _=>simp
def Bl:kT X (ä .Add) (Gp X.K):=by
 intro ag s σ H x y v u Q I rx ry h;obtain⟨a,b,xs,ys,rfl,rfl,ha,hb,hx,hz,q1,q2⟩:=h;cases rx;cases ry;obtain⟨its,r1,p1,_⟩:=I.tuple ha;obtain⟨Au,r2,p2,_⟩:=I.tuple hb;refine HT.cat_tup p1 p2 (λz=>hx (r1.nil_iff.mp z)) (λz=>⟨.ref a,H,I,rfl,q1 (r2.nil_iff.mp z)⟩) (λz=>?_) (by rw[<-r1.length,<-r2.length];exact hz);refine⟨.ref s.heap.objs.size,_,I.laid (t':=s.toks) (o:=.tup (xs++ys)) (λb ob q=>zc _ q) (zr _) ?_,rfl,q2 (λw=>z (r2.nil_iff.mpr w)) _ (I.hok.fresh (zr _))⟩;exact⟨by rw[zR];exact hz,_,r1.append r2,pH _ _,.new _ _⟩
end
end L2
namespace L2
open PySem PySem.Spec PyProof.Rows
def y8(n:Nat)(i:Int):Option Nat:=if 0<=i then (if i<n then À i.toNat else Á) else if -(n:Int)<=i then À (i+n).toNat else Á
def atI{α:Type}(xs:List α)(i:Int):Option α:=(y8 xs.length i).bind λj=>xs[j]?
def Ku{n:Nat}{i:Int}{j:Nat}(h:y8 n i=À j):seqIndex? i n=À j/\j<n/\-(n:Int)<=i/\i<n:=by
 unfold y8 at h;by_cases h0:0<=i
 .rw[zQ h0] at h
  by_cases h1:i<n
  .rw[zQ h1] at h
   have e:i.toNat=j:=zX h;exact⟨by rw[seqIndex_of h0 h1,e],by omega,by omega,h1⟩
  .rw[zW h1] at h;cases h
 .rw[zW h0] at h
  by_cases h1:-(n:Int)<=i
  .rw[zQ h1] at h
   have e:(i+n).toNat=j:=zX h;exact⟨by rw[seqIndex_neg ∅ h1,e],by omega,h1,by omega⟩
  .rw[zW h1] at h;cases h
def nY{α:Type}{xs:List α}{i:Int}{v:α}(h:atI xs i=À v):∃j,seqIndex? i xs.length=À j/\xs[j]?=À v/\j<xs.length/\-(xs.length:Int)<=i/\i<xs.length:=by
 unfold atI at h;cases e:y8 xs.length i with
 | none=>rw[e] at h;cases h
 | some j=>
  rw[e] at h;obtain⟨h1,h2,h3,h4⟩:=Ku e;exact⟨j,h1,h,h2,h3,h4⟩
def fw(b:Î):Prop:=∀o i,subscripted b Ä o i=operate [o,i] (Ń o i)
def KR(X:Cx)(r:R2):Prop:=
 ∀(value slice:Î) (ag:List (Ç×ø)) (s:Å) (σ:St) (H:Hp) (x y:V) (v u:Ã) (Q:VK),Inv X ag σ H s->RelV x v->RelV y u->r x y H Q->
  subscripted slice Ä v u=operate [v,u] (Ń v u)->Æ (Í X.prog X.w) X.A (subscriptTail value slice v u) (EP X ag σ Q) X.xe s
def GL(X:Cx)(id:String)(r:V->List V->Hp->VK->Prop):Prop:=
 ∀(ag:List (Ç×ø)) (s:Å) (σ:St) (H:Hp) (x:V) (xs:List V) (v:Ã) (us:List Ã) (Q:VK),Inv X ag σ H s->RelV x v->Vals xs us->r x xs H Q->
  Æ (Í X.prog X.w) X.A (ķ (.builtin id) (v::us)) (EP X ag σ Q) X.xe s
section
variable{X:Cx}{a b:Î}{ta tb:TE}{pos:ė}
def XB{r:R2}(hr:KR X r)(ha:PE X a ta)(hb:PE X b tb)(hs:fw b):PE X (.Subscript a b pos) (VE r ta tb):=by
 intro ag s σ H Q I h;exact Subscript_ (WY ha hb I h λv u s2 x y H2 I2 rx ry q=>hr a b ag s2 σ H2 x y v u Q I2 rx ry q (hs _ _))
def He(K:aab):R2:=λx y H Q=>∃p xs i v,x=.ref p/\y=.int i/\SqL K H p xs/\atI xs i=À v/\Q v H
def Hn(K:aab):R2:=λx y H Q=>∃p xs i v,x=.ref p/\y=.int i/\SqT K H p xs/\atI xs i=À v/\Q v H
def G7:R2:=λx y H Q=>∃z i c,x=.str z/\y=.int i/\z.length<=Ð/\atI z.cps.toList i=À c/\Q (.str ⟨#[c]⟩) H
def Ub:KR X (He X.K):=by
 intro value slice ag s σ H x y v u Q I rx ry h hs;obtain⟨p,xs,i,z,rfl,rfl,hq,he,q⟩:=h;cases rx;obtain⟨t,rfl⟩:=ry;obtain⟨its,r,pl,hz⟩:=I.list hq;obtain⟨j,h1,h2,h3,h4,h5⟩:=nY he;obtain⟨w,ew,LV⟩:=r.get h2;have hl:=r.length;have hn:=fA;have fin:EP X ag σ Q w s:=⟨z,H,I,LV,q⟩;by_cases h0:0<=i
 .have hj:i.toNat=j:=by
   rw[seqIndex_of h0 h5] at h1;exact zX h1
  exact item_listR pl.isList h0 ∅ (by rw[hj];simpa using ew) fin hs
 .have hj:(i+(its.toArray.size:Int)).toNat=j:=by
   rw[seqIndex_neg ∅ h4] at h1;rw[zO,<-hl];exact zX h1
  exact Ţ (x:=w) pl.isList.typeIs uB.lookup
   (wpAny_getItem_list_neg (Q:=λr s'=>r=w/\EP X ag σ Q r s') pl.isList ∅ (by rw[zO]<;>omega) ∅ (by rw[hj];simpa using ew) ⟨rfl,fin⟩) hs
def Za:KR X (Hn X.K):=by
 intro value slice ag s σ H x y v u Q I rx ry h hs;obtain⟨p,xs,i,z,rfl,rfl,hq,he,q⟩:=h;cases rx;obtain⟨t,rfl⟩:=ry;obtain⟨its,r,pl,hz⟩:=I.tuple hq;obtain⟨j,h1,h2,h3,h4,h5⟩:=nY he;obtain⟨w,ew,LV⟩:=r.get h2;have hl:=r.length;have hn:=fA;have fin:EP X ag σ Q w s:=⟨z,H,I,LV,q⟩;exact Ţ (x:=w) pl.typeIs slot_tuple_getitem.lookup
  (getItem_tuple (j:=j) (Q:=λr s'=>r=w/\EP X ag σ Q r s') pl ∅ ∅ (by rw[zO,<-hl];exact h1) (by simpa using ew) ⟨rfl,fin⟩) hs
def Df:KR X G7:=by
 intro value slice ag s σ H x y v u Q I rx ry h hs;obtain⟨z,i,c,rfl,rfl,hz,he,q⟩:=h;obtain⟨t,rfl⟩:=rx;obtain⟨t',rfl⟩:=ry;obtain⟨j,h1,h2,h3,h4,h5⟩:=nY he;have hl:z.cps.toList.length=z.length:=by simp[Str.length]
 rw[hl] at h1 h4 h5;have hn:=fA
 exact tail_any (typeIs_str s z t) slot_str_getitem.lookup (getItem_str (c:=c) (by
  have e1:decide (i < -(2 ^ 63:Int))=Ä:=jj ∅;have e2:decide (i>=2 ^ 63)=Ä:=jj ∅
  rw[e1,e2,uR]) (by rw[h1];simpa using h2) ⟨.str ⟨#[c]⟩,H,I.tok _,⟨_,rfl⟩,q⟩) hs
def K4(its:List Ã)(n j:Nat)(u:Ã):á (·.setIfInBounds j u) { cls:=.type "list",data:=.seq its.toArray n }={ cls:=.type "list",data:=.seq (its.set j u).toArray n }:=by
 simp[á]
theorem Inv.lst{ag:List (Ç×ø)}{σ:St}{H:Hp}{s:Å}{p:Ç}{xs:List V}(I:Inv X ag σ H s)(h:H p=À (.lst xs)) :
  ∃(its:List Ã) (n:Nat),Vals xs its/\s.heap.get? p=À { cls:=.type "list",data:=.seq its.toArray n }/\xs.length<=Ð:=by
 obtain⟨z,its,n,r,e⟩:=I.hok p _ h;exact⟨its,n,r,e,z⟩
def Inv.lstUpd{ag:List (Ç×ø)}{σ:St}{H:Hp}{s:Å}{p:Ç}{xs ys:List V}{its its':List Ã}{n n':Nat}{f:ø->ø}(I:Inv X ag σ H s)(h:H p=À (.lst xs))
  (ho:s.heap.get? p=À { cls:=.type "list",data:=.seq its.toArray n }) (hf:f { cls:=.type "list",data:=.seq its.toArray n }={ cls:=.type "list",data:=.seq its'.toArray n' }) (r:Vals ys its') (hz:ys.length<=Ð) (t:Nat) :
  Inv X ag σ (upd H p (.lst ys)) { s with heap:=s.heap.update p f,toks:=t }:=by
 have e:(s.heap.update p f).get? p=À { cls:=.type "list",data:=.seq its'.toArray n' }:=by
  rw[jK f ho (by rw[hf]<;>rfl),hf]
 refine I.write (x:=p) (e:=p) (by rw[h];trivial) (.inl rfl) (λb u hb q=>(qu _ _ (jq hb)).trans q) ⟨_,e⟩ ?_;exact⟨hz,its',n',r,e⟩
def Gd:V->V->V->Hp->(Hp->Prop)->Prop:=λo i v H Q=>∃p xs k j,o=.ref p/\i=.int k/\H p=À (.lst xs)/\y8 xs.length k=À j/\Q (upd H p (.lst (xs.set j v)))
def set_list:JH X Gd:=by
 intro ag s σ H o i v ov iv u Q I ro ri rv h;obtain⟨p,xs,k,j,rfl,rfl,hp,hj,q⟩:=h;cases ro;obtain⟨t,rfl⟩:=ri;obtain⟨its,n,r,ho,hz⟩:=I.lst hp;obtain⟨h1,h2,h3,h4⟩:=Ku hj;have hl:=r.length;have hn:=fA;have I':Inv X ag σ (upd H p (.lst (xs.set j v))) { s with heap:=s.heap.update p (á (·.setIfInBounds j u)) }:=
  I.lstUpd hp ho (K4 its n j u) (r.set rv j) (by rw[List.length_set];exact hz) s.toks
 by_cases h0:0<=k
 .have hk:k.toNat=j:=by
   rw[seqIndex_of h0 h4] at h1;exact zX h1
  exact PySem.W.ki_setAt ho h0 ∅ (by rw[zO,<-hl];exact h4) (by rw[hk];exact⟨_,I',q⟩)
 .have hk:(k+(its.toArray.size:Int)).toNat=j:=by
   rw[seqIndex_neg ∅ h3] at h1;rw[zO,<-hl];exact zX h1
  exact PySem.W.ki_setBack ho ∅ (by rw[zO,<-hl];exact h3) ∅ (by rw[hk];exact⟨_,I',q⟩)
def tX(lo hi:Option Int)(n:Nat):(Ę lo hi Á n).1=((HT.sIx n 0 lo:Nat):Int)/\(Ę lo hi Á n).2.1=((HT.sIx n n hi:Nat):Int)/\(Ę lo hi Á n).2.2=1:=by
 refine⟨?_,?_,rfl⟩
 .cases lo with
  | none=>simp[Ę,HT.sIx]
  | some i=>
   erw[Ę,HT.sIx,Option.getD_none,show(1:Int)>0 by decide,je];by_cases h:i<0
   .erw[h,je]<;>omega
   .erw[h,jy]<;>omega
 .cases hi with
  | none=>simp[Ę,HT.sIx]
  | some i=>
   erw[Ę,HT.sIx,Option.getD_none,show(1:Int)>0 by decide,je];by_cases h:i<0
   .erw[h,je]<;>omega
   .erw[h,jy]<;>omega
theorem rG(its:List Ã)(lo hi:Option Int):slicePick its.toArray lo hi Á=((its.drop (HT.sIx its.length 0 lo)).take (HT.sIx its.length its.length hi-HT.sIx its.length 0 lo)).toArray:=by
 obtain⟨h1,h2,h3⟩:=tX lo hi its.toArray.size;unfold slicePick;rw[h1,h2,h3];erw[sliceRange_one,pick_run,zO]<;>rfl
def G2(K:aab):V->Option Int->Option Int->Hp->VK->Prop:=λx lo hi H Q=>∃a xs,x=.ref a/\SqL K H a xs/\∀p,H p=Á->Q (.ref p) (upd H p (.lst (eg xs lo hi)))
def Z2:Vd X (G2 X.K):=by
 intro ag s σ H x v vl vu lo hi sl Q I rx hs pl pu h;obtain⟨a,xs,rfl,hx,q⟩:=h;cases rx;obtain⟨its,r,ht,hz⟩:=I.list hx;have d6:=r.length;refine⟨"list",_,uB.lookup,ht.isList.typeIs,?_⟩;refine pQ ht.isList hs pl pu .none (by simp) ?_ (by rw[zO]<;>omega);rw[rG,<-d6];refine⟨.ref s.heap.objs.size,_,I.laid (t':=s.toks) (o:=.lst (eg xs lo hi)) (λb ob q=>zc _ q) (zr _) ?_,rfl,q _ (I.hok.fresh (zr _))⟩;exact⟨zq (lg xs lo hi) hz,_,0,(r.drop (HT.sIx xs.length 0 lo)).take (HT.sIx xs.length xs.length hi-HT.sIx xs.length 0 lo),zE _ rfl⟩
def gW:qo X (.builtin "len") (λxs H Q=>∃p ys,xs=[.ref p]/\(SqL X.K H p ys\/SqT X.K H p ys)/\Q (.int ys.length) H):=by
 intro ag s σ H xs us Q I r h;obtain⟨p,ys,rfl,hq,q⟩:=h;obtain⟨u,rfl,rx⟩:=vals1 r;cases rx;have hn:=fA;rcases hq with hq | hq
 .obtain⟨its,r',pl,hz⟩:=I.list hq
  have d6:=r'.length;exact Calls.call_len_list pl.isList (by erw[zO]<;>omega) ⟨.int ys.length,H,I.tok _,⟨s.toks+1,by rw[zO,d6]⟩,q⟩
 .obtain⟨its,r',pl,hz⟩:=I.tuple hq
  have d6:=r'.length;exact len_tuple pl (by erw[zO]<;>omega) ⟨.int ys.length,H,I.tok _,⟨s.toks+1,by rw[zO,d6]⟩,q⟩
def rZ:qo X (.builtin "len") (λxs H Q=>∃z,xs=[.str z]/\z.length<=Ð/\Q (.int z.length) H):=by
 intro ag s σ H xs us Q I r h;obtain⟨z,rfl,hz,q⟩:=h;obtain⟨u,rfl,t,rfl⟩:=vals1 r;have hn:=fA;exact len_str ∅ ⟨.int z.length,H,I.tok _,⟨_,rfl⟩,q⟩
def gM:qo X (.type "list") (λxs H Q=>∃p ys,xs=[.ref p]/\(SqL X.K H p ys\/SqT X.K H p ys)/\∀l,H l=Á->Q (.ref l) (upd H l (.lst ys))):=by
 intro ag s σ H xs us Q I r h;obtain⟨p,ys,rfl,hq,q⟩:=h;obtain⟨u,rfl,rx⟩:=vals1 r;cases rx;have fin:∀(its:List Ã),Vals ys its->ys.length<=Ð->∀(h':Õ) (c':Nat),(∀b o',s.heap.get? b=À o'->h'.get? b=À o')->
   h'.get? s.heap.objs.size=À { cls:=.type "list",dict:=Á,data:=.seq its.toArray c',slots:=#[] }->EP X ag σ Q (.ref s.heap.objs.size) { s with heap:=h' }:=λits r' hz h' c' kp e=>
  ⟨.ref s.heap.objs.size,_,I.laid (t':=s.toks) kp (zr _) (show ObjOk X.prog X.w _ h' _ (.lst ys) from ⟨hz,its,c',r',e⟩),rfl,q _ (I.hok.fresh (zr _))⟩
 rcases hq with hq | hq
 .obtain⟨its,r',pl,hz⟩:=I.list hq
  have d6:=r'.length;obtain⟨o,ho,hc,n,hd⟩:=pl.isList;exact call_list_seq p (.inl rfl) ho hc hd (λh' c' kp e=>fin its r' hz h' c' kp e) (by erw[zO]<;>omega)
 .obtain⟨its,r',pl,hz⟩:=I.tuple hq
  have d6:=r'.length;obtain⟨o,ho,hc,n,hd⟩:=pl;exact call_list_seq p (.inr rfl) ho hc hd (λh' c' kp e=>fin its r' hz h' c' kp e) (by erw[zO]<;>omega)
def gF:qo X (.type "tuple") (λxs H Q=>∃p ys,xs=[.ref p]/\((SqL X.K H p ys/\∀l,H l=Á->Q (.ref l) (upd H l (.tup ys)))\/(SqT X.K H p ys/\Q (.ref p) H))):=by
 intro ag s σ H xs us Q I r h;obtain⟨p,ys,rfl,h⟩:=h;obtain⟨u,rfl,rx⟩:=vals1 r;cases rx;rcases h with ⟨hq,q⟩ | ⟨hq,q⟩
 .obtain⟨its,r',pl,hz⟩:=I.list hq
  have d6:=r'.length;refine call_tuple_list pl.isList (λh' kp=>?_) (by erw[zO]<;>omega);have I1:Inv X ag σ H { s with heap:=h' }:=I.kept (t':=s.toks) kp;have I2:Inv X ag σ (upd H h'.objs.size (.tup ys)) { s with heap:=h'.push { cls:=.type "tuple",data:=.seq its.toArray } }:=
   I1.laid (t':=s.toks) (λb o e=>zc _ e) (zr _) (show ObjOk X.prog X.w _ _ _ (.tup ys) from ⟨hz,its,r',pH _ _,.new _ _⟩)
  exact⟨.ref h'.objs.size,_,I2,rfl,q _ (I1.hok.fresh (zr _))⟩
 .obtain⟨its,r',pl,hz⟩:=I.tuple hq
  exact call_tuple_same pl ⟨.ref p,H,I,rfl,q⟩
def D0(K:aab)(T:String)(x:V)(H:Hp):Prop:=match x with
 | .str _=>T="str"
 | .int _=>T="int"
 | .ref p=>(T="list" /\ ∃xs,SqL K H p xs)\/(T="tuple" /\ ∃o,K.lookup p=À o/\o.cls=.type "tuple" /\ o.dict=Á) \/
   (T="dict" /\ ((∃cx,H p=À (.dK cx))\/∃cx,H p=À (.dT cx)))\/(T="set" /\ ∃S n,H p=À (.set S n))
 | _=>False
def J6{ag:List (Ç×ø)}{σ:St}{H:Hp}{s:Å}{T:String}{x:V}{v:Ã}(I:Inv X ag σ H s)(r:RelV x v)(ty:D0 X.K T x H) :
  s.TypeIs v T/\∀a,v=.ref a->∃ob,s.heap.get? a=À ob/\ob.dict=Á:=by
 cases x with
 | str z=>
  obtain⟨t,rfl⟩:=r;cases (show T="str" from ty);exact⟨typeIs_str s z t,λ_ e=>nomatch e⟩
 | int i=>
  obtain⟨t,rfl⟩:=r;cases (show T="int" from ty);exact⟨uA s i t,λ_ e=>nomatch e⟩
 | ref p=>
  cases r;rcases ty with ⟨rfl,xs,hq⟩ | ⟨rfl,o,hk,hc,hd⟩ | ⟨rfl,hk⟩ | ⟨rfl,S,n,hk⟩
  .obtain⟨its,_,pl,_⟩:=I.list hq
   refine⟨pl.isList.typeIs,λa e=>?_⟩;cases e;obtain⟨o,n,e,c,hd,_⟩:=pl;exact⟨o,e,hd⟩
  .refine⟨⟨o,I.kIn p o hk,hc⟩,λa e=>?_⟩
   cases e;exact⟨o,I.kIn _ o hk,hd⟩
  .have z:∃o,s.heap.get? p=À o/\o.ExactDict:=by
    rcases hk with ⟨cx,hk⟩ | ⟨cx,hk⟩
    .obtain⟨_,_,_,_,o,_,_,e,ex,_⟩:=I.hok p _ hk
     exact⟨o,e,ex⟩
    .obtain⟨_,_,_,_,o,_,_,e,ex,_⟩:=I.hok p _ hk
     exact⟨o,e,ex⟩
   obtain⟨o,e,ex⟩:=z;refine⟨⟨o,e,ex.1⟩,λa e2=>?_⟩;cases e2;exact⟨o,e,ex.2.1⟩
  .obtain⟨o,_,_,_,e,ex,_⟩:=I.hok p _ hk
   refine⟨⟨o,e,ex.1⟩,λa e2=>?_⟩;cases e2;exact⟨o,e,ex.2.1⟩
 | _=>exact ę ty
def CZ(K:aab)(T:String)(r:V->List V->Hp->VK->Prop)(to:TE):TE:=λσ H Q=>to σ H λx H1=>D0 K T x H1/\r x [] H1 Q
def GK(K:aab)(T:String)(r:V->List V->Hp->VK->Prop)(to:TE)(t:TA):TE:=λσ H Q=>to σ H λx H1=>D0 K T x H1/\t σ H1 λxs H2=>r x xs H2 Q
variable{o e:Î}{es:List Î}{to:TE}{t:TA}{name:È}{apos cpos:ė}{T id:String}{r:V->List V->Hp->VK->Prop}
def Cc(pa:PlainAttrs T)(slot:Slot T name id)(Nq:typeOf (.builtin id)=pure (.type "method_descriptor"))(hm:GL X id r)(ho:PE X o to)
  (Ah:↥(Ď o name X.env (å o X.env)=å o X.env)) (Ai:↥((apos.endLine==cpos.line)=Â)):PE X (.Call (.Attribute o name apos) [] [] cpos) (CZ X.K T r to):=by
 intro ag s σ H Q I h;refine wpAny_Call_method0_late Ah Ai (kg (ho ag s σ H _ I h) ?_);rintro v s1 ⟨x,H1,I1,r1,ty,q1⟩;obtain⟨h1,h2⟩:=J6 I1 r1 ty;exact⟨T,id,pa,slot,Nq,h1,h2,wA rfl (PySem.evalArgs_none (hm ag s1 σ H1 x [] v [] Q I1 r1 .nil q1))⟩
def XQ(pa:PlainAttrs T)(slot:Slot T name id)(Nq:typeOf (.builtin id)=pure (.type "method_descriptor"))(hm:GL X id r)(ho:PE X o to)(ha:PA X (e::es) t)
  (Ah:↥(Ď o name X.env (å o X.env)=å o X.env))
  (A4:((Þ cpos (Ê (e::es) X.env)).all (λx=>!x.1)&&(Ş cpos (ĭ [] X.env)).all (λx=>x.1.isSome)
   && decide ((e::es).length+([]:List ĩ).length+(if ([]:List ĩ).isEmpty then 0 else 1)<30))=Â:=by rfl)
  (Ai:↥((apos.endLine==cpos.line)=Â)) (hs:↥(Ê (e::es) X.env=(Ä,å e X.env)::Ê es X.env)) (Al:↥((Þ cpos (Ê es X.env)).any (·.1)=Ä)) :
  PE X (.Call (.Attribute o name apos) (e::es) [] cpos) (GK X.K T r to t):=by
 intro ag s σ H Q I h;refine ţ Ah A4 Ai rfl (kg (ho ag s σ H _ I h) ?_);rintro v s1 ⟨x,H1,I1,r1,ty,q1⟩;obtain⟨h1,h2⟩:=J6 I1 r1 ty;refine⟨T,id,pa,slot,Nq,h1,h2,?_⟩;have hA:=ha cpos ag s1 σ H1 _ I1 q1;rw[hs] at hA ⊢;refine wA (by show(Ä||(Þ cpos (Ê es X.env)).any (·.1))=Ä;rw[Al]<;>rfl) (xR ?_);exact kg hA λus s2 Np=>(by obtain⟨vs,H2,I2,r2,q2⟩:=Np;exact hm ag s2 σ H2 x vs v us Q I2 r1 r2 q2)
end
end L2
namespace L2
open PySem PySem.Spec PyProof.Rows
def Z3(X:Cx)(id:String)(r:V->List V->Hp->VK->Prop):Prop:=
 ∀(ag:List (Ç×ø)) (s:Å) (σ:St) (H:Hp) (x:V) (xs:List V) (v:Ã) (us:List Ã) (Q:VK),Inv X ag σ H s->RelV x v->Vals xs us->r x xs H Q->
  Æ (Í X.prog X.w) X.A (ķ (.builtin id) (v::us)) (EP X ag σ Q) X.xe s
def Vals.one{x:V}{us:List Ã}(h:Vals [x] us):∃u,us=[u]/\RelV x u:=by
 cases h with | cons r t=>cases t;exact⟨_,rfl,r⟩
theorem Vals.zero:∀{us:List Ã},Vals [] us->us=[]
 | _,.nil=>rfl
theorem Vals.dropLast{xs:List V}{us:List Ã}(h:Vals xs us):Vals xs.dropLast us.dropLast:=by
 induction h with
 | nil=>exact .nil
 | cons r t ih=>
  cases t with
  | nil=>exact .nil
  | cons q t'=>exact .cons r ih
theorem Vals.reverse{xs:List V}{us:List Ã}(h:Vals xs us):Vals xs.reverse us.reverse:=by
 induction h with
 | nil=>exact .nil
 | cons r t ih=>rw[xK,xK];exact Vals.append ih (.cons r .nil)
theorem Vals.rep{xs:List V}{us:List Ã}(h:Vals xs us):∀k:Nat,Vals (É k xs).flatten (É k us).flatten
 | 0=>.nil
 | k+1=>by
  rw[qL,qL,vq,vq];exact Vals.append h (Vals.rep h k)
theorem JN{α:Type}(l:List α):l.eraseIdx (l.length-1)=l.dropLast:=by
 induction l with
 | nil=>rfl
 | cons a r ih=>
  cases r with
  | nil=>rfl
  | cons b r=>
   have e:(a::b::r).length-1=((b::r).length-1)+1:=by
    have h1:(a::b::r).length=r.length+2:=rfl;have h2:(b::r).length=r.length+1:=rfl;omega
   rw[e,uP,ih];all_goals rfl
theorem foldl_rep(its:List Ã):∀(k:Nat) (acc:List Ã),
  Ŋ (λx1 x2=>x1++x2) acc.toArray (É k its.toArray)=(acc++(É k its).flatten).toArray
 | 0,acc=>by simp
 | k+1,acc=>by
  have e:acc.toArray++its.toArray=(acc++its).toArray:=by simp
  have e2:(acc++its)++(É k its).flatten=acc++(É (k+1) its).flatten:=by
   rw[qL,vq,yo]
  rw[<-e2,<-foldl_rep its k (acc++its),<-e,qL,List.foldl_cons]
section
variable{X:Cx}{ag:List (Ç×ø)}{σ:St}{H:Hp}{s:Å}{l b:Ç}{xs ys zs:List V}
def Inv.lset{its its':List Ã}{n:Nat}{f:Array Ã->Array Ã}{t':Nat}(I:Inv X ag σ H s)(hH:H l=À (.lst xs))
  (e:s.heap.get? l=À { cls:=.type "list",data:=.seq its.toArray n }) (hf:f its.toArray=its'.toArray) (hv:Vals ys its') (hz:ys.length<=Ð) :
  Inv X ag σ (upd H l (.lst ys)) { s with heap:=s.heap.update l (á f),toks:=t' }:=by
 have q:=PySem.IsL.update e f;rw[hf] at q;refine I.write (x:=l) (e:=l) (by rw[hH];exact trivial) (.inl rfl) (λb' u hb hu=>(qu s.heap (á f) (jq hb)).trans hu) ⟨_,q⟩ ?_;exact⟨hz,its',_,hv,q⟩
def Inv.lnew{its:List Ã}{t':Nat}(I:Inv X ag σ H s)(hv:Vals ys its)(hz:ys.length<=Ð) :
  Inv X ag σ (upd H s.heap.objs.size (.lst ys)) { s with heap:=s.heap.push { cls:=.type "list",data:=.seq its.toArray },toks:=t' }:=
 I.laid (λ_ _ q=>zc _ q) (zr _) ⟨hz,its,0,hv,zE _ rfl⟩
theorem Inv.fresh(I:Inv X ag σ H s):H s.heap.objs.size=Á:=I.hok.fresh (zr _)
def Inv.lstM(I:Inv X ag σ H s)(hH:H l=À (.lst xs)):xs.length<=Ð/\∃(its:List Ã) (n:Nat),Vals xs its/\xs.length=its.length/\s.heap.get? l=À { cls:=.type "list",data:=.seq its.toArray n }:=by
 obtain⟨z,its,n,r,e⟩:=I.hok l _ hH;exact⟨z,its,n,r,r.length,e⟩
def YM{n:Nat}(h:n<=Ð):ð n=Ä:=by
 unfold ð;exact jj ∅
end
section
variable{X:Cx}
def Bx:V->List V->Hp->VK->Prop:=λx vs H Q=>∃l xs y,x=.ref l/\vs=[y]/\H l=À (.lst xs)/\xs.length<Ð/\Q .non (upd H l (.lst (xs++[y])))
def ou:Z3 X "list.append" Bx:=by
 intro ag s σ H x vs v us Q I rx rv h;obtain⟨l,xs,y,rfl,rfl,hH,hz,q⟩:=h;cases rx;obtain⟨u,rfl,ru⟩:=rv.one;obtain⟨z,its,n,r,hl,e⟩:=I.lstM hH;refine wB F.slot_list_append ⟨_,e,rfl⟩ F.entry_list_append (F.args_list_append_2 _ _) (PySem.list_append l its.toArray n u (by rw[zO];omega)) ⟨e,?_⟩;refine⟨.non,_,I.lset (its':=its++[u]) hH e (by simp) (r.append (.cons ru .nil)) ?_,rfl,q⟩;rw[zR,qt];omega
def Hl:V->List V->Hp->VK->Prop:=λx vs H Q=>∃l xs y,x=.ref l/\vs=[]/\H l=À (.lst xs)/\xs[xs.length-1]?=À y/\Q y (upd H l (.lst xs.dropLast))
def Ck:Z3 X "list.pop" Hl:=by
 intro ag s σ H x vs v us Q I rx rv h;obtain⟨l,xs,y,rfl,rfl,hH,hy,q⟩:=h;cases rx;have MU:=rv.zero;subst MU;obtain⟨z,its,n,r,hl,e⟩:=I.lstM hH;obtain⟨u,hu,ru⟩:=r.get hy;have Rx:its.toArray[its.toArray.size-1]?=À u:=by
  show its.toArray[its.length-1]?=À u
  rw[<-yN,<-hl];exact hu
 refine wB F.slot_list_pop ⟨_,e,rfl⟩ F.entry_list_pop (F.args_list_pop_1 _) (MeetsSeq.list_pop_last l its.toArray n u Rx (by rw[zO];omega)) ⟨e,?_⟩;refine⟨y,_,I.lset (its':=its.dropLast) hH e ?_ r.dropLast ?_,ru,q⟩
 .show its.toArray.eraseIdxIfInBounds (its.toArray.size-1)=its.dropLast.toArray
  rw[zO,List.eraseIdxIfInBounds_toArray,JN]
 .rw[List.length_dropLast]
  omega
def len_rep{α:Type}(xs:List α)(k:Nat):(É k xs).flatten.length=k*xs.length:=by
 induction k with
 | zero=>simp
 | succ k ih=>rw[qL,vq,zR,ih,Nat.succ_mul,Nat.add_comm]
end
end L2
namespace L2
open PySem PySem.Spec PyProof.Rows
section
variable{κ:Type}[DecidableEq κ]
def xh(cx:List (κ×V))(k:κ):Option V:=(cx.find? λkv=>decide (kv.1=k)).map (·.2)
def putK(cx:List (κ×V))(k:κ)(v:V):List (κ×V):=
 if (cx.any λkv=>decide (kv.1=k))=Â then cx.map (λkv=>if kv.1=k then (kv.1,v) else kv) else cx++[(k,v)]
def lR{p:κ×V}{r:List (κ×V)}{k:κ}(e:p.1=k):xh (p::r) k=À p.2:=by simp[xh,jX,e]
def lC{p:κ×V}{r:List (κ×V)}{k:κ}(e:¬p.1=k):xh (p::r) k=xh r k:=by simp[xh,jX,e]
theorem tm(k:κ):∀cx:List (κ×V),(cx.any λkv=>decide (kv.1=k))=(xh cx k).isSome
 | []=>rfl
 | p::r=>by
  rw[wD];by_cases e:p.1=k
  .erw[lR e,kO e,Bool.true_or,Option.isSome_some]
  .rw[lC e,jj e,Bool.false_or];exact tm k r
def fi(cx:List (κ×V))(k:κ)(v:V):(putK cx k v).length<=cx.length+1:=by
 unfold putK;split
 .rw[zH];omega
 .rw[zR,zG,kI];omega
theorem RelO.isSome_eq{o:Option V}{u:Option Ã}(r:RelO o u):o.isSome=u.isSome:=by
 cases o with
 | none=>cases u with
  | none=>rfl
  | some _=>exact(show False from r).elim
 | some _=>cases u with
  | none=>exact(show False from r).elim
  | some _=>rfl
theorem RelO.getD{o:Option V}{u:Option Ã}{d:V}{d':Ã}(r:RelO o u)(rd:RelV d d'):RelV (o.getD d) (u.getD d'):=by
 cases o with
 | none=>cases u with
  | none=>exact rd
  | some _=>exact(show False from r).elim
 | some _=>cases u with
  | none=>exact(show False from r).elim
  | some _=>exact r
def KV.val{cx:List (κ×V)}{vs:List (κ×Ã)}(r:KV cx vs)(k:κ):RelO (xh cx k) (valueAt vs k):=by
 unfold KV at r;induction r with
 | nil=>exact õ
 | @cons p q ps qs h t ih=>
  obtain⟨h1,h2⟩:=h;by_cases e:p.1=k
  .have e':q.1=k:=h1.symm.trans e
   have b:valueAt (q::qs) k=À q.2:=by simp[valueAt,jX,e']
   rw[lR e,b];exact h2
  .have e':¬q.1=k:=λz=>e (h1.trans z)
   have b:valueAt (q::qs) k=valueAt qs k:=by simp[valueAt,jX,e']
   rw[lC e,b];exact ih
theorem KV.any{cx:List (κ×V)}{vs:List (κ×Ã)}(r:KV cx vs)(k:κ):(cx.any λkv=>decide (kv.1=k))=vs.any λkv=>decide (kv.1=k):=by
 unfold KV at r;induction r with
 | nil=>rfl
 | cons h t ih=>rw[wD,wD,ih,h.1]
def KV.repl{cx:List (κ×V)}{vs:List (κ×Ã)}(r:KV cx vs)(k:κ){y:V}{u:Ã}(ry:RelV y u) :
  KV (cx.map λkv=>if kv.1=k then (kv.1,y) else kv) (vs.map λkv=>if kv.1=k then (kv.1,u) else kv):=by
 unfold KV at r ⊢;induction r with
 | nil=>exact .nil
 | @cons p q ps qs h t ih=>
  rw[zx,zx];refine .cons ?_ ih;obtain⟨h1,h2⟩:=h;by_cases e:p.1=k
  .rw[zQ e,zQ (h1.symm.trans e)];exact⟨h1,ry⟩
  .rw[zW e,zW (λz=>e (h1.trans z))];exact⟨h1,h2⟩
def KV.put{cx:List (κ×V)}{vs:List (κ×Ã)}(r:KV cx vs)(k:κ){y:V}{u:Ã}(ry:RelV y u):KV (putK cx k y) (stored vs k u):=by
 unfold putK stored;rw[r.any k];by_cases e:(vs.any λkv=>decide (kv.1=k))=Â
 .rw[zQ e,zQ e];exact r.repl k ry
 .rw[zW e,zW e];exact Paired.snoc r ⟨rfl,ry⟩
theorem KV.length{cx:List (κ×V)}{vs:List (κ×Ã)}(r:KV cx vs):cx.length=vs.length:=Paired.length r
end
def m9{P:Ï}{w:Ñ}{k:Key}{u:Ã}(r:RelV (kV k) u):(qf P w).is k u=Â:=by
 cases k with
 | inl i=>obtain⟨t,e⟩:=(show ∃t,u=ī i t from r);subst e;exact ZK P w i t
 | inr x=>obtain⟨t,e⟩:=(show ∃t,u=Ĝ x t from r);subst e;exact ZS P w x t
theorem rD{P:Ï}{w:Ñ}:∀{ks:List Key} {us:List Ã},Vals (ks.map kV) us->ItemsAre (qf P w) ks us
 | [],_,r=>by rw[kZ] at r;cases r;exact .nil
 | k::ks,_,r=>by
  rw[zx] at r;cases r with
  | cons h t=>exact .cons (m9 h) (rD t)
abbrev KT(H:Hp):List (List Key×V)->List (List Key×Ç×Ã)->Prop:=Paired λp q=>p.1=q.1/\H q.2.1=À (.tup (p.1.map kV))/\RelV p.2 q.2.2
def KT.val{H:Hp}{cx:List (List Key×V)}{xs:List (List Key×Ç×Ã)}(r:KT H cx xs)(k:List Key):RelO (xh cx k) ((atKey xs k).map (·.2)):=by
 induction r with
 | nil=>exact õ
 | @cons p q ps qs h t ih=>
  obtain⟨h1,_,h2⟩:=h;by_cases e:p.1=k
  .have e':q.1=k:=h1.symm.trans e
   have b:atKey (q::qs) k=À q.2:=by simp[atKey,jX,e']
   rw[lR e,b];exact h2
  .have e':¬q.1=k:=λz=>e (h1.trans z)
   have b:atKey (q::qs) k=atKey qs k:=by simp[atKey,jX,e']
   rw[lC e,b];exact ih
def KT.repl{H:Hp}{cx:List (List Key×V)}{xs:List (List Key×Ç×Ã)}(r:KT H cx xs)(k:List Key){y:V}{u:Ã}(ry:RelV y u) :
  KT H (cx.map λkv=>if kv.1=k then (kv.1,y) else kv) (xs.map (putAt k u)):=by
 induction r with
 | nil=>exact .nil
 | @cons p q ps qs h t ih=>
  rw[zx,zx];refine .cons ?_ ih;obtain⟨h1,h2,h3⟩:=h;unfold putAt;by_cases e:p.1=k
  .rw[zQ e,zQ (h1.symm.trans e)];exact⟨h1,h2,ry⟩
  .rw[zW e,zW (λz=>e (h1.trans z))];exact⟨h1,h2,h3⟩
def KT.put{H:Hp}{cx:List (List Key×V)}{xs:List (List Key×Ç×Ã)}(r:KT H cx xs)(k:List Key){b:Ç}{y:V}{u:Ã}(hb:H b=À (.tup (k.map kV)))(ry:RelV y u) :
  KT H (putK cx k y) (ń xs k b u):=by
 have e:(cx.any λkv=>decide (kv.1=k))=(atKey xs k).isSome:=by
  rw[tm,(r.val k).isSome_eq,Option.isSome_map]
 unfold putK ń;rw[e];by_cases q:(atKey xs k).isSome=Â
 .rw[zQ q,zQ q];exact r.repl k ry
 .rw[zW q,zW q];exact Paired.snoc r ⟨rfl,hb,ry⟩
def KT.keeps{H H':Hp}{cx:List (List Key×V)}{xs:List (List Key×Ç×Ã)}(r:KT H cx xs)(ht:∀b ys,H b=À (.tup ys)->H' b=À (.tup ys)):KT H' cx xs:=
 Paired.mapP r λ_ _ z=>⟨z.1,ht _ _ z.2.1,z.2.2⟩
section
variable{P:Ï}{w:Ñ}{H:Hp}{h:Õ}{a:Ç}
def Xu{u:HO}(ok:HOk P w H h)(e:Rd H a u):ObjOk P w H h a u:=e.ok ok
def mG{cx:List (Key×V)}(ok:HOk P w H h)(e:Rd H a (.dK cx)):cx.length<=Ð/\(a==à)=Ä/\∃vs,KV cx vs/\h.DictOf (qf P w) a vs:=
 show ObjOk P w H h a (.dK cx) from Xu ok e
def Xy{cx:List (Key×V)}(ok:HOk P w H h)(e:H a=À (.dK cx)):cx.length<=Ð/\(a==à)=Ä/\∃vs,KV cx vs/\h.DictOf (qf P w) a vs:=mG ok (.inl e)
def Zh{ks:List Key}(ok:HOk P w H h)(e:H a=À (.tup (ks.map kV))):(Ĥ (qf P w)).is h ks a:=by
 obtain⟨_,its,r,⟨o,h1,h2,n,h3⟩,_⟩:=(show ObjOk P w H h a (.tup (ks.map kV)) from ok a _ e);exact⟨o,its.toArray,n,h1,h2,h3,by simpa using rD r⟩
def JB{cx:List (List Key×V)}(ok:HOk P w H h)(e:Rd H a (.dT cx)):cx.length<=Ð/\(a==à)=Ä /\
  ∃xs,KT H cx xs/\h.DictOfH (Ĥ (qf P w)) a xs:=by
 obtain⟨z,y,xs,r,o,es,ep,h1,h2,h3,h4,h5⟩:=(show ObjOk P w H h a (.dT cx) from Xu ok e);refine⟨z,y,xs,r,o,es,ep,h1,h2,h3,h4,λx hx=>?_,h5⟩;have all:∀{l:List (List Key×V)} {m:List (List Key×Ç×Ã)},KT H l m->∀x∈m,(Ĥ (qf P w)).is h x.1 x.2.1:=by
  intro l m q;induction q with
  | nil=>intro x hx;exact nomatch hx
  | @cons p q ps qs hq t ih=>
   intro x hx;rcases zj.mp hx with e | hx
   .subst e
    exact Zh ok (by rw[<-hq.1];exact hq.2.1)
   .exact ih x hx
 exact all r x hx
def uu{cx:List (List Key×V)}(ok:HOk P w H h)(e:H a=À (.dT cx)):cx.length<=Ð/\(a==à)=Ä /\
  ∃xs,KT H cx xs/\h.DictOfH (Ĥ (qf P w)) a xs:=JB ok (.inl e)
end
def B9(H:Hp)(a:Ç)(y:V)(r:Option V):Prop:=
 (∃cx k,Rd H a (.dK cx)/\y=kV k/\r=xh cx k)\/∃cx k b,Rd H a (.dT cx)/\y=.ref b/\H b=À (.tup (k.map kV))/\r=xh cx k
def GT(H:Hp)(a:Ç)(y v:V)(H':Hp):Prop:=
 (∃cx k,H a=À (.dK cx)/\y=kV k/\cx.length<Ð/\H'=upd H a (.dK (putK cx k v))) \/
 ∃cx k b,H a=À (.dT cx)/\y=.ref b/\H b=À (.tup (k.map kV))/\cx.length<Ð/\H'=upd H a (.dT (putK cx k v))
section
variable{X:Cx}{ag:List (Ç×ø)}{σ:St}{H:Hp}{s:Å}{a:Ç}{y v:V}{u r:Ã}{o:Option V}{A:Ø}{E:Ã->Å->Prop}
def Inv.big(I:Inv X ag σ H s):à<s.heap.objs.size:=by
 have h:â<s.heap.objs.size:=(I.mod.glob.keeps I.bk).lt;exact u9 (by decide) h
def iQ{h':Õ}{t':Nat}{ob:HO}(I:Inv X ag σ H s)(mu:oC (H a))(hs:Ü a s.heap h')(he:∃q,h'.get? a=À q)(new:ObjOk X.prog X.w (upd H a ob) h' a ob) :
  Inv X ag σ (upd H a ob) { s with heap:=h',toks:=t' }:=
 I.write (x:=a) (e:=a) mu (.inl rfl) (λb q hb z=>(hs.2 b hb).trans z) he new
def l5{P:Ï}{w:Ñ}{H':Hp}{h':Õ}{cx:List (Key×V)}{vs:List (Key×Ã)}(z:cx.length<=Ð)(hd:(a==à)=Ä)(rel:KV cx vs)(dd:h'.DictOf (qf P w) a vs) :
  ObjOk P w H' h' a (.dK cx):=⟨z,hd,vs,rel,dd⟩
def Vp{H':Hp}{Q:Unit->Å->Prop}(hu:A.units+1<û)(I:Inv X ag σ H s)(g:GT H a y v H')(ry:RelV y u)(rv:RelV v r)(h:∀s',Inv X ag σ H' s'->Q () s') :
  Æ (Í X.prog X.w) A (setItem (.ref a) u r) Q E s:=by
 rcases g with ⟨cx,k,e,ey,l,eH⟩ | ⟨cx,k,b,e,ey,eb,l,eH⟩
 .subst ey eH
  obtain⟨z,hd,vs,rel,dd⟩:=Xy I.hok e;have hz:vs.length<=Ð:=by rw[<-rel.length];exact z
  have hl:(putK cx k v).length<=Ð:=by have:=fi cx k v;omega
  refine wpAny_setItem_pairs (hsz:=hz) (m9 ry) dd λh' Iu hs=>h _ ?_
  have he:∃q,h'.get? a=À q:=let ⟨q,_,_,hq,_⟩:=Iu;⟨q,hq⟩;exact iQ I (by rw[e];exact õ) hs he (l5 hl hd (rel.put k rv) Iu)
 .subst ey eH
  cases (show u=Ë b from ry);obtain⟨z,hd,xs,rel,dd⟩:=uu I.hok e;have hz:xs.length<=Ð:=by rw[<-Paired.length rel];exact z
  have hl:(putK cx k v).length<=Ð:=by have:=fi cx k v;omega
  refine wpAny_setItem_heap (hsz:=hz) (uo hu) (Zh I.hok eb) dd λh' Iu hs=>h _ ?_
  obtain⟨q,es,ep,hq,h2,h3,h4,_,h5⟩:=Iu;refine iQ I (by rw[e];exact õ) hs ⟨q,hq⟩ ⟨hl,hd,_,(rel.put k eb rv).keeps λc ys ec=>?_,q,es,ep,hq,h2,h3,h4,h5⟩;rw[kG (F9 ec e (λz=>nomatch z))];exact ec
end
def sU{P:Ï}{w:Ñ}{H:Hp}(h:Õ)(hb:à<h.objs.size):ObjOk P w H (h.push { cls:=.type "dict",data:=.dict #[] }) h.objs.size (.dK []):=
 ⟨jQ _,jG.mpr (jq (zM hb)),[],.nil,Heap.DictOf.new h⟩
def B6:TE:=λ_ H Q=>∀p,H p=Á->Q (.ref p) (upd H p (.dK []))
section
variable{X:Cx}{pos:ė}
def Ze:PE X (.Dict [] [] pos) B6:=λag s σ H Q I h=>
 wpAny_Dict_empty ⟨.ref s.heap.objs.size,_,I.laid (a:=s.heap.objs.size) (o:=.dK []) (t':=s.toks) (λ_ _ q=>zc _ q) (zr _) (sU s.heap I.big),rfl,h _ (I.hok.fresh (zr _))⟩
end
def nB:List (TE×TE)->St->Hp->(List (V×V)->Hp->Prop)->Prop
 | [],_,H,Q=>Q [] H
 | (tk,tv)::r,σ,H,Q=>tk σ H λx H1=>tv σ H1 λy H2=>nB r σ H2 λps H3=>Q ((x,y)::ps) H3
abbrev VV:List (V×V)->List (Ã×Ã)->Prop:=Paired λp q=>RelV p.1 q.1/\RelV p.2 q.2
def Qc(X:Cx)(pos:ė)(keys:List (Option Î))(values:List Î)(Iv:List (TE×TE)):Prop:=
 ∀(ag:List (Ç×ø)) (s:Å) (σ:St) (H:Hp) (Q:List (V×V)->Hp->Prop),Inv X ag σ H s->nB Iv σ H Q->
  Æ (Í X.prog X.w) X.A (evalPairs (pairTrees keys values X.env pos)) (λvs s'=>∃ps H',Inv X ag σ H' s'/\VV ps vs/\Q ps H') X.xe s
def Bt{X:Cx}{pos:ė}:Qc X pos [] [] []:=λag s σ H Q I h=>pairTrees_nil_walk ⟨[],H,I,.nil,h⟩
def YC{X:Cx}{pos:ė}{k v:Î}{ks:List (Option Î)}{vs:List Î}{tk tv:TE}{Iv:List (TE×TE)}(hk:PE X k tk)(hv:PE X v tv)(hr:Qc X pos ks vs Iv) :
  Qc X pos (À k::ks) (v::vs) ((tk,tv)::Iv):=λag s σ H Q I h=>
 pairTrees_cons_walk (kg (hk ag s σ H _ I h) λu s1 ⟨x,H1,I1,rx,q1⟩=>kg (hv ag s1 σ H1 _ I1 q1) λw2 s2 ⟨y,H2,I2,ry,q2⟩=>
  kg (hr ag s2 σ H2 _ I2 q2) λws s3 ⟨ps,H3,I3,rel,q3⟩=>⟨(x,y)::ps,H3,I3,.cons ⟨rx,ry⟩ rel,q3⟩)
def w8(cx more:List (Key×V)):List (Key×V):=more.foldl (λacc kv=>putK acc kv.1 kv.2) cx
def KV.merge:∀{more:List (Key×V)} {rs:List (Key×Ã)} {cx:List (Key×V)} {vs:List (Key×Ã)},KV more rs->KV cx vs->KV (w8 cx more) (merged vs rs):=by
 intro more rs cx vs r;unfold KV at r;induction r generalizing cx vs with
 | nil=>intro q;exact q
 | @cons p q ps qs h t ih=>
  intro r0;have e:KV (putK cx p.1 p.2) (stored vs q.1 q.2):=by
   have:=r0.put p.1 h.2;rw[<-h.1];exact this
  exact ih e
theorem cE:∀(more cx:List (Key×V)),(w8 cx more).length<=cx.length+more.length
 | [],cx=>by show cx.length<=cx.length+0;omega
 | p::r,cx=>by
  have h1:=cE r (putK cx p.1 p.2);have h2:=fi cx p.1 p.2;show(w8 (putK cx p.1 p.2) r).length<=_
  rw[zG];omega
theorem l9{P:Ï}{w:Ñ}:∀{cx:List (Key×V)} {ws:List (Ã×Ã)},VV (cx.map λkv=>(kV kv.1,kv.2)) ws->∃rs,Carries (qf P w) ws rs/\KV cx rs
 | [],_,r=>by rw[kZ] at r;cases r;exact⟨[],õ,.nil⟩
 | p::cx,_,r=>by
  rw[zx] at r;cases r with
  | @cons a b as bs h t=>
   obtain⟨rs,c,q⟩:=l9 (P:=P) (w:=w) t;obtain⟨b1,b2⟩:=b;exact⟨(p.1,b2)::rs,⟨m9 h.1,rfl,c⟩,.cons ⟨rfl,h.2⟩ q⟩
def FV(Iv:List (TE×TE)):TE:=λσ H Q=>∀p,H p=Á->nB Iv σ (upd H p (.dK [])) λps H2=>H2 p=À (.dK [])/\∃cx:List (Key×V),ps=cx.map (λkv=>(kV kv.1,kv.2))/\cx.length<=15/\Q (.ref p) (upd H2 p (.dK (w8 [] cx)))
def Uy{X:Cx}{pos:ė}{keys:List (Option Î)}{values:List Î}{Iv:List (TE×TE)}(h:Qc X pos keys values Iv)(pf:keys.all (·.isSome)=Â)(hl:keys.length=values.length)(h0:keys≠[])
  (Nr:keys.length<=15):PE X (.Dict keys values pos) (FV Iv):=by
 intro ag s σ H Q I q;have hn:=I.hok.fresh (zr s.heap.objs.size);have I1:=I.laid (a:=s.heap.objs.size) (o:=.dK []) (h':=s.heap.push { cls:=.type "dict",data:=.dict #[] }) (t':=s.toks) (λ_ _ q=>zc _ q) (zr _) (sU s.heap I.big);refine wpAny_Dict_walk (knd:=qf X.prog X.w) pf hl h0 Nr (kg (h ag _ σ _ _ I1 (q _ hn)) ?_);rintro ws s2 ⟨ps,H2,I2,rel,e,cx,ep,lk,q2⟩;subst ep;obtain⟨rs,c,rk⟩:=l9 (P:=X.prog) (w:=X.w) rel;obtain⟨z,hd,Ry,r0,dd⟩:=Xy I2.hok e;cases r0;refine⟨rs,c,dd,λh' Iu hs=>⟨.ref s.heap.objs.size,_,?_,rfl,q2⟩⟩;have hz:(w8 [] cx).length<=Ð:=by
  have h1:=cE cx [];rw[kI] at h1;rw[jB];omega
 have he:∃q,h'.get? s.heap.objs.size=À q:=let ⟨q,_,_,hq,_⟩:=Iu;⟨q,hq⟩;exact iQ I2 (by rw[e];exact õ) hs he (l5 hz hd (rk.merge .nil) Iu)
structure M2(X:Cx)(o:Î)(m:È)(apos:ė)(e f:Î)(cpos:ė):Prop where
 base:Ď o m X.env (å o X.env)=å o X.env
 few:((Þ cpos (Ê [e,f] X.env)).all (λx=>!x.1)&&(Ş cpos (ĭ [] X.env)).all (λx=>x.1.isSome)
  && decide (([e,f]:List Î).length+([]:List ĩ).length+(if ([]:List ĩ).isEmpty then 0 else 1)<30))=Â
 line:(apos.endLine==cpos.line)=Â
 trees:Þ cpos (Ê [e,f] X.env)=[(Ä,å e X.env),(Ä,å f X.env)]
def GR(H:Hp)(a:Ç):Prop:=(∃cx,Rd H a (.dK cx))\/∃cx,Rd H a (.dT cx)
def DA{X:Cx}{ag:List (Ç×ø)}{σ:St}{H:Hp}{s:Å}{a:Ç}(I:Inv X ag σ H s)(d:GR H a) :
  s.TypeIs (.ref a) "dict" /\ (∀b,Ë a=.ref b->∃ob,s.heap.get? b=À ob/\ob.dict=Á)/\(a==à)=Ä:=by
 rcases d with ⟨cx,e⟩ | ⟨cx,e⟩
 .obtain⟨_,hd,vs,_,dd⟩:=mG I.hok e
  refine⟨dd.typeIs,λb q=>?_,hd⟩;cases q;obtain⟨ob,_,_,h1,h2,_⟩:=dd;exact⟨ob,h1,h2.2.1⟩
 .obtain⟨_,hd,xs,_,dd⟩:=JB I.hok e
  refine⟨dd.typeIs,λb q=>?_,hd⟩;cases q;obtain⟨ob,_,_,h1,h2,_⟩:=dd;exact⟨ob,h1,h2.2.1⟩
section
variable{X:Cx}{ag:List (Ç×ø)}{σ:St}{H:Hp}{s:Å}{a:Ç}{y d:V}{u r:Ã}{o:Option V}{A:Ø}{E:Ã->Å->Prop}
def Cb{Q:Ã->Å->Prop}(hu:A.units+1<û)(I:Inv X ag σ H s)(g:B9 H a y o)(ry:RelV y u)(rd:RelV d r)(h:∀w' s',Inv X ag σ H s'->RelV (o.getD d) w'->Q w' s') :
  Æ (Í X.prog X.w) A (ķ (.builtin "dict.get") [.ref a,u,r]) Q E s:=by
 rcases g with ⟨cx,k,e,ey,l⟩ | ⟨cx,k,b,e,ey,eb,l⟩
 .subst ey
  obtain⟨z,hd,vs,rel,dd⟩:=mG I.hok e;refine call_meetsIn yI dd.typeIs uV (uM _ _ _) (meets_dict_get_default (qf X.prog X.w) a (m9 ry) hd r) ⟨_,dd.mapOf,h _ _ (I.tok _) ?_⟩;rw[l];exact(rel.val k).getD rd
 .subst ey
  cases (show u=Ë b from ry);obtain⟨z,hd,xs,rel,dd⟩:=JB I.hok e;refine call_meetsIn yI dd.typeIs uV (uM _ _ _) (meetsH_dict_get_default (Ĥ (qf X.prog X.w)) a b hd r) ⟨uo hu,k,xs,Zh I.hok eb,dd,h _ _ (I.tok _) ?_⟩;rw[l];exact(rel.val k).getD rd
end
def Fw(td ty tx:TE):TE:=λσ H Q=>td σ H λx H1=>∃a,x=.ref a/\GR H1 a/\ty σ H1 λy H2=>tx σ H2 λz H3=>∃o,B9 H3 a y o/\Q (o.getD z) H3
section
variable{X:Cx}{o e f:Î}{apos cpos:ė}{td ty tx:TE}
def YO(hu:X.A.units+1<û)(ho:PE X o td)(he:PE X e ty)(hf:PE X f tx)(m:M2 X o "get" apos e f cpos):PE X (.Call (.Attribute o "get" apos) [e,f] [] cpos) (Fw td ty tx):=by
 intro ag s σ H Q I h;refine wpAny_Call_method m.base m.few m.line PySem.F.plainAttrs_dict yI PySem.F.type_dict_get (kg (ho ag s σ H _ I h) ?_);rintro u s1 ⟨x,H1,I1,rx,a,ex,d,q1⟩;subst ex;obtain rfl:u=Ë a:=rx;obtain⟨t1,t2,_⟩:=DA I1 d;refine⟨t1,t2,?_⟩;rw[m.trees]
 refine wA rfl (xR (qj (kg (he ag s1 σ H1 _ I1 q1) λiv s2 ⟨y,H2,I2,ry,q2⟩=>
  qj (kg (hf ag s2 σ H2 _ I2 q2) λfv s3 ⟨z,H3,I3,rz,ov,g,q3⟩=>qb ?_))))
 exact Cb hu I3 g ry rz λw' s4 I4 LV=>⟨_,H3,I4,LV,q3⟩
end
section
variable{X:Cx}{ag:List (Ç×ø)}{σ:St}{H:Hp}{s:Å}{a:Ç}{cx:List (Key×V)}{A:Ø}{E:Ã->Å->Prop}
def WT{Q:Ã->Å->Prop}(I:Inv X ag σ H s)(e:Rd H a (.dK cx))(h:∀p s',H p=Á->Inv X ag σ (upd H p (.dK cx)) s'->Q (.ref p) s'):Æ (Í X.prog X.w) A (ķ (.type "dict") [.ref a]) Q E s:=by
 obtain⟨z,hd,vs,rel,dd⟩:=mG I.hok e;refine kt_call_dict hd dd (by rw[<-rel.length];exact z) λh' Iu hs=>?_
 refine h _ _ (I.hok.fresh (zr _)) (I.laid (a:=s.heap.objs.size) (o:=.dK cx) (t':=s.toks) (λb q hq=>?_) (zr _) (l5 z (jG.mpr (jq (zM I.big))) rel Iu));exact(hs.2 b (zM (zJ hq))).trans (zc _ hq)
end
end L2
namespace Att
open PySem PySem.W PySem.Calls PyProof.Rows
def l7{P:Params}{h:Õ}:∀(ns:List Int) (vs:List Ã),WellAll P h vs (ns.map WData.int)->IntsAre vs ns:=by
 intro ns;induction ns with
 | nil=>
  intro vs w;rw[kZ] at w;cases w;exact .nil
 | cons n ns ih=>
  intro vs w;rw[zx] at w;cases w with
  | cons a b=>
   cases a;exact .cons _ _ (ih _ b)
def Vk{l:OpenLaw}{n:Nat}(hn:l.most=À n){P:Params}{h:Õ}{args:List WData}{vals:List Ã}
  (Iw:l.row.toRowW.claim.pre args=Â) (Nt:WellAll P h vals args) :
  ∃a vs ns,vals=[Ë a]/\args=[WData.list (ns.map WData.int)]/\h.get? a=À { cls:=.type "list",data:=.seq vs.toArray }/\IntsAre vs ns/\ns.length<=n:=by
 have Rz:WShape.hasAll [] args [.list .int]=Â:=(pre_splitW Iw).1;have hc:l.pre.holds [] { args:=args }=Â:=(pre_splitW Iw).2;obtain⟨d,r,rfl,h1,h2⟩:=hasAllW_cons Rz;obtain rfl:=hasAllW_nil h2;obtain⟨xs,rfl,h3⟩:=hasW_list h1;obtain⟨ns,rfl⟩:=items_int h3;have d6:ns.length<=n:=by
  unfold OpenLaw.pre at hc;have h4:(WTm.not (.lt (.lit (.int (n:Int))) (.len (.arg 0)))).holds [] { args:=[.list (ns.map .int)] }=Â:=by
   have h4:=(holds_andW hc).1;rw[hn] at h4;exact h4
  have h5:=condW_of h4 (w_not (w_lt w_lit (w_len_list (w_arg rfl))));rw[zH] at h5;refine qe λq=>?_
  have q':(n:Int)<((ns.length:Nat):Int):=by omega
  first
   | (rw[kO q'] at h5;exact absurd h5 (by decide))
   | (simp at h5;omega)
 cases Nt with
 | cons w1 w2=>
  cases w2;cases w1 with
  | list ho pf=>exact⟨_,_,ns,rfl,rfl,ho,l7 ns _ pf,d6⟩
theorem Qi(l:OpenLaw)(args:List WData):l.row.toRowW.claim.post args (.bool Â) args=Â:=
 postW_of (r:=l.row.toRowW) (X:=(Â==Â))
  (show WShape.has [] (.bool Â) .bool=Â by first | rfl | decide | simp[WShape.has,WShape.arms,WShape.armsAll])
  (show(WTm.eq .res (.lit (.bool Â))).value [] { args:=args,res:=À (.bool Â),after:=args }=À (.bool (Â==Â)) from w_eq_bool (w_res rfl) w_lit) rfl
def attach_call{l:OpenLaw}{n:Nat}{q:Ï}{loose:List È}{XP:(È->Option Ã)->Õ->Prop}{YP:Ñ->Õ->Prop}{d:DefRec}
  (hn:l.most=À n) (LW:d.params.defaults=[])
  (ķ:∀(w:Ñ) (s₀ d5:Å) (mg mb:È->Option Ã) (fa:Ç) (o:ø) (pm cd doc:Ã) (a:Ç) (vs:List Ã) (ns:List Int),
   Ground q loose [] XP w s₀ mg mb d5.heap->YP w d5.heap->
   d5.heap.get? fa=À o->o.data=.func (docDef d.name d.params d.body d.scope pm cd doc)->d5.heap.CodeRec cd d.name->mg d.name=À (.ref fa)->
   d5.heap.get? a=À { cls:=.type "list",data:=.seq vs.toArray }->IntsAre vs ns->ns.length<=n->d5.gens = #[]->
   Ĺ (Í l.prog w) Ť (.call (.ref fa) ⟨[.ref a],[]⟩) (λr s'=>r=.ok (.ret (.bool Â))/\OldK d5.heap s'.heap/\s'.os=d5.os/\Œ s'.gens) d5) :
  WalkO q loose XP YP l.row.toRowW d [] (λf vs=>PySem.call f vs):=by
 intro w s₀ d5 mg mb G Y fa o pm cd doc dV kV ho hd Ep hD LX hg args vals as Iw RA hrd Nt hlo;obtain rfl:dV=.none:=Dflts.none hD LW;obtain rfl:kV=.none:=Dflts.noKw hD;obtain⟨a,vs,ns,rfl,rfl,AI,EK,d6⟩:=Vk hn Iw Nt;refine enter_call (wI (ķ w s₀ d5 mg mb fa o pm cd doc a vs ns G Y ho (fd_plain hd) Ep LX AI EK d6 hg) λr s' hq=>?_);obtain⟨rfl,h2,h3,h4⟩:=hq;exact⟨.inl ⟨.bool Â,.bool Â,[],rfl,λ_=>rfl,.bool Â,Qi l _,λ_=>⟨Ğ,λ_ hm=>(nomatch hm)⟩⟩,h2,h3,h4⟩
end Att
namespace L2
open PySem PySem.Spec PyProof.Rows
theorem oB:∀{vs:List Ã} {ns:List Int},IntsAre vs ns->Vals (ns.map V.int) vs
 | _,_,.nil=>.nil
 | _,_,.cons n t h=>.cons ⟨t,rfl⟩ (oB h)
def Only(H:Hp):Prop:=∀b,H b=Á\/∃o xs,H b=À (.frz o (.lst xs))
def YU{P:Ï}{w:Ñ}{K:aab}{mg mb:È->Option Ã}{CX:gH}{k:Nat}{fa a:Ç}{fd:ć}{x:È}{sp:Sp}{d5:Å}{vs:List Ã}{ns:List Int}
  (KX:K.In d5.heap) (Aq:d5.heap.Ns â mg) (hb:d5.heap.Ns builtinsNs mb) (RB:∀x:È,x≠"__name__"->mb x=Ù x) (Nu:d5.heap.NoLimit) (hg:d5.gens = #[])
  (ha:d5.heap.get? a=À { cls:=.type "list",data:=.seq vs.toArray }) (hi:IntsAre vs ns) (hl:ns.length<=Ð) (hr:Room k Ť)
  (F:∀base:Õ,K.In base->base.Ns â mg->FnOk P w K mg base CX k fa fd [x] sp) (LY:∀(s:Å) (u:Ã),BindsTo s fd ⟨[u],[]⟩ [(x,u)])
  (EJ:∀H:Hp,Only H->SqL K H a (ns.map V.int)->sp [.ref a] H (λv _=>v=.bl Â) λ_ _ _=>False)
  (Nv:∀H e s',CX [] H d5 (λ_ _ _=>False) e s'->False) :
  Ĺ (Í P w) Ť (.call (.ref fa) ⟨[.ref a],[]⟩) (λr s'=>r=.ok (.ret (.bool Â))/\OldK d5.heap s'.heap/\s'.os=d5.os/\Œ s'.gens) d5:=by
 have rv:=oB hi;have Ek:=hi.length;have core:∀H:Hp,Only H->SqL K H a (ns.map V.int)->HOk P w H d5.heap->(∀b,H b≠Á->b=a)->(H a≠Á->K.lookup a=Á)->
   Ĺ (Í P w) Ť (.call (.ref fa) ⟨[.ref a],[]⟩) (λr s'=>r=.ok (.ret (.bool Â))/\OldK d5.heap s'.heap/\s'.os=d5.os/\Œ s'.gens) d5:=by
  intro H hO hS hok hA hK;have Eb:∀{b:Ç} {o:ø},d5.heap.get? b=À o->H b=Á->(gu d5.heap H).get? b=À o:=λe n=>WQ e n
  have LP:∀{b:Ç} {o:ø} {es:Array ą} {ep:Nat},d5.heap.get? b=À o->o.data=.dict es ep->H b=Á:=λ{b o es ep} e d=>by
   cases q:H b with
   | none=>rfl
   | some u=>
    have e':b=a:=hA b (by rw[q];simp);subst e';rw[ha] at e;cases e;have d':Data.seq vs.toArray _=Data.dict es ep:=d;cases d'
  have MV:∀{b:Ç} {m:È->Option Ã},d5.heap.Ns b m->(gu d5.heap H).Ns b m:=λ{b m} ⟨o,es,ep,e,d,r⟩=>⟨o,es,ep,Eb e (LP e d),d,r⟩
  have OP:K.In (gu d5.heap H):=λb o e=>Eb (KX b o e) (by
   cases q:H b with
   | none=>rfl
   | some u=>
    have e':b=a:=hA b (by rw[q];simp);subst e'
    rw[hK (by rw[q];simp)] at e;cases e)
  have hM:Mod K mg (gu d5.heap H):=⟨OP,MV Aq,⟨mb,MV hb,RB⟩,let ⟨mc,h1,h2⟩:=Nu;⟨mc,MV h1,h2⟩⟩;have e0:Env0 P w K mg (gu d5.heap H) Ť [] d5 H:=⟨rfl,hM,λb o e=>Bf e,Nat.le_of_eq (VH _ _),trivial,λb hb=>absurd (show b∈([]:List Ç) from hb) (by simp),hok,.of_eq hg⟩;refine wI ((F _ OP (MV Aq)).run Ť [] d5 H ⟨[.ref a],[]⟩ [.ref a] [.ref a] _ _ hr e0 (LY d5 (.ref a)) (.cons rfl .nil) (EJ H hO hS)) λr s' h=>?_
  cases r with
  | error e=>exact(Nv H e s' h).elim
  | ok fl=>
   cases fl with
   | next=>exact ę h
   | brk=>exact ę h
   | cont=>exact ę h
   | ret u=>
    obtain⟨v,H',os,bare,un,Nw,r',q⟩:=h;have q':v=.bl Â:=q;subst q';obtain rfl:u=Š Â:=r';refine⟨rfl,OldK.of_keep λb o e=>?_,os,bare⟩;cases q:H b with
    | none=>exact un.keep b o e q (by intro z;exact absurd (show b∈([]:List Ç) from z) (by simp)) (by simp)
    | some u=>
     rcases hO b with z | ⟨ob,xs,z⟩
     .rw[q] at z;cases z
     .have z2:=un.frzs b ob _ z
      obtain⟨e1,_⟩:=hok b _ z;obtain⟨e2,_⟩:=Nw b _ z2;rw[e] at e1;cases e1;exact e2
 cases hk:K.lookup a with
 | some o=>
  have e:=KX a o hk;rw[ha] at e;cases e;refine core (λ_=>Á) (λ_=>.inl rfl) (.inr ⟨_,vs.toArray,_,hk,rfl,rfl,rfl,by rw[zO,Ek];exact hl,by simpa using rv⟩) (λb u z=>by have z':(Á:Option HO)=À u:=z;cases z') (λb z=>absurd rfl z) λz=>absurd rfl z
 | none=>
  refine core (λb=>if b=a then À (.frz { cls:=.type "list",data:=.seq vs.toArray } (.lst (ns.map V.int))) else Á) (λb=>?_) (.inl (.inr ⟨{ cls:=.type "list",data:=.seq vs.toArray },zQ rfl⟩)) (λb u z=>?_) (λb z=>?_) λ_=>hk
  .by_cases hb:b=a
   .exact .inr ⟨_,_,zQ hb⟩
   .exact .inl (zW hb)
  .by_cases hb:b=a
   .have z':=(zQ hb).symm.trans z
    cases z';subst hb;exact⟨ha,by rw[zH];exact hl,vs,_,rv,ha⟩
   .have z':=(zW hb).symm.trans z
    cases z'
  .by_cases hb:b=a
   .exact hb
   .exact absurd (zW hb) z
end L2
namespace L2
open PySem PySem.Spec PyProof.Rows
end L2
namespace L2
open PySem PySem.Spec PyProof.Rows
def xy(s:ď):Arguments:=match s with
 | .FunctionDef _ a _ _ _ _ _ _ _ _=>a
 | _=>{ posonlyargs:=[],args:=[],vararg:=Á,kwonlyargs:=[],kw_defaults:=[],kwarg:=Á,defaults:=[] }
def ve(s:ď):List ď:=match s with
 | .FunctionDef _ _ b _ _ _ _ _ _ _=>b
 | _=>[]
def ja(s:ď):î:=match s with
 | .FunctionDef _ _ _ _ _ _ sc _ _ _=>sc
 | _=>{ kind:=.function,names:=[],isGenerator:=Ä,isCoroutine:=Ä }
abbrev dR:gH:=λ_ _ _ _ _ _=>False
abbrev E0:XK:=λ_ _ _=>False
def X2{X:Cx}:mr dR X E0:=λ_ _ _ _ _ _ _ h=>h.elim
structure Fun(K:aab)(x qual:È)(st:ď)(f:Ç)(fd:ć):Prop where
 ex:∃(oc:Ã) (od:Option Ç) (kV doc pm:Ã) (an:Option Ç) (xI ct:Ã) (Es:Array (Option Ã)),
  fd=Č x qual (xy st) (ve st) (ja st) .none kV doc pm an xI ct/\K.lookup f=À ⟨oc,od,.func fd,Es⟩/\İ K xI qual=Â
 kp:ï K (.ref f)=Â
section
variable{P:Ï}{w:Ñ}{K:aab}{mg:È->Option Ã}{base:Õ}
def Fun.ok{x qual:È}{st:ď}{f:Ç}{fd:ć}{N ps:List È}{k:Nat}{sp:Sp}(F:Fun K x qual st f fd)(S:FnScope N ps (ja st))(len:∀vs H Q E,sp vs H Q E->vs.length=ps.length)
  (EI:∀(xI:Ã) (A:Ø) (outer:List Env) (s:Å) (H:Hp) (vs:List V) (Q:VK) (E:XK),Room k (A.deeper (Ŗ qual (ja st) s.heap.objs.size f xI))->sp vs H Q E->
   ∃t,PSs (gS dR P w K mg base N qual (ja st) f xI A outer s H E).nox (ve st) t/\t { nx:=λ_ H'=>Q .non H',rt:=Q } (start N vs) H):FnOk P w K mg base dR (k+1) f fd ps sp:=by
 obtain⟨oc,od,kV,doc,pm,an,xI,ct,Es,rfl,lk,Ep⟩:=F.ex;refine GH lk Ep S len λA outer s H vs Q E hr EJ=>?_
 obtain⟨t,h,q⟩:=EI xI A outer s H vs Q E hr EJ;exact⟨t,h.nox,q⟩
def Fun.binds{x qual:È}{st:ď}{f:Ç}{fd:ć}{ps:List È}(F:Fun K x qual st f fd)
  (h:∀(kV doc pm:Ã) (an:Option Ç) (xI ct:Ã) (us:List Ã),us.length=ps.length->bindArgs (Č x qual (xy st) (ve st) (ja st) .none kV doc pm an xI ct) ⟨us,[]⟩=pure (ps.zip us)):Binds K fd ps []:=by
 obtain⟨oc,od,kV,doc,pm,an,xI,ct,Es,rfl,lk,Ep⟩:=F.ex;exact .all (h kV doc pm an xI ct)
def D4{x qual:È}{st:ď}{f:Ç}{oc:Ã}{od an:Option Ç}{Es:Array (Option Ã)}{kV doc pm xI ct:Ã}(l:K.lookup f=À ⟨oc,od,.func (Č x qual (xy st) (ve st) (ja st) .none kV doc pm an xI ct),Es⟩)
  (c:İ K xI qual=Â) (k:ï K (.ref f)=Â):Fun K x qual st f (Č x qual (xy st) (ve st) (ja st) .none kV doc pm an xI ct):=⟨⟨oc,od,kV,doc,pm,an,xI,ct,Es,rfl,l,c⟩,k⟩
end
end L2
end
set_option bootstrap.genMatcherCode false
set_option genSizeOf false
set_option genSizeOfSpec false
namespace ML
open PySem PySem.Spec PyProof.Rows L2
inductive W where
 | non | bl (b:Bool) | int (i:Int) | str (x:È) | tup (l:List W) | fls (l:List W) | ref (n:Nat) | fdc (l:List (Key×W)) | fn (a:Ç)
 deriving Inhabited
inductive MO where
 | lst (l:List W) | dic (l:List (Key×W)) | ins (c:Nat) (fs:List (È×W)) | tdc (ks:List (List È))
structure Cl where
 c:Nat->Ç
 P:Ï
 w:Ñ
noncomputable def af(P:Ï)(w:Ñ)(a:Ç)(xs:List (List È×Ç×Ã)):Õ->Prop:=λh=>∃o es ep,h.get? a=À o/\o.ExactDict/\o.data=.dict es ep/\es.toList=xs.map (entryOfKey (Ĥ (strKind P w)))
abbrev MH:=List MO
abbrev M(α:Type):=MH->Option (α×MH)
abbrev En:=List (Option W)
abbrev ME:=En->M W
abbrev MT:=En->M Bool
noncomputable def bnd{α β:Type}(m:M α)(f:α->M β):M β:=λh=>match m h with
 | some (a,h')=>f a h'
 | none=>Á
def WC{α β:Type}{m:M α}{f:α->M β}{h h':MH}{a:α}(e:m h=À (a,h')):bnd m f h=f a h':=by unfold bnd;rw[e]
def zD{α β:Type}{m:M α}{f:α->M β}{h:MH}{r:β×MH}(e:bnd m f h=À r):∃a h',m h=À (a,h')/\f a h'=À r:=by
 unfold bnd at e;split at e
 .rename_i a h' e'
  exact⟨a,h',e',e⟩
 .cases e
noncomputable def SqF(K:aab)(μ:List Ç)(H:Hp)(a:Ç)(vs:List V):Prop:=(Rd H a (.lst vs)/\a∉μ) \/
 ∃(o:ø) (its:Array Ã) (n:Nat),K.lookup a=À o/\o.cls=.type "list" /\ o.dict=Á/\o.data=.seq its n/\its.size<=Ð/\Vals vs its.toList
def SqF.sq{K:aab}{μ:List Ç}{H:Hp}(h:SqF K μ H a vs):SqL K H a vs:=h.elim (λh=>.inl h.1) .inr
noncomputable def SqD(μ:List Ç)(H:Hp)(a:Ç)(l:List (Key×V)):Prop:=Rd H a (.dK l)/\a∉μ
section rel
variable(K:aab)(cl:Cl)(μ:List Ç)(H:Hp)
mutual
inductive RW:W->V->Prop
 | non:RW .non .non
 | bl (b:Bool):RW (.bl b) (.bl b)
 | int (i:Int):RW (.int i) (.int i)
 | str (x:È):RW (.str x) (.str x)
 | tup {a:Ç} {vs:List V} {l:List W}:SqT K H a vs->RWs l vs->RW (.tup l) (.ref a)
 | ref {n:Nat} {a:Ç}:μ[n]?=À a->RW (.ref n) (.ref a)
 | fls {a:Ç} {vs:List V} {l:List W}:SqF K μ H a vs->RWs l vs->RW (.fls l) (.ref a)
 | fdc {a:Ç} {l:List (Key×W)} {l':List (Key×V)} {ws:List W} {vs:List V}:SqD μ H a l'->l.map (·.1)=l'.map (·.1)->ws=l.map (·.2)->vs=l'.map (·.2)->RWs ws vs->RW (.fdc l) (.ref a)
 | fn {a:Ç}:RW (.fn a) (.ref a)
inductive RWs:List W->List V->Prop
 | nil:RWs [] []
 | cons {w:W} {v:V} {l:List W} {vs:List V}:RW w v->RWs l vs->RWs (w::l) (v::vs)
end
noncomputable def RKs{κ:Type}(l:List (κ×W))(l':List (κ×V)):Prop:=l.map (·.1)=l'.map (·.1)/\RWs K μ H (l.map (·.2)) (l'.map (·.2))
noncomputable def OR(a:Ç):MO->Prop
 | .lst l=>∃vs,H a=À (.lst vs)/\RWs K μ H l vs
 | .dic l=>∃l',H a=À (.dK l')/\RKs K μ H l l'
 | .ins c fs=>∃dx Io,H a=À (.ins (cl.c c) dx Io)/\RKs K μ H fs Io
 | .tdc ks=>∃xs:List (List È×Ç×Ã),H a=À (.ext (af cl.P cl.w a xs))/\xs.map (·.1)=ks/\ks.Nodup/\(a==à)=Ä/\RWs K μ H (ks.map λk=>.tup (k.map .str)) (xs.map λx=>.ref x.2.1)
structure HR(h:MH):Prop where
 len:μ.length=h.length
 nd:μ.Nodup
 ob:∀(n:Nat) (a:Ç) (o:MO),μ[n]?=À a->h[n]?=À o->OR K cl μ H a o
structure ER(ρ:En)(σ:L2.St):Prop where
 len:ρ.length=σ.length
 at_:∀(i:Nat) (w:W),ρ[i]?=À (À w)->∃v,σ[i]?=À (À v)/\RW K μ H w v
end rel
structure Ext(μ:List Ç)(H:Hp)(d3:List Ç)(H':Hp):Prop where
 pre:μ<+:d3
 fr:∀b o,H b=À o->b∉μ->H' b=À o/\b∉d3
section
variable{K:aab}{cl:Cl}{μ d3 LZ:List Ç}{H H' OQ:Hp}{h h':MH}
def Ext.refl:Ext μ H μ H:=⟨jw _,λ_ _ e n=>⟨e,n⟩⟩
theorem Ext.trans(a:Ext μ H d3 H')(b:Ext d3 H' LZ OQ):Ext μ H LZ OQ:=
 ⟨a.pre.trans b.pre,λc o e n=>let ⟨e1,n1⟩:=a.fr c o e n;b.fr c o e1 n1⟩
def Ext.get(a:Ext μ H d3 H'){n:Nat}(e:μ[n]?=À x):d3[n]?=À x:=by
 obtain⟨r,rfl⟩:=a.pre;rw[zY (zA.mp e).1];exact e
theorem OR.some(q:OR K cl μ H a o):∃u,H a=À u/\oC (À u):=by
 cases o with
 | lst l=>obtain⟨vs,q,_⟩:=q;exact⟨_,q,trivial⟩
 | dic l=>obtain⟨l',q,_⟩:=q;exact⟨_,q,trivial⟩
 | ins c fs=>obtain⟨dx,Io,q,_⟩:=q;exact⟨_,q,trivial⟩
 | tdc ks=>obtain⟨xs,q,_⟩:=q;exact⟨_,q,trivial⟩
def HR.mem_some(R:HR K cl μ H h)(hm:a∈μ):∃u,H a=À u/\oC (À u):=by
 obtain⟨n,hn⟩:=qQ.mp hm;have hl:n<h.length:=by rw[<-R.len];exact(zA.mp hn).1
 exact(R.ob n a h[n] hn (zL hl)).some
def HR.fresh(R:HR K cl μ H h)(e:H a=Á):a∉μ:=λhm=>by
 obtain⟨u,q,_⟩:=R.mem_some hm;rw[e] at q;cases q
def HR.notours(R:HR K cl μ H h)(e:H a=À u)(n:¬oC (À u)):a∉μ:=λhm=>by
 obtain⟨u',q,m⟩:=R.mem_some hm;rw[e] at q;cases q;exact n m
def HR.notup(R:HR K cl μ H h)(e:Rd H a (.tup xs)):a∉μ:=by
 rcases e with e | ⟨o,e⟩
 .exact R.notours e λz=>z
 .exact R.notours e λz=>z
def SqF.ext(E:Ext μ H d3 H')(e:SqF K μ H a vs):SqF K d3 H' a vs:=by
 rcases e with ⟨e | ⟨o,e⟩,n⟩ | e
 .exact .inl ⟨.inl (E.fr _ _ e n).1,(E.fr _ _ e n).2⟩
 .exact .inl ⟨.inr ⟨o,(E.fr _ _ e n).1⟩,(E.fr _ _ e n).2⟩
 .exact .inr e
def SqD.ext(E:Ext μ H d3 H')(e:SqD μ H a l):SqD d3 H' a l:=by
 obtain⟨e | ⟨o,e⟩,n⟩:=e
 .exact⟨.inl (E.fr _ _ e n).1,(E.fr _ _ e n).2⟩
 .exact⟨.inr ⟨o,(E.fr _ _ e n).1⟩,(E.fr _ _ e n).2⟩
def SqT.ext(R:HR K cl μ H h)(E:Ext μ H d3 H')(e:SqT K H a xs):SqT K H' a xs:=by
 rcases e with e | e
 .have n:=R.notup e
  rcases e with e | ⟨o,e⟩
  .exact .inl (.inl (E.fr _ _ e n).1)
  .exact .inl (.inr ⟨o,(E.fr _ _ e n).1⟩)
 .exact .inr e
theorem RW.ext(R:HR K cl μ H h)(E:Ext μ H d3 H'){w:W}(r:RW K μ H w v):RW K d3 H' w v:=
 RW.rec (motive_1:=λw v _=>RW K d3 H' w v) (motive_2:=λl vs _=>RWs K d3 H' l vs) .non .bl .int .str (λs _ r=>.tup (SqT.ext R E s) r) (λe=>.ref (E.get e)) (λs _ r=>.fls (SqF.ext E s) r) (λs k a b _ r=>.fdc (SqD.ext E s) k a b r) .fn .nil (λ_ _ a b=>.cons a b) r
theorem RWs.ext(R:HR K cl μ H h)(E:Ext μ H d3 H'){l:List W}(r:RWs K μ H l vs):RWs K d3 H' l vs:=
 RWs.rec (motive_1:=λw v _=>RW K d3 H' w v) (motive_2:=λl vs _=>RWs K d3 H' l vs) .non .bl .int .str (λs _ r=>.tup (SqT.ext R E s) r) (λe=>.ref (E.get e)) (λs _ r=>.fls (SqF.ext E s) r) (λs k a b _ r=>.fdc (SqD.ext E s) k a b r) .fn .nil (λ_ _ a b=>.cons a b) r
theorem ER.ext(R:HR K cl μ H h)(E:Ext μ H d3 H')(e:ER K μ H ρ σ):ER K d3 H' ρ σ:=
 ⟨e.len,λi w q=>let ⟨v,q1,r⟩:=e.at_ i w q;⟨v,q1,r.ext R E⟩⟩
theorem RWs.length:∀{l:List W} {vs:List V},RWs K μ H l vs->l.length=vs.length
 | _,_,.nil=>rfl
 | _,_,.cons _ t=>jl (· + 1) (RWs.length t)
theorem RWs.get:∀{l:List W} {vs:List V} {i:Nat} {w:W},RWs K μ H l vs->l[i]?=À w->∃v,vs[i]?=À v/\RW K μ H w v
 | _,_,_,_,.nil,e=>by simp at e
 | _,_,0,_,.cons r _,e=>by simp at e;subst e;exact⟨_,rfl,r⟩
 | _,_,i+1,w,.cons _ t,e=>by
  obtain⟨v,h1,h2⟩:=RWs.get (i:=i) (w:=w) t (by simpa using e);exact⟨v,by simpa using h1,h2⟩
theorem RWs.append:∀{l l':List W} {vs El:List V},RWs K μ H l vs->RWs K μ H l' El->RWs K μ H (l++l') (vs++El)
 | _,_,_,_,.nil,s=>s
 | _,_,_,_,.cons r t,s=>.cons r (RWs.append t s)
theorem RWs.take:∀{l:List W} {vs:List V} (n:Nat),RWs K μ H l vs->RWs K μ H (l.take n) (vs.take n)
 | _,_,0,_=>.nil
 | _,_,_+1,.nil=>.nil
 | _,_,n+1,.cons r t=>.cons r (RWs.take n t)
theorem RWs.drop:∀{l:List W} {vs:List V} (n:Nat),RWs K μ H l vs->RWs K μ H (l.drop n) (vs.drop n)
 | _,_,0,r=>r
 | _,_,_+1,.nil=>.nil
 | _,_,n+1,.cons _ t=>RWs.drop n t
theorem RWs.reverse{l:List W}{vs:List V}(r:RWs K μ H l vs):RWs K μ H l.reverse vs.reverse:=by
 have:∀{l:List W} {vs:List V},RWs K μ H l vs->∀{l':List W} {El:List V},RWs K μ H l' El->RWs K μ H (l.reverseAux l') (vs.reverseAux El):=by
  intro l vs r;induction l generalizing vs with
  | nil=>cases r;intro l' El s;exact s
  | cons w l ih=>cases r with | cons r t=>intro l' El s;exact ih t (.cons r s)
 exact this r .nil
theorem RWs.set(r:RW K μ H w v):∀{l:List W} {vs:List V} (i:Nat),RWs K μ H l vs->RWs K μ H (l.set i w) (vs.set i v)
 | _,_,_,.nil=>.nil
 | _,_,0,.cons _ t=>.cons r t
 | _,_,i+1,.cons q t=>.cons q (RWs.set r i t)
theorem RWs.dropLast{l:List W}{vs:List V}(r:RWs K μ H l vs):RWs K μ H l.dropLast vs.dropLast:=by
 induction l generalizing vs with
 | nil=>cases r;exact .nil
 | cons w l ih=>cases r with | cons r t=>cases t with
  | nil=>exact .nil
  | cons a b=>exact .cons r (ih (.cons a b))
theorem RWs.rep(r:RWs K μ H l vs):∀k:Nat,RWs K μ H (É k l).flatten (É k vs).flatten
 | 0=>.nil
 | k+1=>by
  rw[qL,qL,vq,vq];exact r.append (RWs.rep r k)
theorem RWs.ints:∀ns:List Int,RWs K μ H (ns.map W.int) (ns.map V.int)
 | []=>.nil
 | n::r=>.cons (.int n) (RWs.ints r)
theorem OR.ext(R:HR K cl μ H h)(E:Ext μ H d3 H')(e:H' a=H a)(q:OR K cl μ H a o):OR K cl d3 H' a o:=by
 cases o with
 | lst l=>obtain⟨vs,q,r⟩:=q;exact⟨vs,e.trans q,r.ext R E⟩
 | dic l=>obtain⟨l',q,k,r⟩:=q;exact⟨l',e.trans q,k,r.ext R E⟩
 | ins c fs=>obtain⟨dx,Io,q,k,r⟩:=q;exact⟨dx,Io,e.trans q,k,r.ext R E⟩
 | tdc ks=>obtain⟨xs,q,k1,k2,k3,r⟩:=q;exact⟨xs,e.trans q,k1,k2,k3,r.ext R E⟩
def Ext.new(hp:H p=Á):Ext μ H (μ++[p]) (upd H p u):=
 ⟨qy _ _,λb o e n=>by
  have ne:b≠p:=qh e hp
  exact⟨by rw[kG ne];exact e,by simp[n,ne]⟩⟩
def Ext.side(hp:H p=Á):Ext μ H μ (upd H p u):=
 ⟨jw _,λb o e n=>⟨by rw[kG (qh e hp)];exact e,n⟩⟩
theorem HR.side(R:HR K cl μ H h)(hp:H p=Á):HR K cl μ (upd H p u) h:=
 have hm:=R.fresh hp;⟨R.len,R.nd,λn a o e1 e2=>OR.ext R (Ext.side hp) (kG (by rintro rfl;exact hm (jC e1))) (R.ob n a o e1 e2)⟩
theorem HR.new(R:HR K cl μ H h)(hp:H p=Á)(q:OR K cl (μ++[p]) (upd H p u) p o):HR K cl (μ++[p]) (upd H p u) (h++[o]):=by
 have hm:=R.fresh hp;refine⟨by simp[R.len],?_,λn a o' e1 e2=>?_⟩
 .rw[xM]
  exact⟨R.nd,by simp,by simp;exactλa ha=>by rintro rfl;exact hm ha⟩
 .by_cases hn:n<μ.length
  .rw[zY hn] at e1
   rw[zY (by rw[<-R.len];exact hn)] at e2;exact OR.ext R (Ext.new hp) (kG (by rintro rfl;exact hm (jC e1))) (R.ob n a o' e1 e2)
  .rw[ji ∅] at e1
   rw[ji (by rw[<-R.len];omega)] at e2;rw[R.len] at e1;have:n-h.length=0:=by
    by_cases z:n-h.length=0
    .exact z
    .rw[jz (by simp;omega)] at e1;cases e1
   rw[this] at e1 e2;simp at e1 e2;subst e1;subst e2;exact q
def Ext.put{n:Nat}{a:Ç}(hn:μ[n]?=À a):Ext μ H μ (upd H a u):=
 ⟨jw _,λb o e m=>⟨by rw[kG (by rintro rfl;exact m (jC hn))];exact e,m⟩⟩
theorem HR.put{n:Nat}{a:Ç}(R:HR K cl μ H h)(hn:μ[n]?=À a)(q:OR K cl μ (upd H a u) a o):HR K cl μ (upd H a u) (h.set n o):=by
 refine⟨by simp[R.len],R.nd,λm b o' e1 e2=>?_⟩;by_cases hm:m=n
 .subst hm
  rw[hn] at e1;cases e1;rw[qi (by rw[<-R.len];exact(zA.mp hn).1)] at e2;cases e2;exact q
 .rw[qI (jq hm)] at e2
  have ne:b≠a:=by
   rintro rfl;obtain⟨h1,Ii⟩:=zA.mp e1;obtain⟨h2,RD⟩:=zA.mp hn;exact hm ((yx R.nd).mp (Ii.trans RD.symm))
  exact OR.ext R (Ext.put hn) (kG ne) (R.ob m b o' e1 e2)
end
noncomputable def KQ(K:aab)(cl:Cl)(μ:List Ç)(H:Hp)(h':MH)(w:W)(Q:VK):Prop:=
 ∀d3 H' v,Ext μ H d3 H'->HR K cl d3 H' h'->RW K d3 H' w v->Q v H'
inductive tM(K:aab)(cl:Cl)(m:ME)(σ:L2.St)(H:Hp)(Q:VK):Prop
 | mk (μ:List Ç) (h:MH) (ρ:En) (w:W) (h':MH) (p0:HR K cl μ H h) (p1:ER K μ H ρ σ) (p2:m ρ h=À (w,h')) (p3:KQ K cl μ H h' w Q):tM K cl m σ H Q
inductive tMT(K:aab)(cl:Cl)(m:MT)(σ:L2.St)(H:Hp)(Q:Bool->Hp->Prop):Prop
 | mk (μ:List Ç) (h:MH) (ρ:En) (b:Bool) (h':MH) (p0:HR K cl μ H h) (p1:ER K μ H ρ σ) (p2:m ρ h=À (b,h')) (p3:∀d3 H',Ext μ H d3 H'->HR K cl d3 H' h'->Q b H'):tMT K cl m σ H Q
abbrev SE(X:Cx)(cl:Cl)(e:Î)(m:ME):Prop:=PE X e (tM X.K cl m)
abbrev ST(X:Cx)(cl:Cl)(e:Î)(m:MT):Prop:=PT X e (tMT X.K cl m)
def PE.wk(h:PE X e t)(w:∀σ H Q,t' σ H Q->t σ H Q):PE X e t':=λag s σ H Q I q=>h ag s σ H Q I (w σ H Q q)
def PT.wk(h:PT X e t)(w:∀σ H Q,t' σ H Q->t σ H Q):PT X e t':=λag s σ H Q I q=>h ag s σ H Q I (w σ H Q q)
def PA.wk(h:PA X e t)(w:∀σ H Q,t' σ H Q->t σ H Q):PA X e t':=λpos ag s σ H Q I q=>h pos ag s σ H Q I (w σ H Q q)
def PS.wk(h:PS X e t)(w:∀D σ H,t' D σ H->t D σ H):PS X e t':=λag s σ H D I q=>h ag s σ H D I (w D σ H q)
def PSs.wk(h:PSs X e t)(w:∀D σ H,t' D σ H->t D σ H):PSs X e t':=λag s σ H D I q=>h ag s σ H D I (w D σ H q)
noncomputable def zd(i:Nat):ME:=λρ h=>match ρ[i]? with
 | some (À w)=>À (w,h)
 | _=>Á
noncomputable def eC(w:W):ME:=λ_ h=>À (w,h)
noncomputable abbrev RS(i:Int):ME:=eC (.int i)
noncomputable abbrev Si(s:È):ME:=eC (.str s)
noncomputable def zh(f:W->W->M W)(a b:ME):ME:=λρ=>bnd (a ρ) λx=>bnd (b ρ) λy=>f x y
noncomputable def wm(f:W->M W)(a:ME):ME:=λρ=>bnd (a ρ) f
noncomputable def xp:List ME->En->M (List W)
 | [],_=>λh=>À ([],h)
 | m::r,ρ=>bnd (m ρ) λx=>bnd (xp r ρ) λxs h=>À (x::xs,h)
noncomputable def ze(f:List W->M W)(as:List ME):ME:=λρ=>bnd (xp as ρ) f
noncomputable def oK(w:W):M Bool:=λh=>match w with
 | .bl b=>À (b,h)
 | _=>Á
noncomputable def zS(a:ME):MT:=λρ=>bnd (a ρ) oK
noncomputable def iD(a b:MT):MT:=λρ=>bnd (a ρ) λx=>if x=Â then b ρ else λh=>À (Ä,h)
noncomputable def ac(a b:MT):MT:=λρ=>bnd (a ρ) λx=>if x=Â then (λh=>À (Â,h)) else b ρ
noncomputable def yi(a:MT):MT:=λρ=>bnd (a ρ) λx h=>À (!x,h)
noncomputable def Ji(a b:ME):ME:=λρ=>bnd (a ρ) λx=>bnd (oK x) λc=>if c=Â then b ρ else λh=>À (.bl Ä,h)
noncomputable def Dq(a b:ME):ME:=λρ=>bnd (a ρ) λx=>bnd (oK x) λc=>if c=Â then (λh=>À (.bl Â,h)) else b ρ
noncomputable def YY(a:ME):ME:=λρ=>bnd (a ρ) λx=>bnd (oK x) λc h=>À (.bl (!c),h)
noncomputable def Xf(t:MT)(a b:ME):ME:=λρ=>bnd (t ρ) λc=>if c=Â then a ρ else b ρ
noncomputable def gL(f g:W->W->M W)(a b c:ME):ME:=λρ=>bnd (a ρ) λx=>bnd (b ρ) λy=>bnd (f x y) λz=>bnd (oK z) λk=>if k=Â then bnd (c ρ) λu=>g y u else λh=>À (.bl Ä,h)
inductive rM(K:aab)(cl:Cl)(f:W->W->M W)(x:V)(y:V)(H:Hp)(Q:VK):Prop
 | mk (μ:List Ç) (h:MH) (wx:W) (wy:W) (w:W) (h':MH) (p0:HR K cl μ H h) (p1:RW K μ H wx x) (p2:RW K μ H wy y) (p3:f wx wy h=À (w,h')) (p4:KQ K cl μ H h' w Q):rM K cl f x y H Q
inductive rM1(K:aab)(cl:Cl)(f:W->M W)(x:V)(H:Hp)(Q:VK):Prop
 | mk (μ:List Ç) (h:MH) (wx:W) (w:W) (h':MH) (p0:HR K cl μ H h) (p1:RW K μ H wx x) (p2:f wx h=À (w,h')) (p3:KQ K cl μ H h' w Q):rM1 K cl f x H Q
inductive rMs(K:aab)(cl:Cl)(f:List W->M W)(xs:List V)(H:Hp)(Q:VK):Prop
 | mk (μ:List Ç) (h:MH) (ws:List W) (w:W) (h':MH) (p0:HR K cl μ H h) (p1:RWs K μ H ws xs) (p2:f ws h=À (w,h')) (p3:KQ K cl μ H h' w Q):rMs K cl f xs H Q
inductive tMA(K:aab)(cl:Cl)(ms:List ME)(σ:L2.St)(H:Hp)(Q:List V->Hp->Prop):Prop
 | mk (μ:List Ç) (h:MH) (ρ:En) (ws:List W) (h':MH) (p0:HR K cl μ H h) (p1:ER K μ H ρ σ) (p2:xp ms ρ h=À (ws,h')) (p3:∀d3 H' vs,Ext μ H d3 H'->HR K cl d3 H' h'->RWs K d3 H' ws vs->Q vs H'):tMA K cl ms σ H Q
abbrev SA(X:Cx)(cl:Cl)(es:List Î)(ms:List ME):Prop:=PA X es (tMA X.K cl ms)
section
variable{X:Cx}{cl:Cl}{a b c:Î}{ma mb mc:ME}{pos:ė}{μ d3:List Ç}{H H':Hp}{h h':MH}
def KQ.pure{w:W}{v:V}{Q:VK}{K:aab}(k:KQ K cl μ H h w Q)(R:HR K cl μ H h)(r:RW K μ H w v):Q v H:=k μ H v .refl R r
def KQ.ext{w:W}{Q:VK}{K:aab}(E:Ext μ H d3 H')(k:KQ K cl μ H h w Q):KQ K cl d3 H' h w Q:=λgy H2 v E2 R2 r2=>k gy H2 v (E.trans E2) R2 r2
def Dj(i:Nat)(hN:↥(X.N[i]?=À x))(hv:ZY X.env.scope x:=by first | exact Or.inl rfl | exact Or.inr (Or.inl rfl) | exact Or.inr (Or.inr rfl))
  (hd:⇑((x==("__debug__":È))=Ä)) (Ep:⇑((x==("__classdict__":È))=Ä)):SE X cl (.Name x pos) (zd i):=
 PE.wk (Do (i:=i) hN hv hd Ep) λσ H Q q0=>by
  obtain⟨μ,h,ρ,w,h',R,er,e,k⟩:=q0;unfold zd at e;split at e
  .rename_i w' q
   cases e;obtain⟨v,q1,r⟩:=er.at_ i _ q;exact⟨v,q1,k.pure R r⟩
  .cases e
def ZC{w:W}{v:V}(he:PE X a (tC v))(r:∀μ H,RW X.K μ H w v):SE X cl a (eC w):=
 PE.wk he λσ H Q q0=>by
  obtain⟨μ,h,ρ,w',h',R,er,e,k⟩:=q0;cases e;exact k.pure R (r μ H)
def De{j}:SE X cl (.Constant (.int i) j pos) (eC (.int i)):=ZC V6 λ_ _=>.int i
def Ge{j}:SE X cl (.Constant (.bool i) j pos) (eC (.bl i)):=ZC FX λ_ _=>.bl i
def FP{j}:SE X cl (.Constant .none j pos) (eC .non):=ZC Fp λ_ _=>.non
def DL{j}:SE X cl (.Constant (.str i) j pos) (eC (.str i)):=ZC Cg λ_ _=>.str i
def Uw(hm:X.mg x=À u)(r:RelV v u)(rw:∀μ H,RW X.K μ H w v)(hg:↥(Gl X x))(hd:⇑((x==("__debug__":È))=Ä)):SE X cl (.Name x pos) (eC w):=
 ZC (iB hg hm r hd) rw
def gf{K:aab}{f:W->W->M W}(q:tM K cl (zh f ma mb) σ H Q):VE (rM K cl f) (tM K cl ma) (tM K cl mb) σ H Q:=by
 obtain⟨μ,h,ρ,w,h',R,er,e,k⟩:=q;obtain⟨x,h1,e1,e⟩:=zD e;obtain⟨y,h2,e2,e3⟩:=zD e;exact⟨μ,h,ρ,x,h1,R,er,e1,λcb H1 vx E1 R1 rx=>⟨cb,h1,ρ,y,h2,R1,er.ext R E1,e2,λgy H2 vy E2 R2 ry=>⟨gy,h2,x,y,w,h',R2,rx.ext R1 E2,ry,e3,k.ext (E1.trans E2)⟩⟩⟩
def Gf(ho:kT X (ä op) (rM X.K cl f))(ha:SE X cl a ma)(hb:SE X cl b mb):SE X cl (.BinOp a op b pos) (zh f ma mb):=
 PE.wk (FZ ho ha hb) λσ H Q q=>gf q
def Cv(ho:kT X (Ó op) (rM X.K cl f))(ha:SE X cl a ma)(hb:SE X cl b mb)(hm:ë op b=Ä:=by first | exact nomark _ | rfl):SE X cl (.Compare a [op] [b] pos) (zh f ma mb):=
 PE.wk (Kj ho ha hb hm) λσ H Q q=>gf q
def Ga(ho:Qj X (unaryOp op) (rM1 X.K cl f))(ha:SE X cl a ma):SE X cl (.UnaryOp op a pos) (wm f ma):=
 PE.wk (XJ ho ha) λσ H Q q0=>by
  obtain⟨μ,h,ρ,w,h',R,er,e,k⟩:=q0;obtain⟨x,h1,e1,e⟩:=zD e;exact⟨μ,h,ρ,x,h1,R,er,e1,λcb H1 vx E1 R1 rx=>⟨cb,h1,x,w,h',R1,rx,e,k.ext E1⟩⟩
theorem RW.bl_of{K:aab}{k:Bool}(r:RW K μ H (.bl k) v):v=.bl k:=by cases r;rfl
def g9{w:W}{b:Bool}(e:oK w h=À (b,h')):w=.bl b/\h=h':=by
 unfold oK at e;split at e
 .cases e;exact⟨rfl,rfl⟩
 .cases e
def eU{K:aab}{σ:L2.St}(q:tMT K cl (zS ma) σ H Q):tM K cl ma σ H λx H1=>∃c,x=.bl c/\Q c H1:=by
 obtain⟨μ,h,ρ,b,h',R,er,e,k⟩:=q;obtain⟨x,h1,e1,e⟩:=zD e;obtain⟨rfl,rfl⟩:=g9 e;exact⟨μ,h,ρ,_,h1,R,er,e1,λcb H1 vx E1 R1 rx=>⟨b,rx.bl_of,k cb H1 E1 R1⟩⟩
def D7(ha:SE X cl a ma)(he:∀whole,isTrue a X.env whole=(do let v <-whole;standAt a.pos;Đ [v] (truthy v)):=by intro _;rfl):ST X cl a (zS ma):=
 PT.wk (FL ha he) λσ H Q q=>eU q
def DT(ho:kT X (Ó op) (rM X.K cl f))(ha:SE X cl a ma)(hb:SE X cl b mb)(hm:ë op b=Ä:=by first | exact nomark _ | rfl):ST X cl (.Compare a [op] [b] pos) (zS (zh f ma mb)):=
 PT.wk (Z5 ho ha hb hm) λσ H Q q=>by
  obtain⟨μ,h,ρ,w,h',R,er,e,k⟩:=eU q;exact gf ⟨μ,h,ρ,w,h',R,er,e,k⟩
def mT{K:aab}{f g:W->W->M W}(q:tM K cl (gL f g ma mb mc) σ H Q):sL (rM K cl f) (rM K cl g) (tM K cl ma) (tM K cl mb) (tM K cl mc) σ H Q:=by
 obtain⟨μ,h,ρ,w,h',R,er,e,k⟩:=q;obtain⟨x,h1,e1,e⟩:=zD e;obtain⟨y,h2,e2,e⟩:=zD e;obtain⟨z,h3,e3,e⟩:=zD e;obtain⟨c,h4,e4,e⟩:=zD e;obtain⟨rfl,rfl⟩:=g9 e4;refine⟨μ,h,ρ,x,h1,R,er,e1,λcb H1 vx E1 R1 rx=>⟨cb,h1,ρ,y,h2,R1,er.ext R E1,e2,λgy H2 vy E2 R2 ry=>⟨gy,h2,x,y,_,h3,R2,rx.ext R1 E2,ry,e3,λAG H3 vz E3 R3 rz=>⟨c,rz.bl_of,?_⟩⟩⟩⟩;cases c with
 | true=>
  rw[zQ rfl] at e ⊢;obtain⟨u,h5,e5,e6⟩:=zD e;exact⟨AG,h3,ρ,u,h5,R3,((er.ext R E1).ext R1 E2).ext R2 E3,e5,λRE H4 vu E4 R4 ru=>⟨RE,h5,y,u,w,h',R4,(ry.ext R2 E3).ext R3 E4,ru,e6,k.ext (E1.trans (E2.trans (E3.trans E4)))⟩⟩
 | false=>
  rw[zW zU] at e ⊢;cases e;exact k AG H3 _ (E1.trans (E2.trans E3)) R3 (.bl Ä)
def Yk(ho:kT X (Ó op) (rM X.K cl f))(AO:kT X (Ó AD) (rM X.K cl g))(ha:SE X cl a ma)(hb:SE X cl b mb)(hc:SE X cl c mc)
  (hm:lastMarks [op,AD] [b,c]=Ä:=by with_unfolding_all rfl):SE X cl (.Compare a [op,AD] [b,c] pos) (gL f g ma mb mc):=
 PE.wk (WH ho AO ha hb hc hm) λσ H Q q=>mT q
def YZ(ho:kT X (Ó op) (rM X.K cl f))(AO:kT X (Ó AD) (rM X.K cl g))(ha:SE X cl a ma)(hb:SE X cl b mb)(hc:SE X cl c mc)
  (hm:lastMarks [op,AD] [b,c]=Ä:=by with_unfolding_all rfl):ST X cl (.Compare a [op,AD] [b,c] pos) (zS (gL f g ma mb mc)):=
 PT.wk (Yg ho AO ha hb hc hm) λσ H Q q=>by
  obtain⟨μ,h,ρ,w,h',R,er,e,k⟩:=eU q;exact mT ⟨μ,h,ρ,w,h',R,er,e,k⟩
abbrev SW(X:Cx)(cl:Cl)(e:Î)(m:MT):Prop:=PW X e (tMT X.K cl m)
def PW.wk(h:PW X e t)(w:∀σ H Q,t' σ H Q->t σ H Q):PW X e t':=λwh ag s σ H Q I q=>h wh ag s σ H Q I (w σ H Q q)
variable{ta tb:MT}{rest:List Î}
def UZ(ha:ST X cl a ta):SW X cl (.BoolOp .And [a] pos) ta:=pw_and1 ha
def Dt(ha:ST X cl a ta):SW X cl (.BoolOp .Or [a] pos) ta:=pw_or1 ha
def DW(ha:ST X cl a ta)(hb:SW X cl (.BoolOp .And (b::rest) pos) tb):SW X cl (.BoolOp .And (a::b::rest) pos) (iD ta tb):=
 PW.wk (pw_and ha hb) λσ H Q q0=>by
  obtain⟨μ,h,ρ,w,h',R,er,e,k⟩:=q0;obtain⟨x,h1,e1,e⟩:=zD e;refine⟨μ,h,ρ,x,h1,R,er,e1,λcb H1 E1 R1=>?_⟩;cases x with
  | true=>rw[zQ rfl] at e ⊢;exact⟨cb,h1,ρ,w,h',R1,er.ext R E1,e,λgy H2 E2 R2=>k gy H2 (E1.trans E2) R2⟩
  | false=>rw[zW zU] at e ⊢;cases e;exact k cb H1 E1 R1
def FS(ha:ST X cl a ta)(hb:SW X cl (.BoolOp .Or (b::rest) pos) tb):SW X cl (.BoolOp .Or (a::b::rest) pos) (ac ta tb):=
 PW.wk (pw_or ha hb) λσ H Q q0=>by
  obtain⟨μ,h,ρ,w,h',R,er,e,k⟩:=q0;obtain⟨x,h1,e1,e⟩:=zD e;refine⟨μ,h,ρ,x,h1,R,er,e1,λcb H1 E1 R1=>?_⟩;cases x with
  | false=>rw[zW zU] at e ⊢;exact⟨cb,h1,ρ,w,h',R1,er.ext R E1,e,λgy H2 E2 R2=>k gy H2 (E1.trans E2) R2⟩
  | true=>rw[zQ rfl] at e ⊢;cases e;exact k cb H1 E1 R1
def UE(h:SW X cl a ta):ST X cl a ta:=h.pt
def CF(ha:ST X cl a ta):ST X cl (.UnaryOp .Not a pos) (yi ta):=
 PT.wk (DI ha) λσ H Q q0=>by
  obtain⟨μ,h,ρ,w,h',R,er,e,k⟩:=q0;obtain⟨x,h1,e1,e⟩:=zD e;cases e;exact⟨μ,h,ρ,x,_,R,er,e1,λcb H1 E1 R1=>k cb H1 E1 R1⟩
def Ci{op}(h:SE X cl a ma):SE X cl (.BoolOp op [a] pos) ma:=DO h
def DK(ha:SE X cl a ma)(hb:SE X cl (.BoolOp .And (b::rest) pos) mb):SE X cl (.BoolOp .And (a::b::rest) pos) (Ji ma mb):=
 PE.wk (Cf ha hb) λσ H Q q0=>by
  obtain⟨μ,h,ρ,w,h',R,er,e,k⟩:=q0;obtain⟨x,h1,e1,e⟩:=zD e;obtain⟨c,h2,e2,e⟩:=zD e;obtain⟨rfl,rfl⟩:=g9 e2;refine⟨μ,h,ρ,_,h1,R,er,e1,λcb H1 vx E1 R1 rx=>⟨c,rx.bl_of,?_⟩⟩;cases c with
  | true=>rw[zQ rfl] at e ⊢;exact⟨cb,h1,ρ,w,h',R1,er.ext R E1,e,k.ext E1⟩
  | false=>rw[zW zU] at e ⊢;cases e;exact k cb H1 _ E1 R1 (.bl Ä)
def Gb(ha:SE X cl a ma)(hb:SE X cl (.BoolOp .Or (b::rest) pos) mb):SE X cl (.BoolOp .Or (a::b::rest) pos) (Dq ma mb):=
 PE.wk (F2 ha hb) λσ H Q q0=>by
  obtain⟨μ,h,ρ,w,h',R,er,e,k⟩:=q0;obtain⟨x,h1,e1,e⟩:=zD e;obtain⟨c,h2,e2,e⟩:=zD e;obtain⟨rfl,rfl⟩:=g9 e2;refine⟨μ,h,ρ,_,h1,R,er,e1,λcb H1 vx E1 R1 rx=>⟨c,rx.bl_of,?_⟩⟩;cases c with
  | false=>rw[zW zU] at e ⊢;exact⟨cb,h1,ρ,w,h',R1,er.ext R E1,e,k.ext E1⟩
  | true=>rw[zQ rfl] at e ⊢;cases e;exact k cb H1 _ E1 R1 (.bl Â)
def CN(ha:SE X cl a ma):SE X cl (.UnaryOp .Not a pos) (YY ma):=
 PE.wk (Fv ha) λσ H Q q0=>by
  obtain⟨μ,h,ρ,w,h',R,er,e,k⟩:=q0;obtain⟨x,h1,e1,e⟩:=zD e;obtain⟨c,h2,e2,e⟩:=zD e;obtain⟨rfl,rfl⟩:=g9 e2;cases e;exact⟨μ,h,ρ,_,_,R,er,e1,λcb H1 vx E1 R1 rx=>⟨c,rx.bl_of,k cb H1 _ E1 R1 (.bl _)⟩⟩
def Gz(ht:ST X cl t ta)(ha:SE X cl a ma)(hb:SE X cl b mb):SE X cl (.IfExp t a b pos) (Xf ta ma mb):=
 PE.wk (W5 ht ha hb) λσ H Q q0=>by
  obtain⟨μ,h,ρ,w,h',R,er,e,k⟩:=q0;obtain⟨x,h1,e1,e⟩:=zD e;refine⟨μ,h,ρ,x,h1,R,er,e1,λcb H1 E1 R1=>?_⟩;cases x with
  | true=>rw[zQ rfl] at e ⊢;exact⟨cb,h1,ρ,w,h',R1,er.ext R E1,e,k.ext E1⟩
  | false=>rw[zW zU] at e ⊢;exact⟨cb,h1,ρ,w,h',R1,er.ext R E1,e,k.ext E1⟩
variable{es:List Î}{ms:List ME}{e:Î}{m:ME}
def nA:SA X cl [] []:=PA.wk VP λσ H Q q0=>by
 obtain⟨μ,h,ρ,ws,h',R,er,e,k⟩:=q0;cases e;exact k μ H [] .refl R .nil
def fC(ha:SE X cl e m)(hr:SA X cl es ms)(hs:↥(Ê (e::es) X.env=(Ä,å e X.env)::Ê es X.env)):SA X cl (e::es) (m::ms):=
 PA.wk (oa ha hr hs) λσ H Q q0=>by
  obtain⟨μ,h,ρ,ws,h',R,er,e,k⟩:=q0;obtain⟨x,h1,e1,e⟩:=zD e;obtain⟨xs,h2,e2,e⟩:=zD e;cases e;exact⟨μ,h,ρ,x,h1,R,er,e1,λcb H1 vx E1 R1 rx=>⟨cb,h1,ρ,xs,_,R1,er.ext R E1,e2,λgy H2 vs E2 R2 rs=>k gy H2 _ (E1.trans E2) R2 (.cons (rx.ext R1 E2) rs)⟩⟩
noncomputable def cap:Nat:=1000000
def yv:cap<=Ð:=by decide
noncomputable def zo:List W->M W:=λws h=>if ws.length<=cap then À (.tup ws,h) else Á
noncomputable def kH:List W->M W:=λws h=>if ws.length<=cap then À (.fls ws,h) else Á
noncomputable def dP:List W->M W:=λws h=>if ws.length<=cap then À (.ref h.length,h++[.lst ws]) else Á
theorem KQ.tup{K:aab}{ws:List W}{xs:List V}{Q:VK}{p:Ç}(k:KQ K cl μ H h (.tup ws) Q)(R:HR K cl μ H h)(rs:RWs K μ H ws xs)(hp:H p=Á):Q (.ref p) (upd H p (.tup xs)):=
 k μ _ _ (.side hp) (R.side hp) (.tup (SqT.of jp) (rs.ext R (.side hp)))
theorem KQ.lst{K:aab}{ws:List W}{xs:List V}(k:KQ K cl μ H (h++[.lst ws]) (.ref h.length) Q)(R:HR K cl μ H h)(rs:RWs K μ H ws xs)(hp:H p=Á):Q (.ref p) (upd H p (.lst xs)):=
 k (μ++[p]) _ _ (.new hp) (R.new hp ⟨xs,jp,rs.ext R (.new hp)⟩) (.ref (by rw[<-R.len];simp))
theorem KQ.fls{K:aab}{ws:List W}{xs:List V}{Q:VK}{p:Ç}(k:KQ K cl μ H h (.fls ws) Q)(R:HR K cl μ H h)(rs:RWs K μ H ws xs)(hp:H p=Á):Q (.ref p) (upd H p (.lst xs)):=
 k μ _ _ (.side hp) (R.side hp) (.fls (.inl ⟨.inl jp,R.fresh hp⟩) (rs.ext R (.side hp)))
def Ds{x1}(hs:SA X cl es ms):SE X cl (.Tuple es x1 pos) (ze zo ms):=
 PE.wk (CC hs) λσ H Q q0=>by
  obtain⟨μ,h,ρ,w,h',R,er,e,k⟩:=q0;obtain⟨ws,h1,e1,e⟩:=zD e;refine⟨μ,h,ρ,ws,h1,R,er,e1,λcb H1 vs E1 R1 rs=>?_⟩;unfold zo at e;split at e
  .rename_i hl
   cases e;exact⟨zq (by rw[<-rs.length];exact hl) yv,λp hp=>(k.ext E1).tup R1 rs hp⟩
  .cases e
def DG(hs:SA X cl es ms):SE X cl (.List es pos) (ze kH ms):=
 PE.wk (QU hs) λσ H Q q0=>by
  obtain⟨μ,h,ρ,w,h',R,er,e,k⟩:=q0;obtain⟨ws,h1,e1,e⟩:=zD e;refine⟨μ,h,ρ,ws,h1,R,er,e1,λcb H1 vs E1 R1 rs=>?_⟩;unfold kH at e;split at e
  .rename_i hl
   cases e;exact⟨zq (by rw[<-rs.length];exact hl) yv,λp hp=>(k.ext E1).fls R1 rs hp⟩
  .cases e
def Cm(hs:SA X cl es ms):SE X cl (.List es pos) (ze dP ms):=
 PE.wk (QU hs) λσ H Q q0=>by
  obtain⟨μ,h,ρ,w,h',R,er,e,k⟩:=q0;obtain⟨ws,h1,e1,e⟩:=zD e;refine⟨μ,h,ρ,ws,h1,R,er,e1,λcb H1 vs E1 R1 rs=>?_⟩;unfold dP at e;split at e
  .rename_i hl
   cases e;exact⟨zq (by rw[<-rs.length];exact hl) yv,λp hp=>(k.ext E1).lst R1 rs hp⟩
  .cases e
end
noncomputable def bS(K:aab)(cl:Cl)(f:List W->M W):Sp:=λvs H Q _=>rMs K cl f vs H Q
mutual
noncomputable def low(m:Nat):W->Bool
 | .tup l=>lows m l
 | .fls l=>lows m l
 | .ref n=>decide (n<m)
 | .fdc l=>tU m l
 | _=>Â
noncomputable def tU(m:Nat):List (Key×W)->Bool
 | []=>Â
 | (_,w)::r=>low m w&&tU m r
noncomputable def lows(m:Nat):List W->Bool
 | []=>Â
 | w::r=>low m w&&lows m r
end
open Classical in
noncomputable def gc(f:List W->M W):List W->M W:=λws h=>match f ws h with
 | some (w,h')=>if h<+:h' then (if low h.length w=Â then À (w,h) else match w with
   | .ref n=>match h'[n]? with
    | some (.lst l)=>if lows h.length l=Â then À (.fls l,h) else À (w,h')
    | _=>À (w,h')
   | _=>À (w,h')) else À (w,h')
 | none=>Á
def wn{h:MH}(e:f ws h=À (w,h'))(p:low h.length w=Â)(q:h<+:h'):gc f ws h=À (w,h):=by
 unfold gc;rw[e];erw[p,q,je]
def FE{h h':MH}(e:f ws h=À (.ref n,h'))(q:h<+:h')(hn:h.length<=n)(o:h'[n]?=À (.lst l))(p:lows h.length l=Â):gc f ws h=À (.fls l,h):=by
 unfold gc;rw[e];have b:low h.length (.ref n)=Ä:=by unfold low;simp;omega
 erw[b,q,je,o,p,zP,jy]
theorem nV(m:Nat):∀l:List (Key×W),tU m l=lows m (l.map (·.2))
 | []=>by unfold tU lows;rfl
 | (k,w)::r=>by unfold tU;rw[nV m r];erw[zx];conv=>rhs;unfold lows
section
variable{K:aab}{cl:Cl}{μ d3:List Ç}{H H':Hp}
theorem RWs.low(r:RWs K μ H l vs):lows μ.length l=Â:=
 RWs.rec (motive_1:=λw _ _=>ML.low μ.length w=Â) (motive_2:=λl _ _=>lows μ.length l=Â) rfl (λ_=>rfl) (λ_=>rfl) (λ_=>rfl) (λ_ _ r=>r) (λe=>kO (zA.mp e).1) (λ_ _ r=>r) (λ_ _ e _ _ r=>(nV ..).trans (e▸r)) rfl rfl (λ_ _ a b=>ju.mpr ⟨a,b⟩) r
def RWs.cut(pre:μ<+:d3)(p:lows μ.length l=Â)(r:RWs K d3 H l vs):RWs K μ H l vs:=
 RWs.rec (motive_1:=λw v _=>ML.low μ.length w=Â->RW K μ H w v) (motive_2:=λl vs _=>lows μ.length l=Â->RWs K μ H l vs) (λ_=>.non) (λb _=>.bl b) (λb _=>.int b) (λb _=>.str b) (λs _ r p=>.tup s (r p)) (λ{n _} e p=>.ref (by
  have p:n<μ.length:=j8 p;obtain⟨t,rfl⟩:=pre;rw[zY p] at e
  exact e)) (λs _ r p=>.fls (s.elim (λz=>.inl ⟨z.1,λq=>z.2 (pre.subset q)⟩) .inr) (r p)) (λs k e b _ r p=>.fdc ⟨s.1,λq=>s.2 (pre.subset q)⟩ k e b (r (e▸(nV ..).symm.trans p))) (λ_=>.fn) (λ_=>.nil) (λ_ _ a b p=>.cons (a (ju.mp p).1) (b (ju.mp p).2)) r p
theorem RW.cut(pre:μ<+:d3)(p:ML.low μ.length w=Â)(r:RW K d3 H w v):RW K μ H w v:=by
 cases RWs.cut pre (l:=[w]) (ju.mpr ⟨p,rfl⟩) (.cons r .nil) with
 | cons r _=>exact r
theorem HR.cut(R:HR K cl μ H h)(E:Ext μ H d3 H')(R':HR K cl d3 H' h')(p:h<+:h'):HR K cl μ H' h:=by
 obtain⟨t,rfl⟩:=p;refine⟨R.len,R.nd,λn a o e1 e2=>?_⟩;have q:=R.ob n a o e1 e2;have q':=R'.ob n a o (E.get e1) (by rw[zY (zA.mp e2).1];exact e2);cases o with
 | lst l=>obtain⟨Ry,_,r0⟩:=q;obtain⟨vs,z,r⟩:=q';exact⟨vs,z,RWs.cut E.pre r0.low r⟩
 | dic l=>obtain⟨l0,_,_,r0⟩:=q;obtain⟨l',z,k,r⟩:=q';exact⟨l',z,k,RWs.cut E.pre r0.low r⟩
 | ins c fs=>obtain⟨_,fs0,_,_,r0⟩:=q;obtain⟨dx,Io,z,k,r⟩:=q';exact⟨dx,Io,z,k,RWs.cut E.pre r0.low r⟩
 | tdc ks=>obtain⟨_,_,_,_,_,r0⟩:=q;obtain⟨xs,z,k1,k2,k3,r⟩:=q';exact⟨xs,z,k1,k2,k3,RWs.cut E.pre r0.low r⟩
def F6(q:bS K cl (gc f) vs H Q E):bS K cl f vs H Q E:=by
 obtain⟨μ,h,ws,w,h',R,rs,e,k⟩:=q;unfold gc at e;split at e
 .rename_i w1 h1 e1
  have plain:∀{w h'},À (w1,h1)=À (w,h')->KQ K cl μ H h' w Q->bS K cl f vs H Q E:=λq k=>by cases q;exact⟨μ,h,ws,_,_,R,rs,e1,k⟩
  split at e
  .rename_i c
   have cut:∀{d3 H'},Ext μ H d3 H'->Ext μ H μ H':=λE'=>⟨jw _,λb o e n=>⟨(E'.fr b o e n).1,n⟩⟩
   split at e
   .rename_i p
    cases e;refine⟨μ,h,ws,_,h1,R,rs,e1,λd3 H' v E' R' r'=>?_⟩;exact k μ H' v (cut E') (R.cut E' R' c) (RW.cut E'.pre (by rw[R.len];exact p) r')
   .rename_i p
    split at e
    .rename_i n
     split at e
     .rename_i l ho
      split at e
      .rename_i pl
       cases e;refine⟨μ,h,ws,_,h1,R,rs,e1,λd3 H' v E' R' r'=>?_⟩;cases r' with
       | @ref _ a hm=>
        obtain⟨El,hv,rv⟩:=R'.ob n a _ hm ho;refine k μ H' _ (cut E') (R.cut E' R' c) (.fls (.inl ⟨.inl hv,λz=>?_⟩) (RWs.cut E'.pre (by rw[R.len];exact pl) rv));obtain⟨m,OS⟩:=qQ.mp z;have h2:=E'.get OS;have xa:m<μ.length:=(zA.mp OS).1;obtain⟨z1,z2⟩:=zA.mp h2;obtain⟨z3,z4⟩:=zA.mp hm;have:m=n:=(yx R'.nd).mp (z2.trans z4.symm);subst this;refine p ?_;unfold low;rw[R.len] at xa;simpa using xa
      .exact plain e k
     .exact plain e k
    .exact plain e k
  .exact plain e k
 .cases e
end
section
variable{X:Cx}{cl:Cl}{k:Nat}{f:Ç}{fd:ć}{ps:List È}{x:È}{p pos:ė}{e:Î}{es:List Î}{g:List W->M W}{m:ME}{ms:List ME}
def eG{K:aab}{f:List W->M W}{σ:L2.St}{H:Hp}(q:tM K cl (ze f ms) σ H Q):tMA K cl ms σ H λvs H1=>rMs K cl f vs H1 Q:=by
 obtain⟨μ,h,ρ,w,h',R,er,e,k⟩:=q;obtain⟨ws,h1,e1,e⟩:=zD e;exact⟨μ,h,ρ,ws,h1,R,er,e1,λcb H1 vs E1 R1 rs=>⟨cb,h1,ws,w,h',R1,rs,e,k.ext E1⟩⟩
def Bw(F:FnOk X.prog X.w X.K X.mg X.base dR k f fd ps (bS X.K cl g))(hr:Room k X.A)(hm:X.mg x=À (.ref f))(hk:ï X.K (.ref f)=Â)(hb:Binds X.K fd ps [])
  (ha:SA X cl (e::es) ms) (hg:↥(Gl X x)) (AS:⇑((x==("__debug__":È))=Ä)) (r6:↥(Ê (e::es) X.env=(Ä,å e X.env)::Ê es X.env)) (Ak:↥((Þ pos (Ê es X.env)).any (·.1)=Ä)):SE X cl (.Call (.Name x p) (e::es) [] pos) (ze g ms):=
 PE.wk (U8 F hr hg hm hk hb .nil X2 ha AS r6 Ak) λσ H Q q=>by
  obtain⟨μ,h,ρ,ws,h1,R,er,e1,k1⟩:=eG q;exact⟨μ,h,ρ,ws,h1,R,er,e1,λcb H1 vs E1 R1 rs=>by show bS X.K cl g (vs++[]) H1 Q E0;rw[v6];exact k1 cb H1 vs E1 R1 rs⟩
def WR(F:FnOk X.prog X.w X.K X.mg X.base dR k f fd ps (bS X.K cl g))(hr:Room k X.A)(hm:X.mg x=À (.ref f))(hk:ï X.K (.ref f)=Â)(hb:Binds X.K fd ps [])
  (hg:↥(Gl X x)) (AS:⇑((x==("__debug__":È))=Ä)):SE X cl (.Call (.Name x p) [] [] pos) (ze g []):=
 PE.wk (WM F hr hg hm hk hb .nil X2 AS) λσ H Q q=>by
  obtain⟨μ,h,ρ,ws,h1,R,er,e1,k1⟩:=eG q;cases e1;exact k1 μ H [] .refl R .nil
def W4{id:String}(hc:qo X (.builtin id) (rMs X.K cl g))(hm:X.mg x=Á)(hv:Ù x=À (.builtin id))(ha:SA X cl (e::es) ms)(hg:↥(Gl X x))(hn:⇑(x≠"__name__"))(AS:⇑((x==("__debug__":È))=Ä))(r6:↥(Ê (e::es) X.env=(Ä,å e X.env)::Ê es X.env))(Ak:↥((Þ pos (Ê es X.env)).any (·.1)=Ä)) :
  SE X cl (.Call (.Name x p) (e::es) [] pos) (ze g ms):=
 PE.wk (tI hc hg hm hv ha hn AS r6 Ak) λσ H Q q=>eG q
def Vb{id:String}(hc:qo X (.type id) (rMs X.K cl g))(hm:X.mg x=Á)(hv:Ù x=À (.type id))(ha:SA X cl (e::es) ms)(hg:↥(Gl X x))(hn:⇑(x≠"__name__"))(AS:⇑((x==("__debug__":È))=Ä))(r6:↥(Ê (e::es) X.env=(Ä,å e X.env)::Ê es X.env))(Ak:↥((Þ pos (Ê es X.env)).any (·.1)=Ä)) :
  SE X cl (.Call (.Name x p) (e::es) [] pos) (ze g ms):=
 PE.wk (J9 hc hg hm hv ha hn AS r6 Ak) λσ H Q q=>eG q
end
inductive Fl where
 | nx (ρ:En) | ret (w:W) | bk (ρ:En) | ct (ρ:En)
abbrev MS:=En->MH->Option (Fl×MH)
abbrev MG:=W->En->M En
noncomputable def KF(K:aab)(cl:Cl)(μ:List Ç)(H:Hp)(h':MH)(fl:Fl)(D:Ends):Prop:=∀d3 H',Ext μ H d3 H'->HR K cl d3 H' h'->match fl with
 | .nx ρ=>∀σ,ER K d3 H' ρ σ->D.nx σ H'
 | .ret w=>∀v,RW K d3 H' w v->D.rt v H'
 | .bk ρ=>∀σ,ER K d3 H' ρ σ->D.bk σ H'
 | .ct ρ=>∀σ,ER K d3 H' ρ σ->D.ct σ H'
inductive tMS(K:aab)(cl:Cl)(m:MS)(D:Ends)(σ:L2.St)(H:Hp):Prop
 | mk (μ:List Ç) (h:MH) (ρ:En) (fl:Fl) (h':MH) (p0:HR K cl μ H h) (p1:ER K μ H ρ σ) (p2:m ρ h=À (fl,h')) (p3:KF K cl μ H h' fl D):tMS K cl m D σ H
abbrev SS(X:Cx)(cl:Cl)(st:ď)(m:MS):Prop:=PS X st (tMS X.K cl m)
abbrev SB(X:Cx)(cl:Cl)(st:List ď)(m:MS):Prop:=PSs X st (tMS X.K cl m)
inductive tMG(K:aab)(cl:Cl)(g:MG)(v:V)(σ:L2.St)(H:Hp)(Q:L2.St->Hp->Prop):Prop
 | mk (μ:List Ç) (h:MH) (ρ:En) (w:W) (ρ':En) (h':MH) (p0:HR K cl μ H h) (p1:ER K μ H ρ σ) (p2:RW K μ H w v) (p3:g w ρ h=À (ρ',h')) (p4:∀d3 H' hG,Ext μ H d3 H'->HR K cl d3 H' h'->ER K d3 H' ρ' hG->Q hG H'):tMG K cl g v σ H Q
abbrev SG(X:Cx)(cl:Cl)(e:Î)(g:MG):Prop:=PG X e (tMG X.K cl g)
def PG.wk(h:PG X e t)(w:∀v σ H Q,t' v σ H Q->t v σ H Q):PG X e t':=λag s σ H v u Q I r q=>h ag s σ H v u Q I r (w v σ H Q q)
def KF.ext{K:aab}{cl:Cl}{μ d3:List Ç}{H H':Hp}(E:Ext μ H d3 H')(k:KF K cl μ H h fl D):KF K cl d3 H' h fl D:=λgy H2 E2 R2=>k gy H2 (E.trans E2) R2
theorem KF.nx{K:aab}{cl:Cl}{μ:List Ç}{H:Hp}{D:Ends}(k:KF K cl μ H h (.nx ρ) D)(R:HR K cl μ H h)(er:ER K μ H ρ σ):D.nx σ H:=k μ H .refl R σ er
noncomputable def ki:MS:=λρ h=>À (.nx ρ,h)
noncomputable def zl(a b:MS):MS:=λρ h=>match a ρ h with
 | some (.nx ρ',h')=>b ρ' h'
 | r=>r
noncomputable def xb(m:ME):MS:=λρ h=>match m ρ h with
 | some (_,h')=>À (.nx ρ,h')
 | none=>Á
noncomputable def kf(m:ME):MS:=λρ h=>match m ρ h with
 | some (w,h')=>À (.ret w,h')
 | none=>Á
noncomputable def kX(t:MT)(a b:MS):MS:=λρ h=>match t ρ h with
 | some (c,h')=>if c=Â then a ρ h' else b ρ h'
 | none=>Á
noncomputable def kc(m:ME)(g:MG):MS:=λρ h=>match m ρ h with
 | some (w,h')=>match g w ρ h' with
  | some (ρ',h2)=>À (.nx ρ',h2)
  | none=>Á
 | none=>Á
noncomputable def zw(i:Nat):MG:=λw ρ h=>if i<ρ.length then À (ρ.set i (À w),h) else Á
noncomputable def fh:List MG->List W->En->M En
 | [],[]=>λρ h=>À (ρ,h)
 | g::gs,w::ws=>λρ=>bnd (g w ρ) λρ'=>fh gs ws ρ'
 | _,_=>λ_ _=>Á
noncomputable def vS(gs:List MG):MG:=λw=>match w with
 | .tup ws=>fh gs ws
 | _=>λ_ _=>Á
noncomputable def JO(i:Nat)(f:W->W->M W)(m:ME):MS:=λρ h=>match ρ[i]? with
 | some (À x)=>match m ρ h with
  | some (y,h1)=>match f x y h1 with
   | some (z,h2)=>if i<ρ.length then À (.nx (ρ.set i (À z)),h2) else Á
   | none=>Á
  | none=>Á
 | _=>Á
section
variable{X:Cx}{cl:Cl}{st:ď}{rest:List ď}{a b:MS}{e:Î}{m:ME}{pos:ė}
theorem ER.set{K:aab}{μ:List Ç}{H:Hp}{ρ:En}{σ:L2.St}(er:ER K μ H ρ σ)(hi:i<ρ.length)(r:RW K μ H w v):ER K μ H (ρ.set i (À w)) (σ.set i (À v)):=by
 refine⟨by simp[er.len],λj w' e=>?_⟩;by_cases hj:j=i
 .subst hj
  rw[qi hi] at e;cases e;exact⟨v,by rw[qi (by rw[<-er.len];exact hi)],r⟩
 .rw[qI (jq hj)] at e
  obtain⟨v',e',r'⟩:=er.at_ j w' e;exact⟨v',by rw[qI (jq hj)];exact e',r'⟩
def CY:SB X cl [] ki:=PSs.wk BG λD σ H q0=>by
 obtain⟨μ,h,ρ,fl,h',R,er,e,k⟩:=q0;cases e;exact k.nx R er
def Cy(h1:SS X cl st a):SB X cl [st] a:=Br h1
def BN(h1:SS X cl st a)(h2:SB X cl rest b):SB X cl (st::rest) (zl a b):=PSs.wk (Wy h1 h2) λD σ H q0=>by
 obtain⟨μ,h,ρ,fl,h',R,er,e,k⟩:=q0;unfold zl at e;split at e
 .rename_i oj h1 e1
  exact⟨μ,h,ρ,_,h1,R,er,e1,λcb H1 E1 R1 Ip Nx=>⟨cb,h1,oj,fl,h',R1,Nx,e,k.ext E1⟩⟩
 .rename_i r hr
  refine⟨μ,h,ρ,fl,h',R,er,e,λcb H1 E1 R1=>?_⟩;have k1:=k cb H1 E1 R1;cases fl with
  | nx oj=>exact absurd e (hr oj h')
  | ret w=>exact k1
  | bk oj=>exact k1
  | ct oj=>exact k1
def UW:SS X cl (.Pass pos) ki:=PS.wk U1 λD σ H q0=>by
 obtain⟨μ,h,ρ,fl,h',R,er,e,k⟩:=q0;cases e;exact k.nx R er
def Ba(he:SE X cl e m)(hs:↥(đ e Á pos.line X.env=pure Ä)):SS X cl (.Expr e pos) (xb m):=PS.wk (BE he hs) λD σ H q0=>by
 obtain⟨μ,h,ρ,fl,h',R,er,e,k⟩:=q0;unfold xb at e;split at e
 .rename_i w h1 e1
  cases e;exact⟨μ,h,ρ,w,_,R,er,e1,λcb H1 v E1 R1 _=>k cb H1 E1 R1 σ (er.ext R E1)⟩
 .cases e
def CM(he:SE X cl e m):SS X cl (.Return (À e) pos) (kf m):=PS.wk (B8 he) λD σ H q0=>by
 obtain⟨μ,h,ρ,fl,h',R,er,e,k⟩:=q0;unfold kf at e;split at e
 .rename_i w h1 e1
  cases e;exact⟨μ,h,ρ,w,_,R,er,e1,λcb H1 v E1 R1 r=>k cb H1 E1 R1 v r⟩
 .cases e
def GA(hc:ST X cl c t)(ha:SB X cl sa a)(hb:SB X cl sb b):SS X cl (.If c sa sb pos) (kX t a b):=PS.wk (F4 hc ha hb) λD σ H q0=>by
 obtain⟨μ,h,ρ,fl,h',R,er,e,k⟩:=q0;unfold kX at e;split at e
 .rename_i c h1 e1
  refine⟨μ,h,ρ,c,h1,R,er,e1,λcb H1 E1 R1=>?_⟩;cases c with
  | true=>rw[zQ rfl] at e ⊢;exact⟨cb,h1,ρ,fl,h',R1,er.ext R E1,e,k.ext E1⟩
  | false=>rw[zW zU] at e ⊢;exact⟨cb,h1,ρ,fl,h',R1,er.ext R E1,e,k.ext E1⟩
 .cases e
def KI(i:Nat)(hN:X.N.Nodup)(hi:↥(X.N[i]?=À x))(hx:Loc X.env.scope x:=by first | exact Or.inl rfl | exact Or.inr rfl)(hf:X.fn x=Â\/X.env.scope.names.lookup x=À .local:=by first | exact .inl rfl | exact .inr rfl | assumption):SG X cl (.Name x pos) (zw i):=
 PG.wk (UA (i:=i) hN hi hx hf) λv σ H Q q0=>by
  obtain⟨μ,h,ρ,w,ρ',h',R,er,r,e,k⟩:=q0;unfold zw at e;split at e
  .rename_i hi
   cases e;exact k μ H _ .refl R (er.set hi r)
  .cases e
inductive tMGs(K:aab)(cl:Cl)(gs:List MG)(vs:List V)(σ:L2.St)(H:Hp)(Q:L2.St->Hp->Prop):Prop
 | mk (μ:List Ç) (h:MH) (ρ:En) (ws:List W) (ρ':En) (h':MH) (p0:HR K cl μ H h) (p1:ER K μ H ρ σ) (p2:RWs K μ H ws vs) (p3:fh gs ws ρ h=À (ρ',h')) (p4:∀d3 H' hG,Ext μ H d3 H'->HR K cl d3 H' h'->ER K d3 H' ρ' hG->Q hG H'):tMGs K cl gs vs σ H Q
abbrev QO(X:Cx)(cl:Cl)(es:List Î)(gs:List MG):Prop:=PGs X es (tMGs X.K cl gs)
def PGs.wk(h:PGs X es t)(w:∀v σ H Q,t' v σ H Q->t v σ H Q):PGs X es t':=λag s σ H v u Q I r q=>h ag s σ H v u Q I r (w v σ H Q q)
def Bp:QO X cl [] []:=PGs.wk BZ λvs σ H Q q0=>by
 obtain⟨μ,h,ρ,ws,ρ',h',R,er,rs,e,k⟩:=q0;cases rs with
 | nil=>cases e;exact⟨rfl,k μ H _ .refl R er⟩
 | cons r t=>cases e
def WF(h1:SG X cl e g)(h2:QO X cl es gs)
  (hs:↥((ô (e::es) X.env).map (·.2)=ŀ e X.env::(ô es X.env).map (·.2))):QO X cl (e::es) (g::gs):=PGs.wk (W3 h1 h2 hs) λvs σ H Q q0=>by
 obtain⟨μ,h,ρ,ws,ρ',h',R,er,rs,e,k⟩:=q0;cases rs with
 | nil=>cases e
 | cons r t=>
  obtain⟨oj,h1,e1,e2⟩:=zD e;exact⟨_,_,rfl,μ,h,ρ,_,oj,h1,R,er,r,e1,λcb H1 Ip E1 R1 Nx=>⟨cb,h1,oj,_,ρ',h',R1,Nx,t.ext R E1,e2,λgy H2 Er E2 R2 EL=>k gy H2 Er (E1.trans E2) R2 EL⟩⟩
def DJ{gs:List MG}(hc:X.calm=Â)(hg:QO X cl es gs)
  (hl:↥((ô es X.env).length=gs.length)) (r6:↥((ô es X.env).findIdx? (·.1)=Á)):SG X cl (.Tuple es n pos) (vS gs):=PG.wk (CH hc hg hl r6) λv σ H Q q0=>by
 obtain⟨μ,h,ρ,w,ρ',h',R,er,r,e,k⟩:=q0;cases r with
 | @tup a vs l s rs=>
  have e':fh gs l ρ h=À (ρ',h'):=e;have ll:∀(gs:List MG) (l:List W) (ρ:En) (h:MH),fh gs l ρ h=À (ρ',h')->gs.length=l.length:=by
   intro gs;induction gs with
   | nil=>intro l ρ h e;cases l with | nil=>rfl | cons=>cases e
   | cons g gs ih=>
    intro l ρ h e;cases l with
    | nil=>cases e
    | cons w l=>
     obtain⟨oj,h1,e1,e2⟩:=zD e;erw[zG];rw[ih l oj h1 e2]
  exact⟨a,vs,rfl,s,by rw[<-rs.length];exact(ll gs l ρ h e').symm,μ,h,ρ,l,ρ',h',R,er,rs,e',k⟩
 | _=>cases e
def Vf(he:SE X cl e m)(hg:SG X cl tg g)(hs:↥(Ŕ [tg] e pos.line X.env=pure Ä))(hw:↥(ŕ [tg] e X.env=pure Á))
  (h1:↥((ô [tg] X.env).map (·.2)=[ŀ tg X.env])):SS X cl (.Assign [tg] e pos) (kc m g):=PS.wk (C4 he hg hs hw h1) λD σ H q0=>by
 obtain⟨μ,h,ρ,fl,h',R,er,e,k⟩:=q0;unfold kc at e;split at e
 .rename_i w h1 e1
  split at e
  .rename_i r9 h2 e2
   cases e;exact⟨μ,h,ρ,w,h1,R,er,e1,λcb H1 v E1 R1 r=>⟨cb,h1,ρ,w,r9,_,R1,er.ext R E1,r,e2,λgy H2 Er E2 R2 EL=>k gy H2 (E1.trans E2) R2 Er EL⟩⟩
  .cases e
 .cases e
def FO(i:Nat)(hN:X.N.Nodup)(he:SE X cl e m)(hi:↥(X.N[i]?=À x))(hx:Loc X.env.scope x:=by first | exact Or.inl rfl | exact Or.inr rfl)(hs:↥(đ e (À (.Name x Aw)) pos.line X.env=pure Ä))
  (hf:X.fn x=Â\/X.env.scope.names.lookup x=À .local:=by first | exact .inl rfl | exact .inr rfl | assumption):SS X cl (.Assign [.Name x Aw] e pos) (kc m (zw i)):=PS.wk (Cp (i:=i) hN hi hx he hs hf) λD σ H q0=>by
 obtain⟨μ,h,ρ,fl,h',R,er,e,k⟩:=q0;unfold kc at e;split at e
 .rename_i w h1 e1
  split at e
  .rename_i r9 h2 e2
   cases e;refine⟨μ,h,ρ,w,h1,R,er,e1,λcb H1 v E1 R1 r=>?_⟩;unfold zw at e2;split at e2
   .rename_i hi
    cases e2;exact k cb H1 E1 R1 _ ((er.ext R E1).set hi r)
   .cases e2
  .cases e
 .cases e
def DV(i:Nat)(hN:X.N.Nodup)(ho:J8 X op (rM X.K cl f))(he:SE X cl e m)(hi:↥(X.N[i]?=À x))(hx:Loc X.env.scope x:=by first | exact Or.inl rfl | exact Or.inr rfl)
  (hf:X.fn x=Â\/X.env.scope.names.lookup x=À .local:=by first | exact .inl rfl | exact .inr rfl | assumption):SS X cl (.AugAssign (.Name x Aw) op e pos) (JO i f m):=PS.wk (CS (i:=i) hN hi hx he ho hf) λD σ H q0=>by
 obtain⟨μ,h,ρ,fl,h',R,er,e,k⟩:=q0;unfold JO at e;split at e
 .rename_i w0 e0
  split at e
  .rename_i y h1 e1
   split at e
   .rename_i z h2 e2
    split at e
    .rename_i hi
     cases e;obtain⟨v0,q0,r0⟩:=er.at_ i w0 e0;exact⟨v0,q0,μ,h,ρ,y,h1,R,er,e1,λcb H1 vy E1 R1 ry=>⟨cb,h1,w0,y,z,_,R1,r0.ext R E1,ry,e2,λgy H2 vz E2 R2 rz=>k gy H2 (E1.trans E2) R2 _ (((er.ext R E1).ext R1 E2).set hi rz)⟩⟩
    .cases e
   .cases e
  .cases e
 .cases e
end
noncomputable def vE(c:MT)(b:MS):Nat->MS
 | 0=>λ_ _=>Á
 | n+1=>λρ h=>match c ρ h with
  | some (Â,h1)=>match b ρ h1 with
   | some (.nx r9,h2)=>vE c b n r9 h2
   | some (.ct r9,h2)=>vE c b n r9 h2
   | some (.bk r9,h2)=>À (.nx r9,h2)
   | some (.ret w,h2)=>À (.ret w,h2)
   | none=>Á
  | some (Ä,h1)=>À (.nx ρ,h1)
  | none=>Á
theorem bp:∀{n:Nat} {ρ:En} {h:MH} {r:Fl×MH},vE c b n ρ h=À r->∀k,vE c b (n+k) ρ h=À r
 | 0,_,_,_,e,_=>by cases e
 | n+1,ρ,h,r,e,k=>by
  rw[show n+1+k=(n+k)+1 by omega];unfold vE at e ⊢;cases e1:c ρ h with
  | none=>rw[e1] at e;cases e
  | some p=>
   obtain⟨t,h1⟩:=p;rw[e1] at e;cases t with
   | false=>exact e
   | true=>
    simp only at e ⊢;cases e2:b ρ h1 with
    | none=>rw[e2] at e;cases e
    | some q=>
     obtain⟨fl,h2⟩:=q;rw[e2] at e;cases fl with
     | nx r9=>exact bp (n:=n) e k
     | ct r9=>exact bp (n:=n) e k
     | bk r9=>exact e
     | ret w=>exact e
open Classical in
noncomputable def ck(c:MT)(b:MS):MS:=λρ h=>if q:∃n r,vE c b n ρ h=À r then À q.choose_spec.choose else Á
def QX(e:vE c b n ρ h=À r):ck c b ρ h=À r:=by
 unfold ck;have q:∃n r,vE c b n ρ h=À r:=⟨n,r,e⟩;rw[dif_pos q];have e1:=q.choose_spec.choose_spec;have e2:=bp e1 n;have e3:=bp e q.choose;rw[Nat.add_comm] at e3;rw[e2] at e3;exact e3
def QJ(e:ck c b ρ h=À r):∃n,vE c b n ρ h=À r:=by
 unfold ck at e;split at e
 .rename_i q
  have e1:=q.choose_spec.choose_spec;cases e;exact⟨_,e1⟩
 .cases e
section
variable{X:Cx}{cl:Cl}{pos:ė}
def Yo(hc:ST X cl c t)(hb:SB X cl body b)(hp:PassesOwn (Í X.prog X.w) X.A X.env X.xe:=by exact yX):SS X cl (.While c body [] pos) (ck t b):=PS.wk (YW hp hc hb) λD σ H q0=>by
 obtain⟨μ,h,ρ,fl,h',R,er,e,k⟩:=q0;obtain⟨n0,e⟩:=QJ e;refine⟨λn σ H=>∃μ h ρ fl h',HR X.K cl μ H h/\ER X.K μ H ρ σ/\vE t b n ρ h=À (fl,h')/\KF X.K cl μ H h' fl D,⟨n0,μ,h,ρ,fl,h',R,er,e,k⟩,?_⟩;rintro n σ H ⟨μ,h,ρ,fl,h',R,er,e,k⟩;cases n with
 | zero=>cases e
 | succ n=>
  unfold vE at e;cases e1:t ρ h with
  | none=>rw[e1] at e;cases e
  | some p=>
   obtain⟨c,h1⟩:=p;rw[e1] at e;refine⟨μ,h,ρ,c,h1,R,er,e1,λcb H1 E1 R1=>?_⟩;cases c with
   | false=>
    rw[zW zU];cases e;exact k cb H1 E1 R1 σ (er.ext R E1)
   | true=>
    rw[zQ rfl];refine⟨λhG H'=>∃μ h ρ fl h',HR X.K cl μ H' h/\ER X.K μ H' ρ hG/\vE t b n ρ h=À (fl,h')/\KF X.K cl μ H' h' fl D,λhG H' q=>⟨n,jY n,q⟩,?_⟩;simp only at e;cases e2:b ρ h1 with
    | none=>rw[e2] at e;cases e
    | some q=>
     obtain⟨f2,h2⟩:=q;rw[e2] at e;refine⟨cb,h1,ρ,f2,h2,R1,er.ext R E1,e2,λgy H2 E2 R2=>?_⟩;cases f2 with
     | nx r9=>exactλEr EL=>⟨gy,h2,r9,fl,h',R2,EL,e,k.ext (E1.trans E2)⟩
     | ct r9=>exactλEr EL=>⟨gy,h2,r9,fl,h',R2,EL,e,k.ext (E1.trans E2)⟩
     | bk r9=>cases e;exactλEr EL=>k gy H2 (E1.trans E2) R2 Er EL
     | ret w=>cases e;exactλv rv=>k gy H2 (E1.trans E2) R2 v rv
end
inductive Src where
 | items (l:List W) | live (n:Nat)
noncomputable def xS(s:Src)(i:Nat)(h:MH):Option (Option W):=match s with
 | .items l=>À l[i]?
 | .live n=>match h[n]? with
  | some (.lst l)=>À l[i]?
  | _=>Á
noncomputable def JR(K:aab)(cl:Cl)(J:It)(s:Src)(μ:List Ç)(H:Hp):Prop:=∀gy H2 h2,Ext μ H gy H2->HR K cl gy H2 h2->∀i,
 (∀w,xS s i h2=À (À w)->J.go i H2/\∀x H3,J.yld i H2 x H3->Ext gy H2 gy H3/\HR K cl gy H3 h2/\RW K gy H3 w x)/\(xS s i h2=À Á->J.stop i H2)
abbrev MI:=En->M Src
inductive tMI(K:aab)(cl:Cl)(m:MI)(σ:L2.St)(H:Hp)(R:It->Hp->Prop):Prop
 | mk (μ:List Ç) (h:MH) (ρ:En) (src:Src) (h':MH) (p0:HR K cl μ H h) (p1:ER K μ H ρ σ) (p2:m ρ h=À (src,h')) (p3:∀d3 H' J,Ext μ H d3 H'->HR K cl d3 H' h'->JR K cl J src d3 H'->R J H'):tMI K cl m σ H R
abbrev SI(X:Cx)(cl:Cl)(tg e:Î)(m:MI):Prop:=PI X tg e (tMI X.K cl m)
def PI.wk(h:PI X tg e t)(w:∀σ H Q,t' σ H Q->t σ H Q):PI X tg e t':=λag s σ H Q I q=>h ag s σ H Q I (w σ H Q q)
def JR.ext{K:aab}{cl:Cl}{J:It}{H:Hp}(E:Ext μ H d3 H')(j:JR K cl J s μ H):JR K cl J s d3 H':=λgy H2 h2 E2=>j gy H2 h2 (E.trans E2)
noncomputable def fj(s:Src)(g:MG)(b:MS):Nat->Nat->MS
 | 0,_=>λ_ _=>Á
 | k+1,i=>λρ h=>match xS s i h with
  | some (À w)=>match g w ρ h with
   | some (oj,h1)=>match b oj h1 with
    | some (.nx r9,h2)=>fj s g b k (i+1) r9 h2
    | some (.ct r9,h2)=>fj s g b k (i+1) r9 h2
    | some (.bk r9,h2)=>À (.nx r9,h2)
    | some (.ret w,h2)=>À (.ret w,h2)
    | none=>Á
   | none=>Á
  | some Á=>À (.nx ρ,h)
  | none=>Á
noncomputable def forL(g:MG)(b:MS):List W->MS
 | []=>λρ h=>À (.nx ρ,h)
 | w::r=>λρ h=>match g w ρ h with
  | some (oj,h1)=>match b oj h1 with
   | some (.nx r9,h2)=>forL g b r r9 h2
   | some (.ct r9,h2)=>forL g b r r9 h2
   | some (.bk r9,h2)=>À (.nx r9,h2)
   | some (.ret w,h2)=>À (.ret w,h2)
   | none=>Á
  | none=>Á
theorem fO(l:List W):∀(k i:Nat) (ρ:En) (h:MH),l.length+1<=i+k->i<=l.length->fj (.items l) g b k i ρ h=forL g b (l.drop i) ρ h
 | 0,i,ρ,h,hk,hi=>by omega
 | k+1,i,ρ,h,hk,hi=>by
  by_cases hl:i<l.length
  .rw[wX hl]
   unfold fj forL;erw[xS,zL hl];cases e1:g l[i] ρ h with
   | none=>rfl
   | some p=>
    obtain⟨oj,h1⟩:=p;simp only;cases e2:b oj h1 with
    | none=>rfl
    | some q=>
     obtain⟨fl,h2⟩:=q;cases fl with
     | nx r9=>exact fO l k (i+1) r9 h2 ∅ hl
     | ct r9=>exact fO l k (i+1) r9 h2 ∅ hl
     | bk r9=>rfl
     | ret w=>rfl
  .have A5:i=l.length:=by omega
   subst A5;rw[ug];unfold fj forL;simp[xS]
noncomputable def Vs(s:Src)(h:MH):Nat:=match s with
 | .items l=>l.length
 | .live n=>match h[n]? with
  | some (.lst l)=>l.length
  | _=>0
noncomputable def wa(mi:MI)(g:MG)(b:MS):MS:=λρ h=>match mi ρ h with
 | some (.items l,h1)=>forL g b l ρ h1
 | some (.live n,h1)=>fj (.live n) g b (Vs (.live n) h1+1) 0 ρ h1
 | none=>Á
section
variable{X:Cx}{cl:Cl}{pos:ė}
def tD{K:aab}{J:It}{src:Src}{g:MG}{b:MS}{D:Ends}{σ:L2.St}{H:Hp}(R:HR K cl μ H h)(er:ER K μ H ρ σ)(j:JR K cl J src μ H)(e:fj src g b k0 0 ρ h=À (fl,h'))
  (k:KF K cl μ H h' fl D):∃W:Nat->Nat->L2.St->Hp->Prop,(∃m,W 0 m σ H)/\∀i m σ H,W i m σ H->
   (J.stop i H/\D.nx σ H)\/(J.go i H/\∃N:L2.St->Hp->Prop,(∀hG H',N hG H'->∃m',m'<m/\W (i+1) m' hG H')/\∀x H',J.yld i H x H'->tMG K cl g x σ H' λEr H2=>tMS K cl b { D with nx:=N,ct:=N,bk:=D.nx } Er H2):=by
 refine⟨λi m σ H=>∃μ h ρ fl h',HR K cl μ H h/\ER K μ H ρ σ/\JR K cl J src μ H/\fj src g b m i ρ h=À (fl,h')/\KF K cl μ H h' fl D,⟨k0,μ,h,ρ,fl,h',R,er,j,e,k⟩,?_⟩;rintro i m σ H ⟨μ,h,ρ,fl,h',R,er,j,e,k⟩;cases m with
 | zero=>cases e
 | succ m=>
  unfold fj at e;obtain⟨jg,js⟩:=j μ H h .refl R i;cases es:xS src i h with
  | none=>rw[es] at e;cases e
  | some o=>
   rw[es] at e;cases o with
   | none=>
    cases e;exact .inl ⟨js es,k.nx R er⟩
   | some w=>
    obtain⟨go,yl⟩:=jg w es;simp only at e;cases e1:g w ρ h with
    | none=>rw[e1] at e;cases e
    | some p=>
     obtain⟨oj,h1⟩:=p;rw[e1] at e;simp only at e;cases e2:b oj h1 with
     | none=>rw[e2] at e;cases e
     | some q=>
      obtain⟨f2,h2⟩:=q;rw[e2] at e;refine .inr ⟨go,λhG H'=>∃μ h ρ fl h',HR K cl μ H' h/\ER K μ H' ρ hG/\JR K cl J src μ H'/\fj src g b m (i+1) ρ h=À (fl,h')/\KF K cl μ H' h' fl D,λhG H' q=>⟨m,jY m,q⟩,λx H1 y1=>?_⟩;obtain⟨E1,R1,rx⟩:=yl x H1 y1;refine⟨μ,h,ρ,w,oj,h1,R1,er.ext R E1,rx,e1,λgy H2 Er E2 R2 EL=>⟨gy,h1,oj,f2,h2,R2,EL,e2,λAG H3 E3 R3=>?_⟩⟩;have E:=E1.trans (E2.trans E3);cases f2 with
      | nx r9=>exactλAZ L6=>⟨AG,h2,r9,fl,h',R3,L6,j.ext E,e,k.ext E⟩
      | ct r9=>exactλAZ L6=>⟨AG,h2,r9,fl,h',R3,L6,j.ext E,e,k.ext E⟩
      | bk r9=>cases e;exactλAZ L6=>k AG H3 E R3 AZ L6
      | ret w=>cases e;exactλv rv=>k AG H3 E R3 v rv
def Fc(hc:X.calm=Â)(hi:SI X cl tg iter mi)(hg:SG X cl tg g)(hb:SB X cl body b)
  (hs:∀x,í iter X.env x=pure x:=by intro _;rfl) (hp:PassesOwn (Í X.prog X.w) X.A X.env X.xe:=by exact yX):SS X cl (.For tg iter body [] pos) (wa mi g b):=PS.wk (DD hp hc hi hg hb hs) λD σ H q0=>by
 obtain⟨μ,h,ρ,fl,h',R,er,e,k⟩:=q0;unfold wa at e;split at e
 .rename_i l h1 e1
  refine⟨μ,h,ρ,.items l,h1,R,er,e1,λcb H1 J E1 R1 j=>?_⟩;have q:=fO (g:=g) (b:=b) l (l.length+1) 0 ρ h1 ∅ ∅;rw[List.drop_zero,e] at q;exact tD R1 (er.ext R E1) j q (k.ext E1)
 .rename_i n h1 e1
  exact⟨μ,h,ρ,.live n,h1,R,er,e1,λcb H1 J E1 R1 j=>tD R1 (er.ext R E1) j e (k.ext E1)⟩
 .cases e
end
noncomputable def kS(np k:Nat)(b:MS):List W->M W:=λws h=>if ws.length=np then (match b (ws.map À++É k Á) h with
 | some (.ret w,h')=>À (w,h')
 | some (.nx _,h')=>À (.non,h')
 | _=>Á) else Á
section
variable{P:Ï}{w:Ñ}{K:aab}{mg:È->Option Ã}{base:Õ}{cl:Cl}
def sW{H:Hp}{N:List È}{ws:List W}{vs:List V}(rs:RWs K μ H ws vs)(hk:N.length-vs.length=k):ER K μ H (ws.map À++É k Á) (L2.start N vs):=by
 subst hk;unfold L2.start;refine⟨by simp[rs.length],λi w e=>?_⟩;by_cases hi:i<ws.length
 .rw[zY (by simpa using hi),zZ] at e
  cases e1:ws[i]? with
  | none=>rw[e1] at e;cases e
  | some w'=>
   rw[e1] at e;cases e;obtain⟨v,e2,r⟩:=rs.get e1;exact⟨v,by rw[zY (by rw[zH,<-rs.length];exact hi),zZ,e2];rfl,r⟩
 .rw[ji (by simpa using hi),q8] at e
  split at e<;>cases e
def Gr{x qual:È}{st:ď}{f:Ç}{fd:ć}{N ps:List È}(F:Fun K x qual st f fd)(S:FnScope N ps (ja st))(EM:ps.length=np)(Aq:N.length-np=ns)
  (hb:∀(xI:Ã) (A:Ø) (outer:List Env) (s:Å) (H:Hp) (E:XK),Room k (A.deeper (Ŗ qual (ja st) s.heap.objs.size f xI))->
   SB (gS dR P w K mg base N qual (ja st) f xI A outer s H E).nox cl (ve st) b):FnOk P w K mg base dR (k+1) f fd ps (bS K cl (gc (kS np ns b))):=by
 have len:∀vs H Q E,bS K cl (kS np ns b) vs H Q E->vs.length=ps.length:=by
  rintro vs H Q E ⟨μ,h,ws,w,h',R,rs,e,k⟩;unfold kS at e;split at e
  .rename_i hl
   rw[EM,<-hl,rs.length]
  .cases e
 refine FnOk.imp (sp:=bS K cl (kS np ns b)) (F.ok S len λxI A outer s H vs Q E hr EJ=>⟨_,hb xI A outer s H E hr,?_⟩) λvs H Q E q=>F6 (E:=E) q
 have d6:=len _ _ _ _ EJ;obtain⟨μ,h,ws,w,h',R,rs,e,k⟩:=EJ;unfold kS at e;split at e
 .rename_i hl
  split at e
  .rename_i w1 h1 e1
   cases e;exact⟨μ,h,_,_,_,R,sW rs (by rw[d6,EM];exact Aq),e1,λcb H1 E1 R1 v rv=>k cb H1 v E1 R1 rv⟩
  .rename_i oj h1 e1
   cases e;exact⟨μ,h,_,_,_,R,sW rs (by rw[d6,EM];exact Aq),e1,λcb H1 E1 R1 Ip _=>k cb H1 .non E1 R1 .non⟩
  .cases e
 .cases e
end
noncomputable def getL(h:MH):W->Option (List W)
 | .fls l=>À l
 | .ref n=>match h[n]? with
  | some (.lst l)=>À l
  | _=>Á
 | _=>Á
section
variable{K:aab}{cl:Cl}{μ:List Ç}{H:Hp}{h:MH}
def vv(R:HR K cl μ H h)(r:RW K μ H w v)(e:getL h w=À l):∃a vs,v=.ref a/\SqL K H a vs/\RWs K μ H l vs:=by
 cases r with
 | @fls a vs l' s rs=>cases e;exact⟨a,vs,rfl,s.sq,rs⟩
 | @ref n a hn=>
  erw[getL] at e;split at e
  .rename_i l' ho
   cases e;obtain⟨vs,hv,rs⟩:=R.ob n a _ hn ho;exact⟨a,vs,rfl,SqL.of hv,rs⟩
  .cases e
 | _=>cases e
theorem RW.int_of(r:RW K μ H (.int i) v):v=.int i:=by cases r;rfl
theorem RW.str_of(r:RW K μ H (.str i) v):v=.str i:=by cases r;rfl
def RW.tup_of(r:RW K μ H (.tup l) v):∃a vs,v=.ref a/\SqT K H a vs/\RWs K μ H l vs:=by cases r with | @tup a vs l s rs=>exact⟨a,vs,rfl,s,rs⟩
end
noncomputable def j3(x y:W):Option W:=match x,y with
 | .int i,.int j=>À (.int (i+j))
 | .str i,.str j=>if i.length+j.length<=cap then À (.str (i++j)) else Á
 | .tup l,.tup l'=>if l.length+l'.length<=cap then À (.tup (l++l')) else Á
 | _,_=>Á
noncomputable def addW(x y:W):M W:=λh=>match j3 x y with
 | some w=>À (w,h)
 | none=>match getL h x,getL h y with
  | some l,À l'=>if l.length+l'.length<=cap then À (.fls (l++l'),h) else Á
  | _,_=>Á
noncomputable def Y2(x y:W):M W:=λh=>match getL h x,getL h y with
 | some l,À l'=>if l.length+l'.length<=cap then À (.ref h.length,h++[.lst (l++l')]) else Á
 | _,_=>Á
section
variable{prog:Ï}{w:Ñ}{A:Ø}{E:Ã->Å->Prop}{s:Å}
def Wp{vs ws:List Ã}(ht:s.heap.IsList t vs.toArray)(hb:s.heap.IsList b ws.toArray)
  (h2:Q (.ref s.heap.objs.size) { s with heap:=s.heap.push { cls:=.type "list",data:=.seq (vs++ws).toArray } })
  (hsz:vs.length+ws.length<=Ð):Æ (Í prog w) A (ä .Add (.ref t) (.ref b)) Q E s:=by
 obtain⟨⟨cls,dd,data,sl⟩,ho,hc,n,hd⟩:=id ht;obtain⟨⟨LR,Et,data2,Ea⟩,Eu,IP,n2,hd2⟩:=id hb;simp only at hc hd IP hd2;subst hc hd IP hd2;have e:vs.toArray++ws.toArray=(vs++ws).toArray:=by simp
 refine uE ⟨_,ho,rfl⟩ ⟨_,Eu,rfl⟩ noFill_list_add seq_list_add PySem.F.slot_list_add PySem.F.entry_list_add (PySem.F.args_list_add_2 _ _)
  (list_addW t b vs.toArray ws.toArray n n2 dd Et sl Ea (by rw[zO,zO];exact hsz)) ⟨ho,Eu,?_⟩
 rw[e];exact h2
def Wz{ws:List Ã}(ht:Ő s.heap t ([]:List Ã).toArray)(hb:Ő s.heap b ws.toArray)(h1:Q (.ref b) s) :
  Æ (Í prog w) A (ä .Add (.ref t) (.ref b)) Q E s:=by
 obtain⟨⟨cls,dd,data,sl⟩,ho,hc,n,hd⟩:=id ht;obtain⟨⟨LR,Et,data2,Ea⟩,Eu,IP,n2,hd2⟩:=id hb;simp only at hc hd IP hd2;subst hc hd IP hd2;exact uE ⟨_,ho,rfl⟩ ⟨_,Eu,rfl⟩ uK seq_tuple_add yD yq (yh _ _)
  (tuple_addW0 t b _ ws.toArray n n2 dd Et sl Ea rfl) ⟨ho,Eu,h1⟩
end
section
variable{X:Cx}{cl:Cl}
def KH{P:List W->MH->W->MH->Prop}{H:Hp}{l l':List W}(I:Inv X ag σ H s)(rx:RelV x v)(ry:RelV y u)
  (R:HR X.K cl μ H h) (ax:RW X.K μ H wx x) (ay:RW X.K μ H wy y) (e1:getL h wx=À l) (e2:getL h wy=À l') (hl:l.length+l'.length<=cap)
  (k:∀p xs,H p=Á->RWs X.K μ H (l++l') xs->Q (.ref p) (upd H p (.lst xs))):Æ (Í X.prog X.w) X.A (ä .Add v u) (EP X ag σ Q) X.xe s:=by
 obtain⟨a,vs,rfl,sa,ra⟩:=vv R ax e1;obtain⟨b,El,rfl,sb,rb⟩:=vv R ay e2;cases rx;cases ry;obtain⟨its,r1,p1,_⟩:=I.list sa;obtain⟨Au,r2,p2,_⟩:=I.list sb;have hz:vs.length+El.length<=Ð:=zq (by rw[<-ra.length,<-rb.length];exact hl) yv;refine Wp p1.isList p2.isList ?_ (by rw[<-r1.length,<-r2.length];exact hz);exact⟨.ref _,_,I.lnew (t':=s.toks) (r1.append r2) (by rw[zR];exact hz),rfl,k _ _ I.fresh (ra.append rb)⟩
def Um:kT X (ä .Add) (rM X.K cl addW):=by
 rintro ag s σ H x y v u Q I rx ry ⟨μ,h,wx,wy,w,h',R,ax,ay,e,k⟩;unfold addW at e;split at e
 .rename_i w' e'
  cases e;unfold j3 at e';split at e'
  .rename_i i j
   cases e';exact Dk ag s σ H x y v u Q I rx ry ⟨i,j,ax.int_of,ay.int_of,k.pure R (.int _)⟩
  .rename_i i j
   split at e'
   .rename_i hl
    cases e';exact JI ag s σ H x y v u Q I rx ry ⟨i,j,ax.str_of,ay.str_of,zq hl yv,k.pure R (.str _)⟩
   .cases e'
  .rename_i l l'
   split at e'
   .rename_i hl
    cases e';obtain⟨a,vs,rfl,sa,ra⟩:=ax.tup_of;obtain⟨b,El,rfl,sb,rb⟩:=ay.tup_of;by_cases hv:vs=[]
    .subst hv
     cases ra;cases rx;cases ry;obtain⟨its,r1,p1,_⟩:=I.tuple sa;obtain⟨Au,r2,p2,_⟩:=I.tuple sb;cases r1;exact Wz p1 p2 ⟨.ref b,H,I,rfl,k.pure R (.tup sb rb)⟩
    .refine Bl ag s σ H _ _ v u Q I rx ry ⟨a,b,vs,El,rfl,rfl,sa,sb,hv,zq (by rw[<-ra.length,<-rb.length];exact hl) yv,λz=>?_,λ_ p hp=>k.tup R (ra.append rb) hp⟩
     subst z;cases rb;rw[v6] at k;exact k.pure R (.tup sa ra)
   .cases e'
  .cases e'
 .split at e
  .rename_i l l' e1 e2
   split at e
   .rename_i hl
    cases e;exact KH (P:=λ_ _ _ _=>True) I rx ry R ax ay e1 e2 hl λp xs hp rs=>k.fls R rs hp
   .cases e
  .cases e
def BX:kT X (ä .Add) (rM X.K cl Y2):=by
 rintro ag s σ H x y v u Q I rx ry ⟨μ,h,wx,wy,w,h',R,ax,ay,e,k⟩;unfold Y2 at e;split at e
 .rename_i l l' e1 e2
  split at e
  .rename_i hl
   cases e;exact KH (P:=λ_ _ _ _=>True) I rx ry R ax ay e1 e2 hl λp xs hp rs=>k.lst R rs hp
  .cases e
 .cases e
end
noncomputable def yB(x y:W):M W:=λh=>match x,y with
 | .int i,.int j=>À (.int (i-j),h)
 | _,_=>Á
noncomputable def small(i:Int):Bool:=decide (-(2 ^ 64)<i/\i<2 ^ 64)
noncomputable def kx(x y:W):M W:=λh=>match x,y with
 | .int i,.int j=>if (small i||small j)=Â then À (.int (i*j),h) else Á
 | .tup l,.int j=>if 0<=j/\j<=1000/\l.length<=1000 then À (.tup (É j.toNat l).flatten,h) else Á
 | .fls l,.int j=>if 0<=j/\j<=1000/\l.length<=1000 then À (.fls (É j.toNat l).flatten,h) else Á
 | _,_=>Á
noncomputable def y7(x y:W):M W:=λh=>match x,y with
 | .int i,.int j=>if 0<j then À (.int (i%j),h) else Á
 | _,_=>Á
noncomputable def aI(x y:W):M W:=λh=>match x,y with
 | .int i,.int j=>if 0<j/\j<1073741824 then À (.int (i/j),h) else Á
 | _,_=>Á
noncomputable def WI(x y:W):M W:=λh=>match x,y with
 | .int i,.int j=>if 0<=j/\j<=100/\i.natAbs<1000 then À (.int (i ^ j.toNat),h) else Á
 | _,_=>Á
noncomputable def vw(p:Int->Int->Bool)(x y:W):M W:=λh=>match x,y with
 | .int i,.int j=>À (.bl (p i j),h)
 | _,_=>Á
noncomputable def nO(x:W):M W:=λh=>match x with
 | .int i=>À (.int (-i),h)
 | _=>Á
noncomputable def uS(b:Bool)(x y:W):M W:=λh=>match x,y with
 | .non,.non=>À (.bl b,h)
 | .tup _,.non=>À (.bl (!b),h)
 | .fls _,.non=>À (.bl (!b),h)
 | .int _,.non=>À (.bl (!b),h)
 | .str _,.non=>À (.bl (!b),h)
 | .bl _,.non=>À (.bl (!b),h)
 | .ref _,.non=>À (.bl (!b),h)
 | _,_=>Á
section
variable{X:Cx}{cl:Cl}
def UH:kT X (ä .Sub) (rM X.K cl yB):=by
 rintro ag s σ H x y v u Q I rx ry ⟨μ,h,wx,wy,w,h',R,ax,ay,e,k⟩;unfold yB at e;split at e
 .cases e;exact Cr ag s σ H x y v u Q I rx ry ⟨_,_,ax.int_of,ay.int_of,k.pure R (.int _)⟩
 .cases e
def UN:kT X (ä .Mod) (rM X.K cl y7):=by
 rintro ag s σ H x y v u Q I rx ry ⟨μ,h,wx,wy,w,h',R,ax,ay,e,k⟩;unfold y7 at e;split at e
 .split at e
  .rename_i hj;cases e;exact CP ag s σ H x y v u Q I rx ry ⟨_,_,ax.int_of,ay.int_of,hj,k.pure R (.int _)⟩
  .cases e
 .cases e
def UO:kT X (ä .FloorDiv) (rM X.K cl aI):=by
 rintro ag s σ H x y v u Q I rx ry ⟨μ,h,wx,wy,w,h',R,ax,ay,e,k⟩;unfold aI at e;split at e
 .split at e
  .rename_i hj;cases e;exact Be ag s σ H x y v u Q I rx ry ⟨_,_,ax.int_of,ay.int_of,hj,k.pure R (.int _)⟩
  .cases e
 .cases e
def UM:kT X (ä .Pow) (rM X.K cl WI):=by
 rintro ag s σ H x y v u Q I rx ry ⟨μ,h,wx,wy,w,h',R,ax,ay,e,k⟩;unfold WI at e;split at e
 .split at e
  .rename_i hj;cases e;exact Fg ag s σ H x y v u Q I rx ry ⟨_,_,ax.int_of,ay.int_of,⟨hj.1,by omega,zN hj.2.2 (by decide)⟩,k.pure R (.int _)⟩
  .cases e
 .cases e
def iS(ho:kT X (Ó op) (mf λi j=>.bl (p i j))):kT X (Ó op) (rM X.K cl (vw p)):=by
 rintro ag s σ H x y v u Q I rx ry ⟨μ,h,wx,wy,w,h',R,ax,ay,e,k⟩;unfold vw at e;split at e
 .cases e;exact ho ag s σ H x y v u Q I rx ry ⟨_,_,ax.int_of,ay.int_of,k.pure R (.bl _)⟩
 .cases e
def FG:kT X (Ó .Lt) (rM X.K cl (vw λi j=>decide (i<j))):=iS FT
def FC:kT X (Ó .LtE) (rM X.K cl (vw λi j=>decide (i<=j))):=iS Gj
def C0:kT X (Ó .Gt) (rM X.K cl (vw λi j=>decide (j<i))):=iS Gu
def Co:kT X (Ó .GtE) (rM X.K cl (vw λi j=>decide (j<=i))):=iS Gm
def U7:Qj X (unaryOp .USub) (rM1 X.K cl nO):=by
 rintro ag s σ H x v Q I rx ⟨μ,h,wx,w,h',R,ax,e,k⟩;unfold nO at e;split at e
 .cases e;exact VW ag s σ H x v Q I rx ⟨_,ax.int_of,k.pure R (.int _)⟩
 .cases e
def UC:J8 X .Add (rM X.K cl (λx y=>match x,y with | .int i,.int j=>λh=>À (.int (i+j),h) | _,_=>λ_=>Á)):=by
 rintro ag s σ H x y v u Q I rx ry ⟨μ,h,wx,wy,w,h',R,ax,ay,e,k⟩;try dsimp only at e
 split at e
 .cases e;exact FQ ag s σ H x y v u Q I rx ry ⟨_,_,ax.int_of,ay.int_of,k.pure R (.int _)⟩
 .cases e
def mL{K:aab}{μ:List Ç}{H:Hp}{h h':MH}(ax:RW K μ H wx x)(ay:RW K μ H wy y)(e:uS b wx wy h=À (w,h')):h=h'/\y=.non/\w=.bl (if b then decide (x=.non) else !decide (x=.non)):=by
 unfold uS at e;split at e<;>first | (cases e;cases ax;cases ay;refine⟨rfl,rfl,?_⟩;cases b<;>simp) | cases e
def Dm:kT X (Ó .Is) (rM X.K cl (uS Â)):=by
 rintro ag s σ H x y v u Q I rx ry ⟨μ,h,wx,wy,w,h',R,ax,ay,e,k⟩;obtain⟨rfl,hy,rfl⟩:=mL ax ay e;exact Fz ag s σ H x y v u Q I rx ry ⟨hy,k.pure R (.bl _)⟩
def Ql:kT X (Ó .IsNot) (rM X.K cl (uS Ä)):=by
 rintro ag s σ H x y v u Q I rx ry ⟨μ,h,wx,wy,w,h',R,ax,ay,e,k⟩;obtain⟨rfl,hy,rfl⟩:=mL ax ay e;exact Ue ag s σ H x y v u Q I rx ry ⟨hy,k.pure R (.bl _)⟩
end
noncomputable def kK(ws:List W):M W:=λh=>match ws with
 | [.tup l]=>À (.int l.length,h)
 | [.str x]=>if x.length<=cap then À (.int x.length,h) else Á
 | [w]=>match getL h w with
  | some l=>À (.int l.length,h)
  | none=>Á
 | _=>Á
noncomputable def zC(x y:W):M W:=λh=>match x,y with
 | .tup l,.int i=>match atI l i with
  | some w=>À (w,h)
  | none=>Á
 | .str z,.int i=>if z.length<=cap then (match atI z.cps.toList i with
  | some c=>À (.str ⟨#[c]⟩,h)
  | none=>Á) else Á
 | x,.int i=>match getL h x with
  | some l=>match atI l i with
   | some w=>À (w,h)
   | none=>Á
  | none=>Á
 | _,_=>Á
noncomputable def cutW(l:List W)(lo hi:Option Int):List W:=(l.drop (HT.sIx l.length 0 lo)).take (HT.sIx l.length l.length hi-HT.sIx l.length 0 lo)
theorem RWs.atI{K:aab}{μ:List Ç}{H:Hp}{l:List W}(rs:RWs K μ H l vs)(e:L2.atI l i=À w):∃v,L2.atI vs i=À v/\RW K μ H w v:=by
 unfold L2.atI at e ⊢;rw[<-rs.length];cases q:y8 l.length i with
 | none=>rw[q] at e;cases e
 | some j=>
  rw[q] at e;exact rs.get e
theorem RWs.cutW{K:aab}{μ:List Ç}{H:Hp}(rs:RWs K μ H l vs)(lo hi:Option Int):RWs K μ H (cutW l lo hi) (eg vs lo hi):=by
 unfold ML.cutW eg;rw[<-rs.length];exact(rs.drop _).take _
section
variable{X:Cx}{cl:Cl}{a b:Î}{ma mb:ME}{pos:ė}
def Vc:qo X (.builtin "len") (rMs X.K cl kK):=by
 rintro ag s σ H xs us Q I rs ⟨μ,h,ws,w,h',R,ax,e,k⟩;unfold kK at e;split at e
 .rename_i l
  cases e;cases ax with | cons r t=>cases t with | nil=>
   obtain⟨a,vs,rfl,sa,ra⟩:=r.tup_of;exact gW ag s σ H _ us Q I rs ⟨a,vs,rfl,.inr sa,by rw[<-ra.length];exact k.pure R (.int _)⟩
 .rename_i z
  split at e
  .rename_i hl
   cases e;cases ax with | cons r t=>cases t with | nil=>
    cases r.str_of;exact rZ ag s σ H _ us Q I rs ⟨z,rfl,zq hl yv,k.pure R (.int _)⟩
  .cases e
 .split at e
  .rename_i l el
   cases e;cases ax with | cons r t=>cases t with | nil=>
    obtain⟨a,vs,rfl,sa,ra⟩:=vv R r el;exact gW ag s σ H _ us Q I rs ⟨a,vs,rfl,.inl sa,by rw[<-ra.length];exact k.pure R (.int _)⟩
  .cases e
 .cases e
def Ha:KR X (rM X.K cl zC):=by
 rintro value slice ag s σ H x y v u Q I rx ry ⟨μ,h,wx,wy,w,h',R,ax,ay,e,k⟩ hs;unfold zC at e;split at e
 .rename_i l i
  split at e
  .rename_i w' e'
   cases e;obtain⟨a,vs,rfl,sa,ra⟩:=ax.tup_of;obtain⟨v',ev,rv⟩:=ra.atI e';exact Za value slice ag s σ H _ y v u Q I rx ry ⟨a,vs,i,v',rfl,ay.int_of,sa,ev,k.pure R rv⟩ hs
  .cases e
 .rename_i z i
  split at e
  .rename_i hl
   split at e
   .rename_i c e'
    cases e;exact Df value slice ag s σ H _ y v u Q I rx ry ⟨z,i,c,ax.str_of,ay.int_of,zq hl yv,e',k.pure R (.str _)⟩ hs
   .cases e
  .cases e
 .rename_i i OT IZ
  split at e
  .rename_i l el
   split at e
   .rename_i w' e'
    cases e;obtain⟨a,vs,rfl,sa,ra⟩:=vv R ax el;obtain⟨v',ev,rv⟩:=ra.atI e';exact Ub value slice ag s σ H _ y v u Q I rx ry ⟨a,vs,i,v',rfl,ay.int_of,sa,ev,k.pure R rv⟩ hs
   .cases e
  .cases e
 .cases e
def GI(ha:SE X cl a ma)(hb:SE X cl b mb)(hs:fw b:=by exactλ_ _=>rfl):SE X cl (.Subscript a b pos) (zh zC ma mb):=
 PE.wk (XB Ha ha hb hs) λσ H Q q=>gf q
end
section
variable{prog:Ï}{w:Ñ}{A:Ø}{E:Ã->Å->Prop}{s:Å}
open HT in
def gJ{t sl:Ç}{items:Array Ã}{vl vu:Ã}{lo hi:Option Int}{Q:Ã->Å->Prop}(ht:Ő s.heap t items)(hs:s.heap.IsSliceOf sl vl vu .none)(pl:ň vl lo)(pu:ň vu hi)
  (hw:sIx items.size 0 lo=0/\sIx items.size items.size hi=items.size) (h:Q (.ref t) s):Æ (Í prog w) A (Ń (.ref t) (.ref sl)) Q E s:=by
 obtain⟨os,Ej,AC,Ih⟩:=id hs;have LS:s.TypeIs (.ref sl) "slice":=⟨os,Ej,AC⟩;unfold Ń;try with_reducible refine jf ?_
 first | refine za (zf ?_) | skip
 refine za (uy ht.typeIs (by decide) ?_)
 refine za (jx (name:=ü "__getitem__") ht.typeIs jo
  (jh jo ht.typeIs uT ?_ (pC _ _)))
 show Æ _ _ (ġ (.ref t) >>= _) _ _ s
 refine za (yF ht ?_);refine za (qH LS ?_);rw[zQ (by decide)];refine za (dS hs pl pu ?_);have LU:((((sIx items.size 0 lo:Nat):Int)==0&&(1:Int)==1&&(sIx items.size items.size hi-sIx items.size 0 lo)==items.size)=Â):=by
  rw[hw.1,hw.2];simp
 show Æ _ _ (if (((sIx items.size 0 lo:Nat):Int)==0&&(1:Int)==1&&(sIx items.size items.size hi-sIx items.size 0 lo)==items.size)=Â then _ else _) _ _ s
 rw[zQ LU];unfold ŋ;refine za (za (qH ht.typeIs (zf ?_)));rw[zQ (by decide)];first
  | exact za (vG (zf ⟨_,rfl,zf h⟩))
  | exact za (vG (za (zf (zf ⟨_,rfl,zf h⟩))))
  | exact za (za (vG (zf ⟨_,rfl,zf h⟩)))
end
noncomputable def gE(x:W)(lo hi:Option Int):M W:=λh=>match x with
 | .tup l=>À (.tup (cutW l lo hi),h)
 | .str z=>if z.length<=cap then À (.str (Txt.slice z lo hi),h) else Á
 | x=>match getL h x with
  | some l=>À (.fls (cutW l lo hi),h)
  | none=>Á
noncomputable def bo(m:Option ME):En->M (Option Int):=λρ=>match m with
 | none=>λh=>À (Á,h)
 | some m=>bnd (m ρ) λw h=>match w with
  | .int i=>À (À i,h)
  | _=>Á
noncomputable def cq(a:ME)(lo hi:Option ME):ME:=λρ=>bnd (a ρ) λx=>bnd (bo lo ρ) λl=>bnd (bo hi ρ) λu=>gE x l u
section
variable{X:Cx}{cl:Cl}{a:Î}{ma:ME}{pos p2:ė}
inductive tMO(K:aab)(cl:Cl)(m:Option ME)(σ:L2.St)(H:Hp)(Q:Option Int->Hp->Prop):Prop
 | mk (μ:List Ç) (h:MH) (ρ:En) (o:Option Int) (h':MH) (p0:HR K cl μ H h) (p1:ER K μ H ρ σ) (p2:bo m ρ h=À (o,h')) (p3:∀d3 H',Ext μ H d3 H'->HR K cl d3 H' h'->Q o H'):tMO K cl m σ H Q
abbrev SO(X:Cx)(cl:Cl)(e:Option Î)(m:Option ME):Prop:=PO X e (tMO X.K cl m)
def PO.wk(h:PO X e t)(w:∀σ H Q,t' σ H Q->t σ H Q):PO X e t':=λag s σ H Q I q=>h ag s σ H Q I (w σ H Q q)
def UU:SO X cl Á Á:=PO.wk Us λσ H Q q0=>by
 obtain⟨μ,h,ρ,o,h',R,er,e,k⟩:=q0;cases e;exact k μ H .refl R
def UY(ha:SE X cl a ma):SO X cl (À a) (À ma):=PO.wk (Z9 ha) λσ H Q q0=>by
 obtain⟨μ,h,ρ,o,h',R,er,e,k⟩:=q0;obtain⟨x,h1,e1,e⟩:=zD e;split at e
 .rename_i i
  cases e;exact⟨μ,h,ρ,_,_,R,er,e1,λcb H1 v E1 R1 r=>⟨i,r.int_of,k cb H1 E1 R1⟩⟩
 .cases e
def Uq{ag:List (Ç×ø)}{s:Å}{σ:L2.St}{H:Hp}{a:Ç}{v vl vu:Ã}{lo hi:Option Int}{sl:Ç}{Q:VK}{xs:List V}(I:Inv X ag σ H s)(rx:RelV (.ref a) v)(hs:s.heap.IsSliceOf sl vl vu .none)(pl:ň vl lo)(pu:ň vu hi)
  (hx:SqT X.K H a xs) (q1:eg xs lo hi=xs->Q (.ref a) H) (q2:∀p,H p=Á->Q (.ref p) (upd H p (.tup (eg xs lo hi)))) :
  ∃T id,ŉ (.type T) "__getitem__" = pure (À (.builtin id))/\s.TypeIs v T/\Æ (Í X.prog X.w) X.A (Ń v (.ref sl)) (EP X ag σ Q) X.xe s:=by
 by_cases hw:HT.sIx xs.length 0 lo=0/\HT.sIx xs.length xs.length hi=xs.length
 .cases rx
  obtain⟨its,r,ht,hz⟩:=I.tuple hx;have d6:its.toArray.size=xs.length:=by rw[zO];exact r.length.symm
  refine⟨"tuple",_,jo.lookup,ht.typeIs,?_⟩;refine gJ ht hs pl pu (by rw[d6];exact hw) ⟨.ref a,H,I,rfl,q1 ?_⟩;unfold eg;rw[hw.1,hw.2];simp
 .exact B7 ag s σ H _ v vl vu lo hi sl Q I rx hs pl pu ⟨a,xs,rfl,hx,hw,q2⟩
def F3{lo hi:Option Î}(ha:SE X cl a ma)(hl:SO X cl lo ml)(hh:SO X cl hi mh):SE X cl (.Subscript a (.Slice lo hi Á p2) pos) (cq ma ml mh):=by
 have hr:Vd X (λx lo hi H Q=>∃μ h wx w h',HR X.K cl μ H h/\RW X.K μ H wx x/\gE wx lo hi h=À (w,h')/\KQ X.K cl μ H h' w Q):=by
  rintro ag s σ H x v vl vu lo hi sl Q I rx hs pl pu ⟨μ,h,wx,w,h',R,ax,e,k⟩;unfold gE at e;split at e
  .rename_i l
   cases e;obtain⟨a,vs,rfl,sa,ra⟩:=ax.tup_of;refine Uq I rx hs pl pu sa (λz=>k.pure R (.tup sa ?_)) λp hp=>k.tup R (ra.cutW lo hi) hp
   have q:=ra.cutW lo hi;rw[z] at q;exact q
  .rename_i z
   split at e
   .rename_i hl
    cases e;cases ax.str_of;obtain⟨tk,rfl⟩:=rx;refine⟨"str",_,F.slot_str_getitem.lookup,typeIs_str _ _ _,?_⟩;obtain⟨l,el⟩:∃l:Option (Int×Tok),vl=partValue l/\lo=l.map (·.1):=by
     cases pl with
     | none=>exact⟨Á,rfl,rfl⟩
     | int i t=>exact⟨À (i,t),rfl,rfl⟩
    obtain⟨u,eu⟩:∃l:Option (Int×Tok),vu=partValue l/\hi=l.map (·.1):=by
     cases pu with
     | none=>exact⟨Á,rfl,rfl⟩
     | int i t=>exact⟨À (i,t),rfl,rfl⟩
    obtain⟨rfl,rfl⟩:=el;obtain⟨rfl,rfl⟩:=eu;exact wpAny_getItem_str_slice (l:=l) (u:=u) (st:=Á) hs rfl (post_val_or_str ⟨zq (Txt.slice_le z _ _) (zq hl yv),λt' k'=>⟨.str _,H,I.tok k',⟨t',rfl⟩,k.pure R (.str _)⟩⟩)
   .cases e
  .split at e
   .rename_i l el
    cases e;obtain⟨a,vs,rfl,sa,ra⟩:=vv R ax el;exact Z2 ag s σ H _ v vl vu lo hi sl Q I rx hs pl pu ⟨a,vs,rfl,sa,λp hp=>k.fls R (ra.cutW lo hi) hp⟩
   .cases e
 refine PE.wk (tK hr ha hl hh) ?_;rintro σ H Q ⟨μ,h,ρ,w,h',R,er,e,k⟩;obtain⟨x,h1,e1,e⟩:=zD e;obtain⟨l,h2,e2,e⟩:=zD e;obtain⟨u,h3,e3,e⟩:=zD e
 exact⟨μ,h,ρ,x,h1,R,er,e1,λcb H1 vx E1 R1 rx=>⟨cb,h1,ρ,l,h2,R1,er.ext R E1,e2,λgy H2 E2 R2=>⟨gy,h2,ρ,u,h3,R2,(er.ext R E1).ext R1 E2,e3,λAG H3 E3 R3=>
  ⟨AG,h3,x,w,h',R3,(rx.ext R1 E2).ext R2 E3,e,k.ext (E1.trans (E2.trans E3))⟩⟩⟩⟩
end
def ly:fillsNumberSlot (.type "tuple") "mul" = pure Ä:=
 PySem.fillsNumberSlot_seq (id:="tuple.__mul__") (r:=À (.builtin "tuple.__rmul__")) wO.lookup ⋯ F.slot_tuple_rmul.lookup ⋯
theorem Zu:seqRepeat? (.type "tuple")=pure (À (.builtin "tuple.__mul__")):=by
 unfold seqRepeat?;rw[PySem.seqSlot_of (T:="tuple") (name:="__mul__") (id:="tuple.__mul__") wO.lookup ⋯,PySem.seqSlot_of (T:="tuple") (name:="__rmul__") (id:="tuple.__rmul__") F.slot_tuple_rmul.lookup ⋯];rfl
def fc(a:Int)(t:Tok)(l:Ç)(items:Array Ã)(n:Nat)(dd:Option Ç)(sl:Array (Option Ã)) :
  Meets (ç.«int.__rmul__» ⟨[.int a t,.ref l],[]⟩) (λ_ R s=>s.heap.get? l=À { cls:=.type "tuple",dict:=dd,data:=.seq items n,slots:=sl }/\R (.ok (.ret Value.notImplemented)) s):=
 .of_wp λprog w A R s h=>by obtain⟨hp,g,d,tk,os⟩:=s;obtain⟨hl,h⟩:=h;wp_walk;exact⟨_,rfl,h⟩
def K9(l:Ç)(items:Array Ã)(n:Nat)(dd:Option Ç)(sl:Array (Option Ã))(x:Int)(u:Tok)(hf:¬((decide (x < -2 ^ 63)||decide (x>=2 ^ 63))=Â))(hc:(items.isEmpty||x==1)=Â) :
  Meets (ç.«tuple.__mul__» ⟨[.ref l,.int x u],[]⟩) (λ_ R s=>s.heap.get? l=À { cls:=.type "tuple",dict:=dd,data:=.seq items n,slots:=sl }/\R (.ok (.ret (.ref l))) s):=
 .of_wp λprog w A R s h=>by
  obtain⟨hp,g,d,tk,os⟩:=s;obtain⟨hl,h⟩:=h;have f1:=wQ;have ht:Ő ({ heap:=hp,gens:=g,drawn:=d,toks:=tk,os:=os }:Å).heap l items:=⟨_,hl,rfl,n,rfl⟩;wp_walk using Ċ hl
  rw[zW hf];try dsimp only
  refine za (yF ht ?_);try dsimp only
  rw[zQ hc];unfold ŋ;refine za (za (qH ht.typeIs (zf ?_)));rw[zQ (by decide)];exact za (vG (zf ⟨_,rfl,h⟩))
def K1 (l : Ç) (items : Array Ã) (n : Nat) (dd : Option Ç) (sl : Array (Option Ã)) (x : Int) (u : Tok) (hf : ¬ ((decide (x < -2 ^ 63) || decide (x >= 2 ^ 63)) = Â)) (hc : ¬ (items.isEmpty || x == 1) = Â) (h0 : ¬ (decide (x <= 0) || items.isEmpty) = Â)
   (h1 : ¬ (items.size * x > (2 ^ 63 - 1) / 8)) (h2 : ¬ Ō (items.size * x) = Â) (hz : sizeOk (Data.seq (Ŋ (λx1 x2 => x1 ++ x2) #[] (É x.toNat items)))) :
    Meets (ç.«tuple.__mul__» ⟨[.ref l, .int x u], []⟩) (λ_ R s => s.heap.get? l = À { cls := .type "tuple", dict := dd, data := .seq items n, slots := sl } /\
      R (.ok (.ret (.ref s.heap.objs.size))) { s with heap := s.heap.push { cls := ú "tuple", data := Data.seq (Ŋ (λx1 x2 => x1 ++ x2) #[] (É x.toNat items)) } }) :=
  .of_wp λprog w A R s h => by
    obtain ⟨hp, g, d, tk, os⟩ := s;obtain ⟨hl, h⟩ := h;have f1 := wQ;have ht : Ő ({ heap := hp, gens := g, drawn := d, toks := tk, os := os } : Å).heap l items := ⟨_, hl, rfl, n, rfl⟩;wp_walk using Ċ hl
    rw [zW hf];try dsimp only
    refine za (yF ht ?_);try dsimp only
    rw [zW hc, zW h0, zW h1, zW h2];refine za (m := Ý _) (kE (zf ⟨_, rfl, h⟩) hz)
def JG(l:Ç)(items:Array Ã)(n:Nat)(dd:Option Ç)(sl:Array (Option Ã))(x:Int)(u:Tok)(hf:¬((decide (x < -2 ^ 63)||decide (x>=2 ^ 63))=Â))(hc:¬(items.isEmpty||x==1)=Â)(h0:(decide (x<=0)||items.isEmpty)=Â) :
  Meets (ç.«tuple.__mul__» ⟨[.ref l,.int x u],[]⟩) (λ_ R s=>s.heap.get? l=À { cls:=.type "tuple",dict:=dd,data:=.seq items n,slots:=sl } /\
   R (.ok (.ret (.ref s.heap.objs.size))) { s with heap:=s.heap.push { cls:=ú "tuple",data:=Data.seq #[] } }):=
 .of_wp λprog w A R s h=>by
  obtain⟨hp,g,d,tk,os⟩:=s;obtain⟨hl,h⟩:=h;have f1:=wQ;have ht:Ő ({ heap:=hp,gens:=g,drawn:=d,toks:=tk,os:=os }:Å).heap l items:=⟨_,hl,rfl,n,rfl⟩;wp_walk using Ċ hl
  rw[zW hf];try dsimp only
  refine za (yF ht ?_);try dsimp only
  rw[zW hc,zQ h0];refine za (m:=Ý _) (kE (zf ⟨_,rfl,h⟩) (by show 0<=Ð;decide))
section
variable{X:Cx}{cl:Cl}
def UG{H:Hp}{k:Int}{xs:List V}(I:Inv X ag σ H s)(rx:RelV (.ref a) v)(ry:RelV (.int k) u)(hx:SqT X.K H a xs)(h1:0<=k)(h2:k<=1000)(hz:xs.length<=1000)
  (q1:(É k.toNat xs).flatten=xs->Q (.ref a) H) (q2:∀p,H p=Á->Q (.ref p) (upd H p (.tup (É k.toNat xs).flatten))):Æ (Í X.prog X.w) X.A (ä .Mult v u) (EP X ag σ Q) X.xe s:=by
 cases rx;obtain⟨t,rfl⟩:=ry;obtain⟨its,r,ht,_⟩:=I.tuple hx;have d6:=r.length;obtain⟨⟨cls,dd,data,sl⟩,e,hc,n,hd⟩:=id ht;simp only at hc hd;subst hc hd;have L7:(Ð:Nat)=16777216:=jB;have AJ:Ŋ (λx1 x2=>x1++x2) #[] (É k.toNat its.toArray)=(É k.toNat its).flatten.toArray:=by
  have:=foldl_rep its k.toNat [];rw[jc] at this;exact this
 have Ny:k.toNat*its.length<=1000*1000:=Nat.mul_le_mul ∅ ∅;have hf:¬((decide (k < -2 ^ 63)||decide (k>=2 ^ 63))=Â):=by
  erw[Bool.or_eq_true,vp];omega
 have road:∀{R:Ã->Å->Prop},Æ (Í X.prog X.w) X.A (ķ (.builtin "tuple.__mul__") [.ref a,.int k t]) R X.xe s->Æ (Í X.prog X.w) X.A (ä .Mult (.ref a) (.int k t)) R X.xe s:=λEN=>
  pL (T:="tuple") (U:="int") (by decide) ⟨_,e,rfl⟩ (λs'=>uA s' k t) ly F.fills_int_mul xq Zu F.slot_int_index.lookup
   (wB xq (uA s k t) F.entry_int_rmul (F.args_int_rmul_2 _ _) (fc k t a its.toArray n dd sl) ⟨e,rfl,⟨_,e,rfl⟩,EN⟩)
 refine road ?_;by_cases c1:(its.toArray.isEmpty||k==1)=Â
 .refine wB wO ⟨_,e,rfl⟩ uD (ur _ _) (K9 a its.toArray n dd sl k t hf c1) ⟨e,.ref a,H,I,rfl,q1 ?_⟩
  rcases pP.mp c1 with c | c
  .have:its=[]:=by simpa using c
   subst this;cases r;simp
  .have:k=1:=by simpa using c
   subst this;simp
 .by_cases c2:(decide (k<=0)||its.toArray.isEmpty)=Â
  .refine wB wO ⟨_,e,rfl⟩ uD (ur _ _) (JG a its.toArray n dd sl k t hf c1 c2) ⟨e,?_⟩
   have hk:k=0:=by
    have ne:its.toArray.isEmpty=Ä:=by
     cases z:its.toArray.isEmpty with
     | false=>rfl
     | true=>exact absurd (by rw[z];rfl) c1
    rw[ne,uR] at c2;have:=j8 c2;omega
   subst hk;exact⟨.ref _,_,I.laid (t':=s.toks) (o:=.tup (É (0:Int).toNat xs).flatten) (λb ob q=>zc _ q) (zr _) ⟨by simp,[],by simpa using Paired.nil,pH _ _,.new _ _⟩,rfl,q2 _ I.fresh⟩
  .refine wB wO ⟨_,e,rfl⟩ uD (ur _ _) (K1 a its.toArray n dd sl k t hf c1 c2 ?_ ?_ ?_) ⟨e,?_⟩
   .rw[zO]
    have:(its.length:Int)*k<=1000*1000:=by
     have:(its.length:Int)*k=((k.toNat*its.length:Nat):Int):=by
      rw[xV];push_cast;rw[pO h1]
     omega
    omega
   .rw[zO]
    unfold Ō;have:(its.length:Int)*k<=1000*1000:=by
     have:(its.length:Int)*k=((k.toNat*its.length:Nat):Int):=by
      rw[xV];push_cast;rw[pO h1]
     omega
    erw[vp];omega
   .rw[AJ]
    show((É k.toNat its).flatten.toArray).size<=Ð
    rw[zO,len_rep];omega
   .rw[AJ]
    exact⟨.ref _,_,I.laid (t':=s.toks) (o:=.tup (É k.toNat xs).flatten) (λb ob q=>zc _ q) (zr _) ⟨by rw[len_rep,d6];omega,_,r.rep k.toNat,pH _ _,.new _ _⟩,rfl,q2 _ I.fresh⟩
def BS{H:Hp}{k:Int}{xs:List V}(I:Inv X ag σ H s)(rx:RelV (.ref a) v)(ry:RelV (.int k) u)(hx:SqL X.K H a xs)(h1:0<=k)(h2:k<=1000)(hz:xs.length<=1000)
  (q2:∀p,H p=Á->Q (.ref p) (upd H p (.lst (É k.toNat xs).flatten))):Æ (Í X.prog X.w) X.A (ä .Mult v u) (EP X ag σ Q) X.xe s:=by
 cases rx;obtain⟨t,rfl⟩:=ry;obtain⟨its,r,⟨o,n,e,hc,hd,OU⟩,_⟩:=I.list hx;obtain⟨cls,dd,data,sl⟩:=o;simp only at hc hd OU;subst hc OU;have d6:=r.length;have L7:(Ð:Nat)=16777216:=jB;have Ny:its.length*k.toNat<=1000*1000:=Nat.mul_le_mul ∅ ∅;have Nz:¬(!ō k)=Â:=by simp[ō];omega
 have EO:¬its.toArray.size*k.toNat>(2 ^ 63-1)/8:=by rw[zO];omega
 have EQ:¬ð (its.toArray.size*k.toNat)=Â:=by rw[zO];simp[ð,Ð];omega
 have AJ:Ŋ (λx1 x2=>x1++x2) #[] (É (if its.toArray.isEmpty=Â then 0 else k.toNat) its.toArray)=(É k.toNat its).flatten.toArray:=by
  have f0:∀m:Nat,Ŋ (λx1 x2=>x1++x2) #[] (É m its.toArray)=(É m its).flatten.toArray:=λm=>by
   have z:=foldl_rep its m [];rw[jc] at z;exact z
  rw[f0];cases its with
  | nil=>simp
  | cons c r'=>rw[zW (by simp)]
 refine pL (T:="list") (U:="int") (by decide) ⟨_,e,rfl⟩ (λs'=>uA s' k t) noFill_list_mul F.fills_int_mul xq repeat_list F.slot_int_index.lookup (wB xq (uA s k t) F.entry_int_rmul (F.args_int_rmul_2 _ _) (lm_int_rmul_list_any k t a its.toArray n dd sl) ⟨e,rfl,⟨_,e,rfl⟩,wB F.slot_list_mul ⟨_,e,rfl⟩ F.entry_list_mul (F.args_list_mul_2 _ _) (lm_list_mul_any a its.toArray n dd sl k t Nz EO EQ) ⟨e,?_⟩⟩);rw[AJ];exact⟨.ref _,_,I.lnew (t':=s.toks) (r.rep k.toNat) (by rw[len_rep,d6,xV];omega),rfl,q2 _ I.fresh⟩
def Uk:kT X (ä .Mult) (rM X.K cl kx):=by
 rintro ag s σ H x y v u Q I rx ry ⟨μ,h,wx,wy,w,h',R,ax,ay,e,k⟩;unfold kx at e;split at e
 .rename_i i j
  split at e
  .rename_i hj
   cases e;refine C7 ag s σ H x y v u Q I rx ry ⟨_,_,ax.int_of,ay.int_of,?_,k.pure R (.int _)⟩;unfold small at hj;rw[Bool.or_eq_true,vp,vp] at hj;exact hj
  .cases e
 .rename_i l j
  split at e
  .rename_i hj
   cases e;obtain⟨a,vs,rfl,sa,ra⟩:=ax.tup_of;cases ay.int_of;refine UG I rx ry sa hj.1 hj.2.1 (by rw[<-ra.length];exact hj.2.2) (λz=>k.pure R (.tup sa ?_)) λp hp=>k.tup R (ra.rep _) hp
   have q:=ra.rep j.toNat;rw[z] at q;exact q
  .cases e
 .rename_i l j
  split at e
  .rename_i hj
   cases e;obtain⟨a,vs,rfl,sa,ra⟩:=vv R ax (show getL _ (.fls l)=À l from rfl);cases ay.int_of;exact BS I rx ry sa hj.1 hj.2.1 (by rw[<-ra.length];exact hj.2.2) λp hp=>k.fls R (ra.rep _) hp
  .cases e
 .cases e
end
noncomputable def qk{α β:Type}(f:α->Option β):List α->Option (List β)
 | []=>À []
 | x::r=>match f x,qk f r with
  | some y,À ys=>À (y::ys)
  | _,_=>Á
noncomputable def kP:Nat->MH->W->Option PyData
 | 0,_,_=>Á
 | _+1,_,.non=>À .none
 | _+1,_,.bl b=>À (.bool b)
 | _+1,_,.int i=>À (.int i)
 | _+1,_,.str x=>if ý x then À (.str x) else Á
 | n+1,h,.tup l=>(qk (kP n h) l).map .tuple
 | n+1,h,.fls l=>(qk (kP n h) l).map .list
 | n+1,h,.ref k=>match h[k]? with
  | some (.lst l)=>(qk (kP n h) l).map .list
  | _=>Á
 | _+1,_,.fdc _=>Á
 | _+1,_,.fn _=>Á
section
variable{X:Cx}{cl:Cl}{ag:List (Ç×ø)}{σ:L2.St}{μ:List Ç}{H:Hp}{s:Å}{h:MH}
def xB(I:Inv X ag σ H s)(R:HR X.K cl μ H h):∀(n:Nat) {w:W} {x:V} {v:Ã} {d:PyData},RW X.K μ H w x->RelV x v->kP n h w=À d->(∃as,Reads s.heap v d as)/\d.canLay0=Â/\d.depth<=n:=by
 intro n;induction n with
 | zero=>intro w x v d _ _ e;cases e
 | succ n ih=>
  have all:∀{l:List W} {vs:List V} {us:List Ã} {ds:List PyData},RWs X.K μ H l vs->Vals vs us->qk (kP n h) l=À ds->(∃as,ReadsAll s.heap us ds as)/\ÿ ds=Â/\Ī ds<=n:=by
   intro l;induction l with
   | nil=>intro vs us ds r t e;cases r;cases t;cases e;exact⟨⟨_,.nil⟩,by unfold ÿ;rfl,by unfold Ī;omega⟩
   | cons w l ihl=>
    intro vs us ds r t e;cases r with | cons r rs=>cases t with | cons t ts=>
    unfold qk at e;split at e
    .rename_i y ys e1 e2
     cases e;obtain⟨⟨as,h1⟩,h2,h3⟩:=ih r t e1;obtain⟨⟨bs,g1⟩,g2,g3⟩:=ihl rs ts e2;refine⟨⟨_,.cons h1 g1⟩,by unfold ÿ;rw[h2,g2];rfl,?_⟩;unfold Ī;omega
    .cases e
  have lists:∀{l:List W} {a:Ç} {vs:List V} {d:PyData},SqL X.K H a vs->RWs X.K μ H l vs->(qk (kP n h) l).map PyData.list=À d->(∃as,Reads s.heap (.ref a) d as)/\d.canLay0=Â/\d.depth<=n+1:=by
   intro l a vs d sq rs e;cases e1:qk (kP n h) l with
   | none=>rw[e1] at e;cases e
   | some ds=>
    rw[e1] at e;cases e;obtain⟨its,rv,⟨o,m,h1,h2,h3,h4⟩,_⟩:=I.list sq;obtain⟨⟨as,g1⟩,g2,g3⟩:=all rs rv e1;exact⟨⟨_,.list h1 h2 h4 (by simpa using g1)⟩,by unfold ē;exact g2,by unfold ı;omega⟩
  intro w x v d r t e;cases r with
  | non=>cases e;cases t;exact⟨⟨_,.none⟩,by unfold ē;rfl,by unfold ı;omega⟩
  | bl b=>cases e;cases t;exact⟨⟨_,.bool b⟩,by unfold ē;rfl,by unfold ı;omega⟩
  | int i=>cases e;obtain⟨tk,rfl⟩:=t;exact⟨⟨_,.int i tk⟩,by unfold ē;rfl,by unfold ı;omega⟩
  | str z=>
   erw[kP] at e;split at e
   .rename_i ok
    cases e;obtain⟨tk,rfl⟩:=t;exact⟨⟨_,.str z tk⟩,by unfold ē;exact ok,by unfold ı;omega⟩
   .cases e
  | @tup a vs l sq rs=>
   erw[kP] at e;cases t;cases e1:qk (kP n h) l with
   | none=>rw[e1] at e;cases e
   | some ds=>
    rw[e1] at e;cases e;obtain⟨its,rv,⟨o,h1,h2,m,h4⟩,_⟩:=I.tuple sq;obtain⟨⟨as,g1⟩,g2,g3⟩:=all rs rv e1;exact⟨⟨_,.tuple h1 h2 h4 (by simpa using g1)⟩,by unfold ē;exact g2,by unfold ı;omega⟩
  | @fls a vs l sq rs=>cases t;erw[kP] at e;exact lists sq.sq rs e
  | fdc=>cases e
  | fn=>cases e
  | @ref k a hk=>
   cases t;erw[kP] at e;split at e
   .rename_i l ho
    obtain⟨vs,hv,rs⟩:=R.ob k a _ hk ho;exact lists (SqL.of hv) rs e
   .cases e
end
section
variable{X:Cx}{cl:Cl}{ag:List (Ç×ø)}{σ:L2.St}{μ:List Ç}{H:Hp}{s:Å}{h:MH}
def ZL(I:Inv X ag σ H s)(R:HR X.K cl μ H h)(n:Nat):∀{l:List W} {vs:List V} {us:List Ã} {ds:List PyData},RWs X.K μ H l vs->Vals vs us->qk (kP n h) l=À ds->(∃as,ReadsAll s.heap us ds as)/\ÿ ds=Â:=by
 intro l;induction l with
 | nil=>intro vs us ds r t e;cases r;cases t;cases e;exact⟨⟨_,.nil⟩,by unfold ÿ;rfl⟩
 | cons w l ihl=>
  intro vs us ds r t e;cases r with | cons r rs=>cases t with | cons t ts=>
  unfold qk at e;split at e
  .rename_i y ys e1 e2
   cases e;obtain⟨⟨as,h1⟩,h2,h3⟩:=xB I R n r t e1;obtain⟨⟨bs,g1⟩,g2⟩:=ihl rs ts e2;exact⟨⟨_,.cons h1 g1⟩,by unfold ÿ;rw[h2,g2];rfl⟩
  .cases e
end
noncomputable def deep:Nat:=60
noncomputable def p9(x y:W):Option Bool:=match x,y with
 | .str a,.str b=>À (a==b)
 | .int a,.int b=>À (a==b)
 | .bl a,.bl b=>À (a==b)
 | _,_=>Á
noncomputable def eqB(h:MH)(x y:W):Option Bool:=match p9 x y with
 | some b=>À b
 | none=>match kP deep h x,kP deep h y with
  | some d,À e=>À (ö d e)
  | _,_=>Á
noncomputable def jv(neg:Bool)(x y:W):M W:=λh=>match eqB h x y with
 | some b=>À (.bl (if neg then !b else b),h)
 | none=>Á
noncomputable def qS(h:MH):W->Option (List W)
 | .tup l=>À l
 | w=>getL h w
noncomputable def F5(j i:È):Bool:=!(Ĭ j i 0 j.length 1).isEmpty
noncomputable def inB(h:MH)(x y:W):Option Bool:=match x,y with
 | .str i,.str j=>À (F5 j i)
 | x,y=>match qS h y with
  | some l=>match kP deep h x,qk (kP deep h) l with
   | some d,À ds=>À (ds.any λe=>ö e d)
   | _,_=>Á
  | none=>Á
noncomputable def ab(neg:Bool)(x y:W):M W:=λh=>match inB h x y with
 | some b=>À (.bl (if neg then !b else b),h)
 | none=>Á
section
variable{X:Cx}{cl:Cl}
def Vh(hu:X.A.units+64<û){H:Hp}(I:Inv X ag σ H s)(rx:RelV x v)(ry:RelV y u)
  (R:HR X.K cl μ H h) (ax:RW X.K μ H wx x) (ay:RW X.K μ H wy y) (e:eqB h wx wy=À b) :
  (Q (.bl b) H->Æ (Í X.prog X.w) X.A (Ó .Eq v u) (EP X ag σ Q) X.xe s)/\(Q (.bl (!b)) H->Æ (Í X.prog X.w) X.A (Ó .NotEq v u) (EP X ag σ Q) X.xe s):=by
 unfold eqB at e;split at e
 .rename_i b' e'
  cases e;unfold p9 at e';split at e'
  .rename_i i j
   cases e';cases ax.str_of;cases ay.str_of;exact⟨λq=>Je ag s σ H _ _ v u Q I rx ry ⟨rfl,by rw[iV];exact q⟩,λq=>Jf ag s σ H _ _ v u Q I rx ry ⟨rfl,by rw[iV];exact q⟩⟩
  .rename_i i j
   cases e';cases ax.int_of;cases ay.int_of;exact⟨λq=>Je ag s σ H _ _ v u Q I rx ry ⟨rfl,by rw[iT];exact q⟩,λq=>Jf ag s σ H _ _ v u Q I rx ry ⟨rfl,by rw[iT];exact q⟩⟩
  .rename_i i j
   cases e';cases ax.bl_of;cases ay.bl_of;exact⟨λq=>Je ag s σ H _ _ v u Q I rx ry ⟨rfl,by rw[nG];exact q⟩,λq=>Jf ag s σ H _ _ v u Q I rx ry ⟨rfl,by rw[nG];exact q⟩⟩
  .cases e'
 .split at e
  .rename_i d d' e1 e2
   cases e;obtain⟨⟨as,r1⟩,c1,d1⟩:=xB I R deep ax rx e1;obtain⟨⟨bs,r2⟩,c2,d2⟩:=xB I R deep ay ry e2;have hr:X.A.units+min d.depth d'.depth<û:=by
    have:min d.depth d'.depth<=d.depth:=Nat.min_le_left _ _;unfold deep at d1;omega
   exact⟨λq=>SeqAt.compareEq_reads r1 r2 c1 c2 hr ⟨.bl _,H,I,rfl,q⟩,λq=>SeqAt.compareNe_reads r1 r2 c1 c2 hr ⟨.bl _,H,I,rfl,q⟩⟩
  .cases e
def Fx(hu:X.A.units+64<û):kT X (Ó .Eq) (rM X.K cl (jv Ä)):=by
 rintro ag s σ H x y v u Q I rx ry ⟨μ,h,wx,wy,w,h',R,ax,ay,e,k⟩;unfold jv at e;split at e
 .rename_i b eb
  cases e;exact(Vh hu I rx ry R ax ay eb).1 (k.pure R (.bl _))
 .cases e
def Fy(hu:X.A.units+64<û):kT X (Ó .NotEq) (rM X.K cl (jv Â)):=by
 rintro ag s σ H x y v u Q I rx ry ⟨μ,h,wx,wy,w,h',R,ax,ay,e,k⟩;unfold jv at e;split at e
 .rename_i b eb
  cases e;exact(Vh hu I rx ry R ax ay eb).2 (k.pure R (.bl _))
 .cases e
def yY{K:aab}{μ:List Ç}{H:Hp}{h:MH}(R:HR K cl μ H h)(r:RW K μ H w v)(e:qS h w=À l):∃a vs,v=.ref a/\(SqL K H a vs\/SqT K H a vs)/\RWs K μ H l vs:=by
 unfold qS at e;split at e
 .cases e
  obtain⟨a,vs,rfl,sa,ra⟩:=r.tup_of;exact⟨a,vs,rfl,.inr sa,ra⟩
 .obtain⟨a,vs,rfl,sa,ra⟩:=vv R r e
  exact⟨a,vs,rfl,.inl sa,ra⟩
def J7(hu:X.A.units+64<û){ag:List (Ç×ø)}{s:Å}{σ:L2.St}{H:Hp}{x y:V}{v u:Ã}(I:Inv X ag σ H s)(rx:RelV x v)(ry:RelV y u)
  (R:HR X.K cl μ H h) (ax:RW X.K μ H wx x) (ay:RW X.K μ H wy y) (e:inB h wx wy=À b) :
  (Q (.bl b) H->Æ (Í X.prog X.w) X.A (Ó .In v u) (EP X ag σ Q) X.xe s)/\(Q (.bl (!b)) H->Æ (Í X.prog X.w) X.A (Ó .NotIn v u) (EP X ag σ Q) X.xe s):=by
 unfold inB at e;split at e
 .rename_i i j
  cases e;exact⟨λq=>V8 ag s σ H x y v u Q I rx ry ⟨i,j,ax.str_of,ay.str_of,q⟩,λq=>sC ag s σ H x y v u Q I rx ry ⟨i,j,ax.str_of,ay.str_of,q⟩⟩
 .split at e
  .rename_i l el
   split at e
   .rename_i d ds e1 e2
    cases e;obtain⟨a,vs,rfl,sa,ra⟩:=yY R ay el;cases ry;obtain⟨⟨as,r1⟩,c1,d1⟩:=xB I R deep ax rx e1;have big:kP (deep+1) h (.tup l)=À (.tuple ds):=by erw[kP];rw[e2];rfl
    have RF:kP (deep+1) h (.fls l)=À (.list ds):=by erw[kP];rw[e2];rfl
    have hr:X.A.units+1+min (Ī ds) d.depth<û:=by
     have:min (Ī ds) d.depth<=d.depth:=Nat.min_le_right _ _;unfold deep at d1;omega
    rcases sa with sa | sa
    .obtain⟨its,rv,⟨o,m,h1,h2,h3,h4⟩,_⟩:=I.list sa
     obtain⟨⟨as2,g1⟩,c2⟩:=ZL I R deep ra rv e2;have r2:Reads s.heap (.ref a) (.list ds) _:=.list h1 h2 h4 (by simpa using g1);exact⟨λq=>SeqAt.in_list_reads r2 r1 c2 c1 hr ⟨.bl _,H,I,rfl,q⟩,λq=>SeqAt.notIn_list_reads r2 r1 c2 c1 hr ⟨.bl _,H,I,rfl,q⟩⟩
    .obtain⟨⟨bs,r2⟩,c2,_⟩:=xB I R (deep+1) (.tup sa ra) rfl big
     have I0:ÿ ds=Â:=by unfold ē at c2;exact c2
     exact⟨λq=>SeqAt.in_tuple_reads r2 r1 I0 c1 hr ⟨.bl _,H,I,rfl,q⟩,λq=>SeqAt.notIn_tuple_reads r2 r1 I0 c1 hr ⟨.bl _,H,I,rfl,q⟩⟩
   .cases e
  .cases e
def Fd(hu:X.A.units+64<û):kT X (Ó .In) (rM X.K cl (ab Ä)):=by
 rintro ag s σ H x y v u Q I rx ry ⟨μ,h,wx,wy,w,h',R,ax,ay,e,k⟩;unfold ab at e;split at e
 .rename_i b eb
  cases e;exact(J7 hu I rx ry R ax ay eb).1 (k.pure R (.bl _))
 .cases e
def Qa(hu:X.A.units+64<û):kT X (Ó .NotIn) (rM X.K cl (ab Â)):=by
 rintro ag s σ H x y v u Q I rx ry ⟨μ,h,wx,wy,w,h',R,ax,ay,e,k⟩;unfold ab at e;split at e
 .rename_i b eb
  cases e;exact(J7 hu I rx ry R ax ay eb).2 (k.pure R (.bl _))
 .cases e
end
inductive Ty where
 | int | str | bool | tuple | list | dict
 deriving DecidableEq
noncomputable def Ty.name:Ty->String
 | .int=>"int" | .str=>"str" | .bool=>"bool" | .tuple=>"tuple" | .list=>"list" | .dict=>"dict"
noncomputable def i7(h:MH):W->Option Ty
 | .bl _=>À .bool
 | .int _=>À .int
 | .str _=>À .str
 | .tup _=>À .tuple
 | .fls _=>À .list
 | .ref n=>match h[n]? with
  | some (.lst _)=>À .list
  | some (.dic _)=>À .dict
  | _=>Á
 | .fdc _=>À .dict
 | .fn _=>Á
 | .non=>Á
noncomputable def sR(T:Ty)(x:W)(h:MH):Option Bool:=match x with
 | .non=>À Ä
 | x=>match i7 h x with
  | some t=>À (decide (t=T)||(decide (t=.bool)&&decide (T=.int)))
  | none=>Á
noncomputable def isW(T:Ty)(x:W):M W:=λh=>match sR T x h with
 | some b=>À (.bl b,h)
 | none=>Á
def Wd(K:aab):∀(t T:Ty),Ň K (.type t.name) (.type T.name)=À (decide (t=T)||(decide (t=.bool)&&decide (T=.int))):=by
 intro t T;cases t<;>cases T<;>kernel_rfl
def Wt(K:aab):∀(T:Ty),Ň K (.type "NoneType") (.type T.name)=À Ä:=by
 intro T;cases T<;>kernel_rfl
section
variable{X:Cx}{cl:Cl}{a:Î}{ma:ME}{pos p p2:ė}
def Vu(T:Ty):qo X (.builtin "isinstance") (λxs H Q=>∃x,xs=[x,.ty T.name]/\rM1 X.K cl (isW T) x H Q):=by
 rintro ag s σ H xs us Q I rs ⟨x,rfl,μ,h,wx,w,h',R,ax,e,k⟩;obtain⟨u,u2,rfl,ru,KM⟩:=vals2 rs;obtain rfl:u2=.type T.name:=KM;unfold isW at e;split at e
 .rename_i b eb
  cases e;have q:Q (.bl b) H:=k.pure R (.bl _);have fin:∀tk,EP X ag σ Q (.bool b) { s with toks:=tk }:=λtk=>⟨.bl b,H,I.tok tk,rfl,q⟩
  have go:∀{t:Ty},i7 h wx=À t->Ň X.K (.type t.name) (.type T.name)=À b:=λ{t} e1=>by
   rw[Wd];unfold sR at eb;split at eb
   .cases e1
   .rw[e1] at eb;exact eb
  cases ax with
  | non=>
   cases eb;cases ru;exact jr PySem.W.kitx_none I.kIn õ (Wt X.K T) (λz=>nomatch z) fin
  | bl y=>cases ru;exact jr PySem.W.kitx_bool I.kIn õ (go (t:=.bool) rfl) (λz=>nomatch z) fin
  | int i=>obtain⟨t,rfl⟩:=ru;exact jr PySem.W.kitx_int I.kIn õ (go (t:=.int) rfl) (λz=>nomatch z) fin
  | str y=>obtain⟨t,rfl⟩:=ru;exact jr PySem.W.kitx_str I.kIn õ (go (t:=.str) rfl) (λz=>nomatch z) fin
  | @tup a vs l sa ra=>
   cases ru;obtain⟨its,_,⟨o,h1,h2,_⟩,_⟩:=I.tuple sa;exact jr pW I.kIn ⟨o,h1,h2⟩ (go (t:=.tuple) rfl) (λz=>nomatch z) fin
  | @fls a vs l sa ra=>
   cases ru;obtain⟨its,_,⟨o,n,h1,h2,_⟩,_⟩:=I.list sa.sq;exact jr yg I.kIn ⟨o,h1,h2⟩ (go (t:=.list) rfl) (λz=>nomatch z) fin
  | @fdc a l l' ws vs sa kk e1 e2 ra=>
   cases ru;have g:=go (t:=.dict) rfl;obtain⟨_,_,El,_,dd⟩:=mG I.hok sa.1;obtain⟨o,es,ep,h1,h2,_⟩:=dd;exact jr xF I.kIn ⟨o,h1,h2.1⟩ g (λz=>nomatch z) fin
  | @fn a=>
   erw[sR,i7] at eb;cases eb
  | @ref n a hn=>
   cases ru;cases et:i7 h (.ref n) with
   | none=>erw[sR,et] at eb;cases eb
   | some t=>
    have g:=go et;erw[i7] at et;split at et
    .rename_i l ho
     cases et;obtain⟨vs,hv,_⟩:=R.ob n a _ hn ho;obtain⟨its,_,⟨o,n,h1,h2,_⟩,_⟩:=I.list (SqL.of hv);exact jr yg I.kIn ⟨o,h1,h2⟩ g (λz=>nomatch z) fin
    .rename_i l ho
     cases et;obtain⟨l',hv,_⟩:=R.ob n a _ hn ho;exact QI (x:=.ref a) I rfl (.dK hv) g fin
    .cases et
 .cases e
def Fk(T:Ty)(ha:SE X cl a ma)(hi:X.mg "isinstance" = Á)(ht:X.mg y=Á)(hv:Ù y=À (.type T.name))(hg:↥(Gl X "isinstance"))(Ij:↥(Gl X y))
  (hn:⇑(y≠"__name__")) (AS:⇑((y==("__debug__":È))=Ä))
  (La:↥(Ê [a,.Name y p2] X.env=(Ä,å a X.env)::Ê [.Name y p2] X.env)) (ES:↥(Ê [.Name y p2] X.env=(Ä,å (.Name y p2) X.env)::Ê [] X.env))
  (Ak:↥((Þ pos (Ê [.Name y p2] X.env)).any (·.1)=Ä)):SE X cl (.Call (.Name "isinstance" p) [a,.Name y p2] [] pos) (wm (isW T) ma):=
 PE.wk (tI (Vu (cl:=cl) T) hg hi PyProof.Rows.boot_isinstance (oa ha (oa (U5 Ij ht hv (show RelV (.ty T.name) (.type T.name) from rfl) hn AS) VP ES) La) (by decide) (by decide) La Ak) λσ H Q q0=>by
  obtain⟨μ,h,ρ,w,h',R,er,e,k⟩:=q0;obtain⟨x,h1,e1,e⟩:=zD e;exact⟨μ,h,ρ,x,h1,R,er,e1,λcb H1 vx E1 R1 rx=>⟨vx,rfl,cb,h1,x,w,h',R1,rx,e,k.ext E1⟩⟩
noncomputable def YI(ws:List W):M W:=λh=>match ws with
 | [.int i]=>À (.int i,h)
 | [.bl b]=>À (.int (if b then 1 else 0),h)
 | _=>Á
noncomputable def WK(ws:List W):M W:=λh=>match ws with
 | [.int i]=>if i.natAbs.log2<1920 then À (.str (toString i),h) else Á
 | _=>Á
noncomputable def cf(ws:List W):M W:=λh=>match ws with
 | [.tup l]=>À (.tup l,h)
 | [w]=>match getL h w with
  | some l=>À (.tup l,h)
  | none=>Á
 | _=>Á
noncomputable def JY(ws:List W):M W:=λh=>match ws with
 | [w]=>match qS h w with
  | some l=>À (.fls l,h)
  | none=>Á
 | _=>Á
noncomputable def Ju(ws:List W):M W:=λh=>match ws with
 | [w]=>match qS h w with
  | some l=>À (.ref h.length,h++[.lst l])
  | none=>Á
 | _=>Á
def VN:qo X (.type "int") (rMs X.K cl YI):=by
 rintro ag s σ H xs us Q I rs ⟨μ,h,ws,w,h',R,ax,e,k⟩;unfold YI at e;split at e
 .cases e
  cases ax with | cons r t=>cases t with | nil=>
   cases r.int_of;exact oU ag s σ H _ us Q I rs (.inl ⟨_,rfl,k.pure R (.int _)⟩)
 .cases e
  cases ax with | cons r t=>cases t with | nil=>
   cases r.bl_of;exact oU ag s σ H _ us Q I rs (.inr ⟨_,rfl,k.pure R (.int _)⟩)
 .cases e
def V1:qo X (.type "str") (rMs X.K cl WK):=by
 rintro ag s σ H xs us Q I rs ⟨μ,h,ws,w,h',R,ax,e,k⟩;unfold WK at e;split at e
 .split at e
  .rename_i hl
   cases e;cases ax with | cons r t=>cases t with | nil=>
    cases r.int_of;exact Zv ag s σ H _ us Q I rs ⟨_,rfl,hl,k.pure R (.str _)⟩
  .cases e
 .cases e
def ZO:qo X (.type "tuple") (rMs X.K cl cf):=by
 rintro ag s σ H xs us Q I rs ⟨μ,h,ws,w,h',R,ax,e,k⟩;unfold cf at e;split at e
 .rename_i l
  cases e;cases ax with | cons r t=>cases t with | nil=>
   obtain⟨a,vs,rfl,sa,ra⟩:=r.tup_of;exact gF ag s σ H _ us Q I rs ⟨a,vs,rfl,.inr ⟨sa,k.pure R (.tup sa ra)⟩⟩
 .split at e
  .rename_i l el
   cases e;cases ax with | cons r t=>cases t with | nil=>
    obtain⟨a,vs,rfl,sa,ra⟩:=vv R r el;exact gF ag s σ H _ us Q I rs ⟨a,vs,rfl,.inl ⟨sa,λp hp=>k.tup R ra hp⟩⟩
  .cases e
 .cases e
def JE:qo X (.type "list") (rMs X.K cl JY):=by
 rintro ag s σ H xs us Q I rs ⟨μ,h,ws,w,h',R,ax,e,k⟩;unfold JY at e;split at e
 .split at e
  .rename_i l el
   cases e;cases ax with | cons r t=>cases t with | nil=>
    obtain⟨a,vs,rfl,sa,ra⟩:=yY R r el;exact gM ag s σ H _ us Q I rs ⟨a,vs,rfl,sa,λp hp=>k.fls R ra hp⟩
  .cases e
 .cases e
def JQ:qo X (.type "list") (rMs X.K cl Ju):=by
 rintro ag s σ H xs us Q I rs ⟨μ,h,ws,w,h',R,ax,e,k⟩;unfold Ju at e;split at e
 .split at e
  .rename_i l el
   cases e;cases ax with | cons r t=>cases t with | nil=>
    obtain⟨a,vs,rfl,sa,ra⟩:=yY R r el;exact gM ag s σ H _ us Q I rs ⟨a,vs,rfl,sa,λp hp=>k.lst R ra hp⟩
  .cases e
 .cases e
end
noncomputable def yn(x:W)(ws:List W):M W:=λh=>match x,ws with
 | .ref n,[y]=>match h[n]? with
  | some (.lst l)=>if l.length<cap then À (.non,h.set n (.lst (l++[y]))) else Á
  | _=>Á
 | _,_=>Á
noncomputable def x6(x:W)(ws:List W):M W:=λh=>match x,ws with
 | .ref n,[y]=>match h[n]?,qS h y with
  | some (.lst l),À l'=>if l.length+l'.length<=cap then À (.non,h.set n (.lst (l++l'))) else Á
  | _,_=>Á
 | _,_=>Á
noncomputable def lW(x:W)(ws:List W):M W:=λh=>match x,ws with
 | .ref n,[]=>match h[n]? with
  | some (.lst l)=>match l[l.length-1]? with
   | some y=>À (y,h.set n (.lst l.dropLast))
   | none=>Á
  | _=>Á
 | _,_=>Á
noncomputable def qE(f:W->List W->M W)(o:ME)(ms:List ME):ME:=λρ=>bnd (o ρ) λx h=>if (getL h x).isSome=Â then bnd (xp ms ρ) (λws=>f x ws) h else Á
section
variable{X:Cx}{cl:Cl}{o e:Î}{es:List Î}{mo:ME}{ms:List ME}{apos cpos:ė}{f:W->List W->M W}
inductive rMm(K:aab)(cl:Cl)(f:W->List W->M W)(x:V)(xs:List V)(H:Hp)(Q:VK):Prop
 | mk (μ:List Ç) (h:MH) (wx:W) (ws:List W) (w:W) (h':MH) (p0:HR K cl μ H h) (p1:RW K μ H wx x) (p2:RWs K μ H ws xs) (p3:f wx ws h=À (w,h')) (p4:KQ K cl μ H h' w Q):rMm K cl f x xs H Q
def oN{H:Hp}(q:tM X.K cl (qE f mo ms) σ H Q):GK X.K "list" (rMm X.K cl f) (tM X.K cl mo) (tMA X.K cl ms) σ H Q:=by
 obtain⟨μ,h,ρ,w,h',R,er,e,k⟩:=q;obtain⟨x,h1,e1,e⟩:=zD e;split at e
 .rename_i hl
  obtain⟨ws,h2,e2,e⟩:=zD e;refine⟨μ,h,ρ,x,h1,R,er,e1,λcb H1 vx E1 R1 rx=>?_⟩;obtain⟨l,hl⟩:=vO.mp hl;obtain⟨a,vs,rfl,sa,ra⟩:=vv R1 rx hl;exact⟨.inl ⟨rfl,vs,sa⟩,cb,h1,ρ,ws,h2,R1,er.ext R E1,e2,λgy H2 xs E2 R2 rs=>⟨gy,h2,x,ws,w,h',R2,rx.ext R1 E2,rs,e,k.ext (E1.trans E2)⟩⟩
 .cases e
def JJ{H:Hp}(q:tM X.K cl (qE f mo []) σ H Q):CZ X.K "list" (rMm X.K cl f) (tM X.K cl mo) σ H Q:=by
 obtain⟨μ,h,ρ,w,h',R,er,e,k⟩:=q;obtain⟨x,h1,e1,e⟩:=zD e;split at e
 .rename_i hl
  obtain⟨ws,h2,e2,e⟩:=zD e;cases e2;refine⟨μ,h,ρ,x,h1,R,er,e1,λcb H1 vx E1 R1 rx=>?_⟩;obtain⟨l,hl⟩:=vO.mp hl;obtain⟨a,vs,rfl,sa,ra⟩:=vv R1 rx hl;exact⟨.inl ⟨rfl,vs,sa⟩,cb,h1,x,[],w,h',R1,rx,.nil,e,k.ext E1⟩
 .cases e
theorem KQ.put{K:aab}{μ:List Ç}{H:Hp}{h:MH}{n:Nat}{a:Ç}(k:KQ K cl μ H (h.set n (.lst l)) w Q)(R:HR K cl μ H h)(hn:μ[n]?=À a)(rs:RWs K μ H l vs)(r:RW K μ H w v):Q v (upd H a (.lst vs)):=
 k μ _ v (.put hn) (R.put hn ⟨vs,jp,rs.ext R (.put hn)⟩) (r.ext R (.put hn))
def Jq:Z3 X "list.append" (rMm X.K cl yn):=by
 rintro ag s σ H x xs v us Q I rx rs ⟨μ,h,wx,ws,w,h',R,ax,as,e,k⟩;unfold yn at e;split at e
 .rename_i n y
  split at e
  .rename_i l ho
   split at e
   .rename_i hl
    cases e;cases ax with | @ref _ a hn=>
    cases as with | cons r t=>cases t with | nil=>
    obtain⟨vs,hv,rl⟩:=R.ob n a _ hn ho;exact ou ag s σ H _ _ v us Q I rx rs ⟨a,vs,_,rfl,rfl,hv,zN (by rw[<-rl.length];exact hl) yv,k.put R hn (rl.append (.cons r .nil)) .non⟩
   .cases e
  .cases e
 .cases e
def BL:Z3 X "list.pop" (rMm X.K cl lW):=by
 rintro ag s σ H x xs v us Q I rx rs ⟨μ,h,wx,ws,w,h',R,ax,as,e,k⟩;unfold lW at e;split at e
 .rename_i n
  split at e
  .rename_i l ho
   split at e
   .rename_i y hy
    cases e;cases ax with | @ref _ a hn=>
    cases as;obtain⟨vs,hv,rl⟩:=R.ob n a _ hn ho;obtain⟨v',ev,rv⟩:=rl.get hy;exact Ck ag s σ H _ _ v us Q I rx rs ⟨a,vs,v',rfl,rfl,hv,by rw[<-rl.length];exact ev,k.put R hn rl.dropLast rv⟩
   .cases e
  .cases e
 .cases e
def tq(T:String)(hT:T="list" \/ T="tuple")(l:Ç)(items:Array Ã)(n:Nat)(b:Ç)(Ar:Array Ã)(n2:Nat)(Et:Option Ç)(Ea:Array (Option Ã))(hc0:¬(!items.isEmpty&&ð (items.size+Ar.size))=Â)(NA:items.size<=Ð)(ES:items.size+Ar.size<=Ð+1) :
  Meets (ç.«list.extend» ⟨[.ref l,.ref b],[]⟩) (λ_ R s=>s.heap.get? l=À { cls:=.type "list",dict:=Á,data:=.seq items n,slots:=#[] }/\s.heap.get? b=À { cls:=.type T,dict:=Et,data:=.seq Ar n2,slots:=Ea }/\R (.ok (.ret Ö)) { s with heap:=s.heap.update l (á λx=>x++Ar),toks:=s.toks }):=by
 rcases hT with rfl | rfl
 .exact .of_wp λprog w A R s h=>by
   obtain⟨hp,g,d,tk,os⟩:=s;obtain⟨hl,hb,h⟩:=h;have f1:=wQ;have f2:=pZ;have f3:=AutoSeq1.sub_list_list;have f4:=AutoSeq1.sub_tuple_list;have f5:=AutoSeq1.sub_list_tuple;have NB:(items++Ar).size<=Ð+1:=by rw[Array.size_append];exact ES
   wp_walk using (wg hl rfl (hz:=NA) (_hz':=NB)),Ċ hl,Ċ hb;exact⟨_,rfl,h⟩
 .exact .of_wp λprog w A R s h=>by
   obtain⟨hp,g,d,tk,os⟩:=s;obtain⟨hl,hb,h⟩:=h;have f1:=wQ;have f2:=pZ;have f3:=AutoSeq1.sub_list_list;have f4:=AutoSeq1.sub_tuple_list;have f5:=AutoSeq1.sub_list_tuple;have NB:(items++Ar).size<=Ð+1:=by rw[Array.size_append];exact ES
   wp_walk using (wg hl rfl (hz:=NA) (_hz':=NB)),Ċ hl,Ċ hb;exact⟨_,rfl,h⟩
def K5{H:Hp}{xs zs:List V}(I:Inv X ag σ H s)(rx:RelV (.ref l) v)(ru:RelV (.ref b) u)(hH:H l=À (.lst xs))(hB:SqL X.K H b zs\/SqT X.K H b zs)(hz:xs.length+zs.length<=Ð)
  (q:Q .non (upd H l (.lst (xs++zs)))):Æ (Í X.prog X.w) X.A (ķ (.builtin "list.extend") [v,u]) (EP X ag σ Q) X.xe s:=by
 cases rx;cases ru;obtain⟨z,its,n,r,hl,e⟩:=I.lstM hH;have go:∀{T:String} {Au:List Ã} {n2:Nat} {Et:Option Ç} {Ea:Array (Option Ã)},(T="list" \/ T="tuple")->Vals zs Au->s.heap.get? b=À { cls:=.type T,dict:=Et,data:=.seq Au.toArray n2,slots:=Ea }->
   Æ (Í X.prog X.w) X.A (ķ (.builtin "list.extend") [.ref l,.ref b]) (EP X ag σ Q) X.xe s:=by
  intro T Au n2 Et Ea hT r2 e2;have NC:=r2.length;have hsz:its.toArray.size+Au.toArray.size<=Ð:=by rw[zO,zO];omega
  have EQ:¬(!its.toArray.isEmpty&&ð (its.toArray.size+Au.toArray.size))=Â:=by
   rw[YM hsz,Bool.and_false];exact zU
  refine wB F.slot_list_extend ⟨_,e,rfl⟩ F.entry_list_extend (F.args_list_extend_2 _ _) (tq T hT l its.toArray n b Au.toArray n2 Et Ea EQ (by rw[zO];omega) ∅) ⟨e,e2,?_⟩;refine⟨.non,_,I.lset (its':=its++Au) hH e (by simp) (r.append r2) ?_,rfl,q⟩;rw[zR];omega
 rcases hB with hB | hB
 .obtain⟨Au,r2,⟨⟨c2,d2,RH,Ea⟩,n2,h1,h2,h3,h4⟩,_⟩:=I.list hB
  simp only at h2 h4;subst h2 h4;exact go (.inl rfl) r2 h1
 .obtain⟨Au,r2,⟨⟨c2,d2,RH,Ea⟩,h1,h2,n2,h4⟩,_⟩:=I.tuple hB
  simp only at h2 h4;subst h2 h4;exact go (.inr rfl) r2 h1
def Jy:Z3 X "list.extend" (rMm X.K cl x6):=by
 rintro ag s σ H x xs v us Q I rx rs ⟨μ,h,wx,ws,w,h',R,ax,as,e,k⟩;unfold x6 at e;split at e
 .rename_i n y
  split at e
  .rename_i l l' ho el
   split at e
   .rename_i hl
    cases e;cases ax with | @ref _ a hn=>
    cases as with | cons r t=>cases t with | nil=>
    obtain⟨vs,hv,rl⟩:=R.ob n a _ hn ho;obtain⟨b,zs,rfl,sb,rb⟩:=yY R r el;obtain⟨u,rfl,ru⟩:=rs.one;exact K5 I rx ru hv sb (zq (by rw[<-rl.length,<-rb.length];exact hl) yv) (k.put R hn (rl.append rb) .non)
   .cases e
  .cases e
 .cases e
def Qn(ho:SE X cl o mo)(ha:SA X cl (e::es) ms)(Ah:↥(Ď o "append" X.env (å o X.env)=å o X.env))
  (A4:((Þ cpos (Ê (e::es) X.env)).all (λx=>!x.1)&&(Ş cpos (ĭ [] X.env)).all (λx=>x.1.isSome)
   && decide ((e::es).length+([]:List ĩ).length+(if ([]:List ĩ).isEmpty then 0 else 1)<30))=Â:=by rfl)
  (Ai:↥((apos.endLine==cpos.line)=Â)) (hs:↥(Ê (e::es) X.env=(Ä,å e X.env)::Ê es X.env)) (Al:↥((Þ cpos (Ê es X.env)).any (·.1)=Ä)) :
  SE X cl (.Call (.Attribute o "append" apos) (e::es) [] cpos) (qE yn mo ms):=
 PE.wk (XQ yp PySem.F.slot_list_append PySem.F.type_list_append Jq ho ha Ah A4 Ai hs Al) λσ H Q q=>oN q
def QW(ho:SE X cl o mo)(ha:SA X cl (e::es) ms)(Ah:↥(Ď o "extend" X.env (å o X.env)=å o X.env))
  (A4:((Þ cpos (Ê (e::es) X.env)).all (λx=>!x.1)&&(Ş cpos (ĭ [] X.env)).all (λx=>x.1.isSome)
   && decide ((e::es).length+([]:List ĩ).length+(if ([]:List ĩ).isEmpty then 0 else 1)<30))=Â:=by rfl)
  (Ai:↥((apos.endLine==cpos.line)=Â)) (hs:↥(Ê (e::es) X.env=(Ä,å e X.env)::Ê es X.env)) (Al:↥((Þ cpos (Ê es X.env)).any (·.1)=Ä)) :
  SE X cl (.Call (.Attribute o "extend" apos) (e::es) [] cpos) (qE x6 mo ms):=
 PE.wk (XQ yp PySem.F.slot_list_extend PySem.F.type_list_extend Jy ho ha Ah A4 Ai hs Al) λσ H Q q=>oN q
def B1(ho:SE X cl o mo)(Ah:↥(Ď o "pop" X.env (å o X.env)=å o X.env))(Ai:↥((apos.endLine==cpos.line)=Â)) :
  SE X cl (.Call (.Attribute o "pop" apos) [] [] cpos) (qE lW mo []):=
 PE.wk (Cc yp PySem.F.slot_list_pop PySem.F.type_list_pop BL ho Ah Ai) λσ H Q q=>JJ q
end
noncomputable def srcOf(x:W):M Src:=λh=>match x with
 | .tup l=>À (.items l,h)
 | .fls l=>À (.items l,h)
 | .ref n=>match h[n]? with
  | some (.lst _)=>À (.live n,h)
  | _=>Á
 | _=>Á
noncomputable def kF(m:ME):MI:=λρ=>bnd (m ρ) srcOf
noncomputable def upto(n:Nat):List W:=(_root_.List.range n).map λ(i:Nat)=>W.int (i:Int)
noncomputable def iq(ws:List W):M Src:=λh=>match ws with
 | [.int j]=>if -(2 ^ 62)<=j/\j<2 ^ 62 then À (.items (upto j.toNat),h) else Á
 | _=>Á
noncomputable def cy(ms:List ME):MI:=λρ=>bnd (xp ms ρ) iq
section
variable{X:Cx}{cl:Cl}{tg e:Î}{m:ME}{ms:List ME}{p pos:ė}
def FI(hl:PE X e tl):PI X tg e (λσ H R=>tl σ H λx H1=>∃a,x=.ref a/\(((∃xs,SqL X.K H1 a xs)/\R (XG X.K a) H1)\/((∃xs,SqT X.K H1 a xs)/\R (Dp X.K a) H1))):=by
 intro ag s σ H R I h;refine kg (hl ag s σ H _ I h) ?_;rintro v s1 ⟨x,H1,I1,r1,q1⟩;obtain⟨a,e,q1⟩:=q1;subst e;cases r1;rcases q1 with ⟨⟨xs,hq⟩,q⟩ | ⟨⟨xs,hq⟩,q⟩
 .obtain⟨its,rv,p,hz⟩:=I1.list hq
  refine vH p.isList ?_;refine⟨s1.heap.objs.size,[s1.heap.objs.size],_,_,H1,rfl,I1.kept (t':=s1.toks) λb o e=>zc _ e,VB a _,⟨_,zE _ rfl,rfl,rfl⟩,λb hb=>?_,q⟩;have e:b=s1.heap.objs.size:=by simpa using hb
  subst e;exact I1.fpOk (zr _) (I1.hok.fresh (zr _))
 .obtain⟨its,rv,p,hz⟩:=I1.tuple hq
  refine wj (show s1.heap.IsTuple a its.toArray from p) ?_;refine⟨s1.heap.objs.size,[s1.heap.objs.size],_,_,H1,rfl,I1.kept (t':=s1.toks) λb o e=>zc _ e,J3 a _,⟨_,zE _ rfl,rfl,rfl⟩,λb hb=>?_,q⟩;have e:b=s1.heap.objs.size:=by simpa using hb
  subst e;exact I1.fpOk (zr _) (I1.hok.fresh (zr _))
def Cd{K:aab}{μ:List Ç}{H:Hp}{h:MH}(R:HR K cl μ H h)(sa:SqT K H a vs)(ra:RWs K μ H l vs):JR K cl (Dp K a) (.items l) μ H:=by
 intro gy H2 h2 E2 R2 i;have Lb:=SqT.ext R E2 sa;have Lx:=ra.ext R E2;refine⟨λw ew=>?_,λes=>?_⟩
 .have Ag:l[i]?=À w:=zX ew
  obtain⟨v,ev,rv⟩:=Lx.get Ag;refine⟨⟨vs,v,Lb,ev⟩,λx H3 y=>?_⟩;obtain⟨rfl,y⟩:=y;have:=y vs Lb;rw[ev] at this;cases this;exact⟨.refl,R2,rv⟩
 .have es':l[i]?=Á:=zX es
  exact⟨vs,Lb,by rw[<-ra.length];exact jW.mp es'⟩
def Dl{K:aab}{μ:List Ç}{H:Hp}{h:MH}(R:HR K cl μ H h)(sa:SqF K μ H a vs)(ra:RWs K μ H l vs):JR K cl (XG K a) (.items l) μ H:=by
 intro gy H2 h2 E2 R2 i;have Lb:=(SqF.ext E2 sa).sq;have Lx:=ra.ext R E2;refine⟨λw ew=>?_,λes=>?_⟩
 .have Ag:l[i]?=À w:=zX ew
  obtain⟨v,ev,rv⟩:=Lx.get Ag;refine⟨⟨vs,v,Lb,ev⟩,λx H3 y=>?_⟩;obtain⟨rfl,y⟩:=y;have:=y vs Lb;rw[ev] at this;cases this;exact⟨.refl,R2,rv⟩
 .have es':l[i]?=Á:=zX es
  exact⟨vs,Lb,by rw[<-ra.length];exact jW.mp es'⟩
def Ut{K:aab}{μ:List Ç}{H:Hp}(hn:μ[n]?=À a):JR K cl (XG K a) (.live n) μ H:=by
 intro gy H2 h2 E2 R2 i;have IZ:=E2.get hn;refine⟨λw ew=>?_,λes=>?_⟩
 .unfold xS at ew
  dsimp only at ew;split at ew
  .rename_i l ho
   have Ag:l[i]?=À w:=zX ew;obtain⟨vs,hv,ra⟩:=R2.ob n a _ IZ ho;obtain⟨v,ev,rv⟩:=ra.get Ag;refine⟨⟨vs,v,SqL.of hv,ev⟩,λx H3 y=>?_⟩;obtain⟨rfl,y⟩:=y;have:=y vs (SqL.of hv);rw[ev] at this;cases this;exact⟨.refl,R2,rv⟩
  .cases ew
 .unfold xS at es
  dsimp only at es;split at es
  .rename_i l ho
   have es':l[i]?=Á:=zX es;obtain⟨vs,hv,ra⟩:=R2.ob n a _ IZ ho;exact⟨vs,SqL.of hv,by rw[<-ra.length];exact jW.mp es'⟩
  .cases es
def D3(he:SE X cl e m):SI X cl tg e (kF m):=PI.wk (FI he) λσ H Q q0=>by
 obtain⟨μ,h,ρ,src,h',R,er,e,k⟩:=q0;obtain⟨x,h1,e1,e⟩:=zD e;refine⟨μ,h,ρ,x,h1,R,er,e1,λcb H1 v E1 R1 r=>?_⟩;unfold srcOf at e;split at e
 .cases e
  obtain⟨a,vs,rfl,sa,ra⟩:=r.tup_of;exact⟨a,rfl,.inr ⟨⟨vs,sa⟩,k cb H1 _ E1 R1 (Cd R1 sa ra)⟩⟩
 .cases e
  cases r with | @fls a vs l sa ra=>
  exact⟨a,rfl,.inl ⟨⟨vs,sa.sq⟩,k cb H1 _ E1 R1 (Dl R1 sa ra)⟩⟩
 .rename_i n
  split at e
  .rename_i l ho
   cases e;cases r with | @ref _ a hn=>
   obtain⟨vs,hv,ra⟩:=R1.ob n a _ hn ho;exact⟨a,rfl,.inl ⟨⟨vs,SqL.of hv⟩,k cb H1 _ E1 R1 (Ut hn)⟩⟩
  .cases e
 .cases e
def Du{K:aab}{μ:List Ç}{H:Hp}:JR K cl (Xw 0 n) (.items (upto n)) μ H:=by
 intro gy H2 h2 E2 R2 i;refine⟨λw ew=>?_,λes=>?_⟩
 .have Ag:(upto n)[i]?=À w:=zX ew
  unfold upto at Ag;rw[zZ] at Ag;by_cases hi:i<n
  .rw[wJ hi] at Ag
   cases Ag;refine⟨hi,λx H3 y=>?_⟩;obtain⟨rfl,rfl⟩:=y;exact⟨.refl,R2,by rw[Int.zero_add];exact .int _⟩
  .rw[jz (by simpa using hi)] at Ag
   cases Ag
 .have es':(upto n)[i]?=Á:=zX es
  have:=jW.mp es';unfold upto at this;rw[zH,xN] at this;exact this
def Dg(hm:X.mg "range" = Á)(ha:SA X cl [e] ms)(hg:↥(Gl X "range"))(hs:↥(Ê [e] X.env=[(Ä,å e X.env)])):SI X cl tg (.Call (.Name "range" p) [e] [] pos) (cy ms):=
 PI.wk (Wh hg hm ha hs) λσ H Q q0=>by
  obtain⟨μ,h,ρ,src,h',R,er,e,k⟩:=q0;obtain⟨ws,h1,e1,e⟩:=zD e;refine⟨μ,h,ρ,ws,h1,R,er,e1,λcb H1 vs E1 R1 rs=>?_⟩;unfold iq at e;split at e
  .rename_i j
   split at e
   .rename_i hj
    cases e;cases rs with | cons r t=>cases t with | nil=>
    cases r.int_of;exact⟨j,rfl,hj.1,hj.2,k cb H1 _ E1 R1 Du⟩
   .cases e
  .cases e
end
noncomputable def gZ(sc scope:î):î:={ scope with names:=scope.names.map λ(n,k)=>if (k==.free&&sc.kind==.function&&sc.names.lookup n==À .cell) then (n,.cell) else (n,k) }
noncomputable def hV(sc:î)(x:È):Bool:=sc.names.lookup x==À .cell||sc.names.lookup x==À .free
noncomputable def uj(sc:î)(N:List È)(scope:î)(N':List È)(nl:Nat)(ks:List Nat):Bool:=
 scope.kind==.function&&scope.names.all (λy=>y.2 != .cell)&&scope.names.all (λy=>y.2 != .local||scope.names.lookup y.1==À .local)
 && N'.length==nl+ks.length&&scope.names.all (λy=>y.2 != .free||hV sc y.1)
 && (ß ks.length).all λj=>match ks[j]?,N'[nl+j]? with
  | some k,À x=>N[k]?==À x&&hV sc x&&hV (gZ sc scope) x
  | _,_=>Ä
structure CompOk(sc:î)(N:List È)(scope:î)(N':List È)(nl:Nat)(ks:List Nat):Prop where
 kind:scope.kind=.function
 ncell:∀y∈scope.names,y.2≠.cell
 names:∀y∈scope.names,y.2=.local->scope.names.lookup y.1=À .local
 len:N'.length=nl+ks.length
 fall:∀y∈scope.names,y.2=.free->hV sc y.1=Â
 fr:∀j k,ks[j]?=À k->∃x,N[k]?=À x/\N'[nl+j]?=À x/\hV sc x=Â/\hV (gZ sc scope) x=Â
def cp(h:uj sc N scope N' nl ks=Â):CompOk sc N scope N' nl ks:=by
 unfold uj at h;erw[zu] at h;obtain⟨⟨⟨⟨⟨h1,h2⟩,h3⟩,h4⟩,h5⟩,h6⟩:=h;refine⟨by simpa using h1,λy hy=>?_,λy hy e=>?_,by simpa using h4,λy hy e=>?_,λj k e=>?_⟩
 .have:=kJ.mp h2 y hy;simpa using this
 .have:=kJ.mp h3 y hy;simpa[e] using this
 .have:=kJ.mp h5 y hy;simpa[e] using this
 .have hj:j<ks.length:=(zA.mp e).1
  have:=kJ.mp h6 j (jV.mpr hj);rw[e] at this;cases e2:N'[nl+j]? with
  | none=>rw[e2] at this;simp at this
  | some x=>
   rw[e2] at this;erw[zu] at this;exact⟨x,by simpa using this.1.1,rfl,this.1.2,this.2⟩
def g8{sc:î}(h:hV sc x=Â):sc.names.lookup x=À .cell\/sc.names.lookup x=À .free:=by
 unfold hV at h;rcases pP.mp h with h | h
 .exact .inl (by simpa using h)
 .exact .inr (by simpa using h)
noncomputable def vt(X:Cx)(scope:î)(cs:List (È×Ç))(C:Ç)(N:List È)(s₀:Å)(H₀:Hp)(ex:List Ç):Cx:=
 { X with N:=N,s₀:=s₀,H₀:=H₀,env:=compEnvC scope cs C X.env,outer:=X.stack,ex:=ex,fn:=λ_=>Ä,pn:=[],xe:=λ_ _=>False }
def J1{env:Env}(names:List (È×Ŀ))(h:∀y∈names,y.2=.free->∃c,env.cells.lookup y.1=À c):∀Iy:List (È×Ç),(∀x c,Iy.lookup x=À c->env.cells.lookup x=À c)->
  ∃cs,(forIn names Iy λ(x:È×Ŀ) (r:List (È×Ç))=>if (x.2==ĺ)=Â then do
    let a <-cellOf env x.1
    pure (ċ ((x.1,a)::r)) else pure (ċ r):Sem (List (È×Ç)))=pure cs/\(∀x c,cs.lookup x=À c->env.cells.lookup x=À c)/\(∀y∈names,y.2=.free->∃c,cs.lookup y.1=À c)/\∀x c,Iy.lookup x=À c->∃c',cs.lookup x=À c':=by
 induction names with
 | nil=>intro Iy h0;exact⟨Iy,by simp,h0,λy hy=>by simp at hy,λx c e=>⟨c,e⟩⟩
 | cons y r ih=>
  intro Iy h0;have hr:∀z∈r,z.2=.free->∃c,env.cells.lookup z.1=À c:=λz hz=>h z (zp _ hz)
  by_cases hy:(y.2==ĺ)=Â
  .obtain⟨c,hc⟩:=h y zz (by simpa using hy)
   have h1:∀x c',((y.1,c)::Iy).lookup x=À c'->env.cells.lookup x=À c':=λx c' e=>by
    rw[qF] at e;split at e
    .rename_i q
     have:x=y.1:=by simpa using q
     subst this;rw[<-e];exact hc
    .exact h0 x c' e
   obtain⟨cs,e1,e2,e3,e4⟩:=ih hr ((y.1,c)::Iy) h1;have IQ:∃c',cs.lookup y.1=À c':=e4 y.1 c (by rw[qF];simp);refine⟨cs,?_,e2,λz hz e=>?_,λx c' e=>?_⟩
   .rw[vZ,zQ hy]
    have:cellOf env y.1=pure c:=by unfold cellOf;rw[hc]
    rw[this];erw[pure_bind];exact e1
   .rcases zj.mp hz with rfl | hz
    .exact IQ
    .exact e3 z hz e
   .by_cases q:x=y.1
    .subst q;exact IQ
    .refine e4 x c' ?_
     rw[qF];have:(x==y.1)=Ä:=by simpa using q
     rw[this];exact e
  .obtain⟨cs,e1,e2,e3,e4⟩:=ih hr Iy h0
   refine⟨cs,?_,e2,λz hz e=>?_,e4⟩
   .rw[vZ,zW hy]
    erw[pure_bind];exact e1
   .rcases zj.mp hz with rfl | hz
    .exact absurd (by simpa using e) hy
    .exact e3 z hz e
theorem rH{env:Env}{scope:î}(h:∀y∈scope.names,y.2=.free->∃c,env.cells.lookup y.1=À c) :
  ∃cs,closureFor scope env=pure cs/\(∀x c,cs.lookup x=À c->env.cells.lookup x=À c)/\(∀y∈scope.names,y.2=.free->∃c,cs.lookup y.1=À c):=by
 obtain⟨cs,e1,e2,e3,_⟩:=J1 scope.names h [] (λx c e=>by simp at e);refine⟨cs,?_,e2,e3⟩
 have q:closureFor scope env=((forIn scope.names ([]:List (È×Ç)) λ(x:È×Ŀ) (r:List (È×Ç))=>if (x.2==ĺ)=Â then do
    let a <-cellOf env x.1
    pure (ċ ((x.1,a)::r)) else pure (ċ r):Sem (List (È×Ç))) >>= λcs=>pure cs):=rfl
 rw[q,e1];rfl
section
variable{X:Cx}{ag:List (Ç×ø)}{σ:L2.St}{H:Hp}{s:Å}
def tQ{scope:î}(nc:∀y∈scope.names,y.2≠.cell)(h:hV (gZ sc scope) x=Â):∃y∈scope.names,y.1=x/\y.2=.free:=by
 have go:∀l:List (È×Ŀ),(∀y∈l,y.2≠.cell)->∀k:Ŀ,(k=.cell\/k=.free)->(l.map λ(n,k)=>if (k==ĺ&&sc.kind==ScopeKind.function&&sc.names.lookup n==À ŗ) then (n,ŗ) else (n,k)).lookup x=À k->∃y∈l,y.1=x/\y.2=.free:=by
  intro l;induction l with
  | nil=>intro _ k _ e;simp at e
  | cons y r ih=>
   obtain⟨n,k0⟩:=y;intro nc k hk e;rw[zx,qF] at e;have L8:(if (k0==ĺ&&sc.kind==ScopeKind.function&&sc.names.lookup n==À ŗ)=Â then (n,ŗ) else (n,k0)).1=n:=by split<;>rfl
   by_cases q:x=n
   .refine⟨(n,k0),zz,q.symm,?_⟩
    have:(x==n)=Â:=by simpa using q
    erw[L8,this] at e;split at e
    .rename_i c
     erw[zu] at c;simpa using c.1.1
    .have e':k0=k:=by simpa using e
     rcases hk with rfl | rfl
     .exact absurd e' (nc (n,k0) zz)
     .exact e'
   .have:(x==n)=Ä:=by simpa using q
    erw[L8,this] at e;obtain⟨y,hy,e1,e2⟩:=ih (λy hy=>nc y (zp _ hy)) k hk e;exact⟨y,zp _ hy,e1,e2⟩
 rcases g8 h with h | h
 .exact go scope.names nc _ (.inl rfl) h
 .exact go scope.names nc _ (.inr rfl) h
def FR{scope:î}{cs:List (È×Ç)}(I:Inv X ag σ H s)(Ap:X.env.scope=sc)(ok:CompOk sc N scope N' nl ks)
  (AC:∀x c,cs.lookup x=À c->X.env.cells.lookup x=À c) (pf:∀y∈scope.names,y.2=.free->∃c,cs.lookup y.1=À c) (hC:s.heap.objs.size<=C) (hex:∀b∈ex,am X ag H b) (Lc:∀b∈ex,b<s.heap.objs.size):(vt X scope cs C N' s H ex).Ok:=by
 subst Ap;refine⟨I.ok.mod,ok.kind,I.ok.glob,I.ok.blt,hC,λx y c h1 h2=>I.ok.inj x y c (AC x c h1) (AC y c h2),λx hx=>?_,λx c h=>?_,I.ok.hd,I.ok.frames,.inl rfl,λb hb=>?_,I.bs,zq I.ok.bsz I.sz,λb o e hb=>?_,λb hb z=>?_,I.stack,I.stkFree⟩
 .have hc:hV (gZ X.env.scope scope) x=Â:=by
   unfold hV;rcases hx with hx | hx
   .rw[show(gZ X.env.scope scope).names.lookup x=À .cell from hx];rfl
   .rw[show(gZ X.env.scope scope).names.lookup x=À .free from hx];rfl
  obtain⟨y,hy,rfl,e⟩:=tQ ok.ncell hc;exact pf y hy e
 .cases h
 .obtain⟨h0,h1,h2,h3,h4,h5⟩:=hex b hb
  exact⟨λz=>absurd (zN (Lc b hb) (z▸hC)) (jZ _),λx c e=>h4 x c (AC x c e)⟩
 .obtain⟨h0,h1,h2,h3,h4,h5⟩:=hex b hb
  rcases h3 with h3 | h3
  .exact I.ok.noex b o e h3
  .exact absurd (zN (zJ e) (zq I.ok.bsz h3)) (jZ _)
 .obtain⟨h0,h1,h2,h3,h4,h5⟩:=hex b hb
  rcases zj.mp (I.stkSub b z) with e | e
  .exact h1 e
  .exact h2 e
end
section
variable{prog:Ï}{w:Ñ}{A:Ø}{R:Result->Å->Prop}{s:Å}
noncomputable def Z8(ifs:List Î)(env:Env):Sem Bool:=forIn ifs Â λc r=>if r=Â then do let ok <-isTrue c env (å c env);pure (ċ ok) else pure (ċ r)
def sO{env:Env}(I:Nat->Å->Prop)
  (turn:∀n s,I n s->Æ (Í prog w) A (Ē it) (λr d5=>match r with
   | none=>R (.ok .next) d5
   | some v=>Æ (Í prog w) A (Ł target it v) (λ_ IR=>Æ (Í prog w) A (ŀ target env v) (λ_ mN=>
     Æ (Í prog w) A (Z8 ifs env) (λok AY=>
      if ok=Â then Æ (Í prog w) A (å elt env) (λx Iz=>
       Æ (Í prog w) A (ķ (.builtin "list.append") [acc,x]) (λ_ L9=>∃m,m<n/\I m L9) (λ_ _=>False) Iz) (λ_ _=>False) AY
      else ∃m,m<n/\I m AY) (λ_ _=>False) mN) (λ_ _=>False) IR) (λ_ _=>False) d5) (λ_ _=>False) s)
  (n:Nat) (h:I n s) :
  Ĺ (Í prog w) A (.compLoop (.ListComp elt [⟨target,iter,ifs,0⟩] scope pos) 0 it acc env) R s:=by
 refine codeAny_loop rfl I (λn s hI=>?_) n h;show Æ _ A ((compTurn (.ListComp elt [⟨target,iter,ifs,0⟩] scope pos) 0 it acc env).onRaise (λx=>do noteFrame x env;theTreesLotGoes x)) _ _ s
 refine wpAny_noted ?_;rw[compTurn_list];refine za (wpAny_standAt (za (j6 (turn n s hI) (λr d5 Av=>?_) λ_ _ h'=>h'.elim)));cases r with
 | none=>exact zf Av
 | some v=>
  refine za (j6 Av (λ_ IR Ma=>?_) λ_ _ h'=>h'.elim);refine za (j6 Ma (λ_ mN ET=>za (j6 ET (λok AY Mc=>?_) λ_ _ h'=>h'.elim)) λ_ _ h'=>h'.elim);cases ok with
  | false=>exact zf ⟨rfl,Mc⟩
  | true=>
   exact za (za (j6 Mc (λx Iz ND=>za (j6 ND (λ_ L9 NE=>zf (zf ⟨rfl,NE⟩)) λ_ _ h'=>h'.elim)) λ_ _ h'=>h'.elim))
end
noncomputable def gR(X:Cx)(cl:Cl)(ifs:List Î)(t:MT):Prop:=∀(ag:List (Ç×ø)) (s:Å) (σ:L2.St) (H:Hp) (Q:Bool->Hp->Prop),Inv X ag σ H s->tMT X.K cl t σ H Q->Æ (Í X.prog X.w) X.A (Z8 ifs X.env) (TP X ag σ Q) X.xe s
noncomputable def qB:MT:=λ_ h=>À (Â,h)
section
variable{X:Cx}{cl:Cl}{c:Î}{t:MT}
def Bm:gR X cl [] qB:=λag s σ H Q I q0=>by
 obtain⟨μ,h,ρ,b,h',R,er,e,k⟩:=q0;cases e;exact wpAny_tests_nil ⟨H,I,k μ H .refl R⟩
def U0(h:ST X cl c t):gR X cl [c] t:=λag s σ H Q I q=>wpAny_tests_one (h ag s σ H Q I q)
end
noncomputable def blank(nl:Nat)(ρ:En):En:=É nl Á++ρ.drop nl
noncomputable def xE(src:Src)(nl:Nat)(g:MG)(t:MT)(m:ME)(n0:Nat):Nat->Nat->En->MH->Option MH
 | 0,_,_,_=>Á
 | k+1,i,ρ,h=>match xS src i h with
  | none=>Á
  | some Á=>À h
  | some (À w)=>match g w ρ h with
   | none=>Á
   | some (oj,h1)=>match t oj h1 with
    | none=>Á
    | some (Ä,h2)=>xE src nl g t m n0 k (i+1) (blank nl oj) h2
    | some (Â,h2)=>match m oj h2 with
     | none=>Á
     | some (y,h3)=>match h3[n0]? with
      | some (.lst acc)=>if acc.length<cap then xE src nl g t m n0 k (i+1) (blank nl oj) (h3.set n0 (.lst (acc++[y]))) else Á
      | _=>Á
noncomputable def yA(nl:Nat)(g:MG)(t:MT)(m:ME)(n0:Nat):List W->En->MH->Option MH
 | [],_,h=>À h
 | w::r,ρ,h=>match g w ρ h with
   | none=>Á
   | some (oj,h1)=>match t oj h1 with
    | none=>Á
    | some (Ä,h2)=>yA nl g t m n0 r (blank nl oj) h2
    | some (Â,h2)=>match m oj h2 with
     | none=>Á
     | some (y,h3)=>match h3[n0]? with
      | some (.lst acc)=>if acc.length<cap then yA nl g t m n0 r (blank nl oj) (h3.set n0 (.lst (acc++[y]))) else Á
      | _=>Á
theorem fg(l:List W):∀(k i:Nat) (ρ:En) (h:MH),l.length+1<=i+k->i<=l.length->xE (.items l) nl g t m n0 k i ρ h=yA nl g t m n0 (l.drop i) ρ h
 | 0,i,ρ,h,hk,hi=>by omega
 | k+1,i,ρ,h,hk,hi=>by
  by_cases hl:i<l.length
  .rw[wX hl]
   unfold xE yA;erw[xS,zL hl];cases e1:g l[i] ρ h with
   | none=>rfl
   | some p=>
    obtain⟨oj,h1⟩:=p;simp only;cases e2:t oj h1 with
    | none=>rfl
    | some q=>
     obtain⟨b,h2⟩:=q;cases b with
     | false=>exact fg l k (i+1) _ h2 ∅ hl
     | true=>
      simp only;cases e3:m oj h2 with
      | none=>rfl
      | some q3=>
       obtain⟨y,h3⟩:=q3;simp only;split
       .split
        .exact fg l k (i+1) _ _ ∅ hl
        .rfl
       .rfl
  .have A5:i=l.length:=by omega
   subst A5;rw[ug];unfold xE yA;simp[xS]
noncomputable def eY(mi:MI)(nl:Nat)(ks:List Nat)(g:MG)(t:MT)(m:ME):En->MH->Option (Nat×MH×MH):=λρ h=>match mi ρ h with
 | none=>Á
 | some (.items l,h1)=>match yA nl g t m h1.length l (É nl Á++ks.map λk=>(ρ[k]?).join) (h1++[.lst []]) with
  | some h2=>À (h1.length,h1,h2)
  | none=>Á
 | some (.live n,h1)=>match xE (.live n) nl g t m h1.length (Vs (.live n) h1+1) 0 (É nl Á++ks.map λk=>(ρ[k]?).join) (h1++[.lst []]) with
  | some h2=>À (h1.length,h1,h2)
  | none=>Á
noncomputable def gU(mi:MI)(nl:Nat)(ks:List Nat)(g:MG)(t:MT)(m:ME):ME:=λρ h=>match eY mi nl ks g t m ρ h with
 | some (n,_,h2)=>À (.ref n,h2)
 | none=>Á
open Classical in
noncomputable def kA(mi:MI)(nl:Nat)(ks:List Nat)(g:MG)(t:MT)(m:ME):ME:=λρ h=>match eY mi nl ks g t m ρ h with
 | some (n,h1,h2)=>match h2[n]? with
  | some (.lst l)=>if h1<+:h2/\lows h1.length l=Â then À (.fls l,h1) else Á
  | _=>Á
 | none=>Á
theorem ER.blank{K:aab}{μ:List Ç}{H:Hp}{ρ:En}(er:ER K μ H ρ σ)(hl:nl<=ρ.length):ER K μ H (ML.blank nl ρ) σ:=by
 unfold ML.blank;refine⟨by simp;rw[<-er.len];omega,λi w e=>?_⟩;by_cases hi:i<nl
 .rw[zY (by simpa using hi),q8] at e
  split at e<;>cases e
 .rw[ji (by simpa using hi),vm,List.getElem?_drop] at e
  exact er.at_ i w (by rw[<-e];congr 1;omega)
section
variable{X:Cx}{cl:Cl}{ag:List (Ç×ø)}{σ:L2.St}
noncomputable def σC(nl:Nat)(ks:List Nat)(σ:L2.St):L2.St:=É nl Á++ks.map λk=>(σ[k]?).join
noncomputable def ρC(nl:Nat)(ks:List Nat)(ρ:En):En:=É nl Á++ks.map λk=>(ρ[k]?).join
def HA{K:aab}{μ:List Ç}{H:Hp}(er:ER K μ H ρ σ):ER K μ H (ρC nl ks ρ) (σC nl ks σ):=by
 unfold ρC σC;refine⟨by simp,λi w e=>?_⟩;by_cases hi:i<nl
 .rw[zY (by simpa using hi),q8] at e
  split at e<;>cases e
 .rw[ji (by simpa using hi),vm,zZ] at e
  rw[ji (by simpa using hi),vm,zZ];cases e1:ks[i-nl]? with
  | none=>rw[e1] at e;cases e
  | some k=>
   rw[e1] at e;have e2:(ρ[k]?).join=À w:=zX e;have e3:ρ[k]?=À (À w):=by
    cases q:ρ[k]? with
    | none=>rw[q] at e2;cases e2
    | some o=>rw[q] at e2;cases o with
     | none=>cases e2
     | some z=>cases e2;rfl
   obtain⟨v,ev,r⟩:=er.at_ k w e3;exact⟨v,by simp[ev],r⟩
def Qh{scope:î}{cs:List (È×Ç)}{H:Hp}{s:Å}{Av:Õ}(I:Inv X ag σ H s)(Ap:X.env.scope=sc)(hN:X.N=N)(ok:CompOk sc N scope N' nl ks)
  (AC:∀x c,cs.lookup x=À c->X.env.cells.lookup x=À c) (pf:∀y∈scope.names,y.2=.free->∃c,cs.lookup y.1=À c) (hex:∀b∈ex,am X ag H b) (Lc:∀b∈ex,b<s.heap.objs.size)
   (Aq:Av.Ns (s.heap.objs.size+1) m0) (old:∀b o,s.heap.get? b=À o->Av.get? b=À o) (hD:Av.get? s.heap.objs.size=À { cls:=.type "list",data:=.seq ([]:List Ã).toArray }) :
  Inv (vt X scope cs (s.heap.objs.size+1) N' s H ex) [] (σC nl ks σ) (upd H s.heap.objs.size (.lst [])) { s with heap:=Av,toks:=tk }:=by
 have RI:H s.heap.objs.size=Á:=I.hok.fresh (zr _);have MW:∀{b:Ç} {o:ø},s.heap.get? b=À o->b≠s.heap.objs.size:=λe=>zM (zJ e)
 refine⟨FR I Ap ok AC pf (qK _) hex Lc,rfl,I.bare,Un.laid old (zr _) RI,⟨m0,Aq,λi x v e1 e2 e3=>?_⟩,λx c e=>?_,?_,λx c e=>?_,λp hp=>absurd (show p∈([]:List (Ç×ø)) from hp) (by simp),I.hok.laid old (zr _) ⟨by simp,[],_,.nil,hD⟩,?_⟩
 .have Ii:N'[i]?=À x:=e1
  unfold σC at e2;by_cases hi:i<nl
  .rw[zY (by simpa using hi),q8] at e2
   split at e2<;>cases e2
  .rw[ji (by simpa using hi),vm,zZ] at e2
   cases q1:ks[i-nl]? with
   | none=>rw[q1] at e2;cases e2
   | some k=>
    rw[q1] at e2;have q2:(σ[k]?).join=À v:=zX e2;have q3:σ[k]?=À (À v):=by
     cases q:σ[k]? with
     | none=>rw[q] at q2;cases q2
     | some o=>rw[q] at q2;cases o with
      | none=>cases q2
      | some z=>cases q2;rfl
    obtain⟨x',RJ,OV,OW,OX⟩:=ok.fr (i-nl) k q1;have:x'=x:=by
     rw[show nl+(i-nl)=i by omega,Ii] at OV;exact(zX OV).symm
    subst this;subst Ap;obtain⟨m,hn,hl⟩:=I.loc;have Nk:ZY X.env.scope x':=by rcases g8 OW with z | z;exact .inr (.inl z);exact .inr (.inr z)
    obtain⟨u,ru,lk⟩:=hl k x' v (by rw[hN];exact RJ) q3 Nk;refine⟨u,ru,?_⟩;rcases lk with ⟨z,_⟩ | ⟨_,c,hc,ic⟩
    .rcases g8 OW with y | y<;>(rw[show X.env.kindOf x'=X.env.scope.names.lookup x' from rfl,y] at z;cases z)
    .refine .inr ⟨g8 OX,?_⟩
     obtain⟨y,hy,rfl,RK⟩:=tQ ok.ncell OX;obtain⟨c',IM⟩:=pf y hy RK;have:=AC _ _ IM;rw[hc] at this;cases this;obtain⟨o,ho,hd⟩:=ic;exact⟨c,IM,o,old _ _ ho,hd⟩
 .obtain⟨v,o,ho,hd⟩:=I.cell x c (AC x c e)
  exact⟨v,o,old _ _ ho,hd⟩
 .show(upd H s.heap.objs.size (.lst [])) (s.heap.objs.size+1)=Á
  rw[kG (xX _)];exact I.hok.fresh (qK _)
 .obtain⟨v,o,ho,hd⟩:=I.cell x c (AC x c e)
  rw[kG (MW ho)];exact I.freeC x c (AC x c e)
 .show(σC nl ks σ).length=N'.length
  unfold σC;rw[ok.len];simp
def QA{elt tg iter:Î}{ifs:List Î}{scope sc:î}{pos:ė}{N N':List È}{nl:Nat}{ks:List Nat}{cs:List (È×Ç)}{J:It}{it:Ç}{fp:List Ç}{tn:Nat->Õ->Prop}{g:MG}{t:MT}{m:ME}{src:Src}{k0:Nat}
  {H2:Hp} {s2:Å} {μ:List Ç} {h h':MH} {ρ:En} {RR:Ã->Ç->Result->Å->Prop} {E:Ã->Å->Prop}
  (hc:X.calm=Â) (Ap:X.env.scope=sc) (hN:X.N=N) (ok:CompOk sc N scope N' nl ks)
  (hg:∀cs C s₀ H₀ ex,SG (vt X scope cs C N' s₀ H₀ ex) cl tg g) (ht:∀cs C s₀ H₀ ex,gR (vt X scope cs C N' s₀ H₀ ex) cl ifs t) (he:∀cs C s₀ H₀ ex,SE (vt X scope cs C N' s₀ H₀ ex) cl elt m)
  (I2:Inv X ag σ H2 s2) (T:Turn X.prog X.w X.K tg J fp it tn) (Iq:tn 0 s2.heap) (f2:∀b∈fp,am X ag H2 b)
  (AC:∀x c,cs.lookup x=À c->X.env.cells.lookup x=À c) (pf:∀y∈scope.names,y.2=.free->∃c,cs.lookup y.1=À c)
  (R2:HR X.K cl μ H2 h) (er:ER X.K μ H2 ρ σ) (j:JR X.K cl J src μ H2) (e:xE src nl g t m h.length k0 0 (ρC nl ks ρ) (h++[.lst []])=À h')
  (RL:∀D C s' H' d3 m',D≠C->s'.heap.Ns C m'->Inv X ag σ H' s'->H' C=Á->s2.heap.objs.size<=C->Ext μ H2 d3 H'->HR X.K cl d3 H' h'->d3[h.length]?=À D->RR (.ref D) C (.ok .next) s') :
  Æ (Í X.prog X.w) X.A (newList []) (λacc AY=>Æ (Í X.prog X.w) X.A (newFunctionEnv scope X.env.globals cs [] X.env.qual Á .none (À X.env)) (λMe Iz=>
   Ĺ (Í X.prog X.w) X.A (.compStart (.ListComp elt [⟨tg,iter,ifs,0⟩] scope pos) 0 (.ref it) acc { Me with scope:=relabel scope X.env }) (RR acc Me.locals) Iz) E AY) E s2:=by
 refine kE (wpAny_newFunctionEnv ok.ncell (by intro y hy;simp at hy) (λAv AK Ax=>?_) ok.kind);dsimp only at AK Ax ⊢;generalize hP:s2.heap.push { cls:=.type "list",dict:=Á,data:=.seq ([]:List Ã).toArray }=P at AK Ax ⊢;have hC:P.objs.size=s2.heap.objs.size+1:=by rw[<-hP,jP]
 rw[hC] at AK Ax ⊢;have old:∀b o,s2.heap.get? b=À o->Av.get? b=À o:=λb o e=>Ax.extBut b o (zM (jD (zJ e))) (zc _ (hP▸zc _ e))
 have hD:Av.get? s2.heap.objs.size=À { cls:=.type "list",data:=.seq ([]:List Ã).toArray }:=Ax.extBut _ _ (zM (jY _)) (zc _ (hP▸zE _ rfl));have Lc:∀b∈fp,b<s2.heap.objs.size:=λb hb=>by
  obtain⟨o,ho,_⟩:=T.obj 0 _ Iq b hb;exact zJ ho
 have NF:H2 s2.heap.objs.size=Á:=I2.hok.fresh (zr _);have I3:=Qh (X:=X) (tk:=s2.toks+([]:List (È×Ã)).length) I2 Ap hN ok AC pf f2 Lc AK old hD;have LO:tn 0 Av:=T.keep 0 _ _ Iq λb _ o e=>old b o e
 have MR:∀b∈fp,(upd H2 s2.heap.objs.size (.lst [])) b=Á:=λb hb=>by
  rw[kG (zM (Lc b hb))];exact(f2 b hb).1
 have NG:∀{H:Hp},(∀b∈fp,H b=Á)->∀b∈fp,am (vt X scope cs (s2.heap.objs.size+1) N' s2 H2 fp) [] H b:=λhn b hb=>by
  obtain⟨g0,g1,g2,g3,g4,g5⟩:=f2 b hb;refine⟨hn b hb,zM (jD (Lc b hb)),λz=>?_,.inl hb,λx c e=>g4 x c (AC x c e),λp hp=>absurd (show p∈([]:List (Ç×ø)) from hp) (by simp)⟩;rcases zj.mp (I2.stkSub b z) with q | q
  .exact g1 q
  .exact g2 q
 have loop:∀s:Å,s={ s2 with heap:=Av,toks:=s2.toks+([]:List (È×Ã)).length }->
   Ĺ (Í X.prog X.w) X.A (.compLoop (.ListComp elt [⟨tg,iter,ifs,0⟩] scope pos) 0 (.ref it) (.ref s2.heap.objs.size) (compEnvC scope cs (s2.heap.objs.size+1) X.env)) (RR (.ref s2.heap.objs.size) (s2.heap.objs.size+1)) s:=by
  rintro s rfl
  refine sO (λn s=>∃i hG H ρ' d3 hh,Inv (vt X scope cs (s2.heap.objs.size+1) N' s2 H2 fp) [] hG H s/\tn i s.heap/\(∀b∈fp,H b=Á)/\HR X.K cl d3 H hh/\ER X.K d3 H ρ' hG/\Ext μ H2 d3 H/\nl<=ρ'.length/\d3[h.length]?=À s2.heap.objs.size /\
   xE src nl g t m h.length n i ρ' hh=À h') ?_ k0 ?_
  .rintro n s ⟨i,hG,H,ρ',d3,hh,I,st,fr,R,RM,E',hl,hm,e⟩
   cases n with
   | zero=>cases e
   | succ n=>
    unfold xE at e;obtain⟨jg,js⟩:=j d3 H hh E' R i;cases es:xS src i hh with
    | none=>rw[es] at e;cases e
    | some o=>
     rw[es] at e;cases o with
     | none=>
      cases e;refine kg (T.done (vt X scope cs (s2.heap.objs.size+1) N' s2 H2 fp) rfl rfl rfl hc i [] s hG H _ I (NG fr) st (js es)) ?_;rintro r s1 ⟨hr,I1⟩;subst hr;obtain⟨m1,OT,_⟩:=I1.loc;refine RL _ _ s1 H d3 m1 (zM (jY _)) OT ?_ I1.free (qK _) E' R hm;exact I2.call' I1.os I1.base I1.hok I1.bare λb hb=>⟨(f2 b hb).2.2.2.1,(f2 b hb).2.1,(f2 b hb).2.2.2.2.1,(f2 b hb).2.2.2.2.2⟩
     | some w=>
      obtain⟨go,yl⟩:=jg w es;simp only at e;cases e1:g w ρ' hh with
      | none=>rw[e1] at e;cases e
      | some p=>
       obtain⟨oj,h1⟩:=p;rw[e1] at e;simp only at e;refine kg (T.item (vt X scope cs (s2.heap.objs.size+1) N' s2 H2 fp) rfl rfl rfl hc i [] s hG H _ I (NG fr) st go) ?_;rintro r s1 ⟨u,hr,q1⟩;subst hr;refine kg q1 ?_;rintro _ s5 ⟨x,H5,I5,r5,y5,IY,Nm⟩;obtain⟨E5,R5,rx⟩:=yl x H5 y5;have Nn:=I5.pinned (NG Nm) (T.obj _ _ IY);refine kg (hg cs _ s2 H2 fp _ s5 hG H5 x u (λIe H6=>∃Ik,Ext d3 H5 Ik H6/\HR X.K cl Ik H6 h1/\ER X.K Ik H6 oj Ie) Nn r5 ⟨d3,hh,ρ',w,oj,h1,R5,RM.ext R E5,rx,e1,λIk H6 Ie E6 R6 Ly=>⟨Ik,E6,R6,Ly⟩⟩) ?_;rintro _ s6 ⟨Ie,H6,I6,Ik,E6,R6,Ly⟩;have RN:nl<=oj.length:=by
        rw[Ly.len,I6.len];show nl<=N'.length
        rw[ok.len];omega
       have RO:Ext μ H2 Ik H6:=E'.trans (E5.trans E6);have fin:∀{s9:Å} {H9:Hp} {MX:List Ç} {h9:MH},Inv (vt X scope cs (s2.heap.objs.size+1) N' s2 H2 fp) ([]++iy fp s5.heap) Ie H9 s9->Ext Ik H6 MX H9->HR X.K cl MX H9 h9->xE src nl g t m h.length n (i+1) (ML.blank nl oj) h9=À h'->
         ∃k,k<n+1/\∃i hG H ρ' d3 hh,Inv (vt X scope cs (s2.heap.objs.size+1) N' s2 H2 fp) [] hG H s9/\tn i s9.heap/\(∀b∈fp,H b=Á)/\HR X.K cl d3 H hh/\ER X.K d3 H ρ' hG/\Ext μ H2 d3 H/\nl<=ρ'.length/\d3[h.length]?=À s2.heap.objs.size/\xE src nl g t m h.length k i ρ' hh=À h':=by
        intro s9 H9 MX h9 I9 E9 R9 e9;refine⟨n,jY n,i+1,Ie,H9,ML.blank nl oj,MX,h9,I9.unpinned,T.keep _ _ _ IY λb hb o e=>(I9.pin (b,o) (kh _ (kh _ (df hb e)))).1,λb hb=>?_,R9,(Ly.ext R6 E9).blank RN,RO.trans E9,?_,E9.get (E6.get (E5.get hm)),e9⟩
        .obtain⟨o,e,d⟩:=T.obj _ _ IY b hb
         exact(I9.pin (b,o) (kh _ (kh _ (df hb e)))).2.1
        .unfold ML.blank;simp
       cases e2:t oj h1 with
       | none=>rw[e2] at e;cases e
       | some p2=>
        obtain⟨bb,h2⟩:=p2;rw[e2] at e;refine kg (ht cs _ s2 H2 fp _ s6 Ie H6 (λb' H7=>b'=bb/\∃Ld,Ext Ik H6 Ld H7/\HR X.K cl Ld H7 h2) I6 ⟨Ik,h1,oj,bb,h2,R6,Ly,e2,λLd H7 E7 R7=>⟨rfl,Ld,E7,R7⟩⟩) ?_;rintro b' s7 ⟨H7,I7,AL,Ld,E7,R7⟩;subst AL;cases b' with
        | false=>
         rw[zW zU];exact fin I7 E7 R7 e
        | true=>
         rw[zQ rfl];simp only at e;cases e3:m oj h2 with
         | none=>rw[e3] at e;cases e
         | some p3=>
          obtain⟨y,h3⟩:=p3;rw[e3] at e;simp only at e;refine kg (he cs _ s2 H2 fp _ s7 Ie H7 (λv H8=>∃Le,Ext Ld H7 Le H8/\HR X.K cl Le H8 h3/\RW X.K Le H8 y v) I7 ⟨Ld,h2,oj,y,h3,R7,Ly.ext R6 E7,e3,λLe H8 v E8 R8 r8=>⟨Le,E8,R8,r8⟩⟩) ?_;rintro xv s8 ⟨v,H8,I8,rv,Le,E8,R8,r8⟩;split at e
          .rename_i acc ho
           split at e
           .rename_i xa
            have MY:Le[h.length]?=À s2.heap.objs.size:=E8.get (E7.get (E6.get (E5.get hm)));obtain⟨vs,hv,ra⟩:=R8.ob _ _ _ MY ho;refine kg (ou (X:=vt X scope cs (s2.heap.objs.size+1) N' s2 H2 fp) _ s8 Ie H8 (.ref s2.heap.objs.size) [v] (.ref s2.heap.objs.size) [xv] (λ_ H9=>H9=upd H8 s2.heap.objs.size (.lst (vs++[v]))) I8 rfl (.cons rv .nil) ⟨_,vs,v,rfl,rfl,hv,zN (by rw[<-ra.length];exact xa) yv,rfl⟩) ?_;rintro _ s9 ⟨_,H9,I9,_,RP⟩;subst RP;exact fin I9 (E7.trans (E8.trans (.put MY))) (R8.put (o:=.lst (acc++[y])) MY ⟨vs++[v],jp,(ra.append (.cons r8 .nil)).ext R8 (.put MY)⟩) e
           .cases e
          .cases e
  .have R3:HR X.K cl (μ++[s2.heap.objs.size]) (upd H2 s2.heap.objs.size (.lst [])) (h++[.lst []]):=R2.new NF ⟨[],jp,.nil⟩
   exact⟨0,σC nl ks σ,_,ρC nl ks ρ,_,_,I3,LO,MR,R3,(HA er).ext R2 (.new NF),.new NF,by unfold ρC;simp,by rw[<-R2.len];simp,e⟩
 exact codeAny_compStart_list (loop _ rfl) (T.self _ 0 _ _ _ LO (loop _ rfl))
def lG{H:Hp}{h1:MH}
  (hc:X.calm=Â) (Ap:X.env.scope=sc) (hN:X.N=N) (ok:CompOk sc N scope N' nl ks) (hi:SI X cl tg iter mi)
  (hg:∀cs C s₀ H₀ ex,SG (vt X scope cs C N' s₀ H₀ ex) cl tg g) (ht:∀cs C s₀ H₀ ex,gR (vt X scope cs C N' s₀ H₀ ex) cl ifs t) (he:∀cs C s₀ H₀ ex,SE (vt X scope cs C N' s₀ H₀ ex) cl elt m)
  (I:Inv X ag σ H s) (R:HR X.K cl μ H h) (er:ER X.K μ H ρ σ) (e:eY mi nl ks g t m ρ h=À (n0,h1,h2)) (hs:∀x,í iter X.env x=pure x)
  (k:∀D C s' H' d3 m' s2 H1 cb,D≠C->s'.heap.Ns C m'->Inv X ag σ H' s'->H' C=Á->X.env.locals≠C->(∀x c,X.env.cells.lookup x=À c->c≠C)->(X.s₀.heap.objs.size<=C)->(∀p∈X.pn++ag,p.1≠C)->Inv X ag σ H1 s2->Ext μ H cb H1->HR X.K cl cb H1 h1->Ext cb H1 d3 H'->HR X.K cl d3 H' h2->h1.length=n0->d3[n0]?=À D->
   compPost (Í X.prog X.w) X.A X.xe use Q (.ref D) C (.ok .next) s') :
  Æ (Í X.prog X.w) X.A (comprehension (.ListComp elt [⟨tg,iter,ifs,0⟩] scope pos) scope X.env p2 (newList []) Ä (å iter X.env) use) Q X.xe s:=by
 subst Ap;have AF:∀y∈scope.names,y.2=.free->∃c,X.env.cells.lookup y.1=À c:=λy hy e=>I.ok.has y.1 (g8 (ok.fall y hy e))
 obtain⟨cs,Mf,AC,pf⟩:=rH AF;have key:∀{src:Src} {k0:Nat},mi ρ h=À (src,h1)->xE src nl g t m h1.length k0 0 (ρC nl ks ρ) (h1++[.lst []])=À h2->n0=h1.length->
   Æ (Í X.prog X.w) X.A (comprehension (.ListComp elt [⟨tg,iter,ifs,0⟩] scope pos) scope X.env p2 (newList []) Ä (å iter X.env) use) Q X.xe s:=by
  intro src k0 e1 e2 RQ;subst RQ;refine wpAny_comprehension_free (use:=use) rfl hs Mf ok.kind ok.names ?_;refine kg (hi ag s σ H (λJ H1=>∃cb,Ext μ H cb H1/\HR X.K cl cb H1 h1/\JR X.K cl J src cb H1) I ⟨μ,h,ρ,src,h1,R,er,e1,λcb H1 J E1 R1 j=>⟨cb,E1,R1,j⟩⟩) λv s1 q1=>kg q1 λNl s2 q2=>?_
  obtain⟨it,fp,tn,J,H2,rfl,I2,T,Iq,f2,gy,E2,R2,j⟩:=q2;refine QA (RR:=λacc C=>compPost (Í X.prog X.w) X.A X.xe use Q acc C) hc rfl hN ok hg ht he I2 T Iq f2 AC pf R2 (er.ext R E2) j e2 ?_;intro D C s' H' d3 m' MZ Aq I' Lf hC E' R' hm;refine k D C s' H' d3 m' s2 H2 gy MZ Aq I' Lf (zM (zN I2.lt hC)) (λx c e z=>?_) (zq I2.sz hC) (λp hp z=>?_) I2 E2 R2 E' R' rfl hm
  .obtain⟨v,o,ho,_⟩:=I2.cell x c e
   exact absurd (zN (zJ ho) (z▸hC)) (jZ _)
  .exact absurd (zN (zJ (I2.pin p hp).1) (z▸hC)) (jZ _)
 unfold eY at e;split at e
 .cases e
 .rename_i l M0 e1
  split at e
  .rename_i Ay e2
   cases e;have q:=fg (nl:=nl) (g:=g) (t:=t) (m:=m) (n0:=h1.length) l (l.length+1) 0 (ρC nl ks ρ) (h1++[.lst []]) ∅ ∅;rw[List.drop_zero] at q;exact key e1 (q.trans e2) rfl
  .cases e
 .rename_i n M0 e1
  split at e
  .rename_i Ay e2
   cases e;exact key e1 e2 rfl
  .cases e
def YV(sc:î)(N N':List È)(nl:Nat)(ks:List Nat)(hc:X.calm=Â)(ok:uj sc N scope N' nl ks=Â)(hi:SI X cl tg iter mi)
  (hg:∀cs C s₀ H₀ ex,SG (vt X scope cs C N' s₀ H₀ ex) cl tg g) (ht:∀cs C s₀ H₀ ex,gR (vt X scope cs C N' s₀ H₀ ex) cl ifs t) (he:∀cs C s₀ H₀ ex,SE (vt X scope cs C N' s₀ H₀ ex) cl elt m)
  (Ap:↥(X.env.scope=sc)) (hN:↥(X.N=N)) (hs:∀x,í iter X.env x=pure x:=by intro _;rfl):SE X cl (.ListComp elt [⟨tg,iter,ifs,0⟩] scope pos) (gU mi nl ks g t m):=by
 rintro ag s σ H Q I ⟨μ,h,ρ,w,h',R,er,e,k⟩;unfold gU at e;split at e
 .rename_i n0 h1 h2 e1
  cases e;rw[eval_ListComp];refine lG (use:=Á) hc Ap hN (cp ok) hi hg ht he I R er e1 hs λD C s' H' d3 m' s2 H1 cb MZ Aq I' Lf hL Ew Mg Il I2 E1 R1 E' R' hn hm=>?_
  exact⟨m',Aq,λRS IS=>⟨.ref D,H',I'.turned (t':=s'.toks) (λb o hb e=>(IS.2 b hb).trans e) Lf (jq hL) (.inr Mg) Ew Il,rfl,k d3 H' _ (E1.trans E') R' (.ref hm)⟩⟩
 .cases e
def mQ{K:aab}{μ cb d3:List Ç}{H H1 H':Hp}{h1 h2:MH}(k:KQ K cl μ H h1 (.fls l) Q)(E1:Ext μ H cb H1)(R1:HR K cl cb H1 h1)(E':Ext cb H1 d3 H')(R':HR K cl d3 H' h2)(hn:h1.length=n0)(hm:d3[n0]?=À D)
  (ho:h2[n0]?=À (.lst l)) (pre:h1<+:h2) (lo:lows h1.length l=Â):Q (.ref D) H':=by
 obtain⟨vs,hv,rv⟩:=R'.ob _ _ _ hm ho;have cut:Ext cb H1 cb H':=⟨jw _,λb o e n=>⟨(E'.fr b o e n).1,n⟩⟩;refine k cb H' _ (E1.trans cut) (R1.cut E' R' pre) (.fls (.inl ⟨.inl hv,λz=>?_⟩) (RWs.cut E'.pre (by rw[R1.len];exact lo) rv));obtain⟨q,hq⟩:=qQ.mp z;have h3:=E'.get hq;have xa:q<cb.length:=(zA.mp hq).1;obtain⟨z1,z2⟩:=zA.mp h3;obtain⟨z3,z4⟩:=zA.mp hm;have:q=n0:=(yx R'.nd).mp (z2.trans z4.symm);subst this;rw[R1.len] at xa;omega
def UV(sc:î)(N N':List È)(nl:Nat)(ks:List Nat)(hc:X.calm=Â)(ok:uj sc N scope N' nl ks=Â)(hi:SI X cl tg iter mi)
  (hg:∀cs C s₀ H₀ ex,SG (vt X scope cs C N' s₀ H₀ ex) cl tg g) (ht:∀cs C s₀ H₀ ex,gR (vt X scope cs C N' s₀ H₀ ex) cl ifs t) (he:∀cs C s₀ H₀ ex,SE (vt X scope cs C N' s₀ H₀ ex) cl elt m)
  (Ap:↥(X.env.scope=sc)) (hN:↥(X.N=N)) (hs:∀x,í iter X.env x=pure x:=by intro _;rfl):SE X cl (.ListComp elt [⟨tg,iter,ifs,0⟩] scope pos) (kA mi nl ks g t m):=by
 rintro ag s σ H Q I ⟨μ,h,ρ,w,h',R,er,e,k⟩;unfold kA at e;split at e
 .rename_i n0 h1 h2 e1
  split at e
  .rename_i l ho
   split at e
   .rename_i c
    cases e;rw[eval_ListComp];refine lG (use:=Á) hc Ap hN (cp ok) hi hg ht he I R er e1 hs λD C s' H' d3 m' s2 H1 cb MZ Aq I' Lf hL Ew Mg Il I2 E1 R1 E' R' hn hm=>?_
    exact⟨m',Aq,λRS IS=>⟨.ref D,H',I'.turned (t':=s'.toks) (λb o hb e=>(IS.2 b hb).trans e) Lf (jq hL) (.inr Mg) Ew Il,rfl,mQ k E1 R1 E' R' hn hm ho c.1 c.2⟩⟩
   .cases e
  .cases e
 .cases e
def nj{AU:ė}{H:Hp}{h1:MH}{D:Ends}
  (AR:X.N.Nodup) (Ex:X.N[i]?=À x) (hx:X.env.kindOf x=À .local) (Ec:đ (.ListComp elt [⟨tg,iter,ifs,0⟩] scope pos) (À (.Name x px)) AU.line X.env=pure Â)
  (hc:X.calm=Â) (Ap:X.env.scope=sc) (hN:X.N=N) (ok:CompOk sc N scope N' nl ks) (hi:SI X cl tg iter mi)
  (hg:∀cs C s₀ H₀ ex,SG (vt X scope cs C N' s₀ H₀ ex) cl tg g) (ht:∀cs C s₀ H₀ ex,gR (vt X scope cs C N' s₀ H₀ ex) cl ifs t) (he:∀cs C s₀ H₀ ex,SE (vt X scope cs C N' s₀ H₀ ex) cl elt m)
  (I:Inv X ag σ H s) (R:HR X.K cl μ H h) (er:ER X.K μ H ρ σ) (e:eY mi nl ks g t m ρ h=À (n0,h1,h2)) (hs:∀x,í iter X.env x=pure x)
  (k:∀A H' d3 H1 cb,Ext μ H cb H1->HR X.K cl cb H1 h1->Ext cb H1 d3 H'->HR X.K cl d3 H' h2->h1.length=n0->d3[n0]?=À A->D.nx (σ.set i (À (.ref A))) H') :
  Æ (Í X.prog X.w) X.A (exec (.Assign [.Name x px] (.ListComp elt [⟨tg,iter,ifs,0⟩] scope pos) AU) X.env) (SP X ag D) X.xe s:=by
 rw[exec_Assign_Name_used _ _ _ _ Ec];refine za (wpAny_standAt (za ?_));show Æ _ X.A (do let _ <-comprehension (.ListComp elt [⟨tg,iter,ifs,0⟩] scope pos) scope X.env _ (newList []) Ä (å iter X.env) (À (ŀ (.Name x px) X.env))) _ _ s
 refine za (j6 (lG (use:=À (ŀ (.Name x px) X.env)) (Q:=λ_ s'=>SP X ag D .next s') hc Ap hN ok hi hg ht he I R er e hs ?_) (λ_ s' hq=>zf (zf hq)) λ_ _ e=>e);intro A C s' H' d3 m' s2 H1 cb MZ Aq I' Lf hL Ew Mg Il I2 E1 R1 E' R' hn hm;show Æ _ X.A (ŀ (.Name x px) X.env (.ref A)) _ _ _
 refine wpAny_assign_Name (oz (v:=.ref A) I' AR Ex (.inl hx) rfl (λIr RT IS=>?_) (.inr hx));obtain⟨a,sb,ha⟩:=IS;have RU:C≠a:=by
  rcases ha with rfl | ha
  .exact jq hL
  .exact λz=>Ew x a ha z.symm
 refine⟨m',Aq.sameBut sb RU,λh3 IA=>⟨_,H',RT.turned (t':=Ir.toks) (λb o hb e=>(IA.2 b hb).trans e) Lf (jq hL) (.inr Mg) Ew Il,k A H' d3 H1 cb E1 R1 E' R' hn hm⟩⟩
def Yi(i:Nat)(sc:î)(N N':List È)(nl:Nat)(ks:List Nat){AU:ė}(AR:X.N.Nodup)(hc:X.calm=Â)(ok:uj sc N scope N' nl ks=Â)(hi:SI X cl tg iter mi)
  (hg:∀cs C s₀ H₀ ex,SG (vt X scope cs C N' s₀ H₀ ex) cl tg g) (ht:∀cs C s₀ H₀ ex,gR (vt X scope cs C N' s₀ H₀ ex) cl ifs t) (he:∀cs C s₀ H₀ ex,SE (vt X scope cs C N' s₀ H₀ ex) cl elt m)
  (Ap:↥(X.env.scope=sc)) (hN:↥(X.N=N)) (hs:∀x,í iter X.env x=pure x:=by intro _;rfl) (Ex:↥(X.N[i]?=À x)) (hx:↥(X.env.kindOf x=À .local))
  (Ec:↥(đ (.ListComp elt [⟨tg,iter,ifs,0⟩] scope pos) (À (.Name x px)) AU.line X.env=pure Â)):SS X cl (.Assign [.Name x px] (.ListComp elt [⟨tg,iter,ifs,0⟩] scope pos) AU) (kc (gU mi nl ks g t m) (zw i)):=by
 rintro ag s σ H D I ⟨μ,h,ρ,fl,h',R,er,e,k⟩;unfold kc at e;split at e
 .rename_i w h2 e1
  split at e
  .rename_i r9 h3 e2
   cases e;unfold gU at e1;split at e1
   .rename_i n0 h1 Ay e0
    cases e1;unfold zw at e2;split at e2
    .rename_i A5
     cases e2;exact nj AR Ex hx Ec hc Ap hN (cp ok) hi hg ht he I R er e0 hs λA H' d3 H1 cb E1 R1 E' R' hn hm=>k d3 H' (E1.trans E') R' _ ((er.ext R (E1.trans E')).set A5 (.ref hm))
    .cases e2
   .cases e1
  .cases e
 .cases e
def UQ(i:Nat)(sc:î)(N N':List È)(nl:Nat)(ks:List Nat){elt tg iter:Î}{ifs:List Î}{scope:î}{pos AU px:ė}{x:È}(AR:X.N.Nodup)(hc:X.calm=Â)(ok:uj sc N scope N' nl ks=Â)(hi:SI X cl tg iter mi)
  (hg:∀cs C s₀ H₀ ex,SG (vt X scope cs C N' s₀ H₀ ex) cl tg g) (ht:∀cs C s₀ H₀ ex,gR (vt X scope cs C N' s₀ H₀ ex) cl ifs t) (he:∀cs C s₀ H₀ ex,SE (vt X scope cs C N' s₀ H₀ ex) cl elt m)
  (Ap:↥(X.env.scope=sc)) (hN:↥(X.N=N)) (hs:∀x,í iter X.env x=pure x:=by intro _;rfl) (Ex:↥(X.N[i]?=À x)) (hx:↥(X.env.kindOf x=À .local))
  (Ec:↥(đ (.ListComp elt [⟨tg,iter,ifs,0⟩] scope pos) (À (.Name x px)) AU.line X.env=pure Â)):SS X cl (.Assign [.Name x px] (.ListComp elt [⟨tg,iter,ifs,0⟩] scope pos) AU) (kc (kA mi nl ks g t m) (zw i)):=by
 rintro ag s σ H D I ⟨μ,h,ρ,fl,h',R,er,e,k⟩;unfold kc at e;split at e
 .rename_i w h2 e1
  split at e
  .rename_i r9 h3 e2
   cases e;unfold kA at e1;split at e1
   .rename_i n0 h1 Ay e0
    split at e1
    .rename_i l ho
     split at e1
     .rename_i c
      cases e1;unfold zw at e2;split at e2
      .rename_i A5
       cases e2;refine nj AR Ex hx Ec hc Ap hN (cp ok) hi hg ht he I R er e0 hs λA H' d3 H1 cb E1 R1 E' R' hn hm=>?_
       exact mQ (Q:=λv H'=>D.nx (σ.set i (À v)) H') (λAG H3 v E3 R3 r3=>k AG H3 E3 R3 _ ((er.ext R E3).set A5 r3)) E1 R1 E' R' hn hm ho c.1 c.2
      .cases e2
     .cases e1
    .cases e1
   .cases e1
  .cases e
 .cases e
end
def nr{X:Cx}{ag:List (Ç×ø)}{σ:L2.St}{H:Hp}{s:Å}{h':Õ}{t':Nat}{fp:List Ç}(I:Inv X ag σ H s)(k:∀b o,b∉fp->s.heap.get? b=À o->h'.get? b=À o)(hf:∀b∈fp,am X ag H b) :
  Inv X ag σ H { s with heap:=h',toks:=t' }:=by
 have away:∀b u,H b=À u->b∉fp:=λb u e z=>by rw[(hf b z).1] at e;cases e
 refine I.step (g':=s.gens) (d':=s.drawn) (ch:=fp) (λb hb=>⟨(hf b hb).2.2.2.1,(hf b hb).2.1,(hf b hb).2.2.2.2.1,(hf b hb).2.2.2.2.2⟩) (λb o _ _ hc e _=>k b o hc e) (λb o _ _ hc e _=>⟨o.slots,k b o hc e⟩) (λ_ _ _ _ n=>n)
  (λb o hc e=>⟨o,k b o hc e⟩) (λ_ _ e=>e) (λ_ _ _ e=>e) (λb ps e=>⟨#[],by rw[e];simp⟩) (λm hm=>?_) (λb u e=>?_) I.bare
 .obtain⟨o,es,ep,ho,r⟩:=hm
  exact⟨o,es,ep,k _ o (λz=>(hf _ z).2.1 rfl) ho,r⟩
 .refine(I.hok b u e).stay (λc v hc q=>k c v ?_ q) (λ_ q=>q) λ_ _ q=>q
  rcases hc with z | z
  .rw[z];exact away b u e
  .exact away c _ z
structure Stp(it a:Ç)(P:Nat->Õ->Prop)(C:Õ->List Ã->Prop):Prop where
 keep:∀{i:Nat} {h h':Õ},P i h->(∀o,h.get? it=À o->h'.get? it=À o)->P i h'
 keepC:∀{h h':Õ} {l:List Ã},C h l->(∀o,h.get? a=À o->h'.get? a=À o)->C h' l
 obj:∀{i:Nat} {h:Õ},P i h->∃o,h.get? it=À o/\∀v,o.data≠.cell v
 item:∀{prog:Ï} {w:Ñ} {A:Ø} {E:Ã->Å->Prop} {s:Å} {i:Nat} {l:List Ã} {x:Ã} {Q:Ã->Å->Prop},P i s.heap->C s.heap l->l[i]?=À x->
  (∀h',P (i+1) h'->Ü it s.heap h'->Q x { s with heap:=h' })->Æ (Í prog w) A (Û (.ref it)) Q E s
 last:∀{prog:Ï} {w:Ñ} {A:Ø} {E:Ã->Å->Prop} {s:Å} {i:Nat} {l:List Ã} {Q:Ã->Å->Prop},A.handled=Á->P i s.heap->C s.heap l->l[i]?=Á->
  (∀h' e,ŵ it s.heap h'->(∃o,h'.get? e=À o/\o.cls=.type "StopIteration")->E (.ref e) { s with heap:=h' })->Æ (Í prog w) A (Û (.ref it)) Q E s
def Wr(it a:Ç):Stp it a (λi h=>h.IsListIter it a i) (λh l=>h.IsList a l.toArray) where
 keep:=λp k=>p.at λo e=>k o e
 keepC:=λp k=>p.at λo e=>k o e
 obj:=λ⟨o,e,_,d⟩=>⟨o,e,λv z=>by rw[d] at z;cases z⟩
 item:=λp c e q=>wpAny_nextOf_list_item p c (by simpa using e) q
 last:=λhh p c e q=>wpAny_nextOf_list_end hh p c (by simpa using e) q
section
variable{prog:Ï}{w:Ñ}{A:Ø}{E:Ã->Å->Prop}{s:Å}
def iW{items:Array Ã}(hit:s.heap.IsTupleIter it t i)(ht:s.heap.IsTuple t items)(hx:items[i]?=À x)
  (hQ:∀h',h'.IsTupleIter it t (i+1)->Ü it s.heap h'->Q x { s with heap:=h' }):Æ (Í prog w) A (Û (.ref it)) Q E s:=by
 obtain⟨oi,gi,ci,di⟩:=id hit;obtain⟨ot,gt,_,nt,dt⟩:=ht;unfold Û;refine za (jx (name:=ü "__next__") hit.typeIs vU (jh vU hit.typeIs pB ?_ (uZ _)));show Æ _ _ (field (.ref it) 0 >>= _) _ _ s;refine za (jN gi di (x:=.ref t) rfl ?_)
 show Æ _ _ (if (Ë t==Ö)=Â then _ else _) _ _ s;rw[zW (show ¬((Ë t==Ö)=Â) from zU)]
 show Æ _ _ (field (.ref it) 1 >>= _) _ _ s;refine za (jN gi di (x:=.int i 0) rfl ?_)
 show Æ _ _ (seqItems? (.ref t) >>= _) _ _ s;refine za (j7 gt dt ?_)
 erw[jm,hx];refine za (xT gi di (by simp) (zf ⟨x,rfl,zf (hQ _ ?_ (qx ..))⟩));exact⟨_,jK _ gi (ŭ (yu di _)),(Obj.cls_mapFields ..).trans ci,by rw[yu di];simp[ā]⟩
def lX{items:Array Ã}(hh:A.handled=Á)(hit:s.heap.IsTupleIter it t i)(ht:s.heap.IsTuple t items)(hx:items[i]?=Á)
  (hE:∀h' e,ŵ it s.heap h'->(∃o,h'.get? e=À o/\o.cls=.type "StopIteration")->E (.ref e) { s with heap:=h' }):Æ (Í prog w) A (Û (.ref it)) Q E s:=by
 obtain⟨oi,gi,ci,di⟩:=id hit;obtain⟨ot,gt,_,nt,dt⟩:=ht;unfold Û;refine za (jx (name:=ü "__next__") hit.typeIs vU (jh vU hit.typeIs pB ?_ (uZ _)));show Æ _ _ (field (.ref it) 0 >>= _) _ _ s;refine za (jN gi di (x:=.ref t) rfl ?_)
 show Æ _ _ (if (Ë t==Ö)=Â then _ else _) _ _ s;rw[zW (show ¬((Ë t==Ö)=Â) from zU)]
 show Æ _ _ (field (.ref it) 1 >>= _) _ _ s;refine za (jN gi di (x:=.int i 0) rfl ?_)
 show Æ _ _ (seqItems? (.ref t) >>= _) _ _ s;refine za (j7 gt dt ?_)
 erw[jm,hx];refine za (vG (za (xT gi di (by simp) ?_)));show Æ _ _ (newExc (.type "StopIteration") [] >>= _) _ _ _
 refine za ?_;erw[newExc,newTuple];refine za (kE ?_ (by size_fits));refine za (m:=Ĳ _ _) (yc (a:=Ö) (by first | rfl | (erw[Ĳ];rfl)) ?_);refine kE ?_ (by size_fits);erw[raiseNew];refine za (wpAny_handled ?_);first | rw[show A.in1.handled=Á from hh] | rw[hh]
 refine za (zf (xW ?_));exact hE _ _ (((qx ..).extBut.push _).push _) ⟨_,zE _ rfl,rfl⟩
end
def Vx(it a:Ç):Stp it a (λi h=>h.IsTupleIter it a i) (λh l=>h.IsTuple a l.toArray) where
 keep:=λp k=>p.at λo e=>k o e
 keepC:=λp k=>p.at λo e=>k o e
 obj:=λ⟨o,e,_,d⟩=>⟨o,e,λv z=>by rw[d] at z;cases z⟩
 item:=λp c e q=>iW p c (by simpa using e) q
 last:=λhh p c e q=>lX hh p c (by simpa using e) q
structure ZApart(z TI TO i1 i2 a1 a2:Ç):Prop where
 nd:[z,TI,TO,i1,i2].Nodup
 f1:a1∉[z,TI,TO,i1,i2]
 f2:a2∉[z,TI,TO,i1,i2]
noncomputable def Xa(z TI TO i1 i2:Ç)(P1 P2:Nat->Õ->Prop)(f0:Ã)(k1 k2:Nat)(h:Õ):Prop:=IsZip h z TI TO f0/\ť h TI (.ref i1) (.ref i2)/\(∃a b,ť h TO a b)/\P1 k1 h/\P2 k2 h
section
variable{prog:Ï}{w:Ñ}{A:Ø}{E:Ã->Å->Prop}{s:Å}{z TI TO i1 i2 a1 a2:Ç}{P1 P2:Nat->Õ->Prop}{C1 C2:Õ->List Ã->Prop}
def Yn(S1:Stp i1 a1 P1 C1)(S2:Stp i2 a2 P2 C2)(D:ZApart z TI TO i1 i2 a1 a2){l1 l2:List Ã}(st:Xa z TI TO i1 i2 P1 P2 .none k k s.heap)(c1:C1 s.heap l1)(c2:C2 s.heap l2)(hx:l1[k]?=À x)(hy:l2[k]?=À y)
  (hQ:∀h',Xa z TI TO i1 i2 P1 P2 (ā s.heap.objs.size) (k+1) (k+1) h'->h'.get? s.heap.objs.size=À { cls:=.type "tuple",data:=.seq #[x,y] }->(∀c o,c∉[z,TI,TO,i1,i2]->s.heap.get? c=À o->h'.get? c=À o)->Q (À (.ref s.heap.objs.size)) { s with heap:=h' }) :
  Æ (Í prog w) A (Ē (.ref z)) Q E s:=by
 obtain⟨hz,Im,⟨a,b,IB⟩,p1,p2⟩:=st;have n:=D.nd;erw[jU,zj,zy,kY,ye] at n;obtain⟨⟨n1,n2,n3,n4⟩,⟨n5,n6,n7⟩,⟨n8,n9⟩,M3,_⟩:=n;have g1:=D.f1;have g2:=D.f2;erw[zj,zy,kY,ye] at g1 g2;obtain⟨NH,RV,RX,RY,RZ⟩:=g1;obtain⟨NI,Sa,NJ,NK,Sb⟩:=g2;have hT:s.TypeIs (.ref z) "zip":=⟨_,hz,rfl⟩;unfold Ē;refine za (vI (jx (name:=ü "__next__") hT xn (jh xn hT F.entry_zip_next ?_ (F.args_zip_next_1 _))));show Æ _ _ (field (.ref z) 2 >>= _) _ _ _;refine za (jN hz rfl (x:=.bool Ä) rfl ?_)
 show Æ _ _ (field (.ref z) 3 >>= _) _ _ _;refine za (jN hz rfl (x:=.ref TI) rfl ?_)
 refine za (j7 Im rfl ?_);show Æ _ _ (ñ (.ref z) >>= _) _ _ _
 refine za ?_;unfold ñ;refine za (jN hz rfl (x:=.none) rfl (zf ?_));erw[je];refine za (vG ?_);refine za (jN hz rfl (x:=.ref TO) rfl ?_);refine za (jA hz (by simp) λh1 q1 e1=>?_);replace q1:IsZip h1 z TI TO .ellipsis:=q1;refine za ?_;erw[uc,List.zipIdx_nil,vZ,List.forIn_nil];refine za (za (ul ?_));show Æ _ _ (Û (.ref i1) >>= _) _ _ _
 refine za (S1.item (S1.keep p1 λo e=>e1.extBut _ _ (jq n3) e) (S1.keepC c1 λo e=>e1.extBut _ _ NH e) hx λh2 r1 e2=>zf ?_);have t2:ť h2 TO a b:=e2.extBut _ _ n8 (e1.extBut _ _ (jq n2) IB);refine za (j7 t2 rfl ?_);refine za (xx t2 λh3 t3 e3=>?_);replace t3:ť h3 TO x b:=t3
 refine za (wpAny_letGo (zf ?_));refine za (za (ul ?_));show Æ _ _ (Û (.ref i2) >>= _) _ _ _
 refine za (S2.item (S2.keep p2 λo e=>e3.extBut _ _ (jq n9) (e2.extBut _ _ (jq M3) (e1.extBut _ _ (jq n4) e))) (S2.keepC c2 λo e=>e3.extBut _ _ NJ (e2.extBut _ _ NK (e1.extBut _ _ NI e))) hy λh4 r2 e4=>zf ?_);have t4:ť h4 TO x b:=e4.extBut _ _ n9 t3;refine za (j7 t4 rfl ?_);refine za (xx t4 λh5 t5 e5=>?_);replace t5:ť h5 TO x y:=t5
 refine za (wpAny_letGo (zf (zf ?_)));refine za (j7 t5 rfl ?_);refine za (pK ?_);have sz:h5.objs.size=s.heap.objs.size:=by rw[e5.1,e4.1,e3.1,e2.1,e1.1]
 have all:∀c o,c∉[z,TI,TO,i1,i2]->s.heap.get? c=À o->h5.get? c=À o:=λc o hc e=>by
  erw[zj,zy,kY,ye] at hc;exact e5.extBut _ _ hc.2.2.1 (e4.extBut _ _ hc.2.2.2.2 (e3.extBut _ _ hc.2.2.1 (e2.extBut _ _ hc.2.2.2.1 (e1.extBut _ _ hc.1 e))))
 have z5:IsZip h5 z TI TO .ellipsis:=e5.extBut _ _ n2 (e4.extBut _ _ n4 (e3.extBut _ _ n2 (e2.extBut _ _ n3 q1)));have Sd:ť h5 TI (.ref i1) (.ref i2):=e5.extBut _ _ n5 (e4.extBut _ _ n7 (e3.extBut _ _ n5 (e2.extBut _ _ n6 (e1.extBut _ _ (jq n1) Im))));have u1:P1 (k+1) h5:=S1.keep r1 λo e=>e5.extBut _ _ (jq n8) (e4.extBut _ _ M3 (e3.extBut _ _ (jq n8) e))
 have u2:P2 (k+1) h5:=S2.keep r2 λo e=>e5.extBut _ _ (jq n9) e
 have M4:z<h5.objs.size:=zJ z5;show Æ _ _ (Ħ (.ref z) (.ref h5.objs.size) >>= _) _ _ _
 refine za ?_;unfold Ħ;have z6:IsZip (h5.push { cls:=.type "tuple",data:=.seq #[x,y] }) z TI TO .ellipsis:=zc _ z5;refine za (jA z6 (by simp) λh7 z7 e7=>?_);replace z7:IsZip h7 z TI TO (ā h5.objs.size):=z7;refine jA z7 (by simp) λh8 z8 e8=>?_
 replace z8:IsZip h8 z TI TO (ā h5.objs.size):=z8
 have up:∀c o,c≠z->h5.get? c=À o->h8.get? c=À o:=λc o c1 e=>e8.extBut _ _ c1 (e7.extBut _ _ c1 (zc _ e))
 have t8:h8.get? h5.objs.size=À { cls:=.type "tuple",data:=.seq #[x,y] }:=e8.extBut _ _ (vQ M4) (e7.extBut _ _ (vQ M4) (zE _ rfl));rw[sz] at z8 t8;refine zf ⟨_,rfl,zf ?_⟩;show Q (À (.ref h5.objs.size)) _
 rw[sz];exact hQ h8 ⟨z8,up _ _ (jq n1) Sd,⟨x,y,up _ _ (jq n2) t5⟩,S1.keep u1 λo e=>up _ o (jq n3) e,S2.keep u2 λo e=>up _ o (jq n4) e⟩ t8 λc o hc e=>up c o (λq=>hc (by simp[q])) (all c o hc e)
def WU(S1:Stp i1 a1 P1 C1)(S2:Stp i2 a2 P2 C2)(D:ZApart z TI TO i1 i2 a1 a2){l1 l2:List Ã}(hh:A.handled=Á)(st:Xa z TI TO i1 i2 P1 P2 .none k k s.heap)(c1:C1 s.heap l1)(c2:C2 s.heap l2)(he:l1[k]?=Á\/l2[k]?=Á)
  (hQ:∀h',(∀c o,c∉[z,TI,TO,i1,i2]->s.heap.get? c=À o->h'.get? c=À o)->Q Á { s with heap:=h' }):Æ (Í prog w) A (Ē (.ref z)) Q E s:=by
 obtain⟨hz,Im,⟨a,b,IB⟩,p1,p2⟩:=st;have n:=D.nd;erw[jU,zj,zy,kY,ye] at n;obtain⟨⟨n1,n2,n3,n4⟩,⟨n5,n6,n7⟩,⟨n8,n9⟩,M3,_⟩:=n;have g1:=D.f1;have g2:=D.f2;erw[zj,zy,kY,ye] at g1 g2;obtain⟨NH,RV,RX,RY,RZ⟩:=g1;obtain⟨NI,Sa,NJ,NK,Sb⟩:=g2;have hT:s.TypeIs (.ref z) "zip":=⟨_,hz,rfl⟩;have stop:∀{h':Õ} {e:Ç},(∃o,h'.get? e=À o/\o.cls=.type "StopIteration")->(∀c o,c∉[z,TI,TO,i1,i2]->s.heap.get? c=À o->h'.get? c=À o)->
   Æ (Í prog w) A (isInstance (.ref e) (.type "StopIteration") >>= λx=>if x=Â then pure Á else throw (.ref e)) Q E { s with heap:=h' }:=λ{h' e} ⟨o,ho,hc⟩ kk=>
  za (qT (T:="StopIteration") (b:=Â) ⟨o,ho,hc⟩ pM (zf (hQ _ kk)))
 unfold Ē;refine za (vI (jx (name:=ü "__next__") hT xn (jh xn hT F.entry_zip_next ?_ (F.args_zip_next_1 _))));show Æ _ _ (field (.ref z) 2 >>= _) _ _ _;refine za (jN hz rfl (x:=.bool Ä) rfl ?_)
 show Æ _ _ (field (.ref z) 3 >>= _) _ _ _;refine za (jN hz rfl (x:=.ref TI) rfl ?_)
 refine za (j7 Im rfl ?_);show Æ _ _ (ñ (.ref z) >>= _) _ _ _
 refine za ?_;unfold ñ;refine za (jN hz rfl (x:=.none) rfl (zf ?_));erw[je];refine za (vG ?_);refine za (jN hz rfl (x:=.ref TO) rfl ?_);refine za (jA hz (by simp) λh1 q1 e1=>?_);replace q1:IsZip h1 z TI TO .ellipsis:=q1;refine za ?_;erw[uc,List.zipIdx_nil,vZ,List.forIn_nil];refine za (za (ul ?_));show Æ _ _ (Û (.ref i1) >>= _) _ _ _
 have OY:=S1.keep (h':=h1) p1 λo e=>e1.extBut _ _ (jq n3) e
 have M5:=S1.keepC (h':=h1) c1 λo e=>e1.extBut _ _ NH e
 cases hx:l1[k]? with
 | none=>
  refine za (S1.last hh OY M5 hx ?_);rintro h2 e e2 ⟨oe,ge,ce⟩;have z2:IsZip h2 z TI TO .ellipsis:=e2 _ _ n3 q1;have ne:e≠z:=λq=>by subst q;rw[z2] at ge;cases ge;simp at ce
  refine jA z2 (by simp) λh3 _ e3=>?_
  refine stop ⟨oe,e3.extBut _ _ ne ge,ce⟩ λc o hc g=>?_
  erw[zj,zy,kY,ye] at hc;exact e3.extBut _ _ hc.1 (e2 _ _ hc.2.2.2.1 (e1.extBut _ _ hc.1 g))
 | some x=>
  have hy:l2[k]?=Á:=by rcases he with h | h;rw[hx] at h;cases h;exact h
  refine za (S1.item OY M5 hx λh2 r1 e2=>zf ?_);have t2:ť h2 TO a b:=e2.extBut _ _ n8 (e1.extBut _ _ (jq n2) IB);refine za (j7 t2 rfl ?_);refine za (xx t2 λh3 t3 e3=>?_);refine za (wpAny_letGo (zf ?_));refine za (za (ul ?_));show Æ _ _ (Û (.ref i2) >>= _) _ _ _
  refine za (S2.last hh (S2.keep p2 λo e=>e3.extBut _ _ (jq n9) (e2.extBut _ _ (jq M3) (e1.extBut _ _ (jq n4) e))) (S2.keepC c2 λo e=>e3.extBut _ _ NJ (e2.extBut _ _ NK (e1.extBut _ _ NI e))) hy ?_);rintro h4 e e4 ⟨oe,ge,ce⟩;have z4:IsZip h4 z TI TO .ellipsis:=e4 _ _ n4 (e3.extBut _ _ n2 (e2.extBut _ _ n3 q1));have ne:e≠z:=λq=>by subst q;rw[z4] at ge;cases ge;simp at ce
  refine jA z4 (by simp) λh5 _ e5=>?_
  refine stop ⟨oe,e5.extBut _ _ ne ge,ce⟩ λc o hc g=>?_
  erw[zj,zy,kY,ye] at hc;exact e5.extBut _ _ hc.1 (e4 _ _ hc.2.2.2.2 (e3.extBut _ _ hc.2.2.1 (e2.extBut _ _ hc.2.2.2.1 (e1.extBut _ _ hc.1 g))))
end
noncomputable def mz(v:Ã)(o:ø)(C:Õ->Prop):Prop:=∀(prog:Ï) (w:Ñ) (A:Ø) (E:Ã->Å->Prop) (s:Å) (Q:Ã->Å->Prop),C s.heap->Q (.ref s.heap.objs.size) { s with heap:=s.heap.push o }->Æ (Í prog w) A (ĥ v) Q E s
def Yd(a:Ç)(l:List Ã):mz (.ref a) { cls:=.type "list_iterator",data:=.fields #[.ref a,.int 0 0] } (λh=>h.IsList a l.toArray):=λ_ _ _ _ _ _ c q=>vH c q
def VY(a:Ç)(l:List Ã):mz (.ref a) { cls:=.type "tuple_iterator",data:=.fields #[.ref a,.int 0 0] } (λh=>h.IsTuple a l.toArray):=λ_ _ _ _ _ _ c q=>wj c q
section
variable{v1 v2:Ã}{o1 o2:ø}{C1 C2:Õ->Prop}
abbrev X5(h:Õ)(o1:ø):Õ:=h.push o1
abbrev Xb(h:Õ)(o1 o2:ø):Õ:=(X5 h o1).push o2
abbrev Xi(h:Õ)(o1 o2:ø):Õ:=(Xb h o1 o2).push { cls:=.type "tuple",data:=.seq #[.ref h.objs.size,.ref (X5 h o1).objs.size] }
abbrev Ua(h:Õ)(o1 o2:ø):Õ:=(Xi h o1 o2).push { cls:=.type "tuple",data:=.seq #[.none,.none] }
abbrev Z6(h:Õ)(o1 o2:ø):Õ:=(Ua h o1 o2).push { cls:=.type "zip",data:=.fields #[.none,.bool Ä,.bool Ä,.ref (Xb h o1 o2).objs.size,.ref (Xi h o1 o2).objs.size] }
def Bu(r1:mz v1 o1 C1)(r2:mz v2 o2 C2) :
  Meets (ç.«zip.__new__» ⟨[.type "zip",v1,v2],[]⟩) (λ_ R s=>C1 s.heap/\C2 (s.heap.push o1)/\R (.ok (.ret (.ref (Ua s.heap o1 o2).objs.size))) { s with heap:=Z6 s.heap o1 o2 }):=
 .of_wp λprog w A R s h=>by
  obtain⟨hp,g,d,tk,os⟩:=s;obtain⟨k1,k2,h⟩:=h;have EU:=sub_zip;have q1:∀{A:Ø} {E:Ã->Å->Prop} {Q:Ã->Å->Prop},Q (.ref hp.objs.size) ⟨hp.push o1,g,d,tk,os⟩->Æ (Í prog w) A (ĥ v1) Q E ⟨hp,g,d,tk,os⟩:=λq=>r1 prog w _ _ _ _ k1 q
  have q2:∀{A:Ø} {E:Ã->Å->Prop} {Q:Ã->Å->Prop},Q (.ref (hp.push o1).objs.size) ⟨(hp.push o1).push o2,g,d,tk,os⟩->Æ (Í prog w) A (ĥ v2) Q E ⟨hp.push o1,g,d,tk,os⟩:=λq=>r2 prog w _ _ _ _ k2 q
  wp_walk using q1,q2
  exact⟨_,rfl,h⟩
end
section
variable{prog:Ï}{w:Ñ}{A:Ø}{E:Ã->Å->Prop}{s:Å}{v1 v2:Ã}{o1 o2:ø}{C1 C2:Õ->Prop}
def W8(r1:mz v1 o1 C1)(r2:mz v2 o2 C2)(k1:C1 s.heap)(k2:C2 (s.heap.push o1))(Se:o1.isFreed=Ä)(Sf:o2.isFreed=Ä)
  (h:∀h',IsZip h' (s.heap.objs.size+4) (s.heap.objs.size+2) (s.heap.objs.size+3) .none->ť h' (s.heap.objs.size+2) (.ref s.heap.objs.size) (.ref (s.heap.objs.size+1))->
   ť h' (s.heap.objs.size+3) .none .none->h'.get? s.heap.objs.size=À o1->h'.get? (s.heap.objs.size+1)=À o2->(∀c o,s.heap.get? c=À o->h'.get? c=À o)->Q (.ref (s.heap.objs.size+4)) { s with heap:=h' }) :
  Æ (Í prog w) A (ķ (.type "zip") [v1,v2]) Q E s:=by
 refine callType_new F.called_zip (by decide) (F.typeCall_zip_2 _ _) (F.newCall_zip_2 _ _) (λobj=>F.args_object_init_3 obj _ _) F.entry_zip_new (Bu r1 r2) ⟨k1,k2,?_⟩;have y1:(X5 s.heap o1).objs.size=s.heap.objs.size+1:=jP ..;have y2:(Xb s.heap o1 o2).objs.size=s.heap.objs.size+2:=by rw[jP,y1]
 have y3:(Xi s.heap o1 o2).objs.size=s.heap.objs.size+3:=by rw[jP,y2]
 have y4:(Ua s.heap o1 o2).objs.size=s.heap.objs.size+4:=by rw[jP,y3]
 have b5:(Z6 s.heap o1 o2).get? (Ua s.heap o1 o2).objs.size=À _:=zE _ rfl;have b4:(Z6 s.heap o1 o2).get? (Xi s.heap o1 o2).objs.size=À _:=zc _ (zE _ rfl);have b3:(Z6 s.heap o1 o2).get? (Xb s.heap o1 o2).objs.size=À _:=zc _ (zc _ (zE _ rfl));have b2:(Z6 s.heap o1 o2).get? (X5 s.heap o1).objs.size=À _:=zc _ (zc _ (zc _ (zE _ Sf)));have b1:(Z6 s.heap o1 o2).get? s.heap.objs.size=À _:=zc _ (zc _ (zc _ (zc _ (zE _ Se))));show _/\_
 rw[y2,y3,y4] at b5;rw[y1,y2] at b3;rw[y3] at b4;rw[y1] at b2;rw[y4];exact⟨⟨_,b5,rfl⟩,h _ b5 b3 b4 b1 b2 λc o x=>zc _ (zc _ (zc _ (zc _ (zc _ x))))⟩
end
def fv{X:Cx}{ag:List (Ç×ø)}{σ:L2.St}{H:Hp}{s:Å}{h':Õ}{t':Nat}{fp:List Ç}{p:Ç}{o:HO}(I:Inv X ag σ H s)(k:∀b o,b∉fp->s.heap.get? b=À o->h'.get? b=À o)(hf:∀b∈fp,am X ag H b)
  (hp:s.heap.objs.size<=p) (new:ObjOk X.prog X.w (upd H p o) h' p o):Inv X ag σ (upd H p o) { s with heap:=h',toks:=t' }:=by
 have hn:H p=Á:=I.hok.fresh hp;have away:∀b u,H b=À u->b∉fp:=λb u e z=>by rw[(hf b z).1] at e;cases e
 have lt:∀b u,s.heap.get? b=À u->b≠p:=λb u e=>zM (zN (zJ e) hp)
 refine I.step (g':=s.gens) (d':=s.drawn) (ch:=fp) (λb hb=>⟨(hf b hb).2.2.2.1,(hf b hb).2.1,(hf b hb).2.2.2.2.1,(hf b hb).2.2.2.2.2⟩) (λb o _ _ hc e _=>k b o hc e) (λb o _ _ hc e _=>⟨o.slots,k b o hc e⟩) (λb u _ e n=>by rw[kG (lt b u e)];exact n)
  (λb o hc e=>⟨o,k b o hc e⟩) (λb xs e=>by rw[kG (qh e hn)];exact e) (λb u v e=>by rw[kG (qh e hn)];exact e) (λb ps e=>⟨#[],by rw[kG (qh e hn),e];simp⟩) (λm hm=>?_) (λb u e=>?_) I.bare
 .obtain⟨o,es,ep,ho,r⟩:=hm
  exact⟨o,es,ep,k _ o (λz=>(hf _ z).2.1 rfl) ho,r⟩
 .by_cases hb:b=p
  .subst hb;rw[jp] at e;cases e;exact new
  .rw[kG hb] at e
   refine(I.hok b u e).stay (λc v hc q=>k c v ?_ q) (λc q=>by rw[kG (qh q hn)];exact q) λc xs q=>by rw[kG (qh q hn)];exact q
   rcases hc with z | z
   .rw[z];exact away b u e
   .exact away c _ z
noncomputable def eE(K:aab)(tp:Bool)(H:Hp)(a:Ç)(xs:List V):Prop:=if tp=Â then SqT K H a xs else SqL K H a xs
noncomputable def Dy(tp:Bool)(a:Ç)(h:Õ)(l:List Ã):Prop:=if tp=Â then h.IsTuple a l.toArray else h.IsList a l.toArray
noncomputable def VT(tp:Bool)(it a:Ç)(i:Nat)(h:Õ):Prop:=if tp=Â then h.IsTupleIter it a i else h.IsListIter it a i
noncomputable def CV(tp:Bool)(a:Ç):ø:=if tp=Â then { cls:=.type "tuple_iterator",data:=.fields #[.ref a,.int 0 0] } else { cls:=.type "list_iterator",data:=.fields #[.ref a,.int 0 0] }
def vT(tp:Bool)(it a:Ç):Stp it a (VT tp it a) (Dy tp a):=by
 cases tp
 .exact Wr it a
 .exact Vx it a
def JS(tp:Bool)(a:Ç)(l:List Ã):mz (.ref a) (CV tp a) (λh=>Dy tp a h l):=by
 cases tp
 .exact Yd a l
 .exact VY a l
theorem l4(tp:Bool)(a:Ç):(CV tp a).isFreed=Ä:=by cases tp<;>rfl
def nW{h:Õ}(e:h.get? it=À (CV tp a)):VT tp it a 0 h:=by
 cases tp
 .exact⟨_,e,rfl,rfl⟩
 .exact⟨_,e,rfl,rfl⟩
section
variable{X:Cx}{ag:List (Ç×ø)}{σ:L2.St}{H:Hp}{s:Å}
def xw(I:Inv X ag σ H s)(h:eE X.K tp H a xs):∃l,Vals xs l/\Dy tp a s.heap l:=by
 cases tp
 .obtain⟨its,r,p,_⟩:=I.list (show SqL X.K H a xs from h)
  exact⟨its,r,p.isList⟩
 .obtain⟨its,r,p,_⟩:=I.tuple (show SqT X.K H a xs from h)
  exact⟨its,r,p⟩
def og(I:Inv X ag σ H s)(h:eE X.K tp H a xs)(h':eE X.K tp H a ys):xs=ys:=by
 cases tp
 .exact I.list_inj (show SqL X.K H a xs from h) h'
 .exact I.tuple_inj (show SqT X.K H a xs from h) h'
def ba(I:Inv X ag σ H s)(h:eE X.K tp H a xs)(f:am X ag H b):a≠b:=by
 have k:∀o,X.K.lookup a=À o->a≠b:=λo e z=>by
  subst z;have eb:X.base.get? a=À o:=I.mod.kin _ _ e;rcases f.2.2.2.1 with q | q
  .exact I.ok.noex _ _ eb q
  .exact absurd (zN (zJ eb) (zq I.ok.bsz q)) (jZ _)
 have r:∀u,Rd H a u->a≠b:=λu q=>by
  rcases q with q | ⟨o,q⟩<;>exact qh q f.1
 cases tp
 .rcases(show SqL X.K H a xs from h) with q | ⟨o,_,_,e,_⟩
  .exact r _ q
  .exact k o e
 .rcases(show SqT X.K H a xs from h) with q | ⟨o,_,_,e,_⟩
  .exact r _ q
  .exact k o e
end
noncomputable def H0 (K : aab) (t1 t2 : Bool) (a1 a2 : Ç) : It :=
  ⟨λi H => ∃ xs ys x y, eE K t1 H a1 xs /\ eE K t2 H a2 ys /\ xs[i]? = À x /\ ys[i]? = À y,
   λi H v H' => ∃ p x y, H p = Á /\ v = .ref p /\ H' = upd H p (.tup [x, y]) /\ (∀ xs, eE K t1 H a1 xs -> xs[i]? = À x) /\ ∀ ys, eE K t2 H a2 ys -> ys[i]? = À y,
   λi H => ∃ xs ys, eE K t1 H a1 xs /\ eE K t2 H a2 ys /\ (xs.length <= i \/ ys.length <= i)⟩
def Ye{P:Ï}{w:Ñ}{K:aab}{AV:List Î}{n:Nat}{AW:ė}(t1 t2:Bool)(z TI TO i1 i2 a1 a2:Ç)(nd:[z,TI,TO,i1,i2].Nodup) :
  Turn P w K (.Tuple AV n AW) (H0 K t1 t2 a1 a2) [z,TI,TO,i1,i2] z (λi h=>Xa z TI TO i1 i2 (VT t1 i1 a1) (VT t2 i2 a2) .none i i h) where
 mem:=by simp
 obj:=λi h st b hb=>by
  obtain⟨hz,Im,⟨a,b',IB⟩,p1,p2⟩:=st;erw[zj,zy,kY] at hb;rcases hb with rfl | rfl | rfl | rfl | rfl
  .exact⟨_,hz,λv q=>by cases q⟩
  .exact⟨_,Im,λv q=>by cases q⟩
  .exact⟨_,IB,λv q=>by cases q⟩
  .exact(vT t1 _ a1).obj p1
  .exact(vT t2 _ a2).obj p2
 keep:=λi h h' st k=>by
  obtain⟨hz,Im,⟨a,b',IB⟩,p1,p2⟩:=st;exact⟨k z (by simp) _ hz,k TI (by simp) _ Im,⟨a,b',k TO (by simp) _ IB⟩,(vT t1 i1 a1).keep p1 λo e=>k i1 (by simp) o e,(vT t2 i2 a2).keep p2 λo e=>k i2 (by simp) o e⟩
 item:=by
  intro X hP hw hK hc i ag s σ H E I hf st hg;subst hP hw hK;obtain⟨xs,ys,x,y,d1,d2,hx,hy⟩:=hg;obtain⟨l1,r1,c1⟩:=xw I d1;obtain⟨l2,r2,c2⟩:=xw I d2;obtain⟨u1,e1,Lg⟩:=r1.get hx;obtain⟨u2,e2,KM⟩:=r2.get hy;have D:ZApart z TI TO i1 i2 a1 a2:=⟨nd,λq=>ba I d1 (hf _ q) rfl,λq=>ba I d2 (hf _ q) rfl⟩;refine Yn (vT t1 i1 a1) (vT t2 i2 a2) D st c1 c2 e1 e2 λh' AH ht kp=>⟨_,rfl,?_⟩
  obtain⟨hz,Im,⟨a,b',IB⟩,p1,p2⟩:=AH;have n:=nd;erw[jU,zj,zy,kY,ye] at n;obtain⟨⟨n1,n2,n3,n4⟩,_⟩:=n;refine wpAny_letOwnedTupleGo_zip hz λh2 Sg sb=>?_
  have M4:z<s.heap.objs.size:=by obtain⟨q,_⟩:=st;exact zJ q
  have OZ:h2.get? s.heap.objs.size=À { cls:=.type "tuple",data:=.seq #[u1,u2] }:=sb.extBut _ _ (vQ M4) ht;have I2:Inv X ag σ (upd H s.heap.objs.size (.tup [x,y])) { s with heap:=h2 }:=fv (t':=s.toks) (fp:=[z,TI,TO,i1,i2]) I (λb o hb e=>sb.extBut _ _ (λq=>hb (by simp[q])) (kp b o hb e)) hf (zr _)
   ⟨by show 2<=Ð;decide,[u1,u2],.cons Lg (.cons KM .nil),⟨_,OZ,rfl,_,rfl⟩,⟨_,OZ,rfl⟩⟩
  refine⟨.ref s.heap.objs.size,_,I2,rfl,⟨_,x,y,I.hok.fresh (zr _),rfl,rfl,λSi q=>by rw[og I q d1];exact hx,λys' q=>by rw[og I q d2];exact hy⟩,?_,λb hb=>?_⟩
  .exact⟨Sg,sb.extBut _ _ (jq n1) Im,⟨a,b',sb.extBut _ _ (jq n2) IB⟩,(vT t1 i1 a1).keep p1 λo e=>sb.extBut _ _ (jq n3) e,(vT t2 i2 a2).keep p2 λo e=>sb.extBut _ _ (jq n4) e⟩
  .obtain⟨o,ho,_⟩:∃o,s.heap.get? b=À o/\True:=by
    obtain⟨Sj,NL,⟨a0,b0,NM⟩,Sk,Sl⟩:=st;erw[zj,zy,kY] at hb;rcases hb with rfl | rfl | rfl | rfl | rfl
    .exact⟨_,Sj,trivial⟩
    .exact⟨_,NL,trivial⟩
    .exact⟨_,NM,trivial⟩
    .obtain⟨o,q,_⟩:=(vT t1 _ a1).obj Sk;exact⟨o,q,trivial⟩
    .obtain⟨o,q,_⟩:=(vT t2 _ a2).obj Sl;exact⟨o,q,trivial⟩
   rw[kG (zM (zJ ho))];exact(hf b hb).1
 done:=by
  intro X hP hw hK hc i ag s σ H E I hf st hg;subst hP hw hK;obtain⟨xs,ys,d1,d2,he⟩:=hg;obtain⟨l1,r1,c1⟩:=xw I d1;obtain⟨l2,r2,c2⟩:=xw I d2;have D:ZApart z TI TO i1 i2 a1 a2:=⟨nd,λq=>ba I d1 (hf _ q) rfl,λq=>ba I d2 (hf _ q) rfl⟩;refine WU (vT t1 i1 a1) (vT t2 i2 a2) D (I.ok.hd hc) st c1 c2 ?_ λh' kp=>⟨rfl,nr (t':=s.toks) I kp hf⟩
  rcases he with he | he
  .exact .inl (jz (by rw[<-r1.length];exact he))
  .exact .inr (jz (by rw[<-r2.length];exact he))
 self:=λ_ _ _ _ _ st h=>wpAny_pyIter_zip st.1 h
noncomputable def u4(h:MH)(w:W):Option (List W):=match w with
 | .tup l=>À l
 | .fls l=>À l
 | _=>Á
noncomputable def tV(ws:List W):M Src:=λh=>match ws with
 | [x,y]=>match u4 h x,u4 h y with
  | some l,À l'=>À (.items ((l.zip l').map λp=>.tup [p.1,p.2]),h)
  | _,_=>Á
 | _=>Á
noncomputable def be(ms:List ME):MI:=λρ=>bnd (xp ms ρ) tV
section
variable{X:Cx}{cl:Cl}{AV:List Î}{n:Nat}{AW p pos:ė}{e1 e2:Î}{ms:List ME}
def lz{K:aab}{μ:List Ç}{H:Hp}{h:MH}(r:RW K μ H w v)(e:u4 h w=À l):∃tp a vs,v=.ref a/\RWs K μ H l vs/\eE K tp H a vs/\(∀gy H2 h2,HR K cl μ H h->Ext μ H gy H2->HR K cl gy H2 h2->eE K tp H2 a vs):=by
 unfold u4 at e;split at e
 .cases e
  obtain⟨a,vs,rfl,sa,ra⟩:=r.tup_of;exact⟨Â,a,vs,rfl,ra,sa,λgy H2 h2 R E R2=>SqT.ext R E sa⟩
 .cases e
  cases r with | @fls a vs l sa ra=>
  exact⟨Ä,a,vs,rfl,ra,sa.sq,λgy H2 h2 R E R2=>(SqF.ext E sa).sq⟩
 .cases e
def Di(hm:X.mg "zip" = Á)(ha:SA X cl [e1,e2] ms)(hg:↥(Gl X "zip"))(r6:↥(Ê [e1,e2] X.env=(Ä,å e1 X.env)::Ê [e2] X.env))(Ak:↥((Þ pos (Ê [e2] X.env)).any (·.1)=Ä)) :
  SI X cl (.Tuple AV n AW) (.Call (.Name "zip" p) [e1,e2] [] pos) (be ms):=by
 rintro ag s σ H R I ⟨μ,h,ρ,src,h',R0,er,e,k⟩;obtain⟨ws,h1,Ii,e⟩:=zD e;have hv:Ù "zip" = À (.type "zip"):=by decide +kernel
 refine jH (y6 I hg hm hv ?_ (by decide) (by decide));refine jL (kg (ha pos ag s σ H (λvs H1=>∃cb,Ext μ H cb H1/\HR X.K cl cb H1 h1/\RWs X.K cb H1 ws vs) I ⟨μ,h,ρ,ws,h1,R0,er,Ii,λcb H1 vs E1 R1 rs=>⟨cb,E1,R1,rs⟩⟩) ?_) r6 Ak;rintro us s1 ⟨vs,H1,I1,r1,cb,E1,R1,rs⟩;unfold tV at e;split at e
 .rename_i x y
  split at e
  .rename_i l l' q1 q2
   cases e;cases rs with | cons rx t=>cases t with | cons ry t=>cases t with | nil=>
   obtain⟨t1,a1,xs,rfl,Mh,d1,f1⟩:=lz (cl:=cl) rx q1;obtain⟨t2,a2,ys,rfl,Lx,d2,f2⟩:=lz (cl:=cl) ry q2;obtain⟨u1,u2,rfl,Lg,KM⟩:=vals2 r1;cases Lg;cases KM;obtain⟨l1,v1,c1⟩:=xw I1 d1;obtain⟨l2,v2,c2⟩:=xw I1 d2;refine W8 (JS t1 a1 l1) (JS t2 a2 l2) c1 ((vT t2 0 a2).keepC c2 λo e=>zc _ e) (l4 t1 a1) (l4 t2 a2) λh2 b5 b3 b4 b1 b2 kp=>?_
   refine wpAny_pyIter_zip b5 ?_;have nd:[s1.heap.objs.size+4,s1.heap.objs.size+2,s1.heap.objs.size+3,s1.heap.objs.size,s1.heap.objs.size+1].Nodup:=by
    erw[jU,zj,zy,kY,ye,vg,uL,not_false_eq_true];omega
   refine⟨_,_,_,_,H1,rfl,I1.kept (t':=s1.toks) kp,Ye t1 t2 _ _ _ _ _ a1 a2 nd,⟨b5,b3,⟨_,_,b4⟩,nW b1,nW b2⟩,λb hb=>?_,k cb H1 _ E1 R1 ?_⟩
   .have Lh:s1.heap.objs.size<=b:=by
     erw[zj,zy,kY] at hb;rcases hb with rfl | rfl | rfl | rfl | rfl<;>omega
    exact I1.fpOk Lh (I1.hok.fresh Lh)
   .intro gy H2 h3 E2 R2 i
    have Li:=f1 gy H2 h3 R1 E2 R2;have NN:=f2 gy H2 h3 R1 E2 R2;have Lj:=Mh.ext R1 E2;have NO:=Lx.ext R1 E2;refine⟨λw ew=>?_,λes=>?_⟩
    .have Ag:((l.zip l').map λp=>W.tup [p.1,p.2])[i]?=À w:=zX ew
     rw[zZ] at Ag;cases ez:(l.zip l')[i]? with
     | none=>rw[ez] at Ag;cases Ag
     | some pr=>
      rw[ez] at Ag;cases Ag;obtain⟨ea,eb⟩:=uC.mp ez;obtain⟨vx,Mi,NP⟩:=Lj.get ea;obtain⟨vy,O0,Sm⟩:=NO.get eb;refine⟨⟨xs,ys,vx,vy,Li,NN,Mi,O0⟩,λv H3 yl=>?_⟩;obtain⟨pp,x',y',hp,rfl,rfl,w1,w2⟩:=yl;have z1:=w1 xs Li;have z2:=w2 ys NN;rw[Mi] at z1;rw[O0] at z2;cases z1;cases z2;exact⟨.side hp,R2.side hp,.tup (SqT.of jp) (.cons (NP.ext R2 (.side hp)) (.cons (Sm.ext R2 (.side hp)) .nil))⟩
    .have es':((l.zip l').map λp=>W.tup [p.1,p.2])[i]?=Á:=zX es
     have hl:=jW.mp es';rw[zH,vX] at hl;refine⟨xs,ys,Li,NN,?_⟩;rw[<-Mh.length,<-Lx.length];omega
  .cases e
 .cases e
end
noncomputable def iL:List W->Option (List Bool)
 | []=>À []
 | .bl b::r=>match iL r with
  | some l=>À (b::l)
  | none=>Á
 | _=>Á
noncomputable def intsOf:List W->Option (List Int)
 | []=>À []
 | .int b::r=>match intsOf r with
  | some l=>À (b::l)
  | none=>Á
 | _=>Á
noncomputable def ng(f:List Bool->Bool)(ws:List W):M W:=λh=>match ws with
 | [w]=>match qS h w with
  | some l=>match iL l with
   | some bs=>À (.bl (f bs),h)
   | none=>Á
  | none=>Á
 | _=>Á
noncomputable def Zm:List W->M W:=ng λl=>l.all id
noncomputable def Ct:List W->M W:=ng λl=>l.any id
noncomputable def ah:List Int->Int
 | []=>0
 | i::r=>i+ah r
noncomputable def iw(ws:List W):M W:=λh=>match ws with
 | [w]=>match qS h w with
  | some l=>match intsOf l with
   | some bs=>À (.int (ah bs),h)
   | none=>Á
  | none=>Á
 | _=>Á
section
variable{K:aab}{μ:List Ç}{H:Hp}
def Yy{bs:List Bool}(e:iL l=À bs)(r:RWs K μ H l vs)(q:Vals vs us):us=bs.map Š:=by
 induction l generalizing vs us bs with
 | nil=>cases r;cases q;cases e;rfl
 | cons w l ih=>
  cases r with | cons rb rr=>cases q with | cons tb tr=>cases rb with
  | bl b=>
   unfold iL at e;split at e
   .rename_i l e'
    cases e;cases tb;rw[ih e' rr tr];rfl
   .cases e
  | _=>cases e
def Qx{us:List Ã}{bs:List Int}(e:intsOf l=À bs)(r:RWs K μ H l vs)(q:Vals vs us):us.length=bs.length/\∀i u,us[i]?=À u->∃t,u=ī (bs.getD i 0) t:=by
 induction l generalizing vs us bs with
 | nil=>cases r;cases q;cases e;exact⟨rfl,λi u e=>by simp at e⟩
 | cons w l ih=>
  cases r with | cons rb rr=>cases q with | cons tb tr=>cases rb with
  | int b=>
   unfold intsOf at e;split at e
   .rename_i l e'
    cases e;obtain⟨t,rfl⟩:=tb;obtain⟨h1,h2⟩:=ih e' rr tr;refine⟨jl (· + 1) h1,λi u e=>?_⟩;cases i with
    | zero=>cases e;exact⟨t,rfl⟩
    | succ i=>exact h2 i u e
   .cases e
  | _=>cases e
end
def ZQ(a b:List Int):ah (a++b)=ah a+ah b:=by
 induction a with
 | nil=>simp[ah]
 | cons x r ih=>erw[jt,ah,ih];omega
theorem preSum_eq(bs:List Int):∀n,n<=bs.length->preSum (λi=>bs.getD i 0) n=ah (bs.take n)
 | 0,_=>by simp[preSum,ah]
 | n+1,h=>by
  have ih:=preSum_eq bs n ∅;have:preSum (λi=>bs.getD i 0) (n+1)=preSum (λi=>bs.getD i 0) n+bs.getD n 0:=rfl;rw[this,ih,List.take_succ,ZQ];simp[zL (show n<bs.length by omega),ah]
section
variable{X:Cx}{cl:Cl}
def sF{s:Å}{H:Hp}{A:Ø}{R:Ã->Å->Prop}(I:Inv X ag σ H s)(sq:SqL X.K H a vs\/SqT X.K H a vs)(hh:A.handled=Á)
  (k:∀(us:List Ã) (it:Ç) (fp wr:List Ç) (St:Nat->Õ->Prop) (h1:Õ),Vals vs us->Walks X.prog X.w A it fp wr us.length (λi v=>us[i]?=À v) St->St 0 h1->(∀b∈fp,b<h1.objs.size)->
   (∀b∈wr,s.heap.objs.size<=b)->(∀b o,s.heap.get? b=À o->h1.get? b=À o)->R (.ref it) { s with heap:=h1 }) :
  Æ (Í X.prog X.w) A (ĥ (.ref a)) R E s:=by
 rcases sq with sq | sq
 .obtain⟨its,rv,p,hz⟩:=I.list sq
  refine vH p.isList ?_;have xa:a<s.heap.objs.size:=by obtain⟨o,ho,_⟩:=p.isList;exact zJ ho
  have W0:=pU (prog:=X.prog) (w:=X.w) hh s.heap.objs.size a (zM xa) its.toArray;have W1:Walks X.prog X.w A s.heap.objs.size [s.heap.objs.size,a] [s.heap.objs.size] its.length (λi v=>its[i]?=À v) (λi h=>h.IsListIter s.heap.objs.size a i/\h.IsList a its.toArray):=by simpa using W0
  refine k its _ _ _ _ _ rv W1 ⟨⟨_,zE _ rfl,rfl,rfl⟩,p.isList.at λo e=>zc _ e⟩ (λb hb=>?_) (λb hb=>?_) λb o e=>zc _ e
  .erw[zj,zy,kY] at hb
   erw[jP];rcases hb with rfl | rfl
   .exact jY _
   .exact jD xa
  .erw[zj,zy,kY] at hb
   rw[hb];exact zr _
 .obtain⟨its,rv,p,hz⟩:=I.tuple sq
  refine wj (show s.heap.IsTuple a its.toArray from p) ?_;have xa:a<s.heap.objs.size:=by obtain⟨o,ho,_⟩:=id p;exact zJ ho
  have p':s.heap.IsTuple a its.toArray:=p;have W0:=Walks.tuple (prog:=X.prog) (w:=X.w) hh s.heap.objs.size a (zM xa) its.toArray;have W1:Walks X.prog X.w A s.heap.objs.size [s.heap.objs.size,a] [s.heap.objs.size] its.length (λi v=>its[i]?=À v) (λi h=>h.IsTupleIter s.heap.objs.size a i/\h.IsTuple a its.toArray):=by simpa using W0
  refine k its _ _ _ _ _ rv W1 ⟨⟨_,zE _ rfl,rfl,rfl⟩,p'.at λo e=>zc _ e⟩ (λb hb=>?_) (λb hb=>?_) λb o e=>zc _ e
  .erw[zj,zy,kY] at hb
   erw[jP];rcases hb with rfl | rfl
   .exact jY _
   .exact jD xa
  .erw[zj,zy,kY] at hb
   rw[hb];exact zr _
def nu{ag:List (Ç×ø)}{s:Å}{σ:L2.St}{H:Hp}{h1 h2:Õ}{tk:Nat}{wr:List Ç}(I:Inv X ag σ H s)(k1:∀b o,s.heap.get? b=À o->h1.get? b=À o)(hw:∀b∈wr,s.heap.objs.size<=b)(k2:∀b o,b∉wr->h1.get? b=À o->h2.get? b=À o) :
  Inv X ag σ H { s with heap:=h2,toks:=tk }:=
 I.kept (t':=tk) λb o e=>k2 b o (λz=>absurd (zJ e) (yO.mpr (hw b z))) (k1 b o e)
def mI{f:List Bool->Bool}{id:String}(EN:∀{A:Ø} {E:Ã->Å->Prop} {s:Å} {x:Ã} {Q:Ã->Å->Prop},A.handled=Á->Æ (Í X.prog X.w) A.in1 (ĥ x) (λit mN=>∃I fp wr n P St tr,it=.ref I/\Walks X.prog X.w A.in1 I fp wr n P St/\St 0 mN.heap/\TruthOf X.prog X.w A.in1 P tr /\
   ∀h' tk,(∀b o,b∉wr->mN.heap.get? b=À o->h'.get? b=À o)->Q (.bool (f ((ß n).map tr))) { mN with heap:=h',toks:=tk }) E s->Æ (Í X.prog X.w) A (ķ (.builtin id) [x]) Q E s) (hc:X.calm=Â):qo X (.builtin id) (rMs X.K cl (ng f)):=by
 rintro ag s σ H xs us Q I rs ⟨μ,h,ws,w,h',R,ax,e,k⟩;unfold ng at e;split at e
 .split at e
  .rename_i l el
   split at e
   .rename_i bs eb
    cases e;cases ax with | cons r t=>cases t with | nil=>
    obtain⟨a,vs,rfl,sa,ra⟩:=yY R r el;obtain⟨u,rfl,ru⟩:=rs.one;cases ru;have hh:=I.ok.hd hc;refine EN hh (sF (A:=X.A.in1) I sa hh λus it fp wr St h1 rv W r6 O1 NQ k1=>?_);have hu:=Yy eb ra rv;subst hu;refine⟨it,fp,wr,_,_,St,λi=>bs.getD i Ä,rfl,W,r6,?_,λh2 tk k2=>?_⟩
    .intro i v s Q E hP hQ
     rw[zZ] at hP;cases eb:bs[i]? with
     | none=>rw[eb] at hP;cases hP
     | some b=>
      rw[eb] at hP;cases hP;have:bs.getD i Ä=b:=by simp[Ĕ,eb]
      have O2:Q (bs.getD i Ä) s:=hQ;rw[this] at O2;exact qw O2
    .have e2:(ß (bs.map Š).length).map (λi=>bs.getD i Ä)=bs:=by
      apply wz
      .simp
      .intro i h1 h2;simp at h1;simp[h1]
     rw[e2];exact⟨.bl _,H,(show Inv X ag σ H { s with heap:=h2,toks:=tk } from nu I k1 NQ k2),rfl,k.pure R (.bl _)⟩
   .cases e
  .cases e
 .cases e
def We(hc:X.calm=Â):qo X (.builtin "all") (rMs X.K cl Zm):=by
 refine mI (λ{A E s x Q} hh h=>call_all_walk (j6 h (λit mN ET=>?_) λ_ _ e=>e)) hc;obtain⟨I,fp,wr,n,P,St,tr,rfl,W,r6,NR,hQ⟩:=ET;refine⟨I,fp,wr,n,P,St,tr,rfl,W,r6,NR,λh' tk hk=>?_⟩;have:=hQ h' tk hk;rw[List.all_map] at this;exact this
def Ve(hc:X.calm=Â):qo X (.builtin "any") (rMs X.K cl Ct):=by
 refine mI (λ{A E s x Q} hh h=>call_any_walk (j6 h (λit mN ET=>?_) λ_ _ e=>e)) hc;obtain⟨I,fp,wr,n,P,St,tr,rfl,W,r6,NR,hQ⟩:=ET;refine⟨I,fp,wr,n,P,St,tr,rfl,W,r6,NR,λh' tk hk=>?_⟩;have:=hQ h' tk hk;rw[ph] at this;exact this
def Qq(hc:X.calm=Â):qo X (.builtin "sum") (rMs X.K cl iw):=by
 rintro ag s σ H xs us Q I rs ⟨μ,h,ws,w,h',R,ax,e,k⟩;unfold iw at e;split at e
 .split at e
  .rename_i l el
   split at e
   .rename_i bs eb
    cases e;cases ax with | cons r t=>cases t with | nil=>
    obtain⟨a,vs,rfl,sa,ra⟩:=yY R r el;obtain⟨u,rfl,ru⟩:=rs.one;cases ru;have hh:=I.ok.hd hc;refine call_sum_walkG (sF (A:=X.A.in1) I sa hh λus it fp wr St h1 rv W r6 O1 NQ k1=>?_);obtain⟨hl,hv⟩:=Qx eb ra rv;refine⟨it,fp,wr,_,_,St,λi=>bs.getD i 0,rfl,W,r6,O1,hv,λh2 tk t' k2=>?_⟩;rw[hl,preSum_eq bs _ (zr _),ud];exact⟨.int _,H,(show Inv X ag σ H { s with heap:=h2,toks:=tk } from nu I k1 NQ k2),⟨t',rfl⟩,k.pure R (.int _)⟩
   .cases e
  .cases e
 .cases e
def boot_all:Ù "all" = À (.builtin "all"):=by decide +kernel
def boot_any:Ù "any" = À (.builtin "any"):=by decide +kernel
def boot_sum:Ù "sum" = À (.builtin "sum"):=by decide +kernel
def Kf:Ù "int" = À (.type Ty.int.name):=by decide +kernel
def Kq:Ù "str" = À (.type Ty.str.name):=by decide +kernel
def Wu:Ù "bool" = À (.type Ty.bool.name):=by decide +kernel
def rB:Ù "tuple" = À (.type Ty.tuple.name):=by decide +kernel
def lY:Ù "list" = À (.type Ty.list.name):=by decide +kernel
def sJ:Ù "dict" = À (.type Ty.dict.name):=by decide +kernel
end
noncomputable abbrev Kk:W->W->M W:=vw λi j=>decide (i<j)
noncomputable abbrev Hz:W->W->M W:=vw λi j=>decide (i<=j)
noncomputable abbrev Vl:W->W->M W:=vw λi j=>decide (j<i)
noncomputable abbrev HM:W->W->M W:=vw λi j=>decide (j<=i)
noncomputable abbrev Ho:W->W->M W:=λx y=>match x,y with | .int i,.int j=>λh=>À (.int (i+j),h) | _,_=>λ_=>Á
noncomputable def GQ(x:È):It:=
 ⟨λi _=>i<x.cps.size,λi H v H'=>H'=H/\∃c,x.cps[i]?=À c/\v=.str ⟨#[c]⟩,λi _=>x.cps.size<=i⟩
section
variable{P:Ï}{w:Ñ}{K:aab}{tg:Î}
def Wc(hn:["enumerate","zip","dict_itemiterator","dict_reverseitemiterator","odict_iterator","itertools.zip_longest","itertools.pairwise"].contains T=Ä)(it:Ç)(x:È)(t:Tok)
  (W:∀A:Ø,A.handled=Á->Walks P w A it [it] [it] x.cps.size (SignAt x) (λi h=>h.IsStrIter it T x t i))
  (sf:∀(A:Ø) (i:Nat) (s:Å) (Q:Ã->Å->Prop) (E:Ã->Å->Prop),s.heap.IsStrIter it T x t i->Q (.ref it) s->Æ (Í P w) A (ĥ (.ref it)) Q E s) :
  Turn P w K tg (GQ x) [it] it (λi h=>i<=x.cps.size/\h.IsStrIter it T x t i) where
 mem:=by simp
 obj:=λi h st b hb=>by
  have e:b=it:=by simpa using hb
  subst e;obtain⟨_,o,e,c,d⟩:=st;exact⟨o,e,λv z=>by rw[d] at z;cases z⟩
 keep:=λi h h' st k=>by
  obtain⟨hi,o,e,c,d⟩:=st;exact⟨hi,o,k it (by simp) o e,c,d⟩
 item:=by
  intro X hP hw hK hc i ag s σ H E I hf st hg;subst hP hw hK;obtain⟨f0,f1,f2,f3,f4,f5⟩:=hf it (by simp);refine(W X.A (I.ok.hd hc)).item i s _ _ hg st.2 λv h' tk hv AH kk=>?_
  obtain⟨c,u,Sn,rfl⟩:=hv;have I1:Inv X ag σ H { s with heap:=h',toks:=tk }:=I.turned (t':=tk) (λb o hb e=>kk b o (by simpa using hb) e) f0 f1 f3 f4 f5;obtain⟨o,e,cc,d⟩:=id AH;exact⟨_,rfl,rQ (s:={ s with heap:=h',toks:=tk }) e cc d hn ⟨.str ⟨#[c]⟩,H,I1,⟨u,rfl⟩,⟨rfl,c,Sn,rfl⟩,⟨hg,AH⟩,λb hb=>(hf b hb).1⟩⟩
 done:=by
  intro X hP hw hK hc i ag s σ H E I hf st hg;subst hP hw hK;obtain⟨f0,f1,f2,f3,f4,f5⟩:=hf it (by simp);have hi:i=x.cps.size:=Nat.le_antisymm st.1 hg;have Iq:=st.2;rw[hi] at Iq;exact(W X.A (I.ok.hd hc)).done s _ _ Iq λh' tk kk=>⟨rfl,I.turned (t':=tk) (λb o hb e=>kk b o (by simpa using hb) e) f0 f1 f3 f4 f5⟩
 self:=λA i s Q E st h=>sf A i s Q E st.2 h
end
noncomputable def signs(x:È):List W:=x.cps.toList.map λc=>.str ⟨#[c]⟩
noncomputable def nZ(m:ME):MI:=λρ=>bnd (m ρ) λw h=>match w with
 | .str x=>À (.items (signs x),h)
 | _=>Á
section
variable{X:Cx}{cl:Cl}{tg e:Î}{m:ME}
def BJ{K:aab}{μ:List Ç}{H:Hp}:JR K cl (GQ x) (.items (signs x)) μ H:=by
 intro gy H2 h2 E2 R2 i;refine⟨λw ew=>?_,λes=>?_⟩
 .have Ag:(signs x)[i]?=À w:=zX ew
  unfold signs at Ag;rw[zZ] at Ag;cases ec:x.cps.toList[i]? with
  | none=>rw[ec] at Ag;cases Ag
  | some c=>
   rw[ec] at Ag;cases Ag;have O3:x.cps[i]?=À c:=by rw[<-yN];exact ec
   refine⟨(uw.mp O3).1,λv H3 y=>?_⟩;obtain⟨rfl,c',IM,rfl⟩:=y;rw[O3] at IM;cases IM;exact⟨.refl,R2,.str _⟩
 .have es':(signs x)[i]?=Á:=zX es
  have:=jW.mp es';unfold signs at this;rw[zH,zV] at this;exact this
def DR(he:SE X cl e m):SI X cl tg e (nZ m):=by
 rintro ag s σ H R I ⟨μ,h,ρ,src,h',R0,er,e,k⟩;obtain⟨x,h1,e1,e⟩:=zD e;refine kg (he ag s σ H (λv H1=>∃cb,Ext μ H cb H1/\HR X.K cl cb H1 h1/\RW X.K cb H1 x v) I ⟨μ,h,ρ,x,h1,R0,er,e1,λcb H1 v E1 R1 r=>⟨cb,E1,R1,r⟩⟩) ?_;rintro u s1 ⟨v,H1,I1,r1,cb,E1,R1,rv⟩;cases x with
 | str z=>
  cases e;cases rv.str_of;obtain⟨tk,rfl⟩:=r1;have fin:∀{o:ø} {T:String},["enumerate","zip","dict_itemiterator","dict_reverseitemiterator","odict_iterator","itertools.zip_longest","itertools.pairwise"].contains T=Ä->(∀A:Ø,A.handled=Á->Walks X.prog X.w A s1.heap.objs.size [s1.heap.objs.size] [s1.heap.objs.size] z.cps.size (SignAt z) (λi h=>h.IsStrIter s1.heap.objs.size T z tk i))->
    (∀(A:Ø) (i:Nat) (s:Å) (Q:Ã->Å->Prop) (E:Ã->Å->Prop),s.heap.IsStrIter s1.heap.objs.size T z tk i->Q (.ref s1.heap.objs.size) s->Æ (Í X.prog X.w) A (ĥ (.ref s1.heap.objs.size)) Q E s)->
    (s1.heap.push o).IsStrIter s1.heap.objs.size T z tk 0->PIE X ag σ tg R (.ref s1.heap.objs.size) { s1 with heap:=s1.heap.push o }:=λ{o T} hn W sf st=>
   ⟨_,[s1.heap.objs.size],_,_,H1,rfl,I1.kept (t':=s1.toks) λb o e=>zc _ e,Wc hn _ z tk W sf,⟨jQ _,st⟩,λb hb=>by
    have e:b=s1.heap.objs.size:=by simpa using hb
    subst e
    exact I1.fpOk (zr _) (I1.hok.fresh (zr _)),k cb H1 _ E1 R1 BJ⟩
  cases ha:z.cps.all (· < 128)
  .exact wpAny_pyIter_wide ha (fin (T:="str_iterator") (by decide) (λA' hA=>Walks.strWide hA _ z tk) (λA i s Q E st q=>wpAny_pyIter_striter_wide st q) ⟨_,zE _ rfl,rfl,rfl⟩)
  .exact wpAny_pyIter_ascii ha (fin (T:="str_ascii_iterator") (by decide) (λA' hA=>Walks.strAscii hA _ z tk) (λA i s Q E st q=>wpAny_pyIter_striter_ascii st q) ⟨_,zE _ rfl,rfl,rfl⟩)
 | _=>cases e
end
structure Glob(K:aab)(mg:È->Option Ã)(x:È)(w:W):Prop where
 ex:∃(v:V) (u:Ã),mg x=À u/\RelV v u/\∀μ H,RW K μ H w v
def Glob.se{X:Cx}(G:Glob X.K X.mg x w)(hg:↥(Gl X x))(hd:⇑((x==("__debug__":È))=Ä)):SE X cl (.Name x pos) (eC w):=by
 obtain⟨v,u,hm,r,rw⟩:=G.ex;exact Uw hm r rw hg hd
mutual
inductive KW(K:aab):W->Ã->Prop
 | int {i:Int} {t:Tok}:KW K (.int i) (.int i t)
 | str {i:È} {t:Tok}:KW K (.str i) (.str i t)
 | fn {a:Ç}:KW K (.fn a) (.ref a)
 | tup {a:Ç} {l:List W} {o:ø} {its:Array Ã} {n:Nat}:K.lookup a=À o->(o.cls=.type "tuple" /\ o.dict=Á)->o.data=.seq its n->its.size<=Ð->KWs K l its.toList->KW K (.tup l) (.ref a)
inductive KWs(K:aab):List W->List Ã->Prop
 | nil:KWs K [] []
 | cons {w:W} {v:Ã} {l:List W} {vs:List Ã}:KW K w v->KWs K l vs->KWs K (w::l) (v::vs)
end
def KWs.rw{K:aab}{l:List W}(r:KWs K l us):∃vs,Vals vs us/\∀μ H,RWs K μ H l vs:=
 KWs.rec (motive_1:=λw u _=>∃v,RelV v u/\∀μ H,RW K μ H w v) (motive_2:=λl us _=>∃vs,Vals vs us/\∀μ H,RWs K μ H l vs) (λ{i t}=>⟨.int i,⟨t,rfl⟩,λ_ _=>.int _⟩) (λ{i t}=>⟨.str i,⟨t,rfl⟩,λ_ _=>.str _⟩) (λ{a}=>⟨.ref a,rfl,λ_ _=>.fn⟩)
  (λ{a _ _ _ _} e c d z _ q=>q.elim λ_ q=>⟨.ref a,rfl,λμ H=>.tup (.inr ⟨_,_,_,e,c,d,z,q.1⟩) (q.2 μ H)⟩) ⟨[],.nil,λ_ _=>.nil⟩ (λ_ _ p q=>p.elim λv p=>q.elim λvs q=>⟨v::vs,.cons p.1 q.1,λμ H=>.cons (p.2 μ H) (q.2 μ H)⟩) r
theorem KW.rw{K:aab}{w:W}(r:KW K w u):∃v,RelV v u/\∀μ H,RW K μ H w v:=by
 obtain⟨vs,a,b⟩:=KWs.rw (.cons r .nil);cases a with
 | @cons v _ _ _ a _=>exact⟨v,a,λμ H=>by cases b μ H with | cons q _=>exact q⟩
def KW.glob{K:aab}{mg:È->Option Ã}{x:È}(hm:mg x=À u)(k:KW K w u):Glob K mg x w:=by
 obtain⟨v,r1,r2⟩:=k.rw;exact⟨v,u,hm,r1,r2⟩
inductive TabRel(K:aab):List (È×W)->List ą->Prop
 | nil:TabRel K [] []
 | cons {k:È} {t:Tok} {w:W} {hs:Int} {v:Ã} {l:List (È×W)} {es:List ą} {e:ą}:e.key=.str k t->KW K w e.val->TabRel K l es->TabRel K ((k,w)::l) (e::es)
structure TabOk(K:aab)(P:Params)(mg:È->Option Ã)(x:È)(l:List (È×W)):Prop where
 ex:∃(a:Ç) (es:Array ą) (n:Nat),mg x=À (.ref a)/\K.lookup a=À ⟨.type "dict",Á,.dict es n,#[]⟩/\ũ P es.toList/\(a==à)=Ä/\TabRel K l es.toList
theorem TabRel.find{K:aab}:∀{l:List (È×W)} {es:List ą},TabRel K l es->match l.lookup k with
  | some w=>∃v,(es.find? λe=>ù k e.key).map (·.val)=À v/\KW K w v
  | none=>(es.find? λe=>ù k e.key).map (·.val)=Á
 | _,_,.nil=>rfl
 | _,_,.cons (k:=k') (l:=l) (es:=es) (e:=e) hk r t=>by
  have ih:=TabRel.find (k:=k) t;rw[qF];by_cases q:k=k'
  .subst q
   have e1:(k==k)=Â:=by simp
   have e2:ù k e.key=Â:=by rw[hk];simp[ù]
   erw[e1,jX,e2];exact⟨_,rfl,r⟩
  .have e1:(k==k')=Ä:=by simpa using q
   have e2:ù k e.key=Ä:=by rw[hk];simp[ù];exactλz=>q z.symm
   erw[e1,jX,e2];exact ih
noncomputable def tabIn(neg:Bool)(l:List (È×W))(w:W):M W:=λh=>match w with
 | .str k=>À (.bl (if neg then !(l.lookup k).isSome else (l.lookup k).isSome),h)
 | _=>Á
noncomputable def fH(l:List (È×W))(w:W):M W:=λh=>match w with
 | .str k=>match l.lookup k with
  | some v=>À (v,h)
  | none=>Á
 | _=>Á
section
variable{X:Cx}{cl:Cl}{a:Î}{ma:ME}{x:È}{l:List (È×W)}{p pos:ė}
def TabOk.at{s:Å}{H:Hp}{es:Array ą}(I:Inv X ag σ H s)(hl:X.K.lookup d=À ⟨.type "dict",Á,.dict es n,#[]⟩)(hk:ũ X.w.params es.toList) :
  s.heap.MapOf (strKind X.prog X.w) d (λk=>findBy ù es k):=PySem.W.mapOf_K I.kIn hl hk
def Qd{op:CmpOp}(neg:Bool)(ho:∀{A:Ø} {E:Ã->Å->Prop} {s:Å} {d:Ç} {f:È->Option Ã} {k:È} {t:Tok} {Q:Ã->Å->Prop},(d==à)=Ä->s.heap.MapOf (strKind X.prog X.w) d f->Q (.bool (if neg then !(f k).isSome else (f k).isSome)) { s with toks:=s.toks+1 }->Æ (Í X.prog X.w) A (Ó op (.str k t) (.ref d)) Q E s)
  (T:TabOk X.K X.w.params X.mg x l) (ha:SE X cl a ma) (hm:ë op (.Name x p)=Ä) (hg:Gl X x) (hd:(x==("__debug__":È))=Ä):SE X cl (.Compare a [op] [.Name x p] pos) (wm (tabIn neg l) ma):=by
 obtain⟨d,es,n,e1,e2,e3,e4,e5⟩:=T.ex;have NS:kT X (Ó op) (λx y H Q=>∃k,x=.str k/\y=.ref d/\Q (.bl (if neg then !(l.lookup k).isSome else (l.lookup k).isSome)) H):=by
  rintro ag s σ H x y v u Q I rx ry ⟨k,rfl,rfl,q⟩;obtain⟨t,rfl⟩:=rx;cases ry;refine ho e4 (TabOk.at I e2 e3) ?_;have fk:(findBy ù es k).isSome=(l.lookup k).isSome:=by
   have:=e5.find (k:=k);unfold findBy;rw[<-wV];cases ek:l.lookup k with
   | none=>rw[ek] at this;rw[this];rfl
   | some w=>rw[ek] at this;obtain⟨v,e,_⟩:=this;rw[e];rfl
  rw[fk];exact⟨.bl _,H,I.tok _,rfl,q⟩
 refine PE.wk (Kj NS ha (iB hg e1 (show RelV (.ref d) (.ref d) from rfl) hd) hm) ?_;rintro σ H Q ⟨μ,h,ρ,w,h',R,er,e,k⟩;obtain⟨y,h1,f1,e⟩:=zD e;refine⟨μ,h,ρ,y,h1,R,er,f1,λcb H1 vx E1 R1 rx=>?_⟩;unfold tabIn at e;split at e
 .cases e
  exact⟨_,rx.str_of,rfl,k cb H1 _ E1 R1 (.bl _)⟩
 .cases e
def WN(hu:X.A.units+64<û)(T:TabOk X.K X.w.params X.mg x l)(ha:SE X cl a ma)(hm:ë .In (.Name x p)=Ä:=by first | exact nomark _ | rfl)(hg:↥(Gl X x))(hd:⇑((x==("__debug__":È))=Ä)):SE X cl (.Compare a [.In] [.Name x p] pos) (wm (tabIn Ä l) ma):=
 Qd Ä (λ{A E s d f k t Q} h1 h2 h3=>wpAny_in_of (yH X.prog X.w k t) h1 h2 h3) T ha hm hg hd
def QE(hu:X.A.units+64<û)(T:TabOk X.K X.w.params X.mg x l)(ha:SE X cl a ma)(hm:ë .NotIn (.Name x p)=Ä:=by first | exact nomark _ | rfl)(hg:↥(Gl X x))(hd:⇑((x==("__debug__":È))=Ä)):SE X cl (.Compare a [.NotIn] [.Name x p] pos) (wm (tabIn Â l) ma):=
 Qd Â (λ{A E s d f k t Q} h1 h2 h3=>wpAny_notIn_of (yH X.prog X.w k t) h1 h2 h3) T ha hm hg hd
def Qu(hu:X.A.units+64<û)(T:TabOk X.K X.w.params X.mg x l)(ha:SE X cl a ma)(hs:fw a:=by exactλ_ _=>rfl)(hg:↥(Gl X x))(hd:⇑((x==("__debug__":È))=Ä)):SE X cl (.Subscript (.Name x p) a pos) (wm (fH l) ma):=by
 obtain⟨d,es,n,e1,e2,e3,e4,e5⟩:=T.ex;have Ex:KR X (λx y H Q=>∃k w,x=.ref d/\y=.str k/\l.lookup k=À w/\∀v,(∀μ H,RW X.K μ H w v)->Q v H):=by
  rintro value slice ag s σ H x y v u Q I rx ry ⟨k,w,rfl,rfl,el,q⟩ hs;cases rx;obtain⟨t,rfl⟩:=ry;have hm:=TabOk.at I e2 e3;have:=e5.find (k:=k);rw[el] at this;obtain⟨v0,ev,kw⟩:=this;obtain⟨v1,r1,r2⟩:=kw.rw;refine tail_any hm.typeIs slot_dict_getitem.lookup (wpAny_getItem_of (v:=v0) (yH X.prog X.w k t) hm ?_ ⟨v1,H,I.tok _,r1,q v1 r2⟩) hs;unfold findBy;rw[<-wV];exact ev
 refine PE.wk (XB Ex (iB hg e1 (show RelV (.ref d) (.ref d) from rfl) hd) ha hs) ?_;rintro σ H Q ⟨μ,h,ρ,w,h',R,er,e,k⟩;obtain⟨y,h1,f1,e⟩:=zD e;refine⟨μ,h,ρ,y,h1,R,er,f1,λcb H1 vx E1 R1 rx=>?_⟩;unfold fH at e;split at e
 .split at e
  .rename_i k' w' el
   cases e;exact⟨_,_,rfl,rx.str_of,el,λv hv=>k cb H1 _ E1 R1 (hv cb H1)⟩
  .cases e
 .cases e
end
noncomputable def keyOf:W->Option Key
 | .int i=>À (.inl i)
 | .str x=>À (.inr x)
 | _=>Á
noncomputable def fb(l:List (Key×W))(k:Key):Option W:=(l.find? λkv=>decide (kv.1=k)).map (·.2)
noncomputable def lZ(l:List (Key×W))(k:Key)(v:W):List (Key×W):=
 if (l.any λkv=>decide (kv.1=k))=Â then l.map (λkv=>if kv.1=k then (kv.1,v) else kv) else l++[(k,v)]
noncomputable def wq(l more:List (Key×W)):List (Key×W):=more.foldl (λacc kv=>lZ acc kv.1 kv.2) l
noncomputable def gp(h:MH):W->Option (List (Key×W))
 | .fdc l=>À l
 | .ref n=>match h[n]? with
  | some (.dic l)=>À l
  | _=>Á
 | _=>Á
inductive PR(K:aab)(μ:List Ç)(H:Hp):List (Key×W)->List (Key×V)->Prop
 | nil:PR K μ H [] []
 | cons {k:Key} {w:W} {v:V} {l:List (Key×W)} {l':List (Key×V)}:RW K μ H w v->PR K μ H l l'->PR K μ H ((k,w)::l) ((k,v)::l')
section
variable{K:aab}{cl:Cl}{μ d3:List Ç}{H H':Hp}{h:MH}
theorem RKs.pr:∀{l:List (Key×W)} {l':List (Key×V)},RKs K μ H l l'->PR K μ H l l'
 | [],[],_=>.nil
 | [],_::_,⟨k,_⟩=>by simp at k
 | _::_,[],⟨k,_⟩=>by simp at k
 | (k1,w)::l,(k2,v)::l',⟨k,r⟩=>by
  erw[zx,vo] at k;obtain⟨rfl,k⟩:=k;erw[zx] at r;cases r with | cons r t=>exact .cons r (RKs.pr ⟨k,t⟩)
theorem PR.rk:∀{l:List (Key×W)} {l':List (Key×V)},PR K μ H l l'->RKs K μ H l l'
 | _,_,.nil=>⟨rfl,.nil⟩
 | _,_,.cons r t=>⟨by simp[t.rk.1],.cons r t.rk.2⟩
theorem PR.len:∀{l:List (Key×W)} {l':List (Key×V)},PR K μ H l l'->l.length=l'.length
 | _,_,.nil=>rfl
 | _,_,.cons _ t=>jl (· + 1) t.len
theorem PR.val:∀{l:List (Key×W)} {l':List (Key×V)},PR K μ H l l'->match fb l k with
  | some w=>∃v,xh l' k=À v/\RW K μ H w v
  | none=>xh l' k=Á
 | _,_,.nil=>rfl
 | _,_,.cons (k:=k') (l:=l) (l':=l') (w:=w) (v:=v) r t=>by
  have ih:=PR.val (k:=k) t;by_cases q:k'=k
  .have e1:fb ((k',w)::l) k=À w:=by simp[fb,jX,q]
   rw[e1];exact⟨v,by simp[xh,jX,q],r⟩
  .have e1:fb ((k',w)::l) k=fb l k:=by simp[fb,jX,q]
   have e2:xh ((k',v)::l') k=xh l' k:=by simp[xh,jX,q]
   rw[e1,e2];exact ih
theorem PR.any:∀{l:List (Key×W)} {l':List (Key×V)},PR K μ H l l'->(l.any λkv=>decide (kv.1=k))=(l'.any λkv=>decide (kv.1=k))
 | _,_,.nil=>rfl
 | _,_,.cons _ t=>by erw[wD];rw[t.any]
theorem PR.map(r:RW K μ H w v):∀{l:List (Key×W)} {l':List (Key×V)},PR K μ H l l'->PR K μ H (l.map λkv=>if kv.1=k then (kv.1,w) else kv) (l'.map λkv=>if kv.1=k then (kv.1,v) else kv)
 | _,_,.nil=>.nil
 | _,_,.cons (k:=k') q t=>by
  erw[zx];by_cases z:k'=k
  .erw[z,je];exact .cons r (t.map r)
  .erw[z,jy];exact .cons q (t.map r)
theorem PR.app:∀{l m:List (Key×W)} {l' m':List (Key×V)},PR K μ H l l'->PR K μ H m m'->PR K μ H (l++m) (l'++m')
 | _,_,_,_,.nil,s=>s
 | _,_,_,_,.cons r t,s=>.cons r (t.app s)
def PR.put(p:PR K μ H l l')(r:RW K μ H w v):PR K μ H (lZ l k w) (putK l' k v):=by
 unfold lZ putK;rw[<-p.any (k:=k)];split
 .exact p.map r
 .exact p.app (.cons r .nil)
def PR.merge{more:List (Key×W)}(q:PR K μ H more more')(p:PR K μ H l l'):PR K μ H (wq l more) (w8 l' more'):=by
 induction q generalizing l l' with
 | nil=>exact p
 | cons r t ih=>exact ih (p.put r)
theorem PR.ext(R:HR K cl μ H h)(E:Ext μ H d3 H'):∀{l:List (Key×W)} {l':List (Key×V)},PR K μ H l l'->PR K d3 H' l l'
 | _,_,.nil=>.nil
 | _,_,.cons r t=>.cons (r.ext R E) (t.ext R E)
def lT(R:HR K cl μ H h)(r:RW K μ H w v)(e:gp h w=À l):∃a l',v=.ref a/\Rd H a (.dK l')/\PR K μ H l l':=by
 cases r with
 | @fdc a l0 l' ws vs s kk e1 e2 rs=>cases e;subst e1;subst e2;exact⟨a,l',rfl,s.1,RKs.pr ⟨kk,rs⟩⟩
 | @ref n a hn=>
  erw[gp] at e;split at e
  .rename_i l' ho
   cases e;obtain⟨l2,hv,rs⟩:=R.ob n a _ hn ho;exact⟨a,l2,rfl,.inl hv,RKs.pr rs⟩
  .cases e
 | _=>cases e
theorem eW(r:RW K μ H w v)(e:keyOf w=À k):v=kV k:=by
 cases r<;>cases e<;>rfl
theorem KQ.fdc{l:List (Key×W)}{l':List (Key×V)}{Q:VK}{p:Ç}(k:KQ K cl μ H h (.fdc l) Q)(R:HR K cl μ H h)(pr:PR K μ H l l')(hp:H p=Á):Q (.ref p) (upd H p (.dK l')):=
 k μ _ _ (.side hp) (R.side hp) (.fdc ⟨.inl jp,R.fresh hp⟩ (pr.rk.1) rfl rfl ((pr.ext R (.side hp)).rk.2))
end
noncomputable def mY(md mk mv:ME):ME:=λρ=>bnd (md ρ) λx h=>if (gp h x).isSome=Â then bnd (mk ρ) (λy=>bnd (mv ρ) λz h=>match gp h x,keyOf y with
  | some l,À k=>À ((fb l k).getD z,h)
  | _,_=>Á) h else Á
section
variable{X:Cx}{cl:Cl}{o a b:Î}{mo ma mb:ME}{apos cpos pos:ė}
def WX(hu:X.A.units+64<û)(ho:SE X cl o mo)(ha:SE X cl a ma)(hb:SE X cl b mb)(m:M2 X o "get" apos a b cpos:=by exact⟨rfl,rfl,rfl,rfl⟩):SE X cl (.Call (.Attribute o "get" apos) [a,b] [] cpos) (mY mo ma mb):=
 PE.wk (YO ∅ ho ha hb m) λσ H Q q0=>by
  obtain⟨μ,h,ρ,w,h',R,er,e,k⟩:=q0;obtain⟨x,h1,e1,e⟩:=zD e;split at e
  .rename_i hd
   obtain⟨y,h2,e2,e⟩:=zD e;obtain⟨z,h3,e3,e⟩:=zD e;refine⟨μ,h,ρ,x,h1,R,er,e1,λcb H1 vx E1 R1 rx=>?_⟩;obtain⟨l0,hd⟩:=vO.mp hd;obtain⟨d,l',rfl,rd,_⟩:=lT R1 rx hd;refine⟨d,rfl,.inl ⟨l',rd⟩,cb,h1,ρ,y,h2,R1,er.ext R E1,e2,λgy H2 vy E2 R2 ry=>⟨gy,h2,ρ,z,h3,R2,(er.ext R E1).ext R1 E2,e3,λAG H3 vz E3 R3 rz=>?_⟩⟩;split at e
   .rename_i l k' el ek
    cases e;obtain⟨d2,l2,ed,So,pr⟩:=lT R3 ((rx.ext R1 E2).ext R2 E3) el;cases ed;have hk:=eW ry ek;subst hk;refine⟨xh l2 k',.inl ⟨l2,k',So,rfl,rfl⟩,?_⟩;have E:=E1.trans (E2.trans E3);have:=pr.val (k:=k');cases ev:fb l k' with
    | none=>rw[ev] at this k;rw[this];exact k AG H3 _ E R3 rz
    | some w0=>rw[ev] at this k;obtain⟨v0,e0,r0⟩:=this;rw[e0];exact k AG H3 _ E R3 r0
   .cases e
  .cases e
def Uj:SE X cl (.Dict [] [] pos) (eC (.fdc [])):=
 PE.wk Ze λσ H Q q0=>by
  obtain⟨μ,h,ρ,w,h',R,er,e,k⟩:=q0;cases e;exactλp hp=>k.fdc R .nil hp
noncomputable def XU:ME:=λ_ h=>À (.ref h.length,h++[.dic []])
def YR:SE X cl (.Dict [] [] pos) XU:=
 PE.wk Ze λσ H Q q0=>by
  obtain⟨μ,h,ρ,w,h',R,er,e,k⟩:=q0;cases e;exactλp hp=>k (μ++[p]) _ _ (.new hp) (R.new hp ⟨[],jp,rfl,.nil⟩) (.ref (by rw[<-R.len];simp))
end
def W6{A:Ø}(S:Stp it a P C)(hh:A.handled=Á)(AE:a≠it)(l:List Ã) :
  Draws prog w A it [it,a] l.length (λi v=>l[i]?=À v) (λi h=>P i h/\C h l) where
 live:=λ_ _ st=>let ⟨o,ho,_⟩:=S.obj st.1;⟨o,ho⟩
 frame:=λ_ _ _ st hk=>⟨S.keep st.1 λo e=>hk it (by simp) o e,S.keepC st.2 λo e=>hk a (by simp) o e⟩
 item:=λi s Q E hi st hQ=>S.item st.1 st.2 (x:=l[i]) (by simp[hi]) λh' NT Am=>hQ _ h' s.toks (by simp[hi]) ⟨NT,S.keepC st.2 λo e=>Am.extBut _ _ AE e⟩ Am
 done:=λs Q E st hE=>S.last hh st.1 st.2 (by simp) hE
section
variable{prog:Ï}{w:Ñ}{A:Ø}{E:Ã->Å->Prop}{s:Å}
def QB(S:Stp it a P C){l:List Ã}(hh:A.handled=Á)
  (he:IsEnum s.heap e it j old) (p:P i s.heap) (c:C s.heap l) (hx:l[i]?=Á) (hQ:∀h',ŵ it s.heap h'->Q Á { s with heap:=h' }):Æ (Í prog w) A (Ē (.ref e)) Q E s:=by
 have hT:s.TypeIs (.ref e) "enumerate":=⟨_,he,rfl⟩;unfold Ē;refine za (vI (jx (name:=ü "__next__") hT F.slot_enumerate_next (jh F.slot_enumerate_next hT F.entry_enumerate_next ?_ (F.args_enumerate_next_1 _))));show Æ _ _ (field (.ref e) 2 >>= _) _ _ _;refine za (jN he rfl (x:=.ref it) rfl ?_)
 refine za (S.last hh p c hx λh' x Sq NU=>?_);obtain⟨o,ho,hc⟩:=NU;refine za (qT (T:="StopIteration") (b:=Â) ⟨o,ho,hc⟩ pM ?_);exact zf (hQ _ Sq)
end
def W9(r:mz v o C) :
  Meets (ç.«enumerate.__new__» ⟨[.type "enumerate",v],[]⟩) (λ_ R s=>C s.heap/\R (.ok (.ret (.ref (s.heap.push o).objs.size))) { s with heap:=(s.heap.push o).push { cls:=.type "enumerate",data:=.fields #[.none,.bool Ä,.ref s.heap.objs.size,ā 0,.none,.none] } }):=
 .of_wp λprog w A R s h=>by
  obtain⟨hp,g,d,tk,os⟩:=s;obtain⟨k1,h⟩:=h;have EU:=sub_enumerate;have q1:∀{A:Ø} {E:Ã->Å->Prop} {Q:Ã->Å->Prop},Q (.ref hp.objs.size) ⟨hp.push o,g,d,tk,os⟩->Æ (Í prog w) A (ĥ v) Q E ⟨hp,g,d,tk,os⟩:=λq=>r prog w _ _ _ _ k1 q
  wp_walk
  refine wpAny_stack_any λst=>zf ?_
  split
  .rename_i c _ _ _ _ _
   cases (c==ú "enumerate")<;>(wp_walk using q1;exact⟨_,rfl,h⟩)
  .wp_walk using q1
   exact⟨_,rfl,h⟩
section
variable{prog:Ï}{w:Ñ}{A:Ø}{E:Ã->Å->Prop}{s:Å}
def QP{o:ø}(r:mz v o C)(k1:C s.heap)(hf:o.isFreed=Ä)
  (h:∀h',IsEnum h' (s.heap.objs.size+1) s.heap.objs.size 0 .none->h'.get? s.heap.objs.size=À o->(∀c o,s.heap.get? c=À o->h'.get? c=À o)->Q (.ref (s.heap.objs.size+1)) { s with heap:=h' }) :
  Æ (Í prog w) A (ķ (.type "enumerate") [v]) Q E s:=by
 refine callType_new F.called_enumerate (by decide) (F.typeCall_enumerate_1 _) (F.newCall_enumerate_1 _) (λobj=>F.args_object_init_2 obj _) F.entry_enumerate_new (W9 r) ⟨k1,?_⟩;have hz:(s.heap.push o).objs.size=s.heap.objs.size+1:=jP ..;have b2:((s.heap.push o).push { cls:=.type "enumerate",data:=.fields #[.none,.bool Ä,.ref s.heap.objs.size,ā 0,.none,.none] }).get? (s.heap.push o).objs.size=À _:=zE _ rfl;have b1:((s.heap.push o).push { cls:=.type "enumerate",data:=.fields #[.none,.bool Ä,.ref s.heap.objs.size,ā 0,.none,.none] }).get? s.heap.objs.size=À _:=zc _ (zE _ hf);show _/\_
 rw[hz] at b2 ⊢;exact⟨⟨_,b2,rfl⟩,h _ b2 b1 λc o x=>zc _ (zc _ x)⟩
end
noncomputable def HS (K : aab) (tp : Bool) (a : Ç) : It :=
  ⟨λi H => ∃ xs x, eE K tp H a xs /\ xs[i]? = À x,
   λi H v H' => ∃ p x, H p = Á /\ v = .ref p /\ H' = upd H p (.tup [.int i, x]) /\ (∀ xs, eE K tp H a xs -> xs[i]? = À x),
   λi H => ∃ xs, eE K tp H a xs /\ xs.length <= i⟩
def VS{P:Ï}{w:Ñ}{K:aab}(tp:Bool)(e it a:Ç)(AE:e≠it) :
  Turn P w K (.Tuple AV n AW) (HS K tp a) [e,it] e (λi h=>(∃old,IsEnum h e it i old)/\VT tp it a i h) where
 mem:=by simp
 obj:=λi h st b hb=>by
  obtain⟨⟨old,he⟩,p⟩:=st;erw[zj,zy,kY] at hb;rcases hb with rfl | rfl
  .exact⟨_,he,λv q=>by cases q⟩
  .exact(vT tp _ a).obj p
 keep:=λi h h' st k=>by
  obtain⟨⟨old,he⟩,p⟩:=st;exact⟨⟨old,k e (by simp) _ he⟩,(vT tp it a).keep p λo q=>k it (by simp) o q⟩
 item:=by
  intro X hP hw hK hc i ag s σ H E I hf st hg;subst hP hw hK;obtain⟨xs,x,d,hx⟩:=hg;obtain⟨⟨old,he⟩,p⟩:=st;obtain⟨l,r,c⟩:=xw I d;obtain⟨u,eu,ru⟩:=r.get hx;have ae:a≠e:=ba I d (hf e (by simp));have ai:a≠it:=ba I d (hf it (by simp));refine wpAny_pyNext_enum_itemD (W6 (A:=X.A.in1) (vT tp it a) (I.ok.hd hc) ai l) he ⟨p,c⟩ (zA.mp eu).1 AE (by simp[AE,jq ae]) λx' h' tk hP ho A6 hT hsz hk=>⟨_,rfl,?_⟩
  rw[eu] at hP;cases hP;refine wpAny_letOwnedTupleGo_enum ho λh2 Ey ES=>?_
  have elt:e<s.heap.objs.size:=zJ he;have O4:h2.get? s.heap.objs.size=À { cls:=.type "tuple",data:=.seq #[.int i tk,u] }:=ES.extBut _ _ (vQ elt) hT;have I2:Inv X ag σ (upd H s.heap.objs.size (.tup [.int i,x])) { s with heap:=h2,toks:=tk+1 }:=fv (t':=tk+1) (fp:=[e,it]) I (λb o hb q=>ES.extBut _ _ (λz=>hb (by simp[z])) (hk b o (λz=>hb (by simp[z])) (λz=>hb (by simp[z])) q)) hf (zr _)
   ⟨by show 2<=Ð;decide,[.int i tk,u],.cons ⟨tk,rfl⟩ (.cons ru .nil),⟨_,O4,rfl,_,rfl⟩,⟨_,O4,rfl⟩⟩
  refine⟨.ref s.heap.objs.size,_,I2,rfl,⟨_,x,I.hok.fresh (zr _),rfl,rfl,λSi q=>by rw[og I q d];exact hx⟩,⟨⟨_,Ey⟩,(vT tp it a).keep A6.1 λo q=>ES.extBut _ _ (jq AE) q⟩,λb hb=>?_⟩;obtain⟨o,q⟩:∃o,s.heap.get? b=À o:=by
   erw[zj,zy,kY] at hb;rcases hb with rfl | rfl
   .exact⟨_,he⟩
   .obtain⟨o,q,_⟩:=(vT tp _ a).obj p;exact⟨o,q⟩
  rw[kG (zM (zJ q))];exact(hf b hb).1
 done:=by
  intro X hP hw hK hc i ag s σ H E I hf st hg;subst hP hw hK;obtain⟨xs,d,hx⟩:=hg;obtain⟨⟨old,he⟩,p⟩:=st;obtain⟨l,r,c⟩:=xw I d;exact QB (vT tp it a) (I.ok.hd hc) he p c (jz (by rw[<-r.length];exact hx)) λh' NU=>⟨rfl,nr (t':=s.toks) (fp:=[e,it]) I (λb o hb q=>NU b o (λz=>hb (by simp[z])) q) hf⟩
 self:=λ_ _ _ _ _ st h=>by obtain⟨⟨old,he⟩,_⟩:=st;exact wpAny_pyIter_enum he h
noncomputable def numbered(l:List W):List W:=l.zipIdx.map λp=>.tup [.int (p.2:Nat),p.1]
noncomputable def mJ(ws:List W):M Src:=λh=>match ws with
 | [x]=>match u4 h x with
  | some l=>À (.items (numbered l),h)
  | none=>Á
 | _=>Á
noncomputable def yk(ms:List ME):MI:=λρ=>bnd (xp ms ρ) mJ
def ie(l:List W)(i:Nat):(numbered l)[i]?=(l[i]?).map λw=>.tup [.int (i:Nat),w]:=by
 unfold numbered;rw[zZ,pG];cases l[i]?<;>simp
section
variable{X:Cx}{cl:Cl}{AV:List Î}{n:Nat}{AW p pos:ė}{e1:Î}{ms:List ME}
def U4(hm:X.mg "enumerate" = Á)(ha:SA X cl [e1] ms)(hg:↥(Gl X "enumerate"))(r6:↥(Ê [e1] X.env=(Ä,å e1 X.env)::Ê [] X.env))(Ak:↥((Þ pos (Ê [] X.env)).any (·.1)=Ä)) :
  SI X cl (.Tuple AV n AW) (.Call (.Name "enumerate" p) [e1] [] pos) (yk ms):=by
 rintro ag s σ H R I ⟨μ,h,ρ,src,h',R0,er,e,k⟩;obtain⟨ws,h1,Ii,e⟩:=zD e;have hv:Ù "enumerate" = À (.type "enumerate"):=by decide +kernel
 refine jH (y6 I hg hm hv ?_ (by decide) (by decide));refine jL (kg (ha pos ag s σ H (λvs H1=>∃cb,Ext μ H cb H1/\HR X.K cl cb H1 h1/\RWs X.K cb H1 ws vs) I ⟨μ,h,ρ,ws,h1,R0,er,Ii,λcb H1 vs E1 R1 rs=>⟨cb,E1,R1,rs⟩⟩) ?_) r6 Ak;rintro us s1 ⟨vs,H1,I1,r1,cb,E1,R1,rs⟩;unfold mJ at e;split at e
 .rename_i x
  split at e
  .rename_i l q1
   cases e;cases rs with | cons rx t=>cases t with | nil=>
   obtain⟨t1,a1,xs,rfl,Mh,d1,f1⟩:=lz (cl:=cl) rx q1;obtain⟨u1,rfl,Lg⟩:=r1.one;cases Lg;obtain⟨l1,v1,c1⟩:=xw I1 d1;refine QP (JS t1 a1 l1) c1 (l4 t1 a1) λh2 b2 b1 kp=>?_
   refine wpAny_pyIter_enum b2 ?_;refine⟨_,_,_,_,H1,rfl,I1.kept (t':=s1.toks) kp,VS t1 _ _ a1 (xX _),⟨⟨_,b2⟩,nW b1⟩,λb hb=>?_,k cb H1 _ E1 R1 ?_⟩
   .have Lh:s1.heap.objs.size<=b:=by
     erw[zj,zy,kY] at hb;rcases hb with rfl | rfl<;>omega
    exact I1.fpOk Lh (I1.hok.fresh Lh)
   .intro gy H2 h3 E2 R2 i
    have Li:=f1 gy H2 h3 R1 E2 R2;have Lj:=Mh.ext R1 E2;refine⟨λw ew=>?_,λes=>?_⟩
    .have Ag:(numbered l)[i]?=À w:=zX ew
     rw[ie] at Ag;cases ez:l[i]? with
     | none=>rw[ez] at Ag;cases Ag
     | some w0=>
      rw[ez] at Ag;cases Ag;obtain⟨vx,Mi,NP⟩:=Lj.get ez;refine⟨⟨xs,vx,Li,Mi⟩,λv H3 yl=>?_⟩;obtain⟨pp,x',hp,rfl,rfl,w1⟩:=yl;have z1:=w1 xs Li;rw[Mi] at z1;cases z1;exact⟨.side hp,R2.side hp,.tup (SqT.of jp) (.cons (.int _) (.cons (NP.ext R2 (.side hp)) .nil))⟩
    .have es':(numbered l)[i]?=Á:=zX es
     rw[ie] at es';refine⟨xs,Li,?_⟩;rw[<-Mh.length];cases ez:l[i]? with
     | none=>exact jW.mp ez
     | some w0=>rw[ez] at es';cases es'
  .cases e
 .cases e
end
noncomputable def met(val:Nat->È)(i:Nat):List È:=((ß i).map val).foldl (λl v=>if l.any (· == v) then l else l++[v]) []
theorem lA(val:Nat->È)(i:Nat):met val (i+1)=if (met val i).any (· == val i) then met val i else met val i++[val i]:=by
 unfold met;rw[List.range_succ,qp,List.foldl_append];rfl
theorem QF(val:Nat->È):∀i,(met val i).length<=i
 | 0=>zr _
 | i+1=>by
  rw[lA];have ih:=QF val i;split
  .omega
  .rw[zR,qt];omega
def Bg(l:List È)(v k:È):(if l.any (· == v) then l else l++[v]).any (· == k)=(l.any (· == k)||decide (k=v)):=by
 by_cases h:l.any (· == v)=Â
 .rw[zQ h]
  by_cases e:k=v
  .subst e;rw[h];simp
  .simp[e]
 .rw[zW h,List.any_append]
  by_cases e:k=v
  .subst e;simp
  .have hb:(v==k)=Ä:=by simpa[vN] using (λh':v=k=>e h'.symm)
   simp[hb,e]
section
variable{prog:Ï}{w:Ñ}{A:Ø}{R:Result->Å->Prop}{I:Ç}{fp wr:List Ç}{G:Array ľ->Array ľ->Prop}{n:Nat}{P:Nat->Ã->Prop}{St:Nat->Å->Prop}
def Zj(W:WalksS prog w A.in1 I fp wr G n P St)(S:Ç)(EV:S∉fp)(val:Nat->È)(Em:∀i v,P i v->∃t,v=.str (val i) t)(hb:n+1<scanBound) :
  ∀(k i:Nat) (s:Å),n-i=k->i<=n->St i s->s.heap.SetOf (strKind prog w) S (λk'=>(met val i).any (· == k')) (met val i).length->
   (∀s',Moved (S::wr) G s s'->s'.heap.SetOf (strKind prog w) S (λk'=>(met val n).any (· == k')) (met val n).length->R (.ok (.ret .none)) s')->
   Ĺ (Í prog w) A (.builtin "set.update.loop" ⟨[.ref S,.ref I],[]⟩) R s:=by
 have NV:S∉wr:=λh=>EV (W.sub _ h)
 have up:∀b∈wr,b∈S::wr:=λb hb=>zp _ hb
 have stay:∀{m:Nat} {T:È->Bool} {s s':Å},s.heap.SetOf (strKind prog w) S T m->Moved wr G s s'->s'.heap.SetOf (strKind prog w) S T m:=λhS hm=>by obtain⟨o,es,ep,t,ho,rest⟩:=hS;exact⟨o,es,ep,t,hm.heap S _ NV ho,rest⟩
 intro k;induction k with
 | zero=>
  intro i s hk hi r6 hS hR;obtain rfl:i=n:=by omega
  refine jO qJ ?_;rw[jF jE _];show Æ _ A.in1 (Ē (.ref I) >>= _) _ _ s;refine za (W.done s _ _ r6 λs' hm=>?_)
  show Æ _ A.in1 (ret Ö) _ _ s';exact zf (hR s' (hm.mono up) (stay hS hm))
 | succ k ih=>
  intro i s hk hi r6 hS hR;have xa:i<n:=by omega
  refine jO qJ ?_;rw[jF jE _];show Æ _ A.in1 (Ē (.ref I) >>= _) _ _ s;refine za (W.item i s _ _ xa r6 λv s' hP A6 hm=>?_)
  obtain⟨t,rfl⟩:=Em i v hP;have Az:=stay hS hm;show Æ _ A.in1 (Đ [Ĝ (val i) t] (setAdd S (.str (val i) t)) >>= _) _ _ s';refine za (jf ?_)
  unfold setAdd;refine jf (za ((strKind prog w).pyHash (k:=val i) (yH _ _ _ _) ?_));refine wpAny_setAddHashed_of (knd:=strKind prog w) (s:={ s' with toks:=s'.toks+1 }) (yH _ _ _ _) rfl Az (by have:=QF val i;omega) λh' IS NW=>?_
  have Sr:h'.SetOf (strKind prog w) S (λk'=>(met val (i+1)).any (· == k')) (met val (i+1)).length:=SetOf_congr NW (λk'=>by rw[lA,Bg]) (by rw[lA];split<;>simp);refine zf ⟨vh jE _,ih (i+1) _ ∅ xa (W.frame _ s' _ _ A6 (qK _) λb hb o e=>?_) Sr λIr Ll NX=>?_⟩
  .rw[IS.2 b (λh:b=S=>EV (by rw[<-h];exact hb))];exact e
  .refine hR Ir (Moved.trans W.gtrans ((hm.mono up).then_heap (qK _) λb o hb e=>?_) Ll) NX
   rw[IS.2 b (λh:b=S=>hb (by rw[h];exact zz))];exact e
end
def sub_tuple_set:isSubtype (.type "tuple") (.type "set")=pure Ä:=by rw[vW];kernel_rfl
def sub_tuple_frozenset:isSubtype (.type "tuple") (.type "frozenset")=pure Ä:=by rw[vW];kernel_rfl
section
variable{prog:Ï}{w:Ñ}{A:Ø}{E:Ã->Å->Prop}{s:Å}
set_option maxHeartbeats 3200000 in
def WV{us:List Ã}{vals:List È}(hT:T="list" \/ T="tuple")(hl:∃o n,s.heap.get? l=À o/\o.cls=.type T/\o.data=.seq us.toArray n)
  (hh:A.handled=Á) (hv:∀(i:Nat) (v:Ã),us[i]?=À v->∃t,v=Ĝ (vals.getD i default) t) (hb:us.length+1<scanBound)
  (h:∀(h':Õ) (tk:Nat),h'.SetOf (strKind prog w) s.heap.objs.size (λk'=>(met (λi=>vals.getD i default) us.length).any (· == k')) (met (λi=>vals.getD i default) us.length).length->
   (∀b o,b<s.heap.objs.size->s.heap.get? b=À o->h'.get? b=À o)->Q (.ref s.heap.objs.size) { s with heap:=h',toks:=tk }):Æ (Í prog w) A (ķ (.type "set") [.ref l]) Q E s:=by
 obtain⟨c,tl,NY⟩:=j5.mro;have f1:=j5.made;have f2:=j5.sub;refine wpAny_call (u5 ?_);show Æ _ _ (callAny (.type "set") _) _ _ _
 refine zf ⟨Code.quiet_builtin _ ⋯,jO F.entry_type_call ?_⟩;rw[Around.under_plain (Ů "set" [.ref l] []) rfl];have f3:=j5.notType;have f4:=j5.canCreate;have f5:=F.typeCall_set_1 (.ref l);repeat (any_goals (first | assumption | wp_step))
 refine wI (code_set_new_1 (.ref l) (E:=E) (Q₁:=λobj d5=>∃led:Bool,obj=.ref s.heap.objs.size/\d5={ s with heap:=s.heap.push { cls:=.type "set",dict:=Á,data:=.set #[] 0 (.fresh 0 0 led) } }) λled=>⟨led,rfl,rfl⟩) λr d5 hr=>?_
 cases r with
 | error e=>exact hr
 | ok fl=>
  cases fl with
  | ret obj=>
   obtain⟨led,rfl,rfl⟩:=hr;generalize A7:s.heap.push { cls:=.type "set",dict:=Á,data:=.set #[] 0 (.fresh 0 0 led) }=h1;have old:∀b o,s.heap.get? b=À o->h1.get? b=À o:=λb o e=>by rw[<-A7];exact zc _ e
   have sz:h1.objs.size=s.heap.objs.size+1:=by rw[<-A7,jP]
   have hS:h1.get? s.heap.objs.size=À { cls:=.type "set",dict:=Á,data:=.set #[] 0 (.fresh 0 0 led) }:=by rw[<-A7];exact zE _ rfl
   have Ml:Shared.TypeIs { s with heap:=h1 } (.ref s.heap.objs.size) "set":=⟨_,hS,rfl⟩;have g1:=j5.init.lookup;have g2:=j5.init.bind (.ref s.heap.objs.size);repeat (any_goals (first | assumption | wp_step))
   refine wI (Ŷ (R:=wants (λr mN=>r=.none/\∃h' tk,mN={ s with heap:=h',toks:=tk }/\h'.SetOf (strKind prog w) s.heap.objs.size (λk'=>(met (λi=>vals.getD i default) us.length).any (· == k')) (met (λi=>vals.getD i default) us.length).length /\
     (∀b o,b<s.heap.objs.size->s.heap.get? b=À o->h'.get? b=À o)) E) j5.init.plain F.entry_set_init (check_set_init_1 Ml ?_)) λLm mN AA=>?_
   .obtain⟨⟨oc,od,O5,Es⟩,nl,Mn,Ew,Mo⟩:=hl
    simp only at Ew Mo;subst Ew Mo;have EW:=old _ _ Mn;have Mp:l<s.heap.objs.size:=zJ Mn;have Mq:A.in1.in1.in1.handled=Á:=by simp[hh]
    have EX:l≠h1.objs.size:=zM (by rw[sz];exact jD Mp);have EV:s.heap.objs.size∉[h1.objs.size,l]:=by
     erw[zj,zy,kY,ye];exact⟨zM (by rw[sz];exact jY _),vQ Mp⟩
    have IT:∀o,(h1.push o).SetOf (strKind prog w) s.heap.objs.size (λk'=>(met (λi=>vals.getD i default) 0).any (· == k')) (met (λi=>vals.getD i default) 0).length:=λo=>
     SetOf_congr ((setObjOf_fresh (knd:=strKind prog w) led).setOf (zc _ hS) (by unfold scanBound;omega)) (λ_=>rfl) rfl
    have fin:∀{o:ø} (s':Å) {Q':Flow->Å->Prop},Moved [s.heap.objs.size,h1.objs.size] (λa b=>b=a) { s with heap:=h1.push o } s'->s'.heap.SetOf (strKind prog w) s.heap.objs.size (λk'=>(met (λi=>vals.getD i default) us.length).any (· == k')) (met (λi=>vals.getD i default) us.length).length->
      (∃h' tk,s'={ s with heap:=h',toks:=tk }/\h'.SetOf (strKind prog w) s.heap.objs.size (λk'=>(met (λi=>vals.getD i default) us.length).any (· == k')) (met (λi=>vals.getD i default) us.length).length/\(∀b o,b<s.heap.objs.size->s.heap.get? b=À o->h'.get? b=À o)):=by
     intro o s' _ hm Az;obtain⟨h',g',d',As,EH⟩:=s';obtain rfl:g'=s.gens:=hm.gens;obtain rfl:d'=s.drawn:=hm.drawn;obtain rfl:EH=s.os:=hm.os;exact⟨h',As,rfl,Az,λb o hb e=>hm.heap b o (by erw[zj,zy,kY,ye];exact⟨zM hb,zM (by rw[sz];exact jD hb)⟩) (zc _ (old _ _ e))⟩
    rcases hT with rfl | rfl
    .have a1:=F.sub_list_set;have a2:=F.sub_list_frozenset
     have a3:(ú "list" == ú "dict")=Ä:=by decide
     have A8:h1.IsList l us.toArray:=⟨_,EW,rfl,nl,rfl⟩;unfold ç.«set.__init__» noKeywords ó;generalize hPI:ĥ=PI;wp_walk
     subst hPI;refine vH A8 (za (wF ?_));refine Zj ((pU Mq _ l EX us.toArray).toS) s.heap.objs.size EV (λi=>vals.getD i default) (λi v e=>hv i v (by simpa using e)) (by simpa using hb) (us.toArray.size-0) 0 _ ∅ (jQ _) ⟨⟨_,zE _ rfl,rfl,rfl⟩,A8.push _⟩ (IT _) λs' hm Az=>?_
     show Æ _ _ _ _ _ _
     refine zf ?_;show Æ _ _ (ret Ö) _ _ _
     exact zf ⟨rfl,fin (Q':=λ_ _=>True) s' hm (by simpa using Az)⟩
    .have a1:=sub_tuple_set;have a2:=sub_tuple_frozenset
     have a3:(ú "tuple" == ú "dict")=Ä:=by decide
     have A8:h1.IsTuple l us.toArray:=⟨_,EW,rfl,nl,rfl⟩;unfold ç.«set.__init__» noKeywords ó;generalize hPI:ĥ=PI;wp_walk
     subst hPI;refine wj A8 (za (wF ?_));refine Zj ((Walks.tuple Mq _ l EX us.toArray).toS) s.heap.objs.size EV (λi=>vals.getD i default) (λi v e=>hv i v (by simpa using e)) (by simpa using hb) (us.toArray.size-0) 0 _ ∅ (jQ _) ⟨⟨_,zE _ rfl,rfl,rfl⟩,A8.at λo e=>zc _ e⟩ (IT _) λs' hm Az=>?_
     show Æ _ _ _ _ _ _
     refine zf ?_;show Æ _ _ (ret Ö) _ _ _
     exact zf ⟨rfl,fin (Q':=λ_ _=>True) s' hm (by simpa using Az)⟩
   .cases Lm with
    | error e=>exact AA
    | ok fl₂=>
     cases fl₂ with
     | ret r=>
      obtain⟨rfl,h',tk,rfl,Az,NZ⟩:=AA;repeat (any_goals (first | assumption | wp_step))
      exact h _ _ Az NZ
     | _=>exact AA.elim
  | _=>exact hr.elim
end
end ML
namespace ML
open PySem PySem.Spec PyProof.Rows L2
noncomputable def strsOf:List W->Option (List È)
 | []=>À []
 | .str b::r=>match strsOf r with
  | some l=>À (b::l)
  | none=>Á
 | _=>Á
noncomputable def unlike(l:List È):List È:=l.foldl (λl v=>if l.any (· == v) then l else l++[v]) []
noncomputable def l6(w:W):M W:=λh=>match qS h w with
 | some l=>match strsOf l with
  | some bs=>if bs.length<=1000 then À (.int (unlike bs).length,h) else Á
  | none=>Á
 | none=>Á
section
variable{K:aab}{μ:List Ç}{H:Hp}
theorem rh:∀{l:List W} {vs:List V} {us:List Ã} {bs:List È},strsOf l=À bs->RWs K μ H l vs->Vals vs us->us.length=bs.length/\∀(i:Nat) (u:Ã),us[i]?=À u->∃t,u=Ĝ (bs.getD i default) t
 | [],_,_,_,e,.nil,.nil=>by cases e;exact⟨rfl,λi u e=>by simp at e⟩
 | .str b::r,_,_,_,e,.cons rb rr,.cons tb tr=>by
  unfold strsOf at e;split at e
  .rename_i l e'
   cases e;cases rb;obtain⟨t,rfl⟩:=tb;obtain⟨h1,h2⟩:=rh e' rr tr;refine⟨by simp[h1],λi u e=>?_⟩;cases i with
   | zero=>simp at e;subst e;exact⟨t,rfl⟩
   | succ i=>simpa using h2 i u (by simpa using e)
  .cases e
 | .non::r,_,_,_,e,_,_=>by cases e
 | .bl _::r,_,_,_,e,_,_=>by cases e
 | .int _::r,_,_,_,e,_,_=>by cases e
 | .tup _::r,_,_,_,e,_,_=>by cases e
 | .fls _::r,_,_,_,e,_,_=>by cases e
 | .ref _::r,_,_,_,e,_,_=>by cases e
 | .fdc _::r,_,_,_,e,_,_=>by cases e
 | .fn _::r,_,_,_,e,_,_=>by cases e
end
def UT(bs:List È):met (λi=>bs.getD i default) bs.length=unlike bs:=by
 unfold met unlike;congr 1
 apply wz
 .simp
 .intro i h1 h2;simp at h1;simp[h1]
section
variable{X:Cx}{cl:Cl}{a:Î}{ma:ME}{p p2 p3 pos:ė}
def Vi(hc:X.calm=Â)(hl:X.mg "len" = Á)(hs:X.mg "set" = Á)(ha:SE X cl a ma)(hg:↥(Gl X "len"))(Ij:↥(Gl X "set"))
  (Ez:↥(Ê [a] X.env=(Ä,å a X.env)::Ê [] X.env)) (A9:↥((Þ p3 (Ê [] X.env)).any (·.1)=Ä))
  (Ey:↥(Ê [.Call (.Name "set" p2) [a] [] p3] X.env=(Ä,å (.Call (.Name "set" p2) [a] [] p3) X.env)::Ê [] X.env)) (EY:↥((Þ pos (Ê [] X.env)).any (·.1)=Ä)) :
  SE X cl (.Call (.Name "len" p) [.Call (.Name "set" p2) [a] [] p3] [] pos) (wm l6 ma):=by
 rintro ag s σ H Q I ⟨μ,h,ρ,w,h',R,er,e,k⟩;obtain⟨x,h1,e1,e⟩:=zD e;have hv:Ù "set" = À (.type "set"):=by decide +kernel
 refine jH (y6 I hg hl PySem.boot_len ?_ (by decide) (by decide));refine qX ?_ Ey EY;rw[Ey];show Æ _ _ (š ((Ä,å (.Call (.Name "set" p2) [a] [] p3) X.env)::Þ pos (Ê [] X.env))) _ _ s
 have h0:∀{q:ė},Þ q (Ê [] X.env)=[]:=λ{q}=>rfl
 rw[h0];refine qj ?_;refine jH (y6 I Ij hs hv ?_ (by decide) (by decide));refine jL ?_ Ez A9;rw[Ez];show Æ _ _ (š ((Ä,å a X.env)::Þ p3 (Ê [] X.env))) _ _ s
 rw[h0];refine qj (kg (ha ag s σ H (λv H1=>∃cb,Ext μ H cb H1/\HR X.K cl cb H1 h1/\RW X.K cb H1 x v) I ⟨μ,h,ρ,x,h1,R,er,e1,λcb H1 v E1 R1 r=>⟨cb,E1,R1,r⟩⟩) ?_);rintro u s1 ⟨v,H1,I1,r1,cb,E1,R1,rv⟩;refine qb ?_;unfold l6 at e;split at e
 .rename_i l el
  split at e
  .rename_i bs eb
   split at e
   .rename_i d6
    cases e;obtain⟨d,vs,rfl,sq,ra⟩:=yY R1 rv el;cases r1;have fin:∀{us:List Ã} {T:String},(T="list" \/ T="tuple")->Vals vs us->(∃o n,s1.heap.get? d=À o/\o.cls=.type T/\o.data=.seq us.toArray n)->Æ (Í X.prog X.w) X.A (ķ (.type "set") [.ref d]) (λv mN=>Æ (Í X.prog X.w) X.A (ķ (.builtin "len") [v]) (EP X ag σ Q) X.xe mN) X.xe s1:=by
     intro us T hT rv ho;obtain⟨Ss,Su⟩:=rh eb ra rv;refine WV hT ho (I1.ok.hd hc) Su (by unfold scanBound;omega) λh2 tk hS kp=>?_
     rw[Ss,UT] at hS;have I2:Inv X ag σ H1 { s1 with heap:=h2,toks:=tk }:=I1.kept (t':=tk) λb o e=>kp b o (zJ e) e
     obtain⟨o,es,ep,t,go,hex,hd,hel,IC,xa,hf,hn⟩:=hS;refine call_len_set (s:={ s1 with heap:=h2,toks:=tk }) go hex hd hf (by unfold scanBound at xa;omega) ⟨.int _,H1,I2.tok _,⟨_,rfl⟩,?_⟩;rw[hn];exact k cb H1 _ E1 R1 (.int _)
    rcases sq with sq | sq
    .obtain⟨its,rv,⟨o,n,g1,g2,g3,g4⟩,_⟩:=I1.list sq
     exact j6 (fin (.inl rfl) rv ⟨o,n,g1,g2,g4⟩) (λv mN q=>qb q) λ_ _ e=>e
    .obtain⟨its,rv,⟨o,g1,g2,n,g4⟩,_⟩:=I1.tuple sq
     exact j6 (fin (.inr rfl) rv ⟨o,n,g1,g2,g4⟩) (λv mN q=>qb q) λ_ _ e=>e
   .cases e
  .cases e
 .cases e
end
noncomputable def sk:List (ME×ME)->En->M (List (W×W))
 | [],_=>λh=>À ([],h)
 | (a,b)::r,ρ=>bnd (a ρ) λx=>bnd (b ρ) λy=>bnd (sk r ρ) λps h=>À ((x,y)::ps,h)
noncomputable def keysOf:List (W×W)->Option (List (Key×W))
 | []=>À []
 | (x,y)::r=>match keyOf x,keysOf r with
  | some k,À l=>À ((k,y)::l)
  | _,_=>Á
open Classical in
noncomputable def Jj(ms:List (ME×ME)):ME:=λρ h=>match sk ms ρ (h++[.dic []]) with
 | some (ps,h2)=>match keysOf ps with
  | some l=>if h2=h++[.dic []]/\l.length<=15/\lows h.length (l.map (·.2))=Â then À (.fdc (wq [] l),h) else Á
  | none=>Á
 | none=>Á
section
variable{K:aab}{cl:Cl}{μ d3:List Ç}{H H':Hp}{h:MH}
inductive PW2(K:aab)(μ:List Ç)(H:Hp):List (W×W)->List (V×V)->Prop
 | nil:PW2 K μ H [] []
 | cons {x y:W} {u v:V} {l:List (W×W)} {l':List (V×V)}:RW K μ H x u->RW K μ H y v->PW2 K μ H l l'->PW2 K μ H ((x,y)::l) ((u,v)::l')
theorem PW2.keys:∀{l:List (W×W)} {l':List (V×V)} {ks:List (Key×W)},PW2 K μ H l l'->keysOf l=À ks->∃lx:List (Key×V),l'=lx.map (λkv=>(kV kv.1,kv.2))/\PR K μ H ks lx
 | _,_,_,.nil,e=>by cases e;exact⟨[],rfl,.nil⟩
 | _,_,_,.cons rx ry t,e=>by
  unfold keysOf at e;split at e
  .rename_i k l e1 e2
   cases e;obtain⟨lx,h1,h2⟩:=t.keys e2;have:=eW rx e1;subst this;exact⟨(k,_)::lx,by simp[h1],.cons ry h2⟩
  .cases e
theorem PR.cut(pre:μ<+:d3){l:List (Key×W)}(p:lows μ.length (l.map (·.2))=Â)(q:PR K d3 H l l'):PR K μ H l l':=by
 induction q with
 | nil=>exact .nil
 | @cons k w v l l' r t ih=>
  have p':ML.low μ.length w=Â/\lows μ.length (l.map (·.2))=Â:=by
   erw[zx] at p;unfold lows at p;simpa using p
  exact .cons (RW.cut pre p'.1 r) (ih p'.2)
theorem mU:∀{ms:List (ME×ME)} {μ:List Ç} {H:Hp} {h:MH} {σ:L2.St} {Q:List (V×V)->Hp->Prop} {ρ:En} {ps:List (W×W)} {h':MH},HR K cl μ H h->ER K μ H ρ σ->sk ms ρ h=À (ps,h')->
  (∀d3 H' M6,Ext μ H d3 H'->HR K cl d3 H' h'->PW2 K d3 H' ps M6->Q M6 H')->nB (ms.map λp=>(tM K cl p.1,tM K cl p.2)) σ H Q
 | [],μ,H,h,σ,Q,ρ,ps,h',R,er,e,k=>by cases e;exact k μ H [] .refl R .nil
 | (a,b)::r,μ,H,h,σ,Q,ρ,ps,h',R,er,e,k=>by
  obtain⟨x,h1,e1,e⟩:=zD e;obtain⟨y,h2,e2,e⟩:=zD e;obtain⟨qs,h3,e3,e⟩:=zD e;cases e
  exact⟨μ,h,ρ,x,h1,R,er,e1,λcb H1 vx E1 R1 rx=>⟨cb,h1,ρ,y,h2,R1,er.ext R E1,e2,λgy H2 vy E2 R2 ry=>
   mU R2 ((er.ext R E1).ext R1 E2) e3 λAG H3 M6 E3 R3 pw=>k AG H3 _ (E1.trans (E2.trans E3)) R3 (.cons ((rx.ext R1 E2).ext R2 E3) (ry.ext R2 E3) pw)⟩⟩
end
section
variable{X:Cx}{cl:Cl}{pos:ė}{keys:List (Option Î)}{values:List Î}{ms:List (ME×ME)}{k v:Î}{mk mv:ME}
noncomputable def Qk(X:Cx)(cl:Cl)(pos:ė)(keys:List (Option Î))(values:List Î)(ms:List (ME×ME)):Prop:=Qc X pos keys values (ms.map λp=>(tM X.K cl p.1,tM X.K cl p.2))
def Dc:Qk X cl pos [] [] []:=Bt
def BV(hk:SE X cl k mk)(hv:SE X cl v mv)(hr:Qk X cl pos keys values ms):Qk X cl pos (À k::keys) (v::values) ((mk,mv)::ms):=YC hk hv hr
def By(hp:Qk X cl pos keys values ms)(pf:↥(keys.all (·.isSome)=Â))(hl:↥(keys.length=values.length))(h0:keys≠[]:=by exactλz=>nomatch z)(Nr:⇑(keys.length<=15)):SE X cl (.Dict keys values pos) (Jj ms):=
 PE.wk (Uy hp pf hl h0 Nr) λσ H Q q0=>by
  obtain⟨μ,h,ρ,w,h',R,er,e,kq⟩:=q0;unfold Jj at e;split at e
  .rename_i ps h2 e1
   split at e
   .rename_i l el
    split at e
    .rename_i c
     obtain⟨rfl,c2,c3⟩:=c;cases e;intro p hp;have R1:HR X.K cl (μ++[p]) (upd H p (.dK [])) (h++[.dic []]):=R.new hp ⟨[],jp,rfl,.nil⟩;refine mU R1 (er.ext R (.new hp)) e1 λgy H2 M6 E2 R2 pw=>?_
     have N0:gy[h.length]?=À p:=E2.get (by rw[<-R.len];simp);obtain⟨l0,ho,r0⟩:=R2.ob h.length p (.dic []) N0 (by simp);have Sv:l0=[]:=by
      have:=r0.1;cases l0 with
      | nil=>rfl
      | cons=>simp at this
     subst Sv;obtain⟨lx,rfl,pr⟩:=pw.keys el;refine⟨ho,lx,rfl,by rw[<-pr.len];exact c2,?_⟩;have E3:Ext gy H2 gy (upd H2 p (.dK (w8 [] lx))):=.put N0;have pm:PR X.K gy (upd H2 p (.dK (w8 [] lx))) (wq [] l) (w8 [] lx):=(pr.ext R2 E3).merge .nil;have R3:=R2.put (o:=.dic (wq [] l)) N0 ⟨w8 [] lx,jp,pm.rk⟩;have E:Ext μ H gy (upd H2 p (.dK (w8 [] lx))):=(Ext.new hp).trans (E2.trans E3);have pre:h<+:(h++[MO.dic []]).set h.length (.dic (wq [] l)):=by
      rw[qm _ _ (zr _)];exact qy _ _
     have R4:=R.cut E R3 pre;have pc:=((PR.cut E.pre (by rw[R.len];exact c3) (pr.ext R2 E3)).merge (.nil:PR X.K μ _ [] []));exact kq μ _ _ ⟨jw _,λb o e n=>⟨(E.fr b o e n).1,n⟩⟩ R4 (.fdc ⟨.inl jp,R.fresh hp⟩ pc.rk.1 rfl rfl pc.rk.2)
    .cases e
   .cases e
  .cases e
end
theorem sr(l:List Ã):(ß l.length).filterMap (λ(k:Nat)=>l.toArray[(((l.length:Int)-1)+(k:Int)*(-1)).toNat]?)=l.reverse:=by
 apply xO
 intro i;have e:(ß l.length).filterMap (λ(k:Nat)=>l.toArray[(((l.length:Int)-1)+(k:Int)*(-1)).toNat]?)=(ß l.length).map (λk=>l.getD (l.length-1-k) default):=by
  have fm:∀{f:Nat->Option Ã} {g:Nat->Ã} (l:List Nat),(∀x∈l,f x=À (g x))->l.filterMap f=l.map g:=by
   intro f g l;induction l with
   | nil=>intro _;rfl
   | cons x r ih=>
    intro hx;rw[vL,hx x zz,zx,ih λy hy=>hx y (zp _ hy)]
  refine fm _ λk hk=>?_
  rw[jV] at hk;have e1:(((l.length:Int)-1)+(k:Int)*(-1)).toNat=l.length-1-k:=by omega
  rw[e1];simp[Ĕ,zL (show l.length-1-k<l.length by omega)]
 rw[e,zZ];by_cases hi:i<l.length
 .rw[wJ hi,List.getElem?_reverse hi]
  simp[Ĕ,zL (show l.length-1-i<l.length by omega)]
 .rw[jz (by simpa using hi),jz (by simpa using hi)]
  rfl
section
variable{prog:Ï}{w:Ñ}{A:Ø}{E:Ã->Å->Prop}{s:Å}
open HT in
def ZN{sl:Ç}{n:Nat}(hs:s.heap.IsSliceOf sl .none .none (.int (-1) t))(h:Q ((n:Int)-1,-1,n) s):Æ (Í prog w) A (Ĉ (.ref sl) (pure (n:Int))) Q E s:=by
 obtain⟨os,Ej,AC,Ih⟩:=id hs;unfold Ĉ ŏ;refine za (za (jN Ej Ih (x:=.none) rfl (za (jN Ej Ih (x:=.none) rfl (za (jN Ej Ih (x:=.int (-1) t) rfl (zf ?_)))))));refine za (slicePart_int ?_);show Æ _ _ (if ((-1:Int)==0)=Â then _ else _) _ _ s
 rw[zW (by decide)];refine za (uJ (za (uJ (za (zf ?_)))));show Æ _ _ (match ì Á Á (-1) (n:Int) with | (lo,hi)=>pure (lo,(-1:Int),æ lo hi (-1))) _ _ s
 have e1:ì Á Á (-1) (n:Int)=((n:Int)-1,-1):=by
  unfold ì;simp
 rw[e1];have e2:æ ((n:Int)-1) (-1) (-1)=n:=by
  unfold æ;by_cases h0:n=0
  .subst h0;decide
  .rw[zW (by decide),zQ ∅]
   show(((n:Int)-1 - -1-1)/(- -1)+1).toNat=n
   rw[show(- -1:Int)=1 by decide,pA];omega
 refine zf ?_;rw[e2];exact h
def iX{items:List Ã}(ht:Ő s.heap t items.toArray)(hs:s.heap.IsSliceOf sl .none .none (.int (-1) tk))(hz:items.length<=Ð)
  (h:Q (.ref s.heap.objs.size) { s with heap:=s.heap.push { cls:=.type "tuple",data:=.seq items.reverse.toArray } }):Æ (Í prog w) A (Ń (.ref t) (.ref sl)) Q E s:=by
 obtain⟨os,Ej,AC,Ih⟩:=id hs;have LS:s.TypeIs (.ref sl) "slice":=⟨os,Ej,AC⟩;unfold Ń;try with_reducible refine jf ?_
 first | refine za (zf ?_) | skip
 refine za (uy ht.typeIs (by decide) ?_)
 refine za (jx (name:=ü "__getitem__") ht.typeIs jo
  (jh jo ht.typeIs uT ?_ (pC _ _)))
 show Æ _ _ (ġ (.ref t) >>= _) _ _ s
 refine za (yF ht ?_);refine za (qH LS ?_);rw[zQ (by decide)];refine za (ZN hs ?_);have LU:¬((((items.toArray.size:Int)-1)==0&&(-1:Int)==1&&items.toArray.size==items.toArray.size)=Â):=by simp
 show Æ _ _ (if ((((items.toArray.size:Int)-1)==0&&(-1:Int)==1&&items.toArray.size==items.toArray.size)=Â) then _ else _) _ _ s
 rw[zW LU];have hp:((ß items.toArray.size).filterMap λ(k:Nat)=>items.toArray[(((items.toArray.size:Int)-1)+(k:Int)*(-1)).toNat]?)=items.reverse:=by
  rw[zO];exact sr items
 rw[hp];have An:sizeOk (Data.seq items.reverse.toArray):=by
  show items.reverse.toArray.size<=Ð
  simpa using hz
 first
  | exact za (m:=Ý _) (kE (zf ⟨_,rfl,zf h⟩) An)
  | exact za (m:=Ý _) (kE (za (zf (zf ⟨_,rfl,zf h⟩))) An)
  | exact za (za (m:=Ý _) (kE (zf (zf ⟨_,rfl,zf h⟩)) An))
  | exact za (za (m:=Ý _) (kE (zf ⟨_,rfl,zf h⟩) An))
end
noncomputable def Yx(w:W):M W:=λh=>match w with
 | .tup l=>À (.tup l.reverse,h)
 | w=>match getL h w with
  | some l=>À (.fls l.reverse,h)
  | none=>Á
theorem QH(its:List Ã):slicePick its.toArray Á Á (À (-1))=its.reverse.toArray:=by
 have b:Ę Á Á (À (-1)) its.toArray.size=((its.length:Int)-1,-1,-1):=by
  simp[Ę]
 unfold slicePick;rw[b];refine jl List.toArray ?_;rw[<-sr its];have r:sliceRange ((its.length:Int)-1) (-1) (-1)=(ß its.length).map λ(k:Nat)=>(((its.length:Int)-1)+(k:Int)*(-1)).toNat:=by
  unfold sliceRange;have c:(if (-1:Int)>0 then (if (its.length:Int)-1 < -1 then (-1-((its.length:Int)-1) + -1-1) / -1 else 0) else (if (its.length:Int)-1 > -1 then ((its.length:Int)-1 - -1 - -1-1)/(- -1) else 0))=(its.length:Int):=by
   rw[zW (by decide)];by_cases h:its.length=0
   .rw[h];decide
   .rw[zQ ∅,show(- -1:Int)=1 by decide,pA];omega
  erw[c,jm];refine ql λk _=>?_
  congr 1
  omega
 erw[r,wR];rfl
section
variable{X:Cx}{cl:Cl}{a:Î}{ma:ME}{pos p2 p3 p4:ė}{j:Nat}
def FJ(ha:SE X cl a ma):SE X cl (.Subscript a (.Slice Á Á (À (.UnaryOp .USub (.Constant (.int 1) j p4) p3)) p2) pos) (wm Yx ma):=by
 rintro ag s σ H Q I ⟨μ,h,ρ,w,h',R,er,e,k⟩;obtain⟨x,h1,e1,e⟩:=zD e;refine Subscript_ (kg (ha ag s σ H (λv H1=>∃cb,Ext μ H cb H1/\HR X.K cl cb H1 h1/\RW X.K cb H1 x v) I ⟨μ,h,ρ,x,h1,R,er,e1,λcb H1 v E1 R1 r=>⟨cb,E1,R1,r⟩⟩) ?_);rintro u s1 ⟨v,H1,I1,r1,cb,E1,R1,rv⟩;have step:PO X (À (.UnaryOp .USub (.Constant (.int 1) j p4) p3)) (λ_ H Q=>Q (À (-1)) H):=by
  refine PO.wk (Z9 (XJ (X:=X) VW V6)) λσ H Q q=>?_
  exact⟨1,rfl,-1,rfl,q⟩
 refine wpAny_Slice ?_;rw[evalPart_none];refine zf ?_;refine zf ?_;refine kg (step ag s1 σ H1 (λo H2=>o=À (-1)/\H2=H1) I1 ⟨rfl,rfl⟩) ?_;rintro vs s2 ⟨o,H2,I2,ps,eo,eH⟩;subst eo eH;have L7:=Heap.IsSliceOf.new s2.heap .none .none vs;cases ps with | int i t=>
 have I3:Inv X ag σ H2 { s2 with heap:=s2.heap.push { cls:=.type "slice",data:=.fields #[.none,.none,.int (-1) t] } }:=I2.kept (t':=s2.toks) λb ob q=>zc _ q
 unfold Yx at e;split at e
 .rename_i l
  cases e;obtain⟨d,vs,rfl,sq,ra⟩:=rv.tup_of;cases r1;obtain⟨its,rr,ht,hz⟩:=I3.tuple sq;refine tail_any (ops:=[.ref d,.ref s2.heap.objs.size]) ht.typeIs jo.lookup (iX ht L7 (by rw[<-rr.length];exact hz) ?_) (by with_unfolding_all rfl);refine⟨.ref _,_,I3.laid (t':=s2.toks) (o:=.tup vs.reverse) (λb ob q=>zc _ q) (zr _) ⟨by rw[yS];exact hz,_,rr.reverse,pH _ _,.new _ _⟩,rfl,(k.ext E1).tup R1 ra.reverse I3.fresh⟩
 .split at e
  .rename_i l el
   cases e;obtain⟨d,vs,rfl,sq,ra⟩:=vv R1 rv el;cases r1;obtain⟨its,rr,ht,hz⟩:=I3.list sq;refine tail_any (ops:=[.ref d,.ref s2.heap.objs.size]) ht.isList.typeIs uB.lookup (pQ ht.isList L7 .none .none (.int (-1) t) (by decide) ?_ (by rw[zO,<-rr.length];exact hz)) (by with_unfolding_all rfl);rw[QH];refine⟨.ref _,_,I3.laid (t':=s2.toks) (o:=.lst vs.reverse) (λb ob q=>zc _ q) (zr _) ⟨by rw[yS];exact hz,_,0,rr.reverse,zE _ rfl⟩,rfl,(k.ext E1).fls R1 ra.reverse I3.fresh⟩
  .cases e
end
noncomputable def pairsOf:List W->Option (List (W×W))
 | []=>À []
 | .tup [x,y]::r=>match pairsOf r with
  | some l=>À ((x,y)::l)
  | none=>Á
 | _=>Á
noncomputable def iO(ws:List W):M W:=λh=>match ws with
 | [w]=>match gp h w with
  | some l=>À (.fdc l,h)
  | none=>match getL h w with
   | some l=>match pairsOf l with
    | some ps=>match keysOf ps with
     | some ks=>if ks.length<=1000 then À (.fdc (wq [] ks),h) else Á
     | none=>Á
    | none=>Á
   | none=>Á
 | _=>Á
def UL(h:T="list" \/ T="tuple" \/ T="zip"):ŉ (.type T) "keys" = pure Á:=by
 rcases h with rfl | rfl | rfl<;>(rw[yd,vC];kernel_rfl)
def Bk(h:T="list" \/ T="tuple" \/ T="zip"):ŉ (.type T) "__getattr__" = pure Á:=by
 rcases h with rfl | rfl | rfl<;>(rw[yd,vC];kernel_rfl)
def lJ:isSubtype (.type "AttributeError") (.type "AttributeError")=pure Â:=by rw[vW];kernel_rfl
section
variable{prog:Ï}{w:Ñ}{A:Ø}{E:Ã->Å->Prop}{s:Å}
theorem UB{name:Ã}(he:s.heap.get? e=À { cls:=.type "AttributeError",data:=.fields #[v0,v1,v2,v3,v4,v5,ā 0,ā 0] })
  (hq:∀h' ob,ŵ e s.heap h'->h'.get? e=À ob->ob.cls=.type "AttributeError"->Q () { s with heap:=h' }):Æ (Í prog w) A (noteAttr (.ref e) o name) Q E s:=by
 have hT:s.TypeIs (.ref e) "AttributeError":=⟨_,he,rfl⟩;unfold noteAttr;refine za ?_;unfold lacksNameAndObj;refine za (qT hT lJ ?_);erw[xr,zP,jy];refine za (xu he ?_);refine zf ?_;erw[je];refine za (vG (za (qH hT ?_)));show Æ _ _ (layMembers e 6 #[name,o]) _ _ s
 unfold layMembers;refine za (xu he ?_);refine wpAny_update he (hq _ _ (qx ..).extBut (jK _ he ?_) ?_)
 .rfl
 .rfl
def Jk{α:Type}{o:Ã}{x msg:È}{Q:α->Å->Prop}(hh:A.handled=Á)(hm:msg.length<=Ð)
  (hq:∀h' As e,(∀b ob,s.heap.get? b=À ob->h'.get? b=À ob)->(∃ob,h'.get? e=À ob/\ob.cls=.type "AttributeError")->E (.ref e) { s with heap:=h',toks:=As }):Æ (Í prog w) A (raiseAttrError o x msg:Sem α) Q E s:=by
 unfold raiseAttrError;refine za (wpAny_mkStr (za ?_) hm);unfold newExc newTuple;refine za (kE ?_);refine za (m:=Ĳ _ _) (yc (a:=Ö) (by first | rfl | kernel_rfl) ?_);refine kE ?_;refine za (wpAny_mkText (za ?_));refine UB (zE _ rfl) λh' ob hx ho hc=>?_
 unfold raiseNew;refine za (wpAny_handled ?_);rw[hh];first
  | refine xW ?_
  | refine za (zf (xW ?_))
 refine hq _ _ _ (λb Sw hb=>hx b Sw ?_ (zc _ (zc _ hb))) ⟨ob,ho,hc⟩;refine zM (zN (zJ hb) ?_);simp
end
section
variable{prog:Ï}{w:Ñ}{A:Ø}{E:Ã->Å->Prop}{h:Õ}{g:Array ľ}{d:Drawn}{t:Nat}{os:ł}{a:Ç}{items:Array Ã}{n:Nat}{sl:Array (Option Ã)}{dd:Option Ç}
noncomputable def C3(h:Õ)(g:Array ľ)(d:Drawn)(os:ł)(E:Ã->Å->Prop):Prop:=∀h' As e,(∀b ob,h.get? b=À ob->h'.get? b=À ob)->(∃ob,h'.get? e=À ob/\ob.cls=.type "AttributeError")->E (.ref e) ⟨h',g,d,As,os⟩
set_option maxHeartbeats 1000000 in
def Qw(hh:A.handled=Á)(hx:h.get? a=À { cls:=.type "list",dict:=Á,data:=.seq items n,slots:=sl })(hq:C3 h g d os E) :
  Æ (Í prog w) A (ç.«object.__getattribute__» ⟨[.ref a,.str "keys" tk],[]⟩) Q E ⟨h,g,d,t,os⟩:=by
 have hT:(⟨h,g,d,t,os⟩:Å).TypeIs (.ref a) "list":=⟨_,hx,rfl⟩;have f4:=UL (T:="list") (.inl rfl);repeat (any_goals (first | assumption | wp_step))
 refine Jk hh ⋯ λh' As e k1 k2=>hq h' As e k1 k2
def sV(hh:A.handled=Á)(hx:h.get? a=À { cls:=.type "list",dict:=Á,data:=.seq items n,slots:=sl })(hq:C3 h g d os E):Æ (Í prog w) A (getAttrBy (.ref a) (.str "keys" tk) Ä) Q E ⟨h,g,d,t,os⟩:=by
 have hT:(⟨h,g,d,t,os⟩:Å).TypeIs (.ref a) "list":=⟨_,hx,rfl⟩;have f2:=yL.lookup;have f3:=yL.bind (.ref a);unfold getAttrBy;refine jf (za (qH hT (za (yc f2 ?_))));show Æ _ _ (getAttrByItsOwn (.ref a) (.str "keys" tk) (.type "list") (.builtin "list.__getattribute__") Ä Ä) _ _ _
 unfold getAttrByItsOwn;refine za (zf ?_);refine za (vI ?_);refine jf ?_;show Æ _ _ (boundAndCalled (.builtin "list.__getattribute__") (.ref a) (.str "keys" tk)) _ _ _
 unfold boundAndCalled;refine za (yc f3 ?_);refine jh yL hT F.entry_list_ga ?_ (F.args_list_getattribute_2 _ _);refine Qw hh hx λh' As e k1 k2=>?_
 obtain⟨ob,ho,hc⟩:=k2;have Sx:(⟨h',g,d,As,os⟩:Å).TypeIs (.ref e) "AttributeError":=⟨_,ho,hc⟩;show Æ _ _ (getattributeRaised (.ref a) (.str "keys" tk) (.type "list") (.ref e) Á Ä Ä) _ _ _
 unfold getattributeRaised;refine za (qT Sx lJ ?_);erw[je];refine za (yc (show hookBehind (.type "list") Á=pure Á from Bk (.inl rfl)) ?_);show Æ _ _ (ŷ (.ref a) (.str "keys" tk) (.ref e) Ä Ä) _ _ _
 unfold ŷ;erw[Bool.not_false,je];exact xW (hq h' As e k1 ⟨ob,ho,hc⟩)
def sA(hh:A.handled=Á)(hx:h.get? a=À { cls:=.type "list",dict:=Á,data:=.seq items n,slots:=sl })(hq:∀h' As,(∀b ob,h.get? b=À ob->h'.get? b=À ob)->Q Á ⟨h',g,d,As,os⟩):Æ (Í prog w) A (getAttr? (.ref a) "keys") Q E ⟨h,g,d,t,os⟩:=by
 unfold getAttr? getAttrBy?;refine za (wpAny_mkText ?_);refine za (vI (sV hh hx λh' As e k1 k2=>?_));obtain⟨ob,ho,hc⟩:=k2;refine za (qT (T:="AttributeError") (b:=Â) ⟨ob,ho,hc⟩ lJ ?_);exact zf (hq h' As k1)
end
def oA:Ÿ table "dict.update.loop" = À ç.«dict.update.loop»:=entryFor_of_tree aaa
def eM:plainId "dict.update.loop" = Â:=by decide +kernel
section
variable{prog:Ï}{w:Ñ}{A:Ø}{R:Result->Å->Prop}{I D:Ç}{fp wr:List Ç}{n:Nat}{P:Nat->Ã->Prop}{St:Nat->Õ->Prop}{h0:Õ}{us:List Ã}{cx:List (Key×Ã)}
noncomputable def nK(knd:KeyKind prog w Key)(h:Õ)(us:List Ã)(cx:List (Key×Ã)):Prop:=us.length=cx.length/\∀(i:Nat) (u:Ã) (kv:Key×Ã),us[i]?=À u->cx[i]?=À kv->∃T k,u=.ref T/\Ő h T #[k,kv.2]/\knd.is kv.1 k=Â
def Ww(knd:KeyKind prog w Key)(W:Walks prog w A.in1 I fp wr us.length (λi v=>us[i]?=À v) St)(O6:D∉fp)(Sy:h0.get? D=Á)(O7:∀b∈wr,h0.get? b=Á)(hp:nK knd h0 us cx)(hz:cx.length<=1000) :
  ∀(k i:Nat) (tk:Tok) (s:Å),us.length-i=k->i<=us.length->St i s.heap->s.heap.DictOf knd D (merged [] (cx.take i))->(∀b o,h0.get? b=À o->s.heap.get? b=À o)->
   (∀h' As,h'.DictOf knd D (merged [] cx)->(∀b o,h0.get? b=À o->h'.get? b=À o)->R (.ok (.ret .none)) { s with heap:=h',toks:=As })->
   Ĺ (Í prog w) A (.builtin "dict.update.loop" ⟨[.ref D,.ref I,.int i tk,.none],[]⟩) R s:=by
 have O8:D∉wr:=λh=>O6 (W.sub _ h)
 intro k;induction k with
 | zero=>
  intro i tk s hk hi r6 hd N1 hR;obtain rfl:i=us.length:=by omega
  refine jO oA ?_;rw[jF eM _];show Æ _ A.in1 (Ē (.ref I) >>= _) _ _ s;refine za (W.done s _ _ r6 λh' As kk=>?_)
  show Æ _ A.in1 (Builtin.Dict.addKeywords D [] >>= _) _ _ _
  refine za (zf (zf (hR h' As ?_ λb o e=>kk b o (λz=>by rw[O7 b z] at e;cases e) (N1 b o e))));rw[hp.1,ud] at hd;obtain⟨o,es,ep,ho,rest⟩:=hd;exact⟨o,es,ep,kk D o O8 ho,rest⟩
 | succ k ih=>
  intro i tk s hk hi r6 hd N1 hR;have xa:i<us.length:=by omega
  refine jO oA ?_;rw[jF eM _];show Æ _ A.in1 (Ē (.ref I) >>= _) _ _ s;refine za (W.item i s _ _ xa r6 λv h' As hv A6 kk=>?_)
  have M7:i<cx.length:=by rw[<-hp.1];exact xa
  obtain⟨T,key,rfl,hT,O9⟩:=hp.2 i v cx[i] hv (zL M7);have keep:∀b o,h0.get? b=À o->h'.get? b=À o:=λb o e=>kk b o (λz=>by rw[O7 b z] at e;cases e) (N1 b o e)
  have Bz:Ő h' T #[key,cx[i].2]:=by obtain⟨o,ho,r⟩:=hT;exact⟨o,keep T o ho,r⟩
  have AQ:h'.DictOf knd D (merged [] (cx.take i)):=by obtain⟨o,es,ep,ho,rest⟩:=hd;exact⟨o,es,ep,kk D o O8 ho,rest⟩
  show Æ _ A.in1 (Đ [Ë T] _ >>= _) _ _ _
  refine za (jf (za (wpAny_tryCatch ?_)));unfold Builtin.Dict.pairItems;refine za (qH Bz.typeIs ?_);rw[zQ (by decide)];obtain⟨oT,Sz,hcT,nT,SC⟩:=Bz;refine za (j7 Sz SC (zf ?_));show Æ _ _ (Đ [key,cx[i].2] (dictSet D key cx[i].2)) _ _ _
  refine jf ?_;unfold dictSet;try with_reducible refine jf ?_
  refine za (knd.pyHash O9 ?_);refine wpAny_dictSetHashed_pairs (s:={ s with heap:=h',toks:=As+1 }) O9 AQ (λh2 hd2 sb=>?_) (by have:=merged_length_le ([]:List (Key×Ã)) (cx.take i);rw[vd] at this;simp at this;exact zq (zq this ∅) (show 1000<=Ð by decide));refine zf ⟨vh eM _,ih (i+1) _ _ ∅ xa (W.frame _ _ _ A6 λb hb o e=>?_) ?_ (λb o e=>?_) λh3 SD SF k3=>?_⟩
  .rw[sb.2 b (λz:b=D=>O6 (by rw[<-z];exact hb))];exact e
  .rw[merged_take_succ [] cx i cx[i] (zL M7)];exact hd2
  .rw[sb.2 b (λz:b=D=>by rw[z,Sy] at e;cases e)];exact keep b o e
  .exact hR h3 SD SF k3
end
section
variable{prog:Ï}{w:Ñ}{A:Ø}{E:Ã->Å->Prop}{s:Å}{us:List Ã}{cx:List (Key×Ã)}{l:Ç}{n:Nat}{sl:Array (Option Ã)}
def nU(knd:KeyKind prog w Key)(hh:A.handled=Á)(hl:s.heap.get? l=À { cls:=.type "list",dict:=Á,data:=.seq us.toArray n,slots:=sl })(hp:nK knd s.heap us cx)(hz:cx.length<=1000)
  (h:∀h' As,h'.DictOf knd s.heap.objs.size (merged [] cx)->(∀b o,s.heap.get? b=À o->h'.get? b=À o)->Q (.ref s.heap.objs.size) { s with heap:=h',toks:=As }):Æ (Í prog w) A (ķ (.type "dict") [.ref l]) Q E s:=by
 refine callType_codes (Q₁:=λobj d5=>obj=.ref s.heap.objs.size/\d5={ s with heap:=s.heap.push { cls:=.type "dict",data:=.dict #[] } }) F.kt_called_dict (F.kt_typeCall_dict_1 _) F.entry_dict_init (kt_code_dict_new _ ⟨rfl,rfl⟩) ?_;rintro obj d5 ⟨rfl,rfl⟩;have AJ:(s.heap.push { cls:=.type "dict",data:=.dict #[] }).DictOf knd s.heap.objs.size []:=Heap.DictOf.new s.heap;refine⟨AJ.typeIs,F.args_dict_init_2 _ _,?_⟩;unfold ç.«dict.__init__»;refine za ?_;unfold Builtin.Dict.selfAndRest;refine za (ů AJ.typeIs ?_);show Æ _ _ (pure (s.heap.objs.size,[Ë l])) _ _ _
 refine zf ?_;show Æ _ _ (Builtin.Dict.updateFrom "dict.__init__" s.heap.objs.size (.ref l) [] .none) _ _ _
 unfold Builtin.Dict.updateFrom;have A8:(s.heap.push { cls:=.type "dict",data:=.dict #[] }).get? l=À _:=zc _ hl;refine za (qH (T:="list") ⟨_,A8,rfl⟩ ?_);rw[zQ (by decide)];have SH:A.in1.in1.handled=Á:=by simpa using hh
 refine za (sA SH A8 λh1 Lz k1=>?_);erw[Option.isNone_none,je];have NC:=k1 _ _ A8;have hL:h1.IsList l us.toArray:=⟨_,NC,rfl,n,rfl⟩;refine za (vG ?_);refine za (vH hL ?_);have k0:∀b o,s.heap.get? b=À o->h1.get? b=À o:=λb o e=>k1 b o (zc _ e)
 have Ln:s.heap.objs.size<h1.objs.size:=by obtain⟨o,es,ep,ho,_⟩:=AJ;exact zJ (k1 _ _ ho)
 have Mr:l<s.heap.objs.size:=zJ hl;have SJ:h1.DictOf knd s.heap.objs.size []:=by obtain⟨o,es,ep,ho,rest⟩:=AJ;exact⟨o,es,ep,k1 _ _ ho,rest⟩
 have AE:l≠h1.objs.size:=zM (u9 Mr Ln);have W0:=pU (prog:=prog) (w:=w) (A:=A.in1.in1) (by simpa using hh) h1.objs.size l AE us.toArray;have W1:Walks prog w A.in1.in1 h1.objs.size [h1.objs.size,l] [h1.objs.size] us.length (λi v=>us[i]?=À v) (λi h=>h.IsListIter h1.objs.size l i/\h.IsList l us.toArray):=by simpa using W0
 refine zf ⟨vh eM _,Ww (h0:=s.heap) knd W1 ?_ ?_ ?_ hp hz us.length 0 _ _ rfl (jQ _) ⟨⟨_,zE _ rfl,rfl,rfl⟩,hL.at λo e=>zc _ e⟩ ?_ (λb o e=>zc _ (k0 b o e)) λh' As AQ k'=>?_⟩
 .erw[zj,zy,kY,ye]
  exact⟨zM Ln,vQ Mr⟩
 .exact xP (zr _)
 .intro b hb
  erw[zj,zy,kY] at hb;rw[hb];exact xP (qY Ln)
 .obtain⟨o,es,ep,ho,rest⟩:=SJ
  exact⟨o,es,ep,zc _ ho,rest⟩
 .exact⟨rfl,h h' As AQ k'⟩
end
end ML
namespace ML
open PySem PySem.Spec PyProof.Rows L2
section
variable{X:Cx}{cl:Cl}
theorem rY{K:aab}{μ:List Ç}{H:Hp}:∀{l:List W} {vs:List V} {ps:List (W×W)} {ks:List (Key×W)},RWs K μ H l vs->pairsOf l=À ps->keysOf ps=À ks->
  ∃lx:List (Key×V),PR K μ H ks lx/\vs.length=lx.length/\∀(i:Nat) (v:V) (kv:Key×V),vs[i]?=À v->lx[i]?=À kv->∃T,v=.ref T/\SqT K H T [kV kv.1,kv.2]
 | [],_,_,_,.nil,e1,e2=>by
  cases e1;cases e2;exact⟨[],.nil,rfl,λi v kv e=>by simp at e⟩
 | w::l,_,ps,ks,.cons (v:=v) r t,e1,e2=>by
  have hw:∃x y,w=.tup [x,y]:=by
   unfold pairsOf at e1;split at e1
   .rename_i hd;cases hd
   .rename_i x y r' hd;cases hd;exact⟨x,y,rfl⟩
   .cases e1
  obtain⟨x,y,rfl⟩:=hw;unfold pairsOf at e1;split at e1
  .rename_i l' e3
   cases e1;unfold keysOf at e2;split at e2
   .rename_i k lk e4 e5
    cases e2;obtain⟨lx,p,hl,hi⟩:=rY t e3 e5;obtain⟨T,vs2,rfl,sq,rr⟩:=r.tup_of;cases rr with | cons r1 rr=>cases rr with | @cons _ v2 _ _ r2 rr=>cases rr with | nil=>
    have:=eW r1 e4;subst this;refine⟨(k,v2)::lx,.cons r2 p,by simp[hl],λi v kv ev ek=>?_⟩;cases i with
    | zero=>simp at ev ek;subst ev;subst ek;exact⟨T,rfl,sq⟩
    | succ i=>exact hi i v kv (by simpa using ev) (by simpa using ek)
   .cases e2
  .cases e1
theorem pairs_at{s:Å}{H:Hp}(I:Inv X ag σ H s):∀{vs:List V} {its:List Ã} {lx:List (Key×V)},Vals vs its->vs.length=lx.length->
  (∀(i:Nat) (v:V) (kv:Key×V),vs[i]?=À v->lx[i]?=À kv->∃T,v=.ref T/\SqT X.K H T [kV kv.1,kv.2])->∃cx,KV lx cx/\nK (qf X.prog X.w) s.heap its cx
 | _,_,[],.nil,_,_=>⟨[],.nil,rfl,λi u kv e=>by simp at e⟩
 | _,_,_::_,.nil,hl,_=>by simp at hl
 | _,_,[],.cons _ _,hl,_=>by simp at hl
 | _,_,(k,v2)::lx,.cons (a:=v) (b:=u) r t,hl,hi=>by
  obtain⟨cx,q1,q2,q3⟩:=pairs_at I t (by simpa using hl) λi v kv e1 e2=>hi (i+1) v kv (by simpa using e1) (by simpa using e2)
  obtain⟨T,rfl,sq⟩:=hi 0 v (k,v2) (by simp) (by simp);obtain⟨it2,rv,ht,_⟩:=I.tuple sq;obtain⟨u1,u2,rfl,Lg,KM⟩:=vals2 rv;cases r;refine⟨(k,u2)::cx,.cons ⟨rfl,KM⟩ q1,by simp[q2],λi u kv e1 e2=>?_⟩;cases i with
  | zero=>simp at e1 e2;subst e1;subst e2;exact⟨T,u1,rfl,ht,m9 Lg⟩
  | succ i=>exact q3 i u kv (by simpa using e1) (by simpa using e2)
def Jx(hc:X.calm=Â):qo X (.type "dict") (rMs X.K cl iO):=by
 rintro ag s σ H xs us Q I rs ⟨μ,h,ws,w,h',R,ax,e,k⟩;unfold iO at e;split at e
 .cases ax with | cons r t=>cases t with | nil=>
  obtain⟨u,rfl,ru⟩:=rs.one;split at e
  .rename_i l el
   cases e;obtain⟨a,l',rfl,rd,pr⟩:=lT R r el;cases ru;exact WT I rd λp s' hp I'=>⟨.ref p,_,I',rfl,k.fdc R pr hp⟩
  .split at e
   .rename_i l el
    split at e
    .rename_i ps ep
     split at e
     .rename_i ks ek
      split at e
      .rename_i d6
       cases e;obtain⟨a,vs,rfl,sa,ra⟩:=vv R r el;cases ru;obtain⟨lx,pr,hl,hi⟩:=rY ra ep ek;obtain⟨its,rv,⟨⟨oc,od,O5,Es⟩,n,g1,g2,g3,g4⟩,_⟩:=I.list sa;simp only at g2 g3 g4;subst g2 g3 g4;obtain⟨cx,q1,q2⟩:=pairs_at I rv hl hi;have M7:lx.length=cx.length:=q1.length;refine nU (qf X.prog X.w) (I.ok.hd hc) g1 q2 (by rw[<-M7,<-pr.len];exact d6) λh2 tk dd kp=>?_
       have rel:KV (w8 [] lx) (merged [] cx):=q1.merge .nil;have hz:(w8 [] lx).length<=Ð:=by
        have h1:=cE lx [];rw[kI] at h1;rw[jB];have:=pr.len;omega
       exact⟨.ref _,_,I.laid (a:=s.heap.objs.size) (o:=.dK (w8 [] lx)) (t':=tk) kp (zr _) (l5 hz (jG.mpr (jq (zM I.big))) rel dd),rfl,k.fdc R (pr.merge .nil) (I.hok.fresh (zr _))⟩
      .cases e
     .cases e
    .cases e
   .cases e
 .cases e
end
def Fe{P:Ï}{w:Ñ}{K:aab}{mg:È->Option Ã}{base:Õ}{cl:Cl}{x qual:È}{st:ď}{N ps:List È}(F:Fun K x qual st f fd)(Ap:ja st=sc)(N3:ve st=bd)(S:FnScope N ps sc)(EM:ps.length=np)(Aq:N.length-np=ns)
  (hb:∀(xI:Ã) (A:Ø) (outer:List Env) (s:Å) (H:Hp) (E:XK),Room k (A.deeper (Ŗ qual sc s.heap.objs.size f xI))->
   SB (gS dR P w K mg base N qual sc f xI A outer s H E).nox cl bd b):FnOk P w K mg base dR (k+1) f fd ps (bS K cl (gc (kS np ns b))):=by
 subst Ap N3;exact Gr F S EM Aq hb
noncomputable def Wn(sc:î)(x:È):Bool:=match sc.names.lookup x with
 | some .local=>Â
 | some .cell=>Â
 | some .free=>Â
 | _=>Ä
noncomputable def Jm(sc:î)(x:È):Bool:=match sc.names.lookup x with
 | some .local=>Â
 | some .cell=>Â
 | _=>Ä
noncomputable def YG(sc:î)(N:List È)(i:Nat)(x:È):Bool:=N[i]?==À x&&Wn sc x && !(x==("__debug__":È)) && !(x==("__classdict__":È))
noncomputable def setB(sc:î)(N:List È)(i:Nat)(x:È):Bool:=N[i]?==À x&&Jm sc x
noncomputable def setC(sc:î)(N:List È)(i:Nat)(x:È):Bool:=N[i]?==À x&&sc.names.lookup x==À .local
noncomputable def vF(sc:î)(x:È):Bool:=sc.names.lookup x==À .globalImplicit && !(x==("__debug__":È)) && !(x==("__name__":È))
section
variable{X:Cx}{cl:Cl}{x:È}{pos Aw p:ė}{sc:î}{N:List È}{i:Nat}{e:Î}{m:ME}
def UK(h:Wn sc x=Â):ZY sc x:=by
 unfold Wn at h;split at h
 .rename_i q;exact .inl q
 .rename_i q;exact .inr (.inl q)
 .rename_i q;exact .inr (.inr q)
 .cases h
def iH(h:Jm sc x=Â):Loc sc x:=by
 unfold Jm at h;split at h
 .rename_i q;exact .inl q
 .rename_i q;exact .inr q
 .cases h
def v_(h:YG sc N i x=Â)(hs:↥(X.env.scope=sc))(hN:↥(X.N=N)):SE X cl (.Name x pos) (zd i):=by
 unfold YG at h;erw[zu,vN,qW] at h;exact Dj i (by rw[hN];exact h.1.1.1) (by rw[hs];exact UK h.1.1.2) h.1.2 h.2
def g_(h:setB sc N i x=Â)(AR:N.Nodup)(hs:↥(X.env.scope=sc))(hN:↥(X.N=N))(hf:↥(X.fn x=Â)):SG X cl (.Name x pos) (zw i):=by
 unfold setB at h;erw[zu,vN] at h;exact KI i (by rw[hN];exact AR) (by rw[hN];exact h.1) (by rw[hs];exact iH h.2) (.inl hf)
def HJ(h:setC sc N i x=Â)(AR:N.Nodup)(hs:↥(X.env.scope=sc))(hN:↥(X.N=N)):SG X cl (.Name x pos) (zw i):=by
 unfold setC at h;erw[zu,vN] at h;exact KI i (by rw[hN];exact AR) (by rw[hN];exact h.1) (by rw[hs];exact .inl h.2) (.inr (by rw[hs];exact h.2))
def s_(h:setB sc N i x=Â)(AR:N.Nodup)(he:SE X cl e m)(hs:↥(X.env.scope=sc))(hN:↥(X.N=N))(hf:↥(X.fn x=Â))(Ec:↥(đ e (À (.Name x Aw)) pos.line X.env=pure Ä)):SS X cl (.Assign [.Name x Aw] e pos) (kc m (zw i)):=by
 unfold setB at h;erw[zu,vN] at h;exact FO i (by rw[hN];exact AR) he (by rw[hN];exact h.1) (by rw[hs];exact iH h.2) Ec (.inl hf)
def HH(h:setB sc N i x=Â)(AR:N.Nodup)(ho:J8 X op (rM X.K cl f))(he:SE X cl e m)(hs:↥(X.env.scope=sc))(hN:↥(X.N=N))(hf:↥(X.fn x=Â)):SS X cl (.AugAssign (.Name x Aw) op e pos) (JO i f m):=by
 unfold setB at h;erw[zu,vN] at h;exact DV i (by rw[hN];exact AR) ho he (by rw[hN];exact h.1) (by rw[hs];exact iH h.2) (.inl hf)
def kQ(h:vF sc x=Â)(hs:X.env.scope=sc):Gl X x/\(x==("__debug__":È))=Ä/\x≠"__name__":=by
 unfold vF at h;erw[zu,vN,qW] at h;refine⟨?_,h.1.2,λz=>?_⟩
 .show X.env.scope.names.lookup x=_
  rw[hs];exact h.1.1
 .have:=h.2;rw[z] at this;simp at this
variable{k:Nat}{f:Ç}{fd:ć}{ps:List È}{es:List Î}{g:List W->M W}{ms:List ME}{id:String}
def c_(h:vF sc x=Â)(F:FnOk X.prog X.w X.K X.mg X.base dR k f fd ps (bS X.K cl g))(hr:Room k X.A)(hm:X.mg x=À (.ref f))(hk:ï X.K (.ref f)=Â)(hb:Binds X.K fd ps [])
  (ha:SA X cl (e::es) ms) (hs:↥(X.env.scope=sc)) (r6:↥(Ê (e::es) X.env=(Ä,å e X.env)::Ê es X.env)) (Ak:↥((Þ pos (Ê es X.env)).any (·.1)=Ä)):SE X cl (.Call (.Name x p) (e::es) [] pos) (ze g ms):=
 Bw F hr hm hk hb ha (kQ h hs).1 (kQ h hs).2.1 r6 Ak
def HF(h:vF sc x=Â)(F:FnOk X.prog X.w X.K X.mg X.base dR k f fd ps (bS X.K cl g))(hr:Room k X.A)(hm:X.mg x=À (.ref f))(hk:ï X.K (.ref f)=Â)(hb:Binds X.K fd ps [])
  (hs:↥(X.env.scope=sc)):SE X cl (.Call (.Name x p) [] [] pos) (ze g []):=WR F hr hm hk hb (kQ h hs).1 (kQ h hs).2.1
def QS(h:vF sc x=Â)(hc:qo X (.builtin id) (rMs X.K cl g))(hm:X.mg x=Á)(hv:Ù x=À (.builtin id))(ha:SA X cl (e::es) ms)(hs:↥(X.env.scope=sc))(r6:↥(Ê (e::es) X.env=(Ä,å e X.env)::Ê es X.env))(Ak:↥((Þ pos (Ê es X.env)).any (·.1)=Ä)) :
  SE X cl (.Call (.Name x p) (e::es) [] pos) (ze g ms):=W4 hc hm hv ha (kQ h hs).1 (kQ h hs).2.2 (kQ h hs).2.1 r6 Ak
def Ky(h:vF sc x=Â)(hc:qo X (.type id) (rMs X.K cl g))(hm:X.mg x=Á)(hv:Ù x=À (.type id))(ha:SA X cl (e::es) ms)(hs:↥(X.env.scope=sc))(r6:↥(Ê (e::es) X.env=(Ä,å e X.env)::Ê es X.env))(Ak:↥((Þ pos (Ê es X.env)).any (·.1)=Ä)) :
  SE X cl (.Call (.Name x p) (e::es) [] pos) (ze g ms):=Vb hc hm hv ha (kQ h hs).1 (kQ h hs).2.2 (kQ h hs).2.1 r6 Ak
def HU(h:vF sc x=Â)(G:Glob X.K X.mg x w)(hs:↥(X.env.scope=sc)):SE X cl (.Name x pos) (eC w):=G.se (kQ h hs).1 (kQ h hs).2.1
def GY(T:Ty)(h:vF sc "isinstance" = Â)(h2:vF sc y=Â)(ha:SE X cl a ma)(hi:X.mg "isinstance" = Á)(ht:X.mg y=Á)(hv:Ù y=À (.type T.name))(hs:↥(X.env.scope=sc))
  (La:↥(Ê [a,.Name y p2] X.env=(Ä,å a X.env)::Ê [.Name y p2] X.env)) (ES:↥(Ê [.Name y p2] X.env=(Ä,å (.Name y p2) X.env)::Ê [] X.env))
  (Ak:↥((Þ pos (Ê [.Name y p2] X.env)).any (·.1)=Ä)):SE X cl (.Call (.Name "isinstance" p) [a,.Name y p2] [] pos) (wm (isW T) ma):=
 Fk T ha hi ht hv (kQ h hs).1 (kQ h2 hs).1 (kQ h2 hs).2.2 (kQ h2 hs).2.1 La ES Ak
variable{a:Î}{ma:ME}{l:List (È×W)}
def HE(h:vF sc x=Â)(hu:X.A.units+64<û)(T:TabOk X.K X.w.params X.mg x l)(ha:SE X cl a ma)(hs:↥(X.env.scope=sc))(hm:ë .In (.Name x p)=Ä:=by first | exact nomark _ | rfl):SE X cl (.Compare a [.In] [.Name x p] pos) (wm (tabIn Ä l) ma):=WN hu T ha hm (kQ h hs).1 (kQ h hs).2.1
def HN(h:vF sc x=Â)(hu:X.A.units+64<û)(T:TabOk X.K X.w.params X.mg x l)(ha:SE X cl a ma)(hs:↥(X.env.scope=sc))(hm:ë .NotIn (.Name x p)=Ä:=by first | exact nomark _ | rfl):SE X cl (.Compare a [.NotIn] [.Name x p] pos) (wm (tabIn Â l) ma):=QE hu T ha hm (kQ h hs).1 (kQ h hs).2.1
def HZ(h:vF sc x=Â)(hu:X.A.units+64<û)(T:TabOk X.K X.w.params X.mg x l)(ha:SE X cl a ma)(hs:↥(X.env.scope=sc))(hp:fw a:=by exactλ_ _=>rfl):SE X cl (.Subscript (.Name x p) a pos) (wm (fH l) ma):=Qu hu T ha hp (kQ h hs).1 (kQ h hs).2.1
def GZ(h:vF sc "range" = Â)(hm:X.mg "range" = Á)(ha:SA X cl [e] ms)(hs:↥(X.env.scope=sc))(r6:↥(Ê [e] X.env=[(Ä,å e X.env)])):SI X cl tg (.Call (.Name "range" p) [e] [] pos) (cy ms):=Dg hm ha (kQ h hs).1 r6
def Hs(h:vF sc "enumerate" = Â)(hm:X.mg "enumerate" = Á)(ha:SA X cl [e] ms)(hs:↥(X.env.scope=sc))(r6:↥(Ê [e] X.env=(Ä,å e X.env)::Ê [] X.env))(Ak:↥((Þ pos (Ê [] X.env)).any (·.1)=Ä)) :
  SI X cl (.Tuple AV n AW) (.Call (.Name "enumerate" p) [e] [] pos) (yk ms):=U4 hm ha (kQ h hs).1 r6 Ak
def GV(h:vF sc "zip" = Â)(hm:X.mg "zip" = Á)(ha:SA X cl [e,e2] ms)(hs:↥(X.env.scope=sc))(r6:↥(Ê [e,e2] X.env=(Ä,å e X.env)::Ê [e2] X.env))(Ak:↥((Þ pos (Ê [e2] X.env)).any (·.1)=Ä)) :
  SI X cl (.Tuple AV n AW) (.Call (.Name "zip" p) [e,e2] [] pos) (be ms):=Di hm ha (kQ h hs).1 r6 Ak
def FU(h:vF sc "len" = Â)(h2:vF sc "set" = Â)(hc:X.calm=Â)(hl:X.mg "len" = Á)(SL:X.mg "set" = Á)(ha:SE X cl a ma)(hs:↥(X.env.scope=sc))
  (Ez:↥(Ê [a] X.env=(Ä,å a X.env)::Ê [] X.env)) (A9:↥((Þ p3 (Ê [] X.env)).any (·.1)=Ä))
  (Ey:↥(Ê [.Call (.Name "set" p2) [a] [] p3] X.env=(Ä,å (.Call (.Name "set" p2) [a] [] p3) X.env)::Ê [] X.env)) (EY:↥((Þ pos (Ê [] X.env)).any (·.1)=Ä)) :
  SE X cl (.Call (.Name "len" p) [.Call (.Name "set" p2) [a] [] p3] [] pos) (wm l6 ma):=Vi hc hl SL ha (kQ h hs).1 (kQ h2 hs).1 Ez A9 Ey EY
end
end ML
namespace ML
open PySem PySem.Spec PyProof.Rows L2
section
variable{X:Cx}{cl:Cl}{a:Î}{ma:ME}{x:È}{l:List (È×W)}{p pos:ė}{sc:î}
def Vr(neg:Bool)(ho:∀{A:Ø} {E:Ã->Å->Prop} {s:Å} {d:Ç} {f:È->Option Ã} {k:È} {t:Tok} {Q:Ã->Å->Prop},(d==à)=Ä->s.heap.MapOf (strKind X.prog X.w) d f->Q (.bool (if neg then !(f k).isSome else (f k).isSome)) { s with toks:=s.toks+1 }->Æ (Í X.prog X.w) A (Ó op (.str k t) (.ref d)) Q E s)
  (T:TabOk X.K X.w.params X.mg x l) (ha:SE X cl a ma) (hm:ë op (.Name x p)=Ä) (hg:Gl X x) (hd:(x==("__debug__":È))=Ä):ST X cl (.Compare a [op] [.Name x p] pos) (zS (wm (tabIn neg l) ma)):=by
 obtain⟨d,es,n,e1,e2,e3,e4,e5⟩:=T.ex;have NS:kT X (Ó op) (λx y H Q=>∃k,x=.str k/\y=.ref d/\Q (.bl (if neg then !(l.lookup k).isSome else (l.lookup k).isSome)) H):=by
  rintro ag s σ H x y v u Q I rx ry ⟨k,rfl,rfl,q⟩;obtain⟨t,rfl⟩:=rx;cases ry;refine ho e4 (TabOk.at I e2 e3) ?_;have fk:(findBy ù es k).isSome=(l.lookup k).isSome:=by
   have:=e5.find (k:=k);unfold findBy;rw[<-wV];cases ek:l.lookup k with
   | none=>rw[ek] at this;rw[this];rfl
   | some w=>rw[ek] at this;obtain⟨v,e,_⟩:=this;rw[e];rfl
  rw[fk];exact⟨.bl _,H,I.tok _,rfl,q⟩
 refine PT.wk (Z5 NS ha (iB hg e1 (show RelV (.ref d) (.ref d) from rfl) hd) hm) λσ H Q q=>?_
 obtain⟨μ,h,ρ,w,h',R,er,e,k⟩:=eU q;obtain⟨y,h1,f1,e⟩:=zD e;refine⟨μ,h,ρ,y,h1,R,er,f1,λcb H1 vx E1 R1 rx=>?_⟩;unfold tabIn at e;split at e
 .cases e
  exact⟨_,rx.str_of,rfl,k cb H1 _ E1 R1 (.bl _)⟩
 .cases e
def Hi(h:vF sc x=Â)(hu:X.A.units+64<û)(T:TabOk X.K X.w.params X.mg x l)(ha:SE X cl a ma)(hs:↥(X.env.scope=sc))(hm:ë .In (.Name x p)=Ä:=by first | exact nomark _ | rfl):ST X cl (.Compare a [.In] [.Name x p] pos) (zS (wm (tabIn Ä l) ma)):=
 Vr Ä (λ{A E s d f k t Q} h1 h2 h3=>wpAny_in_of (yH X.prog X.w k t) h1 h2 h3) T ha hm (kQ h hs).1 (kQ h hs).2.1
def G3(h:vF sc x=Â)(hu:X.A.units+64<û)(T:TabOk X.K X.w.params X.mg x l)(ha:SE X cl a ma)(hs:↥(X.env.scope=sc))(hm:ë .NotIn (.Name x p)=Ä:=by first | exact nomark _ | rfl):ST X cl (.Compare a [.NotIn] [.Name x p] pos) (zS (wm (tabIn Â l) ma)):=
 Vr Â (λ{A E s d f k t Q} h1 h2 h3=>wpAny_notIn_of (yH X.prog X.w k t) h1 h2 h3) T ha hm (kQ h hs).1 (kQ h hs).2.1
end
noncomputable def Zl(l:List È):Bool:=decide l.Nodup
def Xg{l:List È}(h:Zl l=Â:=by kernel_rfl):l.Nodup:=j8 h
structure FTxt(K:aab)(mg:È->Option Ã)(x:È)(st:ď)(ps:List È)(a:Ç)(d:ć):Prop where
 F:Fun K x x st a d
 B:Binds K d ps []
 m:mg x=À (.ref a)
def tZ{K:aab}{x y:È}{st:ď}(F:Fun K x x st f fd)
  (hb:∀(kV doc pm:Ã) (an:Option Ç) (xI ct:Ã) (us:List Ã),us.length=[y].length->bindArgs (Č x x (xy st) (ve st) (ja st) .none kV doc pm an xI ct) ⟨us,[]⟩=pure ([y].zip us)):∀(s:Å) (v:Ã),BindsTo s fd ⟨[v],[]⟩ [(y,v)]:=by
 intro s v;obtain⟨oc,od,kV,doc,pm,an,xI,ct,Es,rfl,lk,Ep⟩:=F.ex;exact .of_eq (hb kV doc pm an xI ct [v] rfl)
noncomputable def GS(P:Ï)(w:Ñ)(f:List W->M W)(K:aab):Sp:=bS K ⟨λ_=>0,P,w⟩ f
def C5(hf:∀ns:List Int,ns.length<=63->∃h',f [.fls (ns.map W.int)] []=À (.bl Â,h'))(K:aab)(H:Hp)(a:Ç)(ns:List Int)(hl:ns.length<=63)(hS:SqL K H a (ns.map V.int)):GS P w f K [.ref a] H (λv _=>v=.bl Â) λ_ _ _=>False:=by
 obtain⟨h',e⟩:=hf ns hl;refine⟨[],[],[.fls (ns.map W.int)],.bl Â,h',⟨rfl,vg,λn a o e=>by simp at e⟩,.cons (.fls ?_ (RWs.ints ns)) .nil,e,λd3 H' v E R r=>r.bl_of⟩;rcases hS with hS | hS
 .exact .inl ⟨hS,by simp⟩
 .exact .inr hS
noncomputable def JD(x y v:W):M W:=λh=>match x with
 | .ref n=>match h[n]? with
  | some (.dic l)=>match keyOf y with
   | some k=>if l.length<cap then À (.non,h.set n (.dic (lZ l k v))) else Á
   | none=>Á
  | some (.lst l)=>match y with
   | .int i=>match y8 l.length i with
    | some j=>À (.non,h.set n (.lst (l.set j v)))
    | none=>Á
   | _=>Á
  | _=>Á
 | _=>Á
section
variable{X:Cx}{cl:Cl}{o i:Î}{mo mi:ME}{pos:ė}
inductive rPut(K:aab)(cl:Cl)(o:V)(i:V)(v:V)(H:Hp)(Q:Hp->Prop):Prop
 | mk (μ:List Ç) (h:MH) (wo:W) (wi:W) (wv:W) (w:W) (h':MH) (p0:HR K cl μ H h) (p1:RW K μ H wo o) (p2:RW K μ H wi i) (p3:RW K μ H wv v) (p4:JD wo wi wv h=À (w,h')) (p5:∀d3 H',Ext μ H d3 H'->HR K cl d3 H' h'->Q H'):rPut K cl o i v H Q
def GD(hu:X.A.units+64<û):JH X (rPut X.K cl):=by
 rintro ag s σ H o i v ov iv u Q I ro ri rv ⟨μ,h,wo,wi,wv,w,h',R,ao,ai,av,e,k⟩;unfold JD at e;split at e
 .rename_i n
  cases ao with | @ref _ p hn=>
  split at e
  .rename_i l ho
   split at e
   .rename_i kk ek
    split at e
    .rename_i hl
     cases e;obtain⟨l',hp,rk⟩:=R.ob n p _ hn ho;have pr:=RKs.pr rk;have hk:=eW ai ek;subst hk;cases ro;have LA:l'.length<Ð:=by rw[<-pr.len];exact zN hl yv
     refine j6 (Vp ∅ I (.inl ⟨l',kk,hp,rfl,LA,rfl⟩) ri rv λs' I'=>?_) (λ_ _ z=>z) λ_ _ z=>z
     have E:Ext μ H μ (upd H p (.dK (putK l' kk v))):=Ext.put hn;exact⟨_,I',k μ _ E (R.put hn ⟨_,jp,((pr.put av).ext R E).rk⟩)⟩
    .cases e
   .cases e
  .rename_i l ho
   split at e
   .rename_i j
    split at e
    .rename_i j' ej
     cases e;obtain⟨vs,hp,rs⟩:=R.ob n p _ hn ho;have hi:=ai.int_of;subst hi;have E:Ext μ H μ (upd H p (.lst (vs.set j' v))):=Ext.put hn;refine set_list ag s σ H _ _ v ov iv u Q I ro ri rv ⟨p,vs,j,j',rfl,rfl,hp,by rw[<-rs.length];exact ej,k μ _ E (R.put hn ⟨_,jp,(RWs.set av _ rs).ext R E⟩)⟩
    .cases e
   .cases e
  .cases e
 .cases e
end
noncomputable def DZ(x:W)(lo hi:Option Int):M W:=λh=>match getL h x with
 | some l=>À (.ref h.length,h++[.lst (cutW l lo hi)])
 | none=>Á
noncomputable def Dv(a:ME)(lo hi:Option ME):ME:=λρ=>bnd (a ρ) λx=>bnd (bo lo ρ) λl=>bnd (bo hi ρ) λu=>DZ x l u
section
variable{X:Cx}{cl:Cl}{a:Î}{ma:ME}{pos p2:ė}
def Fo{lo hi:Option Î}(ha:SE X cl a ma)(hl:SO X cl lo ml)(hh:SO X cl hi mh):SE X cl (.Subscript a (.Slice lo hi Á p2) pos) (Dv ma ml mh):=by
 have hr:Vd X (λx lo hi H Q=>∃μ h wx w h',HR X.K cl μ H h/\RW X.K μ H wx x/\DZ wx lo hi h=À (w,h')/\KQ X.K cl μ H h' w Q):=by
  rintro ag s σ H x v vl vu lo hi sl Q I rx hs pl pu ⟨μ,h,wx,w,h',R,ax,e,k⟩;unfold DZ at e;split at e
  .rename_i l el
   cases e;obtain⟨a,vs,rfl,sa,ra⟩:=vv R ax el;exact Z2 ag s σ H _ v vl vu lo hi sl Q I rx hs pl pu ⟨a,vs,rfl,sa,λp hp=>k.lst R (ra.cutW lo hi) hp⟩
  .cases e
 refine PE.wk (tK hr ha hl hh) ?_;rintro σ H Q ⟨μ,h,ρ,w,h',R,er,e,k⟩;obtain⟨x,h1,e1,e⟩:=zD e;obtain⟨l,h2,e2,e⟩:=zD e;obtain⟨u,h3,e3,e⟩:=zD e
 exact⟨μ,h,ρ,x,h1,R,er,e1,λcb H1 vx E1 R1 rx=>⟨cb,h1,ρ,l,h2,R1,er.ext R E1,e2,λgy H2 E2 R2=>⟨gy,h2,ρ,u,h3,R2,(er.ext R E1).ext R1 E2,e3,λAG H3 E3 R3=>
  ⟨AG,h3,x,w,h',R3,(rx.ext R1 E2).ext R2 E3,e,k.ext (E1.trans (E2.trans E3))⟩⟩⟩⟩
end
noncomputable def noStar:Î->Bool
 | .Starred ..=>Ä
 | _=>Â
noncomputable def gY:Î->Bool
 | .ListComp ..=>Ä
 | .SetComp ..=>Ä
 | .DictComp ..=>Ä
 | _=>Â
noncomputable def rW:Î->Bool
 | .Set ..=>Ä
 | _=>Â
noncomputable def Xo:Î->Bool
 | .Tuple ..=>Ä
 | _=>Â
noncomputable def iz:Î->Bool
 | .Slice ..=>Ä
 | _=>Â
noncomputable def plainT:Î->Bool
 | .UnaryOp ..=>Ä
 | .BoolOp ..=>Ä
 | .IfExp ..=>Ä
 | .Compare ..=>Ä
 | _=>Â
noncomputable def V9:Î->Bool
 | .Call ..=>Ä
 | _=>Â
section
variable{e tg o:Î}{es:List Î}{env:Env}{pos:ė}
def ky(h:noStar e=Â):Ê (e::es) env=(Ä,å e env)::Ê es env:=by
 cases e<;>first | (cases h;done) | kernel_rfl
theorem fP:Ê [] env=[]:=by kernel_rfl
theorem eO(h:noStar e=Â):Þ pos (Ê (e::es) env)=(Ä,å e env)::Þ pos (Ê es env):=by
 rw[ky h];rfl
theorem jI:∀{es:List Î},es.all noStar=Â->(Þ pos (Ê es env)).any (·.1)=Ä
 | [],_=>by rw[fP];rfl
 | e::es,h=>by
  rw[j4,zu] at h;rw[eO h.1,wD,jI h.2];rfl
theorem Zk:∀{es:List Î},es.all noStar=Â->(Þ pos (Ê es env)).all (λx=>!x.1)=Â
 | [],_=>by rw[fP];rfl
 | e::es,h=>by
  rw[j4,zu] at h;rw[eO h.1,j4,Zk h.2];rfl
def mH(h:es.all noStar=Â)(hl:decide (es.length<30)=Â):((Þ pos (Ê es env)).all (λx=>!x.1)&&(Ş pos (ĭ [] env)).all (λx=>x.1.isSome)
   && decide (es.length+([]:List ĩ).length+(if ([]:List ĩ).isEmpty then 0 else 1)<30))=Â:=by
 rw[Zk h];have:(ĭ [] env)=[]:=by kernel_rfl
 rw[this];simpa[Ş] using hl
theorem aS(h:gY e=Â):đ e t l env=pure Ä:=by
 cases e<;>first | (cases h;done) | rfl
theorem K3(h:Xo e=Â):ŕ [.Tuple ts n p] e env=pure Á:=by
 cases e<;>first | (cases h;done) | rfl
def xC(h:noStar e=Â):ô (e::es) env=(Ä,ŀ e env)::ô es env:=by
 cases e<;>first | (cases h;done) | kernel_rfl
theorem dc:ô [] env=[]:=by kernel_rfl
theorem nE:∀{es:List Î},es.all noStar=Â->(ô es env).length=es.length
 | [],_=>by rw[dc];rfl
 | e::es,h=>by
  rw[j4,zu] at h;rw[xC h.1,zG,nE h.2];rfl
theorem iY:∀{es:List Î},es.all noStar=Â->(ô es env).findIdx? (·.1)=Á
 | [],_=>by rw[dc];rfl
 | e::es,h=>by
  rw[j4,zu] at h;rw[xC h.1,List.findIdx?_cons,iY h.2];rfl
theorem b9(h:rW e=Â):∀x,í e env x=pure x:=by
 intro x;cases e<;>first | (cases h;done) | rfl
theorem fu(h:V9 o=Â):Ď o a env whole=whole:=by
 cases o<;>first | (cases h;done) | rfl
def YN(h:plainT e=Â):∀whole,isTrue e env whole=(do let v <-whole;standAt e.pos;Đ [v] (truthy v)):=by
 intro whole;cases e<;>first | (cases h;done) | kernel_rfl
theorem XW(h:iz e=Â):fw e:=by
 intro o i;cases e<;>first | (cases h;done) | rfl
end
structure RC where
 sc:î
 N:List È
 inC:Bool
 fns:List (È×(List W->M W))
 con:List (È×W)
 tab:List (È×List (È×W))
 bin:List È
 own:List È
 txt:List È
 cmp:List ((Nat×Nat)×List È)
noncomputable def FnAt(P:Ï)(w:Ñ)(K:aab)(mg:È->Option Ã)(base:Õ)(cl:Cl)(k:Nat)(x:È)(g:List W->M W):Prop:=
 ∃f fd ps,FnOk P w K mg base dR k f fd ps (bS K cl g)/\mg x=À (.ref f)/\ï K (.ref f)=Â/\Binds K fd ps []
noncomputable def AllOf{α:Type}(P:È->α->Prop):List (È×α)->Prop
 | []=>True
 | (x,g)::r=>P x g/\AllOf P r
theorem AllOf.at{α:Type}{P:È->α->Prop}{x:È}{g:α}:∀{l:List (È×α)},AllOf P l->l.lookup x=À g->P x g
 | [],_,e=>by cases e
 | (y,g')::r,h,e=>by
  rw[qF] at e;cases q:x==y with
  | true=>rw[q] at e;cases e;rw[eq_of_beq q];exact h.1
  | false=>rw[q] at e;exact AllOf.at h.2 e
noncomputable def AllNone(mg:È->Option Ã):List È->Prop
 | []=>True
 | x::r=>mg x=Á/\AllNone mg r
theorem AllNone.at:∀{l:List È},AllNone mg l->x∈l->mg x=Á
 | y::r,h,e=>by
  rcases zj.mp e with rfl | e
  .exact h.1
  .exact AllNone.at h.2 e
structure BaseOk(P:Ï)(w:Ñ)(K:aab)(mg:È->Option Ã)(base:Õ)(cl:Cl)(k:Nat)(Γ:RC):Prop where
 fns:AllOf (FnAt P w K mg base cl k) Γ.fns
 con:AllOf (Glob K mg) Γ.con
 tab:AllOf (TabOk K w.params mg) Γ.tab
 bin:AllNone mg Γ.bin
 pw:cl.P=P/\cl.w=w
structure Fits(Γ:RC)(cl:Cl)(k:Nat)(X:Cx):Prop where
 sc:X.env.scope=Γ.sc
 N:X.N=Γ.N
 nd:X.N.Nodup
 fn:Γ.inC=Ä->∀x,X.fn x=Â
 kind:Γ.sc.kind=.function
 calm:X.calm=Â
 pass:PassesOwn (Í X.prog X.w) X.A X.env X.xe
 room:Room k X.A
 base:BaseOk X.prog X.w X.K X.mg X.base cl k Γ
noncomputable def nH(x:È):List È->Option Nat
 | []=>Á
 | y::r=>if y==x then À 0 else (nH x r).map (· + 1)
noncomputable def JZ(Γ:RC)(x:È):Option ME:=match nH x Γ.N with
 | some i=>if YG Γ.sc Γ.N i x=Â then À (zd i) else Á
 | none=>match Γ.con.lookup x with
  | some w=>if vF Γ.sc x=Â then À (eC w) else Á
  | none=>Á
noncomputable def tj:Const->Option ME
 | .none=>À (eC .non)
 | .bool b=>À (eC (.bl b))
 | .int i=>À (eC (.int i))
 | .str x=>À (eC (.str x))
 | _=>Á
noncomputable def B4(mu:Bool):į->Option (W->W->M W)
 | .Add=>match mu with
  | true=>À Y2
  | false=>À addW
 | .Sub=>À yB
 | .Mult=>À kx
 | .Mod=>À y7
 | .FloorDiv=>À aI
 | .Pow=>À WI
 | _=>Á
noncomputable def XD:CmpOp->Option (W->W->M W)
 | .Eq=>À (jv Ä)
 | .NotEq=>À (jv Â)
 | .In=>À (ab Ä)
 | .NotIn=>À (ab Â)
 | .Lt=>À Kk
 | .LtE=>À Hz
 | .Gt=>À Vl
 | .GtE=>À HM
 | .Is=>À (uS Â)
 | .IsNot=>À (uS Ä)
noncomputable def Zo(Γ:RC):Î->Option MG
 | .Name x _=>match nH x Γ.N with
  | some i=>match Γ.inC with
   | true=>if setC Γ.sc Γ.N i x=Â then À (zw i) else Á
   | false=>if setB Γ.sc Γ.N i x=Â then À (zw i) else Á
  | none=>Á
 | _=>Á
noncomputable def Vn(Γ:RC):Î->Option MG
 | .Tuple es _ _=>if es.all noStar=Â then (qk (Zo Γ) es).map vS else Á
 | e=>Zo Γ e
noncomputable def Cq:Î->Nat
 | .Tuple es _ _=>es.length
 | _=>1
section
variable{Γ:RC}{cl:Cl}{k:Nat}{X:Cx}{x:È}{m:ME}{pos:ė}
def Y7(F:Fits Γ cl k X)(h:JZ Γ x=À m):SE X cl (.Name x pos) m:=by
 unfold JZ at h;split at h
 .split at h
  .rename_i i _ q
   cases h;exact v_ q F.sc F.N
  .cases h
 .split at h
  .rename_i w e
   split at h
   .rename_i q
    cases h;exact HU q (F.base.con.at e) F.sc
   .cases h
  .cases h
def Qm(h:tj c=À m):SE X cl (.Constant c j pos) m:=by
 unfold tj at h;split at h
 .cases h;exact FP
 .cases h;exact Ge
 .cases h;exact De
 .cases h;exact DL
 .cases h
def C9(h:B4 mu op=À f):kT X (ä op) (rM X.K cl f):=by
 unfold B4 at h;split at h
 .split at h
  .cases h;exact BX
  .cases h;exact Um
 .cases h;exact UH
 .cases h;exact Uk
 .cases h;exact UN
 .cases h;exact UO
 .cases h;exact UM
 .cases h
def fN(hu:X.A.units+64<û)(h:XD op=À f):kT X (Ó op) (rM X.K cl f):=by
 cases op<;>cases h
 .exact Fx hu
 .exact Fy hu
 .exact FG
 .exact FC
 .exact C0
 .exact Co
 .exact Dm
 .exact Ql
 .exact Fd hu
 .exact Qa hu
def Ke(F:Fits Γ cl k X)(h:Zo Γ e=À g):SG X cl e g:=by
 unfold Zo at h;split at h
 .rename_i x p
  split at h
  .rename_i i _
   split at h
   .split at h
    .rename_i q
     cases h;exact HJ q (F.N▸F.nd) F.sc F.N
    .cases h
   .rename_i c
    split at h
    .rename_i q
     cases h;exact g_ q (F.N▸F.nd) F.sc F.N (F.fn c _)
    .cases h
  .cases h
 .cases h
def gX{α β:Type}{f:α->Option β}{x:α}{r:List α}{ys:List β}(h:qk f (x::r)=À ys):∃y zs,f x=À y/\qk f r=À zs/\ys=y::zs:=by
 unfold qk at h;split at h
 .rename_i y zs e1 e2
  cases h;exact⟨y,zs,e1,e2,rfl⟩
 .cases h
theorem KC(F:Fits Γ cl k X):∀{es:List Î} {gs:List MG},es.all noStar=Â->qk (Zo Γ) es=À gs->QO X cl es gs
 | [],gs,_,h=>by cases h;exact Bp
 | e::es,gs,hn,h=>by
  obtain⟨g,gs',h1,h2,rfl⟩:=gX h;rw[j4,zu] at hn;exact WF (Ke F h1) (KC F hn.2 h2) (by rw[xC hn.1];rfl)
theorem sX{α β:Type}{f:α->Option β}:∀{l:List α} {ys:List β},qk f l=À ys->ys.length=l.length
 | [],ys,h=>by cases h;rfl
 | x::r,ys,h=>by
  obtain⟨y,zs,_,h2,rfl⟩:=gX h;rw[zG,zG,sX h2]
def sg(F:Fits Γ cl k X)(h:Vn Γ e=À g):SG X cl e g:=by
 unfold Vn at h;split at h
 .rename_i es n p
  split at h
  .rename_i hn
   rw[zg] at h;obtain⟨gs,h1,rfl⟩:=h;exact DJ F.calm (KC F hn h1) (by rw[nE hn,sX h1]) (iY hn)
  .cases h
 .exact Ke F h
end
end ML
namespace ML
open PySem
def YL(xs:Array Nat)(j:Nat):∀(hX lo hi:Nat),hi-lo<=hX->lo<=hi->hi<=xs.size->(∀i (h:i<xs.size),i<lo->xs[i]<j)->(∀i (h:i<xs.size),hi<=i->j<=xs[i])->xs.toList.Pairwise (· < ·)->
  ĳ xs j hX lo hi<=xs.size/\(∀i (h:i<xs.size),i<ĳ xs j hX lo hi->xs[i]<j)/\∀i (h:i<xs.size),ĳ xs j hX lo hi<=i->j<=xs[i]:=by
 intro hX;induction hX with
 | zero=>
  intro lo hi h1 h2 h3 h4 h5 _;have:lo=hi:=by omega
  subst this;exact⟨h3,h4,h5⟩
 | succ f ih=>
  intro lo hi h1 h2 h3 h4 h5 hp;unfold ĳ;by_cases c:lo<hi
  .rw[zQ c]
   have hm:(lo+hi)/2<xs.size:=by omega
   have e:xs.getD ((lo+hi)/2) j=xs[(lo+hi)/2]:=by simp[Ă,hm]
   have mono:∀a b (ha:a<xs.size) (hb:b<xs.size),a<=b->xs[a]<=xs[b]:=by
    intro a b ha hb q;rcases jT q with q | q
    .have:=vD.mp hp a b (by simpa using ha) (by simpa using hb) q
     simpa using qY this
    .subst q;exact zr _
   dsimp only;rw[e];by_cases d:xs[(lo+hi)/2]<j
   .rw[zQ d]
    refine ih _ _ ∅ ∅ h3 (λi h q=>?_) h5 hp;exact Nat.lt_of_le_of_lt (mono i _ h hm ∅) d
   .rw[zW d]
    refine ih _ _ ∅ ∅ ∅ h4 (λi h q=>?_) hp;exact zq (qe d) (mono _ i hm h q)
  .rw[zW c]
   have:lo=hi:=by omega
   subst this;exact⟨h3,h4,h5⟩
def x5{xs:Array Nat}(hp:xs.toList.Pairwise (· < ·)):ò xs j<=xs.size/\(∀i (h:i<xs.size),i<ò xs j->xs[i]<j)/\∀i (h:i<xs.size),ò xs j<=i->j<=xs[i]:=
 YL xs j xs.size 0 xs.size ∅ ∅ (zr _) (λi h q=>absurd q ∅) (λi h q=>absurd h ∅) hp
def below_at{xs:Array Nat}(hp:xs.toList.Pairwise (· < ·))(h:i<xs.size):ò xs xs[i]=i:=by
 obtain⟨a,b,c⟩:=x5 (j:=xs[i]) hp;rcases xH (ò xs xs[i]) i with q | q | q
 .have h1:ò xs xs[i]<xs.size:=by omega
  have h2:=c _ h1 (zr _);have h3:=vD.mp hp _ i (by simpa using h1) (by simpa using h) q;erw[pJ] at h3;omega
 .exact q
 .exact absurd (b i h q) (jZ _)
structure TOk(t:Ô):Prop where
 nod:t.dummies = #[]
 up:t.place.toList.Pairwise (· < ·)
 le:∀j∈t.place.toList,j<=t.mask
 pow:∃k,3<=k/\t.mask+1=2 ^ k
 room:t.place.size<=t.mask
def nJ(j:Nat):Ŧ #[] j=Ä:=by unfold Ŧ;simp
def ig{t:Ô}(T:TOk t)(h:i<t.place.size):t.slot t.place[i]=.live i:=by
 unfold SetTable.slot;dsimp only;rw[below_at T.up h];simp[h]
theorem mR{t:Ô}(T:TOk t)(h:j∉t.place.toList):t.slot j=.empty:=by
 unfold SetTable.slot;dsimp only;rw[T.nod,nJ];have:¬(t.place[ò t.place j]?==À j)=Â:=by
  intro q;have q:=eq_of_beq q;obtain⟨h1,h2⟩:=uw.mp q;exact h (by rw[<-h2];simp)
 rw[zW this];rfl
def slot_of{t:Ô}(T:TOk t)(j:Nat):(∃i,∃h:i<t.place.size,t.place[i]=j/\t.slot j=.live i)\/(j∉t.place.toList/\t.slot j=.empty):=by
 by_cases h:j∈t.place.toList
 .obtain⟨i,h1,h2⟩:=qZ h
  have M0:i<t.place.size:=by simpa using h1
  have Ay:t.place[i]=j:=by simpa using h2
  exact .inl ⟨i,M0,Ay,by rw[<-Ay];exact ig T M0⟩
 .exact .inr ⟨h,mR T h⟩
theorem lU:∀(n:Nat) (l:List Nat),(∀j,j<n->j∈l)->n<=l.length
 | 0,_,_=>jQ _
 | n+1,l,h=>by
  have h1:=lU n (l.erase n) λj q=>by
   have:j≠n:=by omega
   exact(pF this).mpr (h j ∅)
  rw[uG (h n ∅)] at h1;have:0<l.length:=uX (h n ∅);omega
def K6{t:Ô}(T:TOk t):∃j,j<=t.mask/\j∉t.place.toList:=by
 by_cases q:∃j,j<=t.mask/\j∉t.place.toList
 .exact q
 .have h:=lU (t.mask+1) t.place.toList λj hj=>by
   by_cases m:j∈t.place.toList
   .exact m
   .exact absurd ⟨j,by omega,m⟩ q
  have:=T.room;simp at h;omega
def gw(x:Nat):Nat->Nat
 | 0=>x
 | m+1=>5*gw x m+1
theorem Qr(x:Nat)(a:Nat):∀b,gw x (a+b)=gw (gw x a) b
 | 0=>rfl
 | b+1=>by show 5*gw x (a+b)+1=_;rw[Qr x a b];rfl
theorem Qg(x:Nat):∀m,4*gw x m+1=5 ^ m*(4*x+1)
 | 0=>by simp[gw]
 | m+1=>by
  have:=Qg x m;rw[vP,Nat.mul_right_comm,<-this];show 4*(5*gw x m+1)+1=_
  omega
def five(k:Nat):∃c,5 ^ (2 ^ k)=1+2 ^ (k+2)*(2*c+1):=by
 induction k with
 | zero=>exact⟨0,rfl⟩
 | succ k ih=>
  obtain⟨c,e⟩:=ih;refine⟨c+2 ^ k*(2*c+1)*(2*c+1),?_⟩;rw[vP 2 k,Nat.pow_mul,e];have h2:2 ^ (k+1+2)=8*2 ^ k:=by rw[uq,uq];omega
  have h3:2 ^ (k+2)=4*2 ^ k:=by rw[uq];omega
  rw[h2,h3];generalize 2 ^ k=p;grind
def Wq(x k:Nat):∃c,gw x (2 ^ k)=x+2 ^ k*(2*c+1):=by
 obtain⟨c,e⟩:=five k;have h:=Qg x (2 ^ k);rw[e] at h;have h3:2 ^ (k+2)=4*2 ^ k:=by rw[uq];omega
 rw[h3] at h;refine⟨c+(2*c+1)*(2*x),?_⟩;generalize 2 ^ k=p at *;have e2:(1+4*p*(2*c+1))*(4*x+1)=4*(x+p*(2*(c+(2*c+1)*(2*x))+1))+1:=by grind
 omega
def Fj(k:Nat):∀x y:Nat,∃m,m<2 ^ k/\gw x m%2 ^ k=y%2 ^ k:=by
 induction k with
 | zero=>intro x y;exact⟨0,by simp,by simp[Nat.mod_one]⟩
 | succ k ih=>
  intro x y;obtain⟨m,hm,e⟩:=ih x y;have hp:2 ^ (k+1)=2*2 ^ k:=by rw[vP];omega
  have pos:0<2 ^ k:=Nat.two_pow_pos k;obtain⟨c,e2⟩:=Wq (gw x m) k;rw[<-Qr] at e2;rw[hp];generalize 2 ^ k=p at *;by_cases q:gw x m%(2*p)=y%(2*p)
  .exact⟨m,by omega,q⟩
  .refine⟨m+p,by omega,?_⟩
   rw[e2];have a1:gw x m=p*(gw x m/p)+gw x m%p:=(Nat.div_add_mod _ _).symm;have a2:y=p*(y/p)+y%p:=(Nat.div_add_mod _ _).symm;have r1:=wG y pos;rw[e] at a1;generalize gw x m/p=u at *;generalize y/p=v at *;generalize y%p=r at *;generalize gw x m=g at *;subst a1 a2;have par:∀n:Nat,(p*n+r)%(2*p)=p*(n%2)+r:=by
    intro n;have:p*n+r=(p*(n%2)+r)+(2*p)*(n/2):=by
     have:n=n%2+2*(n/2):=by omega
     rw[this];grind
    rw[this,Nat.add_mul_mod_self_left];apply xY
    have:n%2<2:=wG _ ∅;have:p*(n%2)<=p*1:=Nat.mul_le_mul_left _ ∅;omega
   have e3:p*u+r+p*(2*c+1)=p*(u+(2*c+1))+r:=by grind
   rw[e3,par,par];rw[par,par] at q;have:u%2≠v%2:=λz=>q (by rw[z])
   have:(u+(2*c+1))%2=v%2:=by omega
   rw[this]
def path(t:Ô)(h:Int):Nat->Ĵ
 | 0=>t.probeStart h
 | n+1=>t.advance (path t h n)
def lp(mask:Nat)(h:Int):Nat->Nat×Nat
 | 0=>(è h%(mask+1),è h)
 | n+1=>ĝ mask (lp mask h n).1 (lp mask h n).2
theorem Qt(mask:Nat)(h:Int):∀n,(lp mask h n).2=è h/32 ^ n
 | 0=>by simp[lp]
 | n+1=>by
  show(lp mask h n).2/32=_
  rw[Qt mask h n,Nat.div_div_eq_div_mul,vP]
def UX(h:Int):è h<2 ^ 64:=by unfold è;omega
def Ud(mask:Nat)(h:Int)(n:Nat):(lp mask h (n+13)).2=0:=by
 rw[Qt];have:=UX h;apply Nat.div_eq_of_lt
 have:32 ^ 13<=32 ^ (n+13):=qd ∅ ∅;omega
def Ca(mask:Nat)(h:Int)(n:Nat):(lp mask h (12+n)).1%(mask+1)=gw (lp mask h 12).1 n%(mask+1):=by
 induction n with
 | zero=>rfl
 | succ n ih=>
  show((lp mask h (12+n)).1*5+1+(lp mask h (12+n)).2/32)%(mask+1)%(mask+1)=(5*gw (lp mask h 12).1 n+1)%(mask+1)
  have z:(lp mask h (12+n)).2/32=0:=by
   have:=Ud mask h n;have e:n+13=(12+n)+1:=by omega
   rw[e] at this;exact this
  rw[z,Nat.mod_mod,vR,xV];rw[Nat.add_mod,Nat.mul_mod,ih,<-Nat.mul_mod,<-Nat.add_mod]
def Gv(mask:Nat)(h:Int)(n:Nat):(lp mask h n).1<mask+1:=by
 cases n with
 | zero=>exact wG _ ∅
 | succ n=>exact wG _ ∅
def VF(h:Int)(e:mask+1=2 ^ k)(hj:j<=mask):∃n,n<=mask+12/\(lp mask h n).1=j:=by
 obtain⟨m,hm,q⟩:=Fj k (lp mask h 12).1 j;refine⟨12+m,by omega,?_⟩;have a:=Ca mask h m;rw[e,q,<-e,xY (Gv ..),xY ∅] at a;exact a
def CB(mask i:Nat):ã mask i-i<=9:=by unfold ã;split<;>omega
def atHead(t:Ô)(h:Int)(m:Nat):Ĵ:=⟨(lp t.mask h m).1,ã t.mask (lp t.mask h m).1-(lp t.mask h m).1,(lp t.mask h m).1,(lp t.mask h m).2,Á⟩
theorem Zg(t:Ô)(h:Int)(p:Ĵ):∀(r n:Nat),path t h n={ p with more:=r }->∃j,path t h (n+r)={ p with j:=j,more:=0 }
 | 0,n,e=>⟨p.j,by rw[vR,e]⟩
 | r+1,n,e=>by
  have:path t h (n+1)={ ({ p with j:=p.j+1 }:Ĵ) with more:=r }:=by
   show t.advance (path t h n)=_
   rw[e];unfold Ć;rw[zQ (by simp)];simp
  obtain⟨j,q⟩:=Zg t h { p with j:=p.j+1 } r (n+1) this;exact⟨j,by rw[show n+(r+1)=n+1+r from by omega];exact q⟩
theorem oM(t:Ô)(h:Int):∀m,∃n,n<=10*m/\path t h n=atHead t h m
 | 0=>⟨0,by omega,rfl⟩
 | m+1=>by
  obtain⟨n,hn,e⟩:=oM t h m;obtain⟨j,q⟩:=Zg t h (atHead t h m) (atHead t h m).more n e;have r:=CB t.mask (lp t.mask h m).1;refine⟨n+(ã t.mask (lp t.mask h m).1-(lp t.mask h m).1)+1,by omega,?_⟩;show t.advance (path t h _)=_
  have q':path t h (n+(ã t.mask (lp t.mask h m).1-(lp t.mask h m).1))=_:=q;rw[q'];unfold Ć;rw[zW (by simp)];rfl
def YE{t:Ô}(h:Int)(e:t.mask+1=2 ^ k)(hj:j<=t.mask):∃n,n<10*é t.mask/\(path t h n).j=j:=by
 obtain⟨m,hm,q⟩:=VF h e hj;obtain⟨n,hn,q2⟩:=oM t h m;refine⟨n,by unfold é;omega,?_⟩;rw[q2];exact q
theorem f9(t:Ô)(h:Int):∀n,(path t h n).dummy=Á
 | 0=>rfl
 | n+1=>by
  show(t.advance (path t h n)).dummy=Á
  unfold Ć;split
  .exact f9 t h n
  .exact f9 t h n
theorem iA(t:Ô)(h:Int):∀n,(path t h n).j+(path t h n).more<=t.mask/\(path t h n).i<=t.mask
 | 0=>by
  have:è h%(t.mask+1)<t.mask+1:=wG _ ∅;show è h%(t.mask+1)+(ã t.mask (è h%(t.mask+1))-è h%(t.mask+1))<=_/\è h%(t.mask+1)<=_
  unfold ã;split<;>omega
 | n+1=>by
  obtain⟨a,b⟩:=iA t h n;show(t.advance (path t h n)).j+(t.advance (path t h n)).more<=_/\(t.advance (path t h n)).i<=_
  unfold Ć;split
  .rename_i c
   show(path t h n).j+1+((path t h n).more-1)<=_/\(path t h n).i<=_
   omega
  .show((ĝ t.mask (path t h n).i (path t h n).perturb).1)+(ã t.mask (ĝ t.mask (path t h n).i (path t h n).perturb).1-(ĝ t.mask (path t h n).i (path t h n).perturb).1)<=_/\(ĝ t.mask (path t h n).i (path t h n).perturb).1<=_
   have:(ĝ t.mask (path t h n).i (path t h n).perturb).1<t.mask+1:=wG _ ∅;generalize (ĝ t.mask (path t h n).i (path t h n).perturb).1=q at *;unfold ã;split<;>omega
def Yt{p:Nat->Prop}:∀n,p n->∃m,m<=n/\p m/\∀k,k<m->¬p k:=by
 intro n;induction n using Nat.strongRecOn with
 | _ n ih=>
  intro h;by_cases q:∃k,k<n/\p k
  .obtain⟨k,a,b⟩:=q
   obtain⟨m,c,d,e⟩:=ih k a b;exact⟨m,by omega,d,e⟩
  .exact⟨n,zr _,h,λk hk hp=>q ⟨k,hk,hp⟩⟩
def lj{t:Ô}(T:TOk t)(h:Int):∃N,N<10*é t.mask/\(path t h N).j∉t.place.toList/\∀k,k<N->(path t h k).j∈t.place.toList:=by
 obtain⟨j,hj,hn⟩:=K6 T;obtain⟨k,_,e⟩:=T.pow;obtain⟨n,a,b⟩:=YE h e hj;obtain⟨m,c,d,f⟩:=Yt (p:=λn=>(path t h n).j∉t.place.toList) n (by rw[b];exact hn)
 exact⟨m,by omega,d,λk hk=>by
  have:=f k hk;by_cases q:(path t h k).j∈t.place.toList
  .exact q
  .exact absurd q this⟩
def Wx{t:Ô}(T:TOk t)(Ř:Nat->Int)(h:Int)(hN:(path t h N).j∉t.place.toList)(hb:∀k,k<N->(path t h k).j∈t.place.toList):∀(F n:Nat),n<=N->N-n<F->
  (∃m i,n<=m/\m<N/\t.slot (path t h m).j=.live i/\Ř i=h/\Ā t Ř h F (path t h n)=À (.candidate (path t h m).j i (path t h (m+1)))/\∀m',n<=m'->m'<m->∀i',t.slot (path t h m').j=.live i'->Ř i'≠h) \/
  (Ā t Ř h F (path t h n)=À (.empty (path t h N).j Á)/\∀m',n<=m'->m'<N->∀i',t.slot (path t h m').j=.live i'->Ř i'≠h):=by
 intro F;induction F with
 | zero=>intro n _ q;omega
 | succ F ih=>
  intro n hn hF;rcases jT hn with q | q
  .obtain⟨i,hi,e1,e2⟩ | ⟨e1,_⟩:=slot_of T (path t h n).j
   .have e:Ā t Ř h (F+1) (path t h n)=if Ř i==h then À (.candidate (path t h n).j i (t.advance (path t h n))) else Ā t Ř h F (t.advance (path t h n)):=by
     rw[Ā,e2]
    by_cases c:Ř i=h
    .refine .inl ⟨n,i,zr _,q,e2,c,?_,λm' a b=>absurd a ∅⟩
     rw[e,zQ (by simpa using c)];rfl
    .rw[e,zW (by simpa using c)]
     have step:∀m',n<=m'->m'<n+1->∀i',t.slot (path t h m').j=.live i'->Ř i'≠h:=by
      intro m' a b i' z;have:m'=n:=by omega
      subst this;rw[e2] at z;cases z;exact c
     rcases ih (n+1) q ∅ with ⟨m,i',a,b,c1,c2,c3,c4⟩ | ⟨a,b⟩
     .refine .inl ⟨m,i',by omega,b,c1,c2,c3,λm' z1 z2 Ms z3=>?_⟩
      by_cases w:m'<n+1
      .exact step m' z1 w Ms z3
      .exact c4 m' ∅ z2 Ms z3
     .refine .inr ⟨a,λm' z1 z2 Ms z3=>?_⟩
      by_cases w:m'<n+1
      .exact step m' z1 w Ms z3
      .exact b m' ∅ z2 Ms z3
   .exact absurd (hb n q) e1
  .subst q
   refine .inr ⟨?_,λm' a b=>absurd a ∅⟩;rw[Ā,mR T hN,f9]
theorem u3{t t':Ô}(e:t.mask=t'.mask)(h:Int):∀n,path t h n=path t' h n
 | 0=>by show t.probeStart h=t'.probeStart h;unfold SetTable.probeStart;rw[e]
 | n+1=>by
  show t.advance (path t h n)=t'.advance (path t' h n)
  rw[u3 e h n];unfold Ć;rw[e]
def On(t:Ô)(occ:Nat->Prop)(j:Nat)(h:Int):Prop:=∃n,(path t h n).j=j/\∀m,m<n->occ (path t h m).j
def On.mono{t t':Ô}(o:On t occ j h)(e:t.mask=t'.mask)(k:∀j,occ j->occ' j):On t' occ' j h:=by
 obtain⟨n,a,b⟩:=o;exact⟨n,by rw[<-u3 e];exact a,λm hm=>k _ (by rw[<-u3 e];exact b m hm)⟩
structure SOk(t:Ô)(es:List (Int×Ã))(R:List (Nat×(Int×Ã))):Prop where
 T:TOk t
 pl:R.map (·.1)=t.place.toList
 es:R.map (·.2)=es
 on:∀r∈R,On t (· ∈ t.place.toList) r.1 r.2.1
 few:t.place.size*5<t.mask*3
def cv{α:Type}(xs:Array α){p:Nat}(hp:p<=xs.size)(x:α):(č xs p x).toList=xs.toList.take p++x::xs.toList.drop p:=by
 unfold č;simp[Array.toList_extract,List.extract_eq_take_drop];rw[uW (by simp)]
def gd{t:Ô}(T:TOk t)(j:Nat):(t.put j).1.place.toList=t.place.toList.take (t.put j).2++j::t.place.toList.drop (t.put j).2:=cv _ (x5 T.up).1 _
def D9{t:Ô}(T:TOk t)(hj:j<=t.mask)(hn:j∉t.place.toList)(hr:t.place.size+1<=t.mask):TOk (t.put j).1:=by
 have L:=gd T j;obtain⟨b1,b2,b3⟩:=x5 (xs:=t.place) (j:=j) T.up;refine⟨?_,?_,?_,T.pow,?_⟩
 .show(if Ŧ t.dummies j then _ else t.dummies)=_
  rw[T.nod,nJ];rfl
 .rw[L]
  have hl:∀x∈t.place.toList.take (t.put j).2,x<j:=λx hx=>by
   obtain⟨i,h1,h2⟩:=qZ hx;rw[vd] at h1;rw[List.getElem_take] at h2;have:=b2 i (by simp at h1;omega) (show i<(t.put j).2 by omega);simp at h2;omega
  have hg:∀x∈t.place.toList.drop (t.put j).2,j<x:=λx hx=>by
   obtain⟨i,h1,h2⟩:=qZ hx;rw[qO] at h1;rw[List.getElem_drop] at h2;have h3:(t.put j).2+i<t.place.size:=by simp at h1;omega
   have:=b3 ((t.put j).2+i) h3 (xZ _ _);simp at h2;have ne:x≠j:=λz=>hn (by rw[<-z];exact jR hx)
   omega
  refine List.pairwise_append.mpr ⟨T.up.sublist (xJ _ _),qz.mpr ⟨hg,T.up.sublist (List.drop_sublist _ _)⟩,λa ha b hb=>?_⟩;rcases zj.mp hb with rfl | hb
  .exact hl a ha
  .exact u9 (hl a ha) (hg b hb)
 .intro x hx
  rw[L] at hx;rcases zF.mp hx with hx | hx
  .exact T.le x (vA hx)
  .rcases zj.mp hx with rfl | hx
   .exact hj
   .exact T.le x (jR hx)
 .show(t.put j).1.place.size<=t.mask
  have:(t.put j).1.place.toList.length=t.place.toList.length+1:=by
   rw[L,zR,zG,<-Nat.add_assoc,<-zR,qP]
  simp at this;omega
def U2{t:Ô}(T:TOk t)(j x:Nat):x∈(t.put j).1.place.toList↔x=j\/x∈t.place.toList:=by
 rw[gd T];constructor
 .intro h
  rcases zF.mp h with h | h
  .exact .inr (vA h)
  .rcases zj.mp h with h | h
   .exact .inl h
   .exact .inr (jR h)
 .rintro(rfl | h)
  .exact kh _ (zz ..)
  .rw[<-qP (t.put j).2 t.place.toList] at h
   rcases zF.mp h with h | h
   .exact yP _ h
   .exact kh _ (zp _ h)
theorem SOk.put{t:Ô}{es:Array (Int×Ã)}{R:List (Nat×(Int×Ã))}(S:SOk t es.toList R)(hN:(path t h N).j∉t.place.toList)(hb:∀k,k<N->(path t h k).j∈t.place.toList)
  (t':Ô) (hm:t'.mask=t.mask) (hp:t'.place=(t.put (path t h N).j).1.place) (hd:t'.dummies=(t.put (path t h N).j).1.dummies) (few:t'.place.size*5<t'.mask*3) :
  ∃R',SOk t' (č es (t.put (path t h N).j).2 (h,x)).toList R'/\R'.Perm (((path t h N).j,(h,x))::R):=by
 have T:=S.T;have L:=gd T (path t h N).j;have hj:(path t h N).j<=t.mask:=by have:=(iA t h N).1;omega
 have hr:t.place.size+1<=t.mask:=by
  have:=S.few;obtain⟨k,a,b⟩:=T.pow;have:2 ^ 3<=2 ^ k:=qd ∅ a;omega
 have T':=D9 T hj hN hr;have Af:R.length=es.size:=by have:=jl Ú S.es;simpa using this
 have AM:R.length=t.place.size:=by have:=jl Ú S.pl;simpa using this
 have SM:(t.put (path t h N).j).2<=es.size:=by
  have:=(x5 (xs:=t.place) (j:=(path t h N).j) T.up).1;rw[<-Af,AM];exact this
 generalize hq:(t.put (path t h N).j).2=p at *;refine⟨R.take p++((path t h N).j,(h,x))::R.drop p,⟨⟨by rw[hd];exact T'.nod,by rw[hp];exact T'.up,by rw[hp,hm];exact T'.le,by rw[hm];exact T.pow,by rw[hp,hm];exact T'.room⟩,?_,?_,?_,few⟩,?_⟩
 .rw[hp,L]
  simp[xg,xm,S.pl]
 .rw[cv _ SM]
  simp[xg,xm,S.es]
 .have up:∀j,j∈t.place.toList->j∈t'.place.toList:=λj hj=>by rw[hp];exact(U2 T _ _).mpr (.inr hj)
  intro r hr;rcases zF.mp hr with hr | hr
  .exact(S.on r (vA hr)).mono hm.symm up
  .rcases zj.mp hr with rfl | hr
   .exact On.mono (t:=t) (occ:=(· ∈ t.place.toList)) ⟨N,rfl,hb⟩ hm.symm up
   .exact(S.on r (jR hr)).mono hm.symm up
 .have:R.Perm (R.take p++R.drop p):=by rw[qP]
  exact List.perm_middle.trans (Ģ _ this.symm)
theorem dE(t:Ô)(h:Int)(e:path t h n=atHead t h m):∀k,k<=(atHead t h m).more->path t h (n+k)=⟨(lp t.mask h m).1+k,(atHead t h m).more-k,(lp t.mask h m).1,(lp t.mask h m).2,Á⟩
 | 0,_=>by rw[vR,e];rfl
 | k+1,hk=>by
  show t.advance (path t h (n+k))=_
  rw[dE t h e k ∅];unfold Ć;rw[zQ (show(atHead t h m).more-k>0 by omega)];erw[SetTable.Probe.mk.injEq,uL];omega
theorem VA(t:Ô)(h:Int)(e:path t h n=atHead t h m):path t h (n+(atHead t h m).more+1)=atHead t h (m+1):=by
 show t.advance (path t h (n+(atHead t h m).more))=_
 rw[dE t h e _ (zr _)];unfold Ć;rw[zW (by simp)];rfl
def em(owner:Array (Option Nat))(j:Nat):Bool:=(owner.getD j (À 0)).isNone
def Uu(t:Ô)(h:Int)(owner:Array (Option Nat)):∀(hX m n:Nat),path t h n=atHead t h m->(∀k,k<n->em owner (path t h k).j=Ä)->(∃d,d<hX/\em owner (lp t.mask h (m+d)).1=Â)->
  ∃N,Ě t.mask owner hX (lp t.mask h m).1 (lp t.mask h m).2=À (path t h N).j/\em owner (path t h N).j=Â/\∀k,k<N->em owner (path t h k).j=Ä:=by
 intro hX;induction hX with
 | zero=>rintro m n _ _ ⟨d,hd,_⟩;omega
 | succ hX ih=>
  rintro m n e hb ⟨d,hd,he⟩;have hi:(lp t.mask h m).1<=ã t.mask (lp t.mask h m).1:=by unfold ã;split<;>omega
  have Pa:(atHead t h m).more=ã t.mask (lp t.mask h m).1-(lp t.mask h m).1:=rfl;unfold Ě;cases q:(ß (ã t.mask (lp t.mask h m).1+1-(lp t.mask h m).1)).find? (λk=>(owner.getD ((lp t.mask h m).1+k) (À 0)).isNone) with
  | some k=>
   obtain⟨a,b,c⟩:=List.find?_range_eq_some.mp q;have hk:k<=(atHead t h m).more:=by have:=jV.mp b;omega
   refine⟨n+k,?_,?_,λk' NZ=>?_⟩
   .simp only[]
    rw[dE t h e k hk]
   .rw[dE t h e k hk];exact a
   .by_cases z:k'<n
    .exact hb k' z
    .have e2:k'=n+(k'-n):=by omega
     rw[e2,dE t h e (k'-n) ∅];have:=c (k'-n) ∅;unfold em;simpa using this
  | none=>
   simp only[];have all:=List.find?_range_eq_none.mp q;have hb2:∀k,k<n+(atHead t h m).more+1->em owner (path t h k).j=Ä:=λk' NZ=>by
    by_cases z:k'<n
    .exact hb k' z
    .have e2:k'=n+(k'-n):=by omega
     rw[e2,dE t h e (k'-n) ∅];have:=all (k'-n) ∅;unfold em;simpa using this
   refine ih (m+1) _ (VA t h e) hb2 ?_;cases d with
   | zero=>
    have:=all 0 ∅;rw[vR] at he;unfold em at he;rw[vR,he] at this;cases this
   | succ d=>exact⟨d,by omega,by rw[show m+1+d=m+(d+1) from by omega];exact he⟩
def live(mask:Nat)(owner:Array (Option Nat)):List (Nat×Nat):=(ß (mask+1)).filterMap λj=>(owner.getD j Á).map (j,·)
theorem ZA:∀{l:List Nat},(∀x∈l,g x=f x)->l.filterMap g=l.filterMap f
 | [],_=>rfl
 | x::l,h=>by
  have e:=h x (zz ..);have r:=ZA (l:=l) λy hy=>h y (zp _ hy)
  erw[vL,e,r]
theorem V5(hf:f j=Á)(hg:g j=À v)(ho:∀i,i≠j->g i=f i):∀l:List Nat,l.Nodup->j∈l->(l.filterMap g).Perm (v::l.filterMap f)
 | [],_,h=>by cases h
 | i::l,nd,h=>by
  obtain⟨n1,n2⟩:=jU.mp nd;by_cases e:i=j
  .subst e
   rw[j9 hg,qU hf];have:l.filterMap g=l.filterMap f:=by
    apply ZA
    intro x hx;exact ho x λz=>n1 (z▸hx)
   rw[this]
  .have hj:j∈l:=by
    rcases zj.mp h with h | h
    .exact absurd h.symm e
    .exact h
   have ih:=V5 hf hg ho l n2 hj;cases q:f i with
   | none=>rw[qU (by rw[ho i e,q]),qU q];exact ih
   | some u=>
    rw[j9 (by rw[ho i e,q]),j9 q];exact(Ģ _ ih).trans (Ź _ _ _)
structure LInv(t:Ô)(owner:Array (Option Nat))(D:List Int):Prop where
 sz:owner.size=t.mask+1
 perm:((live t.mask owner).map (·.2)).Perm (ß D.length)
 on:∀j i,owner.getD j Á=À i->∃h,D[i]?=À h/\On t (λj=>em owner j=Ä) j h
def mem_live{owner:Array (Option Nat)}:(j,i)∈live mask owner↔j<mask+1/\owner.getD j Á=À i:=by
 unfold live;rw[xf];constructor
 .rintro⟨j',a,b⟩
  obtain⟨i',c,d⟩:=zg.mp b;cases d;exact⟨jV.mp a,c⟩
 .rintro⟨a,b⟩
  exact⟨j,jV.mpr a,by rw[b];rfl⟩
def em_iff{owner:Array (Option Nat)}(hs:owner.size=mask+1)(hj:j<=mask):em owner j=Â↔owner.getD j Á=Á:=by
 have:j<owner.size:=by omega
 unfold em Ă;simp[this]
def VO{t:Ô}{D:List Int}(I:LInv t owner D)(hl:D.length<=t.mask):∃j,j<=t.mask/\em owner j=Â:=by
 by_cases q:∃j,j<=t.mask/\em owner j=Â
 .exact q
 .have h:=lU (t.mask+1) ((live t.mask owner).map (·.1)) λj hj=>by
   have:owner.getD j Á≠Á:=λz=>q ⟨j,by omega,(em_iff I.sz ∅).mpr z⟩
   obtain⟨i,e⟩:=uv.mp this;exact zK.mpr ⟨(j,i),mem_live.mpr ⟨hj,e⟩,rfl⟩
  have:=I.perm.length_eq;simp at h this;omega
def Yh{t:Ô}(hp:t.mask+1=2 ^ k){owner:Array (Option Nat)}{D:List Int}(I:LInv t owner D)(hl:D.length<=t.mask)(h:Int) :
  ∃j,Ě t.mask owner (é t.mask) (è h%(t.mask+1)) (è h)=À j/\LInv t (owner.setIfInBounds j (À D.length)) (D++[h]):=by
 obtain⟨j0,SN,SQ⟩:=VO I hl;obtain⟨m0,Pb,e0⟩:=VF h hp SN;obtain⟨N,a,b,c⟩:=Uu t h owner (é t.mask) 0 0 rfl (λk hk=>absurd hk ∅) ⟨m0,by unfold é;omega,by rw[yJ,e0];exact SQ⟩;refine⟨(path t h N).j,a,?_⟩;have hj:(path t h N).j<=t.mask:=by have:=(iA t h N).1;omega
 have hn:=(em_iff I.sz hj).mp b;have upd:∀i,(owner.setIfInBounds (path t h N).j (À D.length)).getD i Á=if i=(path t h N).j then À D.length else owner.getD i Á:=by
  intro i;by_cases e:i=(path t h N).j
  .subst e
   have:(path t h N).j<owner.size:=by rw[I.sz];omega
   simp[Ă,this]
  .rw[zW e]
   unfold Ă;erw[vV];split
   .exact Array.getElem_setIfInBounds_ne _ (λz=>e z.symm)
   .rfl
 have keep:∀i,em owner i=Ä->em (owner.setIfInBounds (path t h N).j (À D.length)) i=Ä:=by
  intro i e;by_cases q:i<=t.mask
  .cases z:em (owner.setIfInBounds (path t h N).j (À D.length)) i with
   | false=>rfl
   | true=>
    have z2:=(em_iff (mask:=t.mask) (by rw[vV];exact I.sz) q).mp z;rw[upd] at z2;split at z2
    .cases z2
    .rw[(em_iff I.sz q).mpr z2] at e;cases e
  .unfold em Ă
   rw[dif_neg (by rw[vV,I.sz];omega)];rfl
 refine⟨by rw[vV];exact I.sz,?_,?_⟩
 .have P:=V5 (f:=λj=>(owner.getD j Á).map (j,·)) (g:=λj=>((owner.setIfInBounds (path t h N).j (À D.length)).getD j Á).map (j,·)) (j:=(path t h N).j) (v:=((path t h N).j,D.length)) (by rw[hn];rfl) (by rw[upd,zQ rfl];rfl) (λi hi=>by rw[upd,zW hi]) (ß (t.mask+1)) List.nodup_range (jV.mpr ∅)
  have P2:=P.map (·.2);rw[zx] at P2;rw[zR,qt,List.range_succ];exact P2.trans ((Ģ _ I.perm).trans (List.perm_append_comm (l₁:=[D.length])))
 .intro j i e
  rw[upd] at e;by_cases z:j=(path t h N).j
  .rw[zQ z] at e
   cases e;subst z;refine⟨h,by simp,N,rfl,λm hm=>keep _ (c m hm)⟩
  .rw[zW z] at e
   obtain⟨h',e1,e2⟩:=I.on j i e;have:i<D.length:=by
    obtain⟨q,_⟩:=zA.mp e1;exact q
   exact⟨h',by rw[zY this];exact e1,e2.mono rfl keep⟩
theorem Kg{t:Ô}(hp:t.mask+1=2 ^ k):∀(l:List Int) (owner:Array (Option Nat)) (D:List Int),LInv t owner D->D.length+l.length<=t.mask+1->
  ∃owner',(l.foldl (init:=À (owner,D.length)) λacc h=>do
   let (owner,k) <-acc
   let j <-Ě t.mask owner (é t.mask) (è h%(t.mask+1)) (è h)
   pure (owner.setIfInBounds j (À k),k+1))=À (owner',(D++l).length)/\LInv t owner' (D++l)
 | [],owner,D,I,_=>⟨owner,by simp,by rw[v6];exact I⟩
 | h::l,owner,D,I,hl=>by
  erw[zG] at hl;obtain⟨j,e,I'⟩:=Yh hp I ∅ h;obtain⟨o',e2,I2⟩:=Kg hp l _ _ I' (by rw[zR,qt];omega);refine⟨o',?_,by rw[yo] at I2;exact I2⟩;rw[List.foldl_cons];have e3:D++h::l=D++[h]++l:=by simp
  rw[e3,<-e2];congr 1
  erw[Option.bind_eq_bind,qD,e,Option.pure_def,zR,qt]
def F0(t:Ô):LInv t (Ū (t.mask+1) Á) []:=by
 have z:∀j,(Ū (t.mask+1) (Á:Option Nat)).getD j Á=Á:=by
  intro j;unfold Ă;split
  .simp
  .rfl
 refine⟨by simp,?_,λj i e=>by rw[z] at e;cases e⟩;have:live t.mask (Ū (t.mask+1) Á)=[]:=by
  unfold live;rw[List.filterMap_eq_nil_iff];intro j _;rw[z];rfl
 rw[this];exact List.Perm.nil
theorem ZT(hp:mask+1=2 ^ k)(H:Array Int)(hl:H.size<=mask)(t:Ô)(ht:t.mask=mask):∃owner,SetTable.layClean mask H=À owner/\LInv t owner H.toList:=by
 subst ht;obtain⟨o,e,I⟩:=Kg hp H.toList _ [] (F0 t) (by simp;omega);refine⟨o,?_,by simpa using I⟩;unfold SetTable.layClean;rw[<-Array.foldl_toList];rw[show(([]:List Int).length)=0 from rfl] at e;rw[e];rfl
def Bh(mask:Nat)(owner:Array (Option Nat)):((live mask owner).map (·.1)).Pairwise (· < ·):=by
 unfold live;have:∀l:List Nat,l.Pairwise (· < ·)->((l.filterMap λj=>(owner.getD j Á).map (j,·)).map (·.1)).Pairwise (· < ·)/\∀x∈(l.filterMap λj=>(owner.getD j Á).map (j,·)).map (·.1),x∈l:=by
  intro l;induction l with
  | nil=>intro _;exact⟨Ğ,λx h=>by cases h⟩
  | cons j l ih=>
   intro h;obtain⟨h1,h2⟩:=qz.mp h;obtain⟨i1,i2⟩:=ih h2;cases q:owner.getD j Á with
   | none=>
    rw[qU (by rw[q];rfl)];exact⟨i1,λx hx=>zp _ (i2 x hx)⟩
   | some v=>
    rw[j9 (b:=(j,v)) (by rw[q];rfl),zx]
    exact⟨qz.mpr ⟨λx hx=>h1 x (i2 x hx),i1⟩,λx hx=>by
     rcases zj.mp hx with rfl | hx
     .exact zz ..
     .exact zp _ (i2 x hx)⟩
 exact(this _ (List.pairwise_lt_range)).1
def filterMap_get{α:Type}(l:List α):(ß l.length).filterMap (l[·]?)=l:=by
 induction l with
 | nil=>rfl
 | cons a l ih=>
  rw[zG,List.range_succ_eq_map,j9 (b:=a) (by rfl),wR];congr 1
def KL  (hp : mask + 1 = 2 ^ k) (hk : 3 <= k) (es : Array (Int × Ã)) (few : es.size * 5 < mask * 3) (finger moves : Nat) (led plain : Bool) :
    ∃ t' order, SetTable.laid mask finger moves led plain (es.map (·.1)) = À (t', order) /\ t'.mask = mask /\ t'.led = led /\ t'.plain = plain /\ t'.finger = finger /\ t'.moves = moves /\ (order.filterMap (es[·]?)).toList.Perm es.toList /\
      ∃ R', SOk t' (order.filterMap (es[·]?)).toList R' := by
  let t0 : Ô := { mask, place := #[], dummies := #[], finger, led, moves, plain }
  obtain ⟨owner, e, I⟩ := ZT hp (es.map (·.1)) (by simp;omega) t0 rfl;let lv := live mask owner
  let t' : Ô := { mask, place := (lv.map (·.1)).toArray, dummies := #[], finger, led, moves, plain }
  have hI : ((live mask owner).map (·.2)).Perm (ß es.size) := by have := I.perm;simpa using this
  have pe : ((lv.map (·.2)).toArray.filterMap (es[·]?)).toList.Perm es.toList := by
    rw [u0];have := List.Perm.filterMap (es[·]?) hI;refine this.trans ?_;have e2 := filterMap_get es.toList;erw[zV, yN] at e2;rw [e2]
  refine ⟨t', (lv.map (·.2)).toArray, ?_, rfl, rfl, rfl, rfl, rfl, pe, ?_⟩
  · unfold SetTable.laid
    rw [e];rfl
  · have Da : lv.length = es.size := by have := hI.length_eq;simpa using this
    have inr : ∀ p ∈ lv, p.2 < es.size := λp hp => jV.mp (hI.mem_iff.mp (zK.mpr ⟨p, hp, rfl⟩))
    let R' := lv.map λp => (p.1, es.toList.getD p.2 (0, Ö))
    have Mt : ∀ p ∈ lv, es[p.2]? = À (es.toList.getD p.2 (0, Ö)) := λp hp => by
      have := inr p hp;simp [Ĕ, this]
    have SR : ∀ j, j <= mask -> (em owner j = Ä ↔ j ∈ lv.map (·.1)) := λj hj => by
      constructor
      · intro q
        have : owner.getD j Á ≠ Á := λz => by rw [(em_iff I.sz hj).mpr z] at q;cases q
        obtain ⟨i, e⟩ := uv.mp this;exact zK.mpr ⟨(j, i), mem_live.mpr ⟨by omega, e⟩, rfl⟩
      · intro q
        obtain ⟨⟨j', i⟩, a, b⟩ := zK.mp q;cases b;cases z : em owner j' with
        | false => rfl
        | true =>
          have := (em_iff (mask := mask) I.sz hj).mp z;rw [(mem_live.mp a).2] at this;cases this
    refine ⟨R', ⟨⟨rfl, ?_, ?_, ⟨k, hk, hp⟩, ?_⟩, ?_, ?_, ?_, ?_⟩⟩
    · exact Bh mask owner
    · intro j hj
      obtain ⟨⟨j', i⟩, a, b⟩ := zK.mp hj;cases b;have := (mem_live.mp a).1;show j' <= mask
      omega
    · show (lv.map (·.1)).toArray.size <= mask
      simp [Da];omega
    · show (lv.map λp => (p.1, es.toList.getD p.2 (0, Ö))).map (·.1) = (lv.map (·.1)).toArray.toList
      simp
    · show (lv.map λp => (p.1, es.toList.getD p.2 (0, Ö))).map (·.2) = ((lv.map (·.2)).toArray.filterMap (es[·]?)).toList
      rw [u0, wR, jb];have : ∀ l : List (Nat × Nat), (∀ p ∈ l, es[p.2]? = À (es.toList.getD p.2 (0, Ö))) -> l.map ((λ(x : Nat × (Int × Ã)) => x.2) ∘ λp => (p.1, es.toList.getD p.2 (0, Ö))) = l.filterMap ((λx => es[x]?) ∘ λx => x.2) := by
        intro l;induction l with
        | nil => intro _;rfl
        | cons p l ih =>
          intro h;have e0 : ((λx => es[x]?) ∘ λ(x : Nat × Nat) => x.2) p = À (es.toList.getD p.2 (0, Ö)) := h p (zz ..);rw [j9 e0, zx, ih λq hq => h q (zp _ hq)];rfl
      exact this lv Mt
    · intro r hr
      obtain ⟨⟨j, i⟩, a, b⟩ := zK.mp hr;cases b;obtain ⟨h, e1, e2⟩ := I.on j i (mem_live.mp a).2;have e3 : h = (es.toList.getD i (0, Ö)).1 := by
        have := Mt _ a;have Ii : (es.map (·.1))[i]? = À h := by simpa using e1
        rw [Array.getElem?_map, this] at Ii;simpa using Ii.symm
      obtain ⟨n, q1, q2⟩ := e2;refine ⟨n, ?_, λm hm => ?_⟩
      · show (path t' (es.toList.getD i (0, Ö)).1 n).j = j
        rw [<- e3, u3 (t := t') (t' := t0) rfl];exact q1
      · show (path t' (es.toList.getD i (0, Ö)).1 m).j ∈ (lv.map (·.1)).toArray.toList
        rw [<- e3, u3 (t := t') (t' := t0) rfl];have le := (iA t0 h m).1
        exact (SR _ (by have : t0.mask = mask := rfl;omega)).mp (q2 m hm)
    · show (lv.map (·.1)).toArray.size * 5 < mask * 3
      simp [Da];exact few
theorem Kr(n:Nat):∀(hX k:Nat),n<2 ^ (k+hX)->∃k',k<=k'/\SetTable.sizeAbove.go n hX (2 ^ k)=2 ^ k'/\n<2 ^ k'/\(2 ^ k'<=2*n\/k'=k)
 | 0,k,h=>⟨k,zr _,rfl,h,.inr rfl⟩
 | hX+1,k,h=>by
  unfold SetTable.sizeAbove.go;by_cases c:2 ^ k<=n
  .rw[zQ c,<-vP]
   obtain⟨k',a,b,d,e⟩:=Kr n hX (k+1) (by rw[show k+1+hX=k+(hX+1) from by omega];exact h);refine⟨k',by omega,b,d,.inl ?_⟩;rcases e with e | e
   .exact e
   .subst e;rw[vP];omega
  .rw[zW c]
   exact⟨k,zr _,rfl,by omega,.inr rfl⟩
def Zn(h:n<2 ^ 60):∃k,3<=k/\SetTable.sizeAbove n=2 ^ k/\n<2 ^ k/\(2 ^ k<=2*n\/k=3):=by
 have h2:2 ^ 60<=2 ^ (3+64):=qd ∅ ∅;obtain⟨k,a,b,c,d⟩:=Kr n 64 3 (zN h h2);exact⟨k,a,b,c,d⟩
section
variable{prog:Ï}{w:Ñ}{K:Type}[DecidableEq K]{knd:KeyKind prog w K}{A:Ø}{E:Ã->Å->Prop}{s:Å}
def Vj(n:Nat)(h:ĕ v=Â):ğ n v=pure Ä:=by
 cases v with
 | ref a=>simp[ĕ] at h
 | _=>first | rfl | simp[ğ] | (unfold ğ;rfl)
def oP(hk:Ò knd s.heap ks a)(h:Q Ä s):Æ (Í prog w) A (ğ 8 (.ref a)) Q E s:=by
 have hT:=hk.typeIs;obtain⟨o,items,n,ho,_,hd,hi⟩:=hk;unfold ğ;refine za (qH hT ?_);dsimp only;rw[if_pos (by rfl)];refine za (zf ?_);rw[zW (by simp)];refine za (j7 ho hd ?_);dsimp only;refine ê ?_;rw[<-Array.forIn_toList];refine v9 _ (λrest r s'=>r.1=Á/\s'=s/\∀v∈rest,ĕ v=Â) _ ?_ ?_ _ _ ⟨rfl,rfl,hi.byValue⟩
 .rintro v rest r s' ⟨hr,rfl,pf⟩
  rw[Vj _ (pf v zz)];refine za (zf ?_);erw[zP,jy];exact zf ⟨rfl,rfl,λu N4=>pf u (zp _ N4)⟩
 .rintro⟨r1,r2⟩ s' ⟨hr,rfl,_⟩
  simp only at hr;subst hr;exact zf h
def DP(hk:Ò knd s.heap ks x)(hl:∀v∈l,∃lx b,v=.ref b/\Ò knd s.heap lx b)(h:Q Ä s):Æ (Í prog w) A (searchCouldBeSeen (.ref x) l) Q E s:=by
 unfold searchCouldBeSeen;refine za ?_;refine v9 _ (λrest r s'=>r.1=Á/\s'=s/\∀v∈rest,∃lx b,v=.ref b/\Ò knd s.heap lx b) _ ?_ ?_ _ _ ⟨rfl,rfl,hl⟩
 .rintro v rest r s' ⟨hr,rfl,pf⟩
  obtain⟨lx,b,rfl,hb⟩:=pf v zz;have fin:∀u∈rest,∃lx b,u=.ref b/\Ò knd s'.heap lx b:=λu hu=>pf u (zp _ hu)
  dsimp only;by_cases e:(x==b)=Â
  .rw[zQ (by simp[e])]
   exact zf ⟨rfl,rfl,fin⟩
  .rw[zW (by simp[e,ĕ])]
   refine za (Ű hk ?_);erw[xr,zP,jy];refine za (Ű hb ?_);erw[xr,zP,jy];refine za (oP hk ?_);erw[zP,jy];refine za (oP hb ?_);erw[zP,jy];exact zf ⟨rfl,rfl,fin⟩
 .rintro⟨r1,r2⟩ s' ⟨hr,rfl,_⟩
  simp only at hr;subst hr;exact zf h
def SetT(knd:KeyKind prog w K)(h:Õ)(a:Ç)(L:List (List K×Ç)):Prop:=
 ∃o es ep t R,h.get? a=À o/\o.ExactSet/\o.data=.set es ep t/\t.mask<=8191/\t.led = !w.params.followText "set-order" /\ SOk t es.toList R/\es.toList=L.map (λp=>(Ì knd p.1,Ë p.2))/\(L.map (·.1)).Nodup/\∀p∈L,Ò knd h p.1 p.2
theorem TOk.odd{t:Ô}(T:TOk t):t.gaveWay=Ä:=by
 obtain⟨k,a,b⟩:=T.pow;unfold SetTable.gaveWay;obtain⟨k,rfl⟩:∃j,k=j+1:=⟨k-1,by omega⟩;rw[vP] at b;have:t.mask%2=1:=by omega
 rw[this];rfl
theorem SOk.fits{t:Ô}{es:Array (Int×Ã)}{R:List (Nat×(Int×Ã))}(S:SOk t es.toList R):t.fits es.size=Â:=by
 have a:=jl Ú S.pl;have b:=jl Ú S.es;erw[zH,zV] at a b;unfold SetTable.fits ħ;rw[S.T.nod];have:=S.T.room;simp;omega
theorem SOk.at{t:Ô}{es:Array (Int×Ã)}{R:List (Nat×(Int×Ã))}(S:SOk t es.toList R)(h:t.slot j=.live i):∃e,es[i]?=À e/\(j,e)∈R/\t.place[i]?=À j:=by
 obtain⟨i',hi,e1,e2⟩ | ⟨_,e2⟩:=slot_of S.T j
 .rw[e2] at h
  cases h;have a:=jl Ú S.pl;erw[zH,zV] at a;have hr:i<R.length:=by omega
  have p1:R[i].1=j:=by
   have:=jl (·[i]?) S.pl;simp[hr,hi] at this;rw[this];exact e1
  have p2:es[i]?=À R[i].2:=by
   have:=jl (·[i]?) S.es;simp[hr] at this;exact this.symm
  exact⟨R[i].2,p2,by rw[<-p1];exact vf hr,by rw[<-e1];simp[hi]⟩
 .rw[e2] at h;cases h
end
section
variable{prog:Ï}{w:Ñ}{K:Type}[DecidableEq K]{knd:KeyKind prog w K}{A:Ø}{E:Ã->Å->Prop}{s:Å}
def Fq{α:Type}{c:Bool}{m:Sem Bool}{X Y:Sem α}{Q:α->Å->Prop}(hm:Æ (Í prog w) A m (λb s'=>b=Ä/\s'=s) E s)(hY:Æ (Í prog w) A Y Q E s) :
  Æ (Í prog w) A (if c=Â then (do let b <-m;if b=Â then X else Y) else Y) Q E s:=by
 cases c with
 | true=>
  rw[zQ rfl];refine za (j6 hm (λb s' h=>?_) λ_ _ h=>h);obtain⟨rfl,rfl⟩:=h;rw[zW (by simp)];exact hY
 | false=>rw[zW (by simp)];exact hY
theorem mV{L:List (List K×Ç)}{o:ø}{es:Array (Int×Ã)}{t:Ô}{R:List (Nat×(Int×Ã))}
  (hu:A.units<û) (ho:s.heap.get? a=À o) (hd:o.data=.set es ep t) (S:SOk t es.toList R) (hL:es.toList=L.map (λp=>(Ì knd p.1,Ë p.2))) (hT:∀p∈L,Ò knd s.heap p.1 p.2) (hk:Ò knd s.heap k x)
  (hN:(path t (Ì knd k) N).j∉t.place.toList) (hb:∀m,m<N->(path t (Ì knd k) m).j∈t.place.toList) (xa:N<10*é t.mask)
  (yes:∀i,adding=Â\/(∃p,L[i]?=À p/\p.1=k)->(∃p∈L,p.1=k)->Q (.there (if adding then Á else À i)) s):∀(hX n:Nat) (Ed:Option Ĵ),Ed.getD (t.probeStart (Ì knd k))=path t (Ì knd k) n->n<=N->N-n<hX->
  ((∀m i e,n<=m->m<N->t.slot (path t (Ì knd k) m).j=.live i->L[i]?=À e->e.1≠k)->Q (.free (path t (Ì knd k) N).j Ä) s)->
  Æ (Í prog w) A (Ļ a (.ref x) (Ì knd k) adding hX Ed) Q E s:=by
 intro hX;induction hX with
 | zero=>intro n Ed _ _ q;omega
 | succ hX ih=>
  intro n Ed hs hn hf no;have getL:∀{i:Nat} {e:Int×Ã},es[i]?=À e->∃p,L[i]?=À p/\e=(Ì knd p.1,Ë p.2):=by
   intro i e he;have h1:es.toList[i]?=À e:=by simpa using he
   rw[hL,zZ] at h1;obtain⟨p,a1,a2⟩:=zg.mp h1;exact⟨p,a1,a2.symm⟩
  unfold Ļ;refine za (jk ho hd S.fits ?_);dsimp only;rw[S.T.odd];erw[zP,jy];rw[hs];generalize hF:t.probe _ (Ì knd k) (path t (Ì knd k) n)=r;have M8:Ā t (λi=>(es[i]?.map (·.1)).getD 0) (Ì knd k) (10*é t.mask) (path t (Ì knd k) n)=r:=hF;rcases Wx S.T (λi=>(es[i]?.map (·.1)).getD 0) (Ì knd k) hN hb (10*é t.mask) n hn ∅ with ⟨m,i,m1,m2,sl,hh,ee,before⟩ | ⟨ee,before⟩
  .rw[ee] at M8
   subst M8;obtain⟨e,ei,er,IW⟩:=S.at sl;obtain⟨p,pi,rfl⟩:=getL ei;have hp:=jC pi;have N5:p.1≠k->Æ (Í prog w) A (Ļ a (.ref x) (Ì knd k) adding hX (À (path t (Ì knd k) (m+1)))) Q E s:=λne=>by
    refine ih (m+1) (À _) rfl m2 ∅ λh=>no λm' i' e' a1 a2 a3 a4=>?_
    rcases xH m' m with z | z | z
    .intro ek
     refine before m' a1 z i' a3 ?_;have h1:es.toList[i']?=À (Ì knd e'.1,Ë e'.2):=by rw[hL,zZ,a4];rfl
     have h2:es[i']?=À (Ì knd e'.1,Ë e'.2):=by simpa using h1
     show(es[i']?.map (·.1)).getD 0=_
     rw[h2,ek];rfl
    .subst z
     rw[sl] at a3;cases a3;rw[pi] at a4;cases a4;exact ne
    .exact h m' i' e' z a2 a3 a4
   dsimp only;refine Fq (DP hk (λv hv=>?_) ⟨rfl,rfl⟩) ?_
   .obtain⟨q,q1,q2⟩:=zK.mp hv
    have q3:q∈es.toList:=by
     have:=yQ.mp q1;exact yQ.mpr (Array.mem_filter.mp this).1
    rw[hL] at q3;obtain⟨p',z1,z2⟩:=zK.mp q3;subst z2;exact⟨p'.1,p'.2,q2.symm,hT p' z1⟩
   .rw[ei]
    dsimp only;refine ê (wpAny_holding (wpAny_eqBool_tuple hu (hT p hp) hk ?_));refine ê (wpAny_setState_of ho hd S.fits ?_);dsimp only;have sm:t.sameMemory t.moves t.mask=À Â:=by unfold SetTable.sameMemory;rw[if_pos (by simp)]
    by_cases z:p.1=k
    .rw[kO z]
     cases adding with
     | true=>
      erw[Bool.and_self,je];exact zf (yes i (.inl rfl) ⟨p,hp,z⟩)
     | false=>
      erw[Bool.false_and,zP,jy,sm,je,sl,ei];refine za (ű ?_);refine za (zf ?_);erw[je];exact zf (yes i (.inr ⟨p,pi,z⟩) ⟨p,hp,z⟩)
    .rw[jj z]
     erw[Bool.and_false,zP,jy,sm,je,sl,ei];refine za (ű ?_);refine za (zf ?_);erw[je,zP,jy];exact N5 z
  .rw[ee] at M8
   subst M8;dsimp only;refine wpAny_pure (no λm' i' e' a1 a2 a3 a4 ek=>?_);refine before m' a1 a2 i' a3 ?_;have h1:es.toList[i']?=À (Ì knd e'.1,Ë e'.2):=by rw[hL,zZ,a4];rfl
   have h2:es[i']?=À (Ì knd e'.1,Ë e'.2):=by simpa using h1
   show(es[i']?.map (·.1)).getD 0=_
   rw[h2,ek];rfl
end
def xk{α β:Type}{f:α->β}{m l:List β}(h:m.Perm l):∀{L:List α},m=L.map f->∃L':List α,L'.Perm L/\L'.map f=l:=by
 induction h with
 | nil=>intro L e;exact⟨L,qR _,e.symm⟩
 | cons x _ ih=>
  intro L e;cases L with
  | nil=>cases e
  | cons a L=>
   cases e;obtain⟨L',p,q⟩:=ih rfl;exact⟨a::L',Ģ _ p,by rw[zx,q]⟩
 | swap x y l=>
  intro L e;match L,e with
  | b::a::L,e=>
   cases e;exact⟨a::b::L,Ź _ _ _,rfl⟩
 | trans _ _ ih1 ih2=>
  intro L e;obtain⟨L1,p1,q1⟩:=ih1 e;obtain⟨L2,p2,q2⟩:=ih2 q1.symm;exact⟨L2,p2.trans p1,q2⟩
section
variable{prog:Ï}{w:Ñ}{K:Type}[DecidableEq K]{knd:KeyKind prog w K}{A:Ø}{E:Ã->Å->Prop}{s:Å}
def U3(n:Nat)(h:ĕ v=Â):∃b,hashByValue n v=pure b:=by
 cases v with
 | ref a=>simp[ĕ] at h
 | _=>cases n<;>exact⟨_,rfl⟩
def Bc(hk:Ò knd s.heap ks a)(h:∀b,Q b s):Æ (Í prog w) A (hashByValue 8 (.ref a)) Q E s:=by
 have hT:=hk.typeIs;obtain⟨o,items,n,ho,_,hd,hi⟩:=hk;unfold hashByValue;refine za (ū hT F.slot_tuple_hash.lookup ?_);refine za (j7 ho hd ?_);refine za ?_;show Æ _ _ (forIn items _ _) _ _ s
 rw[<-wU];refine v9 _ (λrest r s'=>r.1=Á/\s'=s/\∀v∈rest,ĕ v=Â) _ ?_ ?_ _ _ ⟨rfl,rfl,hi.byValue⟩
 .rintro v rest r s' ⟨hr,rfl,pf⟩
  obtain⟨b,e⟩:=U3 7 (pf v zz);rw[e];refine za (zf ?_);cases b with
  | true=>
   erw[xr,zP,jy];exact zf ⟨rfl,rfl,λu N4=>pf u (zp _ N4)⟩
  | false=>
   erw[Bool.not_false,je];exact zf (zf (h _))
 .rintro⟨r1,r2⟩ s' ⟨hr,rfl,_⟩
  simp only at hr;subst hr;exact zf (h _)
def aT{h:Õ}{o:ø}{es ep t}(hk:Ò knd h ks x)(ho:h.get? a=À o)(hd:o.data=.set es ep t)(sb:Ü a h h'):Ò knd h' ks x:=by
 obtain⟨o',items,n,AO,hc,AQ,hi⟩:=hk;have AE:x≠a:=by
  rintro rfl;obtain rfl:o'=o:=zX (AO.symm.trans ho);rw[hd] at AQ;exact nomatch AQ
 exact⟨o',items,n,(sb.2 x AE).trans AO,hc,AQ,hi⟩
def rP{α:Type}{m:Sem α}{v:α}{Q:α->Å->Prop}(e:m=pure v)(h:Q v s):Æ (Í prog w) A m Q E s:=by rw[e];exact zf h
def de{h:Õ}{o:ø}(ho:h.get? a=À o)(hex:o.ExactSet)(hd:o.data=.set es ep t){es':Array (Int×Ã)}{t':Ô}{L':List (List K×Ç)}
  (hm:t'.mask<=8191) (Ad:t'.led = !w.params.followText "set-order") (S:SOk t' es'.toList R') (hL:es'.toList=L'.map (λp=>(Ì knd p.1,Ë p.2))) (nd:(L'.map (·.1)).Nodup) (hT:∀p∈L',Ò knd h p.1 p.2) :
  (h.update a (ĸ es' t')).get? a=À { o with data:=.set es' (ep+1) t' }/\SetT knd (h.update a (ĸ es' t')) a L':=by
 have hg:(h.update a (ĸ es' t')).get? a=À { o with data:=.set es' (ep+1) t' }:=by
  have:=jK (ĸ es' t') ho (by rw[putSet_of es' t' hd];rfl);rw[putSet_of es' t' hd] at this;exact this
 exact⟨hg,_,es',ep+1,t',R',hg,hex,rfl,hm,Ad,S,hL,nd,λp hp=>aT (hT p hp) ho hd (qx _ _ _)⟩
def oO{o:ø}{es:Array (Int×Ã)}{t:Ô}{L:List (List K×Ç)}(ho:s.heap.get? a=À o)(hex:o.ExactSet)(hd:o.data=.set es ep t)(hf:t.fits es.size=Â)(Ad:t.led = !w.params.followText "set-order")
  (hL:es.toList=L.map (λp=>(Ì knd p.1,Ë p.2))) (nd:(L.map (·.1)).Nodup) (hT:∀p∈L,Ò knd s.heap p.1 p.2) (hw:wanted<=4000) (hw2:es.size*2<=wanted) (hw3:0<wanted)
  (h:∀h' L',Ü a s.heap h'->SetT knd h' a L'->L'.Perm L->(∃o es ep t,h'.get? a=À o/\o.data=.set es ep t/\wanted<=t.mask)->Q () { s with heap:=h' }):Æ (Í prog w) A (setRelay a wanted) Q E s:=by
 unfold setRelay;refine za (jk ho hd hf ?_);dsimp only;obtain⟨k,k1,k2,k3,k4⟩:=Zn (n:=wanted) ∅;have le:2 ^ k<=8192:=by
  rcases k4 with k4 | k4
  .have:2 ^ k<=8000:=by omega
   omega
  .subst k4;decide
 have pos:2 ^ 3<=2 ^ k:=qd ∅ k1;rw[zW (by rw[k2,jB];omega)];obtain⟨t',order,e1,e2,e3,e4,e5,e6,pe,R',S⟩:=KL (mask:=2 ^ k-1) (k:=k) ∅ k1 es ∅ t.finger (t.movedTo (SetTable.sizeAbove wanted-1)) t.led t.plain;have e0:t.relaid (es.map (·.1)) wanted=À (t',order):=by
  unfold SetTable.relaid;rw[k2] at e1 ⊢;exact e1
 rw[e0];have hz:(order.filterMap (es[·]?)).size=es.size:=by rw[<-zV,pe.length_eq,zV]
 refine za (rP (v:=(order.filterMap (es[·]?),t')) (zW (by rw[hz];simp)) ?_);dsimp only;obtain⟨L',p1,p2⟩:=xk (f:=λp:List K×Ç=>(Ì knd p.1,Ë p.2)) pe.symm hL;obtain⟨SU,ST⟩:=de (knd:=knd) ho hex hd (t':=t') (es':=order.filterMap (es[·]?)) (L':=L') ∅ (by rw[e3];exact Ad) S p2.symm ((p1.map (·.1)).nodup_iff.mpr nd) (λp hp=>hT p (p1.mem_iff.mp hp));exact ux ho hd (h _ _ (qx _ _ _) ST p1 ⟨_,_,_,t',SU,rfl,by omega⟩) (by rw[hz,jB];omega)
theorem nS{L:List (List K×Ç)}(hu:A.units<û)(hS:SetT knd s.heap a L)(hk:Ò knd s.heap k x)(hb:L.length<900)
  (h:∀added h' L',Ü a s.heap h'->SetT knd h' a L'->L'.Perm (if k∈L.map (·.1) then L else (k,x)::L)->Q added { s with heap:=h' }) :
  Æ (Í prog w) A (setAddHashed a (.ref x) (Ì knd k)) Q E s:=by
 obtain⟨o,es,ep,t,R,ho,hex,hd,hm,Ad,S,hL,nd,hT⟩:=hS;have Af:es.size=L.length:=by have:=jl Ú hL;simpa using this
 have AM:t.place.size=L.length:=by
  have a1:=jl Ú S.pl;have a2:=jl Ú S.es;erw[zH,zV] at a1 a2;omega
 obtain⟨N,n1,n2,n3⟩:=lj S.T (Ì knd k);unfold setAddHashed;refine jf ?_;show Æ _ _ (setAddHashedIn a (.ref x) (Ì knd k) (99999+1)) _ _ _
 unfold setAddHashedIn;refine za (jk ho hd S.fits ?_);dsimp only;rw[show byScan (.ref x) es=Ä from rfl];erw[zP,jy];have Lo:s={ s with heap:=s.heap }:=by cases s;rfl
 refine za ?_;show Æ _ _ (Ļ a (.ref x) (Ì knd k) Â 100000 Á) _ _ _
 refine mV (knd:=knd) (L:=L) (N:=N) (k:=k) hu ho hd S hL hT hk n2 n3 n1 (λi _ there=>?_) 100000 0 Á rfl (jQ _) (by unfold é at n1;omega) λno=>?_
 ·
  erw[je];refine zf ?_;rw[Lo];refine h _ _ L (vM _ _) ⟨o,es,ep,t,R,ho,hex,hd,hm,Ad,S,hL,nd,hT⟩ ?_;obtain⟨p,p1,p2⟩:=there;rw[zQ (zK.mpr ⟨p,p1,p2⟩)]
 ·
  have absent:k∉L.map (·.1):=by
   intro hc;obtain⟨p,p1,p2⟩:=zK.mp hc;obtain⟨i,hi,e⟩:=qZ p1;have hr:i<R.length:=by have:=jl Ú S.pl;erw[zH,zV] at this;omega
   have Mu:i<t.place.size:=by omega
   have r1:R[i].1=t.place[i]:=by
    have:=jl (·[i]?) S.pl;simp[hr,Mu] at this;exact this
   have r2:R[i].2=(Ì knd p.1,Ë p.2):=by
    have:=jl (·[i]?) (S.es.trans hL);simp[hr,hi,e] at this;rw[this]
   obtain⟨n,a1,a2⟩:=S.on R[i] (vf hr);rw[r2,r1] at a1;rw[r2] at a2;dsimp only at a1 a2;rw[p2] at a1 a2;have nN:n<N:=by
    rcases yK n N with z | z
    .exact z
    .rcases jT z with z | z
     .exact absurd (a2 N z) n2
     .subst z
      rw[a1] at n2;exact absurd (by simp) n2
   refine no n i p (jQ _) nN ?_ (by rw[zL hi,e]) p2;rw[a1];exact ig S.T Mu
  dsimp only;refine za (jk ho hd S.fits ?_);dsimp only;have hp:(t.put (path t (Ì knd k) N).j).2<=L.length:=by
   have:=(x5 (xs:=t.place) (j:=(path t (Ì knd k) N).j) S.T.up).1;rw[AM] at this;exact this
  have pe:(L.take (t.put (path t (Ì knd k) N).j).2++(k,x)::L.drop (t.put (path t (Ì knd k) N).j).2).Perm ((k,x)::L):=by
   have:(L.take (t.put (path t (Ì knd k) N).j).2++L.drop (t.put (path t (Ì knd k) N).j).2)=L:=qP _ _;refine List.perm_middle.trans ?_;rw[this]
  have N6:(č es (t.put (path t (Ì knd k) N).j).2 (Ì knd k,Ë x)).toList=(L.take (t.put (path t (Ì knd k) N).j).2++(k,x)::L.drop (t.put (path t (Ì knd k) N).j).2).map (λp=>(Ì knd p.1,Ë p.2)):=by
   rw[cv _ ∅,hL];simp[xg,xm]
  have put:=λt' a1 a2 a3 a4=>S.put (h:=Ì knd k) (x:=Ë x) n2 n3 t' a1 a2 a3 a4
  have Pc:(t.put (path t (Ì knd k) N).j).1.place.size=L.length+1:=by
   have:=jl Ú (gd S.T (path t (Ì knd k) N).j);rw[zR,zG,<-Nat.add_assoc,<-zR,qP] at this;erw[zV] at this;omega
  generalize hL2:(L.take (t.put (path t (Ì knd k) N).j).2++(k,x)::L.drop (t.put (path t (Ì knd k) N).j).2)=L1 at *;have Pd:(L1.map (·.1)).Nodup:=((pe.map (·.1)).nodup_iff).mpr (jU.mpr ⟨absent,nd⟩);have Pe:∀p∈L1,Ò knd s.heap p.1 p.2:=λp hp=>by
   rcases zj.mp (pe.mem_iff.mp hp) with rfl | hp
   .exact hk
   .exact hT p hp
  have SV:L1.length=L.length+1:=by have:=pe.length_eq;simpa using this
  have fin:∀h' L',Ü a s.heap h'->SetT knd h' a L'->L'.Perm L1->Q Â { s with heap:=h' }:=λh' L' sb ST q=>h _ h' L' sb ST (by rw[zW absent];exact q.trans pe)
  have dm:(t.put (path t (Ì knd k) N).j).1.dummies = #[]:=by
   show(if Ŧ t.dummies _ then _ else t.dummies)=_
   rw[S.T.nod,nJ];rfl
  have tail:∀t':Ô,t'.mask=t.mask->t'.place=(t.put (path t (Ì knd k) N).j).1.place->t'.dummies=(t.put (path t (Ì knd k) N).j).1.dummies->t'.led=t.led->Æ (Í prog w) A (do
    storeSet a (č es (t.put (path t (Ì knd k) N).j).2 (Ì knd k,Ë x)) t'
    if (!Ä&&t'.tooFull)=Â then do
      setRelay a (ź (es.size+1))
      pure Â
     else pure Â) Q E s:=by
   intro t' m1 m2 m3 m4;generalize Pf:č es (t.put (path t (Ì knd k) N).j).2 (Ì knd k,Ë x)=EA at *;have EC:EA.size=L.length+1:=by have:=jl Ú N6;erw[zV,zH] at this;omega
   refine za (ux ho hd ?_ (by rw[EC,jB];omega));have N7:=qx s.heap a (ĸ EA t');have hg:(s.heap.update a (ĸ EA t')).get? a=À { o with data:=.set EA (ep+1) t' }:=by
    have:=jK (ĸ EA t') ho (by rw[putSet_of EA t' hd];rfl);rw[putSet_of EA t' hd] at this;exact this
   by_cases full:t'.tooFull=Â
   .rw[zQ (by simp[full])]
    have gr:ź (es.size+1)=(es.size+1)*4:=by unfold ź;rw[zW ∅]
    rw[gr];refine za (oO (knd:=knd) (L:=L1) hg hex rfl ?_ (m4.trans Ad) N6 Pd (λp hp=>aT (Pe p hp) ho hd N7) ∅ ∅ ∅ λh' L' sb ST q _=>zf (fin h' L' (N7.trans sb) ST q));unfold SetTable.fits ħ;rw[m2,m3,dm,Pc,m1,EC];have:=S.few;obtain⟨k',a1,b1⟩:=S.T.pow;have:2 ^ 3<=2 ^ k':=qd ∅ a1;simp;omega
   .rw[zW (by simp[full])]
    have few:t'.place.size*5<t'.mask*3:=by
     unfold SetTable.tooFull ħ at full;rw[m3,dm] at full;simp at full;omega
    obtain⟨R',S',_⟩:=put t' m1 m2 m3 few;obtain⟨_,ST⟩:=de (knd:=knd) ho hex hd (t':=t') (es':=EA) (L':=L1) ∅ (m4.trans Ad) S' N6 Pd Pe;exact zf (fin _ _ N7 ST (qR _))
  split
  .refine za (Bc hk λb=>?_)
   refine tail _ ?_ ?_ ?_ ?_<;>cases b<;>rfl
  .refine za (zf ?_)
   exact tail _ rfl rfl rfl rfl
end
end ML
namespace ML
open PySem PySem.W PyProof.Rows
section
variable{n:Nat}{rk:Nat->Nat}{cmp:Nat->Nat->(Bool->Å->Prop)->Å->Prop}{s:Å}
def R(rk:Nat->Nat)(p:Array Nat)(i:Nat):Nat:=rk (p.getD i 0)
structure Pm(n:Nat)(p:Array Nat):Prop where
 sz:p.size=n
 pm:p.toList.Perm (ß n)
def Pm.lt{p:Array Nat}(P:Pm n p)(h0:0<n)(i:Nat):p.getD i 0<n:=by
 by_cases h:i<p.size
 .have e:p.getD i 0=p[i]:=by simp[Ă,h]
  rw[e];exact jV.mp (P.pm.mem_iff.mp (by simp))
 .have e:p.getD i 0=0:=by simp[Ă,h]
  rw[e];exact h0
def Answers(n:Nat)(rk:Nat->Nat)(cmp:Nat->Nat->(Bool->Å->Prop)->Å->Prop)(s:Å):Prop:=∀i j (C:Bool->Å->Prop),i<n->j<n->C (decide (rk i<rk j)) s->cmp i j C s
theorem iE(p:Array Nat)(hj:j<=p.size)(k:Nat):R rk (ļ p i j) k=if i<=k/\k<j then R rk p (i+j-1-k) else R rk p k:=by
 have e:=getElem?_mirror_all (xs:=p) (i:=i) hj k;unfold R ļ;have g:∀(q:Array Nat) (m:Nat),q.getD m 0=q[m]?.getD 0:=λq m=>ut ..
 rw[g,e,g,g];split<;>rfl
theorem XC(p:Array Nat)(hk:k<p.size)(hl:l<=k)(m:Nat):R rk (bubble p k (k-l)) m=if m=l then R rk p k else if l<m/\m<=k then R rk p (m-1) else R rk p m:=by
 have e:=getElem?_bubble (xs:=p) hk (k-l) ∅ m;rw[show k-(k-l)=l from by omega] at e;unfold R;have g:∀(q:Array Nat) (m:Nat),q.getD m 0=q[m]?.getD 0:=λq m=>ut ..
 rw[g,e,g,g,g];split
 .rfl
 .split<;>rfl
def Pm.rev(P:Pm n p)(i j:Nat):Pm n (ļ p i j):=⟨by unfold ļ;rw[mirror_size];exact P.sz,(mirror_perm p i j _).toList.trans P.pm⟩
def Pm.bub(P:Pm n p)(k d:Nat):Pm n (bubble p k d):=⟨by rw[bubble_size];exact P.sz,(bubble_perm p k d).toList.trans P.pm⟩
def Up(rk:Nat->Nat)(p:Array Nat)(m:Nat):Prop:=∀i j,i<=j->j<m->R rk p i<=R rk p j
def Dn(rk:Nat->Nat)(p:Array Nat)(m:Nat):Prop:=∀i j,i<=j->j<m->R rk p j<=R rk p i
def Up.succ(u:Up rk p m)(h:0<m)(e:R rk p (m-1)<=R rk p m):Up rk p (m+1):=by
 intro i j a b;rcases jT (ym b) with q | q
 .exact u i j a q
 .subst q
  rcases jT a with z | z
  .exact zq (u i (j-1) ∅ ∅) e
  .subst z;exact zr _
def Dn.succ(u:Dn rk p m)(h:0<m)(e:R rk p m<=R rk p (m-1)):Dn rk p (m+1):=by
 intro i j a b;rcases jT (ym b) with q | q
 .exact u i j a q
 .subst q
  rcases jT a with z | z
  .exact zq e (u i (j-1) ∅ ∅)
  .subst z;exact zr _
theorem sE(hc:Answers n rk cmp s)(h0:0<n)(P:Pm n p):∀(f m:Nat),0<m->Up rk p m->m+f<=n->(∀m',m<=m'->m'<=m+f->Up rk p m'->(m'=m+f\/R rk p m'<R rk p (m'-1))->G m' s)->(kas_asc p f m).kasWp cmp G s
 | 0,m,h1,u,hf,k=>k m (zr _) ∅ u (.inl rfl)
 | f+1,m,h1,u,hf,k=>by
  refine hc _ _ _ (P.lt h0 _) (P.lt h0 _) ?_;by_cases c:rk (p.getD m 0)<rk (p.getD (m-1) 0)
  .rw[kO c];dsimp only;rw[if_pos rfl]
   exact k m (zr _) ∅ u (.inr c)
  .rw[jj c];dsimp only;rw[if_neg (by simp)]
   refine sE hc h0 P f (m+1) ∅ (u.succ h1 (qe c)) ∅ λm' a b d e=>k m' ∅ ∅ d ?_
   rcases e with e | e
   .exact .inl ∅
   .exact .inr e
theorem iF(hc:Answers n rk cmp s)(h0:0<n):∀(f:Nat) (p:Array Nat) (m q:Nat),Pm n p->q<m->Dn rk p m->(∀i,m-(q+1)<=i->i<m->R rk p i=R rk p (m-1))->m+f<=n->
  (∀p' m' q',Pm n p'->q'<m'->m<=m'->m'<=m+f->Dn rk p' m'->(∀i,m'-(q'+1)<=i->i<m'->R rk p' i=R rk p' (m'-1))->G (p',m',q') s)->(kas_desc f p m q).kasWp cmp G s
 | 0,p,m,q,P,hq,u,eq,hf,k=>k p m q P hq (zr _) ∅ u eq
 | f+1,p,m,q,P,hq,u,eq,hf,k=>by
  refine hc _ _ _ (P.lt h0 _) (P.lt h0 _) ?_;by_cases c:rk (p.getD m 0)<rk (p.getD (m-1) 0)
  .rw[kO c];dsimp only;rw[if_pos rfl]
   have c':R rk p m<R rk p (m-1):=c;by_cases z:q>0
   .rw[zQ z]
    have rv:∀i,R rk (ļ p (m-(q+1)) m) i=R rk p i:=λi=>by
     rw[iE p (by rw[P.sz];omega)];split
     .rename_i y
      rw[eq _ ∅ ∅,eq i y.1 y.2]
     .rfl
    have u':Dn rk (ļ p (m-(q+1)) m) (m+1):=by
     have:Dn rk (ļ p (m-(q+1)) m) m:=λi j a b=>by rw[rv,rv];exact u i j a b
     exact this.succ ∅ (by rw[rv,rv];omega)
    refine iF hc h0 f _ (m+1) 0 (P.rev _ _) ∅ u' (λi a b=>?_) ∅ λp' m' q' a1 a2 a3 a4 a5 a6=>k p' m' q' a1 a2 ∅ ∅ a5 a6
    have:i=m+1-1:=by omega
    rw[this]
   .rw[zW z]
    refine iF hc h0 f _ (m+1) 0 P ∅ (u.succ ∅ ∅) (λi a b=>?_) ∅ λp' m' q' a1 a2 a3 a4 a5 a6=>k p' m' q' a1 a2 ∅ ∅ a5 a6
    have:i=m+1-1:=by omega
    rw[this]
  .rw[jj c];dsimp only;rw[if_neg (by simp)]
   have c':R rk p (m-1)<=R rk p m:=qe c;refine hc _ _ _ (P.lt h0 _) (P.lt h0 _) ?_;by_cases d:rk (p.getD (m-1) 0)<rk (p.getD m 0)
   .rw[kO d];dsimp only;rw[if_pos rfl]
    exact k p m q P hq (zr _) ∅ u eq
   .rw[jj d];dsimp only;rw[if_neg (by simp)]
    have d':R rk p m<=R rk p (m-1):=qe d;refine iF hc h0 f p (m+1) (q+1) P ∅ (u.succ ∅ d') (λi a b=>?_) ∅ λp' m' q' a1 a2 a3 a4 a5 a6=>k p' m' q' a1 a2 ∅ ∅ a5 a6
    rw[show m+1-1=m from by omega];rcases jT (ym b) with z | z
    .rw[eq i ∅ z];omega
    .rw[z]
def Z0(hc:Answers n rk cmp s)(h0:0<n)(P:Pm n p)(hm:0<m)(hn:m<=n)(u:Dn rk p m)(k:∀m' p',Pm n p'->m<=m'->m'<=n->Up rk p' m'->G (m',p') s):(kas_tail3 m n p).kasWp cmp G s:=by
 unfold kas_tail3;rw[yr];have u':Up rk (ļ p 0 m) m:=λi j a b=>by
  rw[iE p (by rw[P.sz];exact hn),iE p (by rw[P.sz];exact hn),zQ ⟨by omega,by omega⟩,zQ ⟨by omega,b⟩];exact u _ _ ∅ ∅
 exact sE hc h0 (P.rev _ _) (n-m) m hm u' ∅ λm' a b c _=>k m' _ (P.rev _ _) a ∅ c
def iZ(hc:Answers n rk cmp s)(h0:0<n)(P:Pm n p)(hm:0<m)(hn:m+1<=n)(u:Dn rk p (m+1))(k:∀m' p',Pm n p'->0<m'->m'<=n->Up rk p' m'->G (m',p') s):(kas_descPart m n p).kasWp cmp G s:=by
 unfold kas_descPart;rw[yr];refine iF hc h0 _ p (m+1) 0 P ∅ u (λi a b=>by rw[show i=m+1-1 from by omega]) ∅ λp' m' q' a1 a2 a3 a4 a5 a6=>?_
 dsimp only;by_cases z:q'>0
 .rw[zQ z]
  have rv:∀i,R rk (ļ p' (m'-(q'+1)) m') i=R rk p' i:=λi=>by
   rw[iE p' (by rw[a1.sz];omega)];split
   .rename_i y
    rw[a6 _ ∅ ∅,a6 i y.1 y.2]
   .rfl
  exact Z0 hc h0 (a1.rev _ _) ∅ ∅ (λi j a b=>by rw[rv,rv];exact a5 i j a b) λm2 p2 b1 b2 b3 b4=>k m2 p2 b1 ∅ b3 b4
 .rw[zW z]
  exact Z0 hc h0 a1 ∅ ∅ a5 λm2 p2 b1 b2 b3 b4=>k m2 p2 b1 ∅ b3 b4
def YQ(hc:Answers n rk cmp s)(h0:0<n)(P:Pm n p)(k:∀m' p',Pm n p'->0<m'->m'<=n->Up rk p' m'->G (m',p') s):(kas_count n p).kasWp cmp G s:=by
 unfold kas_count;rw[yr];refine sE hc h0 P (n-1) 1 ∅ (λi j a b=>by rw[show i=j from by omega];exact zr _) ∅ λm a b u e=>?_
 by_cases z:m=n
 .rw[zQ (by simp[z])]
  exact k m p P ∅ ∅ u
 .rw[zW (by simp[z])]
  have lt:R rk p m<R rk p (m-1):=by
   rcases e with e | e
   .omega
   .exact e
  by_cases y:m>1
  .rw[zQ y]
   refine hc _ _ _ (P.lt h0 _) (P.lt h0 _) ?_;by_cases c:rk (p.getD 0 0)<rk (p.getD (m-1) 0)
   .rw[kO c];dsimp only;rw[if_pos rfl]
    exact k m p P ∅ ∅ u
   .rw[jj c];dsimp only;rw[if_neg (by simp)]
    have c':R rk p (m-1)<=R rk p 0:=qe c;have all:∀i,i<m->R rk p i=R rk p 0:=λi hi=>by
     have a1:=u 0 i ∅ hi;have a2:=u i (m-1) ∅ ∅;omega
    have rv:∀i,i<m->R rk (ļ p 0 m) i=R rk p 0:=λi hi=>by
     rw[iE p (by rw[P.sz];omega),zQ ⟨by omega,hi⟩];exact all _ ∅
    have d:Dn rk (ļ p 0 m) m:=λi j a1 b1=>by rw[rv i ∅,rv j b1];exact zr _
    refine iZ hc h0 (P.rev 0 m) ∅ ∅ (d.succ ∅ ?_) k;rw[rv (m-1) ∅,iE p (by rw[P.sz];omega),zW ∅];have:=all (m-1) ∅;omega
  .rw[zW y]
   have:m=1:=by omega
   subst this;refine iZ hc h0 P ∅ ∅ (Dn.succ (λi j a1 b1=>by rw[show i=j from by omega];exact zr _) ∅ ∅) k
theorem lu(hc:Answers n rk cmp s)(h0:0<n)(P:Pm n p)(u:Up rk p k):∀(f l r:Nat),l<=r->r<=k->r-l<=f->(∀i,i<l->R rk p i<=R rk p k)->(∀i,r<=i->i<k->R rk p k<R rk p i)->
  (∀l',l'<=k->(∀i,i<l'->R rk p i<=R rk p k)->(∀i,l'<=i->i<k->R rk p k<R rk p i)->G l' s)->(kas_place p k f l r).kasWp cmp G s
 | 0,l,r,a,b,c,d,e,g=>g l ∅ d (by rw[show l=r from by omega];exact e)
 | f+1,l,r,a,b,c,d,e,g=>by
  unfold kas_place;by_cases z:l>=r
  .rw[zQ z]
   exact g l ∅ d (by rw[show l=r from by omega];exact e)
  .rw[zW z]
   refine hc _ _ _ (P.lt h0 _) (P.lt h0 _) ?_;by_cases y:rk (p.getD k 0)<rk (p.getD ((l+r)/2) 0)
   .rw[kO y];dsimp only;rw[if_pos rfl]
    refine lu hc h0 P u f l _ ∅ ∅ ∅ d (λi a1 b1=>?_) g;exact zN y (u _ i a1 b1)
   .rw[jj y];dsimp only;rw[if_neg (by simp)]
    refine lu hc h0 P u f _ r ∅ b ∅ (λi a1=>?_) e g;exact zq (u i ((l+r)/2) ∅ ∅) (qe y)
theorem Qo(hc:Answers n rk cmp s)(h0:0<n):∀(f:Nat) (p:Array Nat) (k:Nat),Pm n p->Up rk p k->k+f=n->(∀p',Pm n p'->Up rk p' n->G p' s)->(kas_bin f p k).kasWp cmp G s
 | 0,p,k,P,u,e,g=>g p P (by rw[<-e];exact u)
 | f+1,p,k,P,u,e,g=>by
  unfold kas_bin;rw[yr];refine lu hc h0 P u k 0 k ∅ (zr _) ∅ (λi a=>by omega) (λi a b=>by omega) λl hl a b=>?_
  refine Qo hc h0 f _ (k+1) (P.bub _ _) (λi j i1 j1=>?_) ∅ g;have hk:k<p.size:=by rw[P.sz];omega
  rw[XC p hk hl i,XC p hk hl j];by_cases x1:i=l
  .rw[zQ x1]
   by_cases y1:j=l
   .rw[zQ y1];exact zr _
   .rw[zW y1,zQ ⟨by omega,by omega⟩]
    exact qY (b _ ∅ ∅)
  .rw[zW x1]
   by_cases x2:l<i/\i<=k
   .rw[zQ x2,zW ∅,zQ ⟨by omega,by omega⟩]
    exact u _ _ ∅ ∅
   .rw[zW x2]
    by_cases y1:j=l
    .rw[zQ y1];exact a i ∅
    .rw[zW y1]
     by_cases y2:l<j/\j<=k
     .rw[zQ y2];exact u _ _ ∅ ∅
     .rw[zW y2];exact u _ _ i1 ∅
def Bd(hc:Answers n rk cmp s)(h0:0<n)(g:∀p,p.size=n->p.toList.Perm (ß n)->(∀i j,i<=j->j<n->rk (p.getD i 0)<=rk (p.getD j 0))->G p s):(kas_sort n).kasWp cmp G s:=by
 unfold kas_sort;rw[yr];refine YQ hc h0 ⟨by simp,by simp⟩ λm p P a b u=>?_
 dsimp only;by_cases z:m<n
 .rw[zQ z,show max m 1=m from by omega]
  exact Qo hc h0 _ p m P u ∅ λp' P' u'=>g p' P'.sz P'.pm u'
 .rw[zW z]
  have:m=n:=by omega
  subst this;exact g p P.sz P.pm u
end
def eV(x y:È):Bool:=decide (x.cps.toList<y.cps.toList)
def Wi(x:È):eV x x=Ä:=jj (List.lt_irrefl _)
def Y4(a:eV x y=Â)(b:eV y z=Â):eV x z=Â:=kO (List.lt_trans (j8 a) (j8 b))
def QN(h:x≠y):eV x y=Â\/eV y x=Â:=by
 have AE:x.cps.toList≠y.cps.toList:=λe=>h (by cases x;cases y;simp at e;rw[e])
 by_cases a:x.cps.toList<y.cps.toList
 .exact .inl (kO a)
 .have b:y.cps.toList<=x.cps.toList:=List.not_lt.mp a
  refine .inr (kO ?_);by_cases c:y.cps.toList<x.cps.toList
  .exact c
  .exact absurd (List.le_antisymm (List.not_lt.mp c) b) AE
def vb:List È->List È->Bool
 | [],[]=>Ä
 | [],_::_=>Â
 | _::_,[]=>Ä
 | x::a,y::b=>if x=y then vb a b else eV x y
theorem aw:∀a,vb a a=Ä
 | []=>rfl
 | x::a=>by unfold vb;rw[zQ rfl];exact aw a
theorem iM:∀{a b c:List È},vb a b=Â->vb b c=Â->vb a c=Â
 | [],[],_,h,_=>by cases h
 | [],_::_,[],_,h=>by cases h
 | [],_::_,_::_,_,_=>rfl
 | _::_,[],_,h,_=>by cases h
 | _::_,_::_,[],_,h=>by cases h
 | x::a,y::b,z::c,h1,h2=>by
  unfold vb at h1 h2 ⊢;by_cases e:x=y
  .subst e
   rw[zQ rfl] at h1;by_cases f:x=z
   .rw[zQ f] at h2 ⊢
    exact iM h1 h2
   .rw[zW f] at h2 ⊢
    exact h2
  .rw[zW e] at h1
   by_cases f:y=z
   .subst f
    rw[zW e];exact h1
   .rw[zW f] at h2
    have t:=Y4 h1 h2;by_cases g:x=z
    .subst g;rw[Wi] at t;cases t
    .rw[zW g];exact t
theorem gD:∀{a b:List È},a≠b->vb a b=Â\/vb b a=Â
 | [],[],h=>absurd rfl h
 | [],_::_,_=>.inl rfl
 | _::_,[],_=>.inr rfl
 | x::a,y::b,h=>by
  unfold vb;by_cases e:x=y
  .subst e
   rw[zQ rfl,zQ rfl];exact gD λz=>h (by rw[z])
  .rw[zW e,zW λz=>e z.symm]
   exact QN e
def QT{α:Type}{p q:α->Bool}(h:∀x,p x=Â->q x=Â){y:α}(hq:q y=Â)(hp:p y=Ä):∀l:List α,y∈l->(l.filter p).length<(l.filter q).length:=by
 have le:∀l:List α,(l.filter p).length<=(l.filter q).length:=by
  intro l;induction l with
  | nil=>exact zr _
  | cons x l ih=>
   rw[qg,qg];cases e:p x with
   | true=>rw[h x e];simp;exact ih
   | false=>cases q x<;>simp<;>omega
 intro l;induction l with
 | nil=>intro m;cases m
 | cons x l ih=>
  intro m;rw[qg,qg];rcases zj.mp m with rfl | m
  .rw[hq,hp];simp;have:=le l;omega
  .have:=ih m
   cases e:p x with
   | true=>rw[h x e];simp;exact this
   | false=>cases q x<;>simp<;>omega
def dk(ks:List (List È))(k:List È):Nat:=(ks.filter λx=>vb x k).length
def ZX(ha:a∈ks)(h:vb a b=Â):dk ks a<dk ks b:=QT (p:=λx=>vb x a) (q:=λx=>vb x b) (y:=a) (λx hx=>iM hx h) h (aw a) ks ha
def sG(ha:a∈ks)(hb:b∈ks):decide (dk ks a<dk ks b)=vb a b:=by
 cases e:vb a b with
 | true=>exact kO (ZX ha e)
 | false=>
  refine jj λh=>?_
  by_cases z:a=b
  .subst z;omega
  .rcases gD z with q | q
   .rw[e] at q;cases q
   .have:=ZX hb q;omega
def cw(k:List È):List (List È)->List (List È)
 | []=>[k]
 | x::l=>if k=x then x::l else if vb k x then k::x::l else x::cw k l
def kC(l:List (List È)):List (List È):=l.foldr cw []
def c8(l:List (List È)):Prop:=l.Pairwise λa b=>vb a b=Â
theorem insK_mem:∀{l:List (List È)},x∈cw k l↔x=k\/x∈l
 | []=>by simp[cw]
 | y::l=>by
  unfold cw;by_cases e:k=y
  .subst e;simp
  .rw[zW e]
   split
   .simp
   .rw[zj,insK_mem (l:=l),zj]
    constructor
    .rintro(h | h | h)
     .exact .inr (.inl h)
     .exact .inl h
     .exact .inr (.inr h)
    .rintro(h | h | h)
     .exact .inr (.inl h)
     .exact .inl h
     .exact .inr (.inr h)
theorem Kz:∀{l:List (List È)},c8 l->c8 (cw k l)
 | [],_=>uN _ _
 | y::l,u=>by
  obtain⟨u1,u2⟩:=qz.mp u;unfold cw;by_cases e:k=y
  .rw[zQ e];exact u
  .rw[zW e]
   split
   .rename_i h
    refine qz.mpr ⟨λz hz=>?_,u⟩;rcases zj.mp hz with rfl | hz
    .exact h
    .exact iM h (u1 z hz)
   .rename_i h
    refine qz.mpr ⟨λz hz=>?_,Kz u2⟩;rcases insK_mem.mp hz with rfl | hz
    .rcases gD e with q | q
     .exact absurd q h
     .exact q
    .exact u1 z hz
theorem vc:∀l,c8 (kC l)
 | []=>Ğ
 | _::l=>Kz (vc l)
theorem ssort_mem:∀{l},x∈kC l↔x∈l
 | []=>Iff.rfl
 | y::l=>by
  show x∈cw y (kC l)↔_
  rw[insK_mem,ssort_mem (l:=l),zj]
theorem wf:∀{a b:List (List È)},c8 a->c8 b->(∀x,x∈a↔x∈b)->a=b
 | [],[],_,_,_=>rfl
 | [],y::b,_,_,h=>by have:=(h y).mpr (zz ..);cases this
 | x::a,[],_,_,h=>by have:=(h x).mp (zz ..);cases this
 | x::a,y::b,ua,ub,h=>by
  obtain⟨a1,a2⟩:=qz.mp ua;obtain⟨b1,b2⟩:=qz.mp ub;have e:x=y:=by
   rcases zj.mp ((h x).mp (zz ..)) with e | m1
   .exact e
   .rcases zj.mp ((h y).mpr (zz ..)) with e | m2
    .exact e.symm
    .have:=iM (b1 x m1) (a1 y m2)
     rw[aw] at this;cases this
  subst e;congr 1
  refine wf a2 b2 λz=>⟨λm=>?_,λm=>?_⟩
  .rcases zj.mp ((h z).mp (zp _ m)) with e | m'
   .subst e;have:=a1 z m;rw[aw] at this;cases this
   .exact m'
  .rcases zj.mp ((h z).mpr (zp _ m)) with e | m'
   .subst e;have:=b1 z m;rw[aw] at this;cases this
   .exact m'
section
variable{prog:Ï}{w:Ñ}{A:Ø}{E:Ã->Å->Prop}{s:Å}
abbrev SK(prog:Ï)(w:Ñ):œ prog w È:=ř prog w
def dn(fin:Bool):List È->List È->Bool
 | x::a,y::b=>if x=y then dn fin a b else eV x y
 | _,_=>fin
theorem ZE:∀a b:List È,dn (decide (a.length<b.length)) a b=vb a b
 | [],[]=>rfl
 | [],_::_=>by simp[dn,vb]
 | _::_,[]=>by simp[dn,vb]
 | x::a,y::b=>by
  unfold dn vb;have:decide ((x::a).length<(y::b).length)=decide (a.length<b.length):=by simp
  rw[this,ZE a b]
theorem oY:∀{ka kb:List È} {xs ys:List Ã} {i:Nat},ItemsAre (SK prog w) ka xs->ItemsAre (SK prog w) kb ys->Q (dn fin ka kb) s->KatLex prog w A Â fin Q (xs.zip ys) i s
 | [],kb,xs,ys,i,ha,hb,q=>by cases ha;exact kat_nil (by unfold dn at q;exact q)
 | x::ka,[],xs,ys,i,ha,hb,q=>by cases hb;rw[List.zip_nil_right];exact kat_nil (by unfold dn at q;exact q)
 | x::ka,y::kb,xs,ys,i,ha,hb,q=>by
  cases ha with
  | @cons _ u _ xs h1 ha=>
   cases hb with
   | @cons _ v _ ys h2 hb=>
    rw[yZ];refine kat_cons ((SK prog w).eqBool (a:=x) (b:=y) h1 h2 ?_);unfold dn at q;by_cases e:x=y
    .rw[zQ e] at q
     rw[kO e];exact kat_yes (oY ha hb q)
    .rw[zW e] at q
     rw[jj e];refine kat_no ?_;obtain⟨t,rfl⟩:=yf h1;obtain⟨t',rfl⟩:=yf h2;by_cases z:i=0
     .subst z
      exact oneLt_str q
     .have:(Â&&i==0)=Ä:=by simp[z]
      rw[this];exact kat_one _ _ (PyProof.Rows.lt_str q)
def B3(ha:Ò (SK prog w) s.heap ka x)(hb:Ò (SK prog w) s.heap kb y)(q:Q (vb ka kb) s):Æ (Í prog w) A (keyLt' (tuples' Â) (.ref x) (.ref y)) Q E s:=by
 obtain⟨ox,xs,nx,e1,_,e2,i1⟩:=ha;obtain⟨oy,ys,ny,f1,_,f2,i2⟩:=hb;refine kat_lt e1 e2 f1 f2 (oY i1 i2 ?_);have l1:=i1.length;have l2:=i2.length;have:decide (xs.size<ys.size)=decide (ka.length<kb.length):=by rw[l1,l2];simp
 rw[this,ZE];exact q
def range_getD{α:Type}(l:List α)(d:α):(ß l.length).map (λi=>l.getD i d)=l:=by
 apply wz
 .simp
 .intro i h1 h2
  simp[Ĕ,h2]
theorem kat_tups:∀{L:List (List È×Ç)},(∀p∈L,Ò (SK prog w) h p.1 p.2/\p.1≠[])->∃fs,KatTups h (L.map λp=>Ë p.2) fs/\fs.length=L.length/\∀v∈fs,∃x t,v=Ĝ x t
 | [],_=>⟨[],KatTups.nil,rfl,λv hv=>by cases hv⟩
 | p::L,hL=>by
  obtain⟨fs,a,b,c⟩:=kat_tups (L:=L) λq hq=>hL q (zp _ hq)
  obtain⟨⟨o,xs,n,e1,e2,e3,i1⟩,ne⟩:=hL p (zz ..);cases hk:p.1 with
  | nil=>exact absurd hk ne
  | cons k ks=>
   rw[hk] at i1;cases hx:xs.toList with
   | nil=>rw[hx] at i1;cases i1
   | cons v vs=>
    rw[hx] at i1;cases i1 with
    | cons h1 _=>
     obtain⟨t,rfl⟩:=yf h1;refine⟨Ĝ k t::fs,KatTups.cons e1 e2 e3 ?_ a,by simp[b],λu hu=>?_⟩
     .have:xs.toList[0]?=À (Ĝ k t):=by rw[hx];rfl
      simpa using this
     .rcases zj.mp hu with rfl | hu
      .exact⟨_,_,rfl⟩
      .exact c u hu
def io{L:List (List È×Ç)}(AI:s.heap.get? a=À (ă "list" (L.map λp=>Ë p.2).toArray n))(hL:∀p∈L,Ò (SK prog w) s.heap p.1 p.2/\p.1≠[])(h64:L.length<64)
  (k:∀(L':List (List È×Ç)) (h':Õ) (n':Nat),L'.Perm L->(L'.map (·.1)).Pairwise (λx y=>vb y x=Ä)->h'.get? a=À (ă "list" (L'.map λp=>Ë p.2).toArray n')->(∀b o,b≠a->s.heap.get? b=À o->h'.get? b=À o)->P (.done (.ret .none)) { s with heap:=h' }) :
  Æ (Í prog w) A (ç.«list.sort» ⟨[.ref a],[]⟩) P E s:=by
 have Ek:(L.map λp=>Ë p.2).length=L.length:=by simp
 have alt:a<s.heap.objs.size:=zJ AI;rw[list_sort_plain];refine za (listItems_at AI rfl (za (listUpdate_at AI rfl ?_)));obtain⟨ep,obj1⟩:∃ep,(s.heap.update a (á λ_=>#[])).get? a=À (ă "list" #[] ep):=⟨_,get?_update_seq AI (λ_=>#[])⟩;refine za (seqEpoch_at obj1 rfl (za (pK (za (um (jf ?_))))));let h3:Õ:=((s.heap.update a (á λ_=>#[])).push (ă "tuple" (L.map λp=>Ë p.2).toArray 0)).push (ă "list" #[] 0)
 show Æ (Í prog w) A _ P E { s with heap:=h3 }
 have other:∀b o,b≠a->s.heap.get? b=À o->h3.get? b=À o:=λb o ne e=>by
  refine zc _ (zc _ ?_);rw[uh _ _ _ _ ne];exact e
 have EZ:h3.get? a=À (ă "list" #[] ep):=zc _ (zc _ obj1);have tups:∀p∈L,Ò (SK prog w) h3 p.1 p.2/\p.1≠[]:=λp hp=>by
  obtain⟨⟨o,its,m,e1,e2,e3,e4⟩,ne⟩:=hL p hp;refine⟨⟨o,its,m,other _ _ (λz=>?_) e1,e2,e3,e4⟩,ne⟩;rw[z,AI] at e1;cases e1;exact absurd (Value.type.inj (show ú "list" = ú "tuple" from e2)) (by decide)
 have last:∀L':List (List È×Ç),L'.Perm L->(L'.map (·.1)).Pairwise (λx y=>vb y x=Ä)->∀h',h'=h3.update a (á λ_=>(L'.map λp=>Ë p.2).toArray)->P (.done (.ret .none)) { s with heap:=h' }:=λL' pe up h' e=>by
  obtain⟨n',on⟩:∃n',(h3.update a (á λ_=>(L'.map λp=>Ë p.2).toArray)).get? a=À (ă "list" (L'.map λp=>Ë p.2).toArray n'):=⟨_,get?_update_seq EZ _⟩;subst e;exact k L' _ n' pe up on λb o ne q=>by rw[uh _ _ _ _ ne];exact other b o ne q
 dsimp only;by_cases few:(L.map λp=>Ë p.2).toArray.size<2
 .rw[zQ few,zQ few]
  refine za (zf ?_);rw[StateT.run_pure];refine za (zf ?_);dsimp only;have Ee:(L.map (·.1)).Pairwise (λx y=>vb y x=Ä):=by
   match L,few with
   | [],_=>exact Ğ
   | [x],_=>exact uN _ _
   | _::_::_,few=>simp at few;omega
  refine za (seqEpoch_at EZ rfl ?_);refine za (listUpdate_at EZ rfl ?_ (hsz2:=?_))
  .erw[bne_self_eq_false,zP,jy]
   refine zf (last L (qR _) Ee _ ?_);show h3.update a (á λ_=>Array.map (·.2) (Array.zip _ _))=_
   congr 2
   funext _
   apply Array.toList_inj.mp
   simp[List.map_snd_zip]
  .refine zq (m:=L.length) ?_ (by rw[jB];omega)
   show(Array.map (λx=>x.2) ((L.map λp=>Ë p.2).toArray.zip (L.map λp=>Ë p.2).toArray)).size<=L.length
   simp
 .rw[zW few,zW few]
  have two:2<=L.length:=by simp at few;omega
  obtain⟨fs,kt,kl,kv⟩:=kat_tups tups;refine za (kat_kind (s:={ s with heap:=h3 }) (T:=.type "str") kt ∅ (λv hv=>?_) (by decide) ?_)
  .obtain⟨x,t,rfl⟩:=kv v hv
   exact Looks.of_pure rfl
  .have gv:∀i,i<L.length->(L.map λp=>Ë p.2).getD i Ö=.ref (L.getD i ([],0)).2:=λi hi=>by simp[Ĕ,hi]
   have mem:∀i,i<L.length->L.getD i ([],0)∈L:=λi hi=>by simp[Ĕ,hi]
   have kin:∀i,i<L.length->(L.getD i ([],0)).1∈L.map (·.1):=λi hi=>zK.mpr ⟨_,mem i hi,rfl⟩
   refine za (j6 (kat_run (s:={ s with heap:=h3 }) (ks:=L.map λp=>Ë p.2) (vs:=L.map λp=>Ë p.2) (κ:=tuples' Â) (G:=λp s'=>s'={ s with heap:=h3 }/\p.toList.Perm (ß L.length)/\∀i j,i<=j->j<L.length->dk (L.map (·.1)) (L.getD (p.getD i 0) ([],0)).1<=dk (L.map (·.1)) (L.getD (p.getD j 0) ([],0)).1)
    (Q:=λAH s'=>s'={ s with heap:=h3 }/\∃p:Array Nat,p.size=L.length/\arrOf AH=p.map (kas_item ((L.map λp=>Ë p.2).toArray.zip (L.map λp=>Ë p.2).toArray))/\failedOf AH=Á/\p.toList.Perm (ß L.length)/\∀i j,i<=j->j<L.length->dk (L.map (·.1)) (L.getD (p.getD i 0) ([],0)).1<=dk (L.map (·.1)) (L.getD (p.getD j 0) ([],0)).1)
    rfl ∅ ∅ (λp AH s' a1 a2 a3 a4=>⟨a4.1,p,a1.trans Ek,a2,a3,a4.2.1,a4.2.2⟩) ?_) ?_ λ_ _ e=>e)
   .rw[Ek]
    refine Bd (n:=L.length) (rk:=λi=>dk (L.map (·.1)) (L.getD i ([],0)).1) (λi j C hi hj hC=>?_) ∅ λp a1 a2 a3=>⟨rfl,a2,a3⟩
    unfold kas_ask;rw[gv i hi,gv j hj];refine B3 (tups _ (mem i hi)).1 (tups _ (mem j hj)).1 ?_;rw[<-sG (kin i hi) (kin j hj)];exact hC
   .rintro⟨⟨⟩,AH⟩ s' ⟨rfl,p,Pc,har,hf,pp,up⟩
    dsimp only;have out:=kat_snds (ks:=L.map λp=>Ë p.2) (vs:=L.map λp=>Ë p.2) rfl har;have N8:∀i∈p.toList,i<L.length:=λi hi=>jV.mp (pp.mem_iff.mp hi)
    have N9:(arrOf AH).map (·.2)=((p.toList.map λi=>L.getD i ([],0)).map λq=>Ë q.2).toArray:=by
     rw[out,jb];congr 1
     exact ql λi hi=>gv i (N8 i hi)
    have pe:(p.toList.map λi=>L.getD i ([],0)).Perm L:=by
     have:=pp.map λi=>L.getD i ([],0)
     rw[range_getD] at this;exact this
    have Ee:((p.toList.map λi=>L.getD i ([],0)).map (·.1)).Pairwise (λx y=>vb y x=Ä):=by
     rw[vD];intro i j hi hj hij;erw[zH,zV] at hi hj;have e1:∀m,(hm:m<p.size)->((p.toList.map λi=>L.getD i ([],0)).map (·.1))[m]'(by simpa using hm)=(L.getD (p.getD m 0) ([],0)).1:=λm hm=>by simp[Ă,hm]
     rw[e1 i hi,e1 j hj];have le:=up i j ∅ ∅;have mi:p.getD i 0<L.length:=by erw[Ă,hi,dite_true];exact N8 _ (by simp)
     have mj:p.getD j 0<L.length:=by erw[Ă,hj,dite_true];exact N8 _ (by simp)
     rw[<-sG (kin _ mj) (kin _ mi)];exact jj ∅
    rw[N9];refine za (seqEpoch_at EZ rfl ?_);refine za (listUpdate_at EZ rfl ?_ (hsz2:=?_))
    .rw[hf]
     erw[bne_self_eq_false,zP,jy];exact zf (last _ pe Ee _ rfl)
    .rw[jB]
     simp;omega
end
theorem gh{α:Type}:∀(l:List α) (i:Nat) (x:α),l[i]?=À x->l.Perm (x::l.eraseIdx i)
 | [],i,x,h=>by simp at h
 | y::l,0,x,h=>by simp at h;subst h;exact qR _
 | y::l,i+1,x,h=>by
  have:=gh l i x (by simpa using h);rw[uP];exact(Ģ _ this).trans (Ź _ _ _)
theorem KJ{α:Type}(next:Nat->Nat):∀(hX k:Nat) (left:List α) (out:Array α),left.length<=hX->(pickOrder.go next hX k left out).toList.Perm (out.toList++left)
 | 0,k,left,out,h=>by
  have:left=[]:=vY.mp ∅;subst this;simp[pickOrder.go]
 | hX+1,k,left,out,h=>by
  unfold pickOrder.go;cases left with
  | nil=>simp
  | cons y l=>
   have xa:next k%(y::l).length<(y::l).length:=wG _ (by simp);obtain⟨x,hx⟩:∃x,(y::l)[next k%(y::l).length]?=À x:=⟨_,zL xa⟩;rw[hx];dsimp only
   have ih:=KJ next hX (k+1) ((y::l).eraseIdx (next k%(y::l).length)) (out.push x) (by
    rw[Ŏ xa];omega)
   refine ih.trans ?_;rw[Array.toList_push,yo];exact List.Perm.append_left _ (gh _ _ _ hx).symm
def gO{α:Type}(next:Nat->Nat)(xs:Array α):(ş next xs).toList.Perm xs.toList:=by
 unfold ş;have:=KJ next xs.size 0 xs.toList #[] (by simp);simpa using this
section
variable{prog:Ï}{w:Ñ}{A:Ø}{E:Ã->Å->Prop}{s:Å}
def DX(hn:n≠0)(h:∀i d,i<n->Q i { s with drawn:=d }):Æ (Í prog w) A (choose .order n) Q E s:=by
 intro Γ p _;unfold choose;rw[Sem.wp_choose];refine⟨hn,?_⟩;rw[Sem.wp_pure];exact h _ _ (wG _ (pX hn))
theorem nP{α:Type}:∀(n:Nat) (xs:List α) (s:Å) {Q:List α->Å->Prop},n=xs.length->(∀ys d,ys.Perm xs->Q ys { s with drawn:=d })->Æ (Í prog w) A (drawOrder n xs) Q E s
 | 0,xs,s,Q,e,h=>by
  have:xs=[]:=vY.mp e.symm;subst this;unfold drawOrder;have:=h [] s.drawn (qR _);exact zf this
 | n+1,[],s,Q,e,h=>by cases e
 | n+1,x::xs,s,Q,e,h=>by
  unfold drawOrder;refine za (DX (by simp) λi d hi=>?_);obtain⟨y,hy⟩:∃y,(x::xs)[i]?=À y:=⟨_,zL hi⟩;rw[hy];dsimp only;refine ê (nP n ((x::xs).eraseIdx i) _ (by rw[Ŏ hi];simp at e ⊢;omega) λys d' pe=>zf ?_);exact h (y::ys) d' ((Ģ _ pe).trans (gh _ _ _ hy).symm)
def slotN:Slot "set_iterator" "__next__" "set_iterator.__next__":=.of (owner:="set_iterator") (n:="__next__") (by rw[yd,vC];kernel_rfl) ⋯ ⋯ ⋯ (.inl ⋯) (by rw[vW];kernel_rfl)
def entryN:Ÿ table "set_iterator.__next__" = À ç.«set_iterator.__next__»:=entryFor_of_tree aaa
def Xr(a:Ã):argsOk "set_iterator.__next__" ⟨[a],[]⟩:=by unfold argsOk;kernel_rfl
def entryI:Ÿ table "set.__iter__" = À ç.«frozenset.__iter__»:=xU (id':="frozenset.__iter__") aaa rfl ⋯ aaa
def IsSI(h:Õ)(I:Ç)(first:Ã)(i:Nat)(a:Ç)(n ep:Nat):Prop:=h.get? I=À { cls:=.type "set_iterator",dict:=Á,data:=.fields #[first,.int i 0,.ref a,.int n 0,.int ep 0],slots:=#[] }
def IsSI.typeIs(h:IsSI s.heap I first i a n ep):s.TypeIs (.ref I) "set_iterator":=⟨_,h,rfl⟩
def slotAt(t:Ô)(i:Nat):Nat:=if i=0 then 0 else t.place.getD (i-1) 0+1
def J5{t:Ô}(T:TOk t)(hi:i<=t.place.size):ò t.place (slotAt t i)=i:=by
 by_cases z:i=0
 .subst z
  show ò t.place 0=0
  obtain⟨a,b,c⟩:=x5 (xs:=t.place) (j:=0) T.up;by_cases y:ò t.place 0=0
  .exact y
  .have:=b 0 ∅ ∅
   omega
 .have xa:i-1<t.place.size:=by omega
  have e:slotAt t i=t.place[i-1]+1:=by unfold slotAt;rw[zW z];simp[Ă,xa]
  rw[e];obtain⟨a,b,c⟩:=x5 (xs:=t.place) (j:=t.place[i-1]+1) T.up;have mono:=vD.mp T.up;rcases xH (ò t.place (t.place[i-1]+1)) i with q | q | q
  .have:=c (i-1) xa ∅
   omega
  .exact q
  .have h1:i<t.place.size:=by omega
   have:=b i h1 q;have m:=mono (i-1) i (by simpa using xa) (by simpa using h1) ∅;erw[pJ] at m;omega
def Md(w:Ñ)(h:Õ)(a:Ç)(es:Array (Int×Ã))(t:Ô)(ep:Nat)(vs:List Ã)(first:Ã)(i:Nat):Prop:=
 (w.params.followText "set-order" = Â/\first=.int 0 0/\vs=(ş (w.params.setOrder a ep) es).toList.map (·.2)) \/
 (w.params.followText "set-order" = Ä/\(!t.plain&&decide (es.size>1))=Â/\∃(T:Ç) (places:List Nat) (oT:ø) (m:Nat),first=.ref T/\h.get? T=À oT/\oT.data=.seq (places.map λj=>ī (j:Nat) 0).toArray m/\vs=places.map (λj=>(es.toList.getD j (0,.none)).2)/\∀j∈places,j<es.size) \/
 (w.params.followText "set-order" = Ä/\(!t.plain&&decide (es.size>1))=Ä/\t.led=Â/\first=.int (slotAt t i:Nat) 0/\vs=es.toList.map (·.2))
def yy(h:Q (w.params.followText "set-order") s):Æ (Í prog w) A setsByText Q E s:=by
 unfold setsByText;exact za (yR (zf h))
def oZ{oi:ø}{fs:Array Ã}(e1:s.heap.get? I=À oi)(e3:oi.data=.fields fs)(h:Q fs s):Æ (Í prog w) A (fieldsOf (.ref I)) Q E s:=by
 unfold fieldsOf;refine za (xu e1 ?_);rw[e3];exact zf h
def bP{α:Type}{c:Bool}{X Y:Sem α}{Q:α->Å->Prop}(hc:c=Ä)(h:Æ (Í prog w) A Y Q E s):Æ (Í prog w) A (if c=Â then X else Y) Q E s:=by
 rw[hc,zW (by simp)];exact h
def rC{o:ø}{es:Array (Int×Ã)}{R:List (Nat×(Int×Ã))}(ho:s.heap.get? a=À o)(hd:o.data=.set es ep t)(S:SOk t es.toList R)(m1:w.params.followText "set-order" = Â)
  (q:Q (((ş (w.params.setOrder a ep) es)[i]?).map λe=>(e.2,slot)) s):Æ (Í prog w) A (setNext a slot i ep) Q E s:=by
 unfold setNext;refine za (jk ho hd S.fits ?_);dsimp only;refine ê (yy ?_);rw[m1,if_pos rfl,if_neg (by simp)];refine za ?_;unfold setWalk;refine za (jk ho hd S.fits ?_);dsimp only;refine ê (yy ?_);rw[m1,if_pos rfl];exact za (yR (zf (zf q)))
def rq{o:ø}{es:Array (Int×Ã)}{t:Ô}{R:List (Nat×(Int×Ã))}(ho:s.heap.get? a=À o)(hd:o.data=.set es ep t)(S:SOk t es.toList R)(m1:w.params.followText "set-order" = Ä)
  (m2:(!t.plain&&decide (es.size>1))=Ä) (m4:t.led=Â) (hi:i<=es.size) (q:Q (es[i]?.map λe=>(e.2,slotAt t (i+1))) s):Æ (Í prog w) A (setNext a (slotAt t i) i ep) Q E s:=by
 have AM:t.place.size=es.size:=by
  have a1:=jl Ú S.pl;have a2:=jl Ú S.es;erw[zH,zV] at a1 a2;omega
 unfold setNext;refine za (jk ho hd S.fits ?_);dsimp only;refine ê (yy ?_);rw[m1,if_neg (by simp)];refine bP m2 ?_;refine za (rP (v:=()) (zW (by rw[m4];simp)) ?_);rw[J5 S.T ∅];refine zf ?_;by_cases z:i<es.size
 .have e1:es[i]?=À es[i]:=by simp[z]
  have e2:t.place[i]?=À t.place[i]:=by simp[show i<t.place.size by omega]
  rw[e1,e2];rw[e1] at q;have e3:slotAt t (i+1)=t.place[i]+1:=by unfold slotAt;rw[zW ∅];simp[Ă,show i<t.place.size by omega]
  rw[e3] at q;exact q
 .have e1:es[i]?=Á:=by simp[qe z]
  rw[e1];rw[e1] at q;exact q
def mS{nx:Nat}(hi:IsSI s.heap I old i a n ep)(hP:∀h',IsSI h' I (.int nx 0) (i+1) a n ep->Ü I s.heap h'->P (.done (.ret x)) { s with heap:=h' }) :
  Æ (Í prog w) A (do
   setField (Ë I) 0 (ā nx)
   setField (Ë I) 1 (ā ((i:Int)+1))
   ret x) P E s:=by
 refine za (jA hi (by simp) λh1 g1 b1=>za (jA g1 (by simp) λh2 g2 b2=>zf (hP h2 ?_ (b1.trans b2))));exact g2
def Vq(hi:IsSI s.heap I old i a n ep)(hP:∀h',IsSI h' I old (i+1) a n ep->Ü I s.heap h'->P (.done (.ret x)) { s with heap:=h' }) :
  Æ (Í prog w) A (do
   setField (Ë I) 1 (ā ((i:Int)+1))
   ret x) P E s:=by
 refine za (jA hi (by simp) λh2 g2 b2=>zf (hP h2 ?_ b2));exact g2
def Md.step(md:Md w h a es t ep vs (.ref T) i)(ne:T≠I)(sb:Ü I h h'):Md w h' a es t ep vs (.ref T) (i+1):=by
 rcases md with ⟨m1,m2,m3⟩ | ⟨m1,m2,T',places,oT,m,e,t1,t2,m3,m4⟩ | ⟨m1,m2,m4,m5,m3⟩
 .cases m2
 .cases e
  exact .inr (.inl ⟨m1,m2,_,places,oT,m,rfl,(sb.2 _ ne).trans t1,t2,m3,m4⟩)
 .cases m5
def BH{o:ø}{es:Array (Int×Ã)}{R:List (Nat×(Int×Ã))}{vs:List Ã}(ho:s.heap.get? a=À o)(hd:o.data=.set es ep t)(S:SOk t es.toList R)
  (hi:IsSI s.heap I first i a es.size ep) (md:Md w s.heap a es t ep vs first i) (hx:vs[i]?=À x) (AE:∀T,first=.ref T->T≠I)
  (k:∀AB h',IsSI h' I AB (i+1) a es.size ep->Md w h' a es t ep vs AB (i+1)->(∀T,AB=.ref T->first=.ref T)->Ü I s.heap h'->Q (À x) { s with heap:=h' }):Æ (Í prog w) A (Ē (.ref I)) Q E s:=by
 unfold Ē;refine za (vI (jx (name:=ü "__next__") hi.typeIs slotN (jh slotN hi.typeIs entryN ?_ (Xr _))));unfold ç.«set_iterator.__next__»;refine za (show Æ _ _ (slotArgs "__next__" 0 { pos:=[Ë I] }) _ _ _ from zf ?_);dsimp only;refine ê (oZ hi rfl ?_);dsimp only;refine ê (wpAny_setEntries_of ho hd S.fits ?_);rw[if_neg (by simp)];have lt:i<vs.length:=by
  obtain⟨q,_⟩:=zA.mp hx;exact q
 have SX:=md;rcases md with ⟨m1,rfl,m3⟩ | ⟨m1,m2,T,places,oT,m,rfl,t1,t2,m3,m4⟩ | ⟨m1,m2,m4,rfl,m3⟩
 .dsimp only
  erw[jm];refine za (rC (i:=i) (slot:=0) ho hd S m1 ?_);obtain⟨e,z1,rfl⟩:∃e,(ş (w.params.setOrder a ep) es)[i]?=À e/\e.2=x:=by
   rw[m3,zZ] at hx;obtain⟨e,z1,z2⟩:=zg.mp hx;exact⟨e,by simpa using z1,z2⟩
  rw[z1];dsimp only[Option.map];exact mS hi λh' g b=>⟨_,rfl,zf (k _ h' g (.inl ⟨m1,rfl,m3⟩) (λT e=>by cases e) b)⟩
 .dsimp only
  refine za (j7 t1 t2 ?_);dsimp only;erw[Į];obtain⟨j,z1,z2⟩:∃j,places[i]?=À j/\(es.toList.getD j (0,.none)).2=x:=by
   rw[m3,zZ] at hx;obtain⟨e,z1,z2⟩:=zg.mp hx;exact⟨e,z1,z2⟩
  have SY:=m4 j (jC z1);have e1:(places.map λj=>ī (j:Nat) 0).toArray[i]?=À (ī (j:Nat) 0):=by simp[z1]
  rw[e1];dsimp only;erw[Į];refine za ?_;unfold setNextDrawn;refine za (jk ho hd S.fits ?_);dsimp only;rw[if_neg (by simp)];have e2:es[j]?=À (es.toList.getD j (0,.none)):=by simp[Ĕ,SY]
  rw[e2];dsimp only;refine wpAny_pure ?_;rw[z2];exact Vq hi λh' g b=>⟨_,rfl,zf (k _ h' g (SX.step (AE _ rfl) b) (λ_ e=>e) b)⟩
 .dsimp only
  erw[jm];rw[m3,zH,zV] at lt;refine za (rq (i:=i) ho hd S m1 m2 m4 ∅ ?_);obtain⟨e,z1,rfl⟩:∃e,es[i]?=À e/\e.2=x:=by
   rw[m3,zZ] at hx;obtain⟨e,z1,z2⟩:=zg.mp hx;exact⟨e,by simpa using z1,z2⟩
  rw[z1];dsimp only[Option.map];exact mS hi λh' g b=>⟨_,rfl,zf (k _ h' g (.inr (.inr ⟨m1,m2,m4,rfl,m3⟩)) (λT e=>by cases e) b)⟩
end
section
variable{prog:Ï}{w:Ñ}{A A':Ø}{E:Ã->Å->Prop}{s:Å}
def iP{P:PySem.Fin->Å->Prop}{Q:Option Ã->Å->Prop}(hh:A'.handled=Á)(h:∀h',(∀b o,s.heap.get? b=À o->h'.get? b=À o)->Q Á { s with heap:=h' }) :
  Æ (Í prog w) A' (do
   let e <-newExc (.type "StopIteration") []
   raiseNew e) P (λe s'=>Æ (Í prog w) A (do
    let b <-isInstance e (.type "StopIteration")
    if b=Â then pure Á else throw e) Q E s') s:=by
 refine za ?_;erw[newExc,newTuple];refine za (kE ?_ (by size_fits));refine za (m:=Ĳ _ _) (yc (a:=Ö) (by first | rfl | (erw[Ĳ];rfl)) (kE ?_ (by size_fits)));erw[raiseNew];refine za (wpAny_handled ?_);rw[hh];refine za (zf (xW ?_));refine za (qT (T:="StopIteration") (b:=Â) ⟨_,zE _ rfl,rfl⟩ pM ?_);exact zf (h _ λb o e=>zc _ (zc _ e))
def BU{I a:Ç}{o:ø}{es:Array (Int×Ã)}{ep:Nat}{t:Ô}{R:List (Nat×(Int×Ã))}{vs:List Ã}{first:Ã}{i:Nat}{Q:Option Ã->Å->Prop}(hh:A.handled=Á)(ho:s.heap.get? a=À o)(hd:o.data=.set es ep t)(S:SOk t es.toList R)
  (hi:IsSI s.heap I first i a es.size ep) (md:Md w s.heap a es t ep vs first i) (hx:i=vs.length) (hv:vs.length=es.size)
  (k:∀h',(∀b o,b≠I->s.heap.get? b=À o->h'.get? b=À o)->Q Á { s with heap:=h' }):Æ (Í prog w) A (Ē (.ref I)) Q E s:=by
 unfold Ē;refine za (vI (jx (name:=ü "__next__") hi.typeIs slotN (jh slotN hi.typeIs entryN ?_ (Xr _))));unfold ç.«set_iterator.__next__»;refine za (show Æ _ _ (slotArgs "__next__" 0 { pos:=[Ë I] }) _ _ _ from zf ?_);dsimp only;refine ê (oZ hi rfl ?_);dsimp only;refine ê (wpAny_setEntries_of ho hd S.fits ?_);rw[if_neg (by simp)];have A7:A.in1.handled=Á:=by simpa using hh
 rcases md with ⟨m1,rfl,m3⟩ | ⟨m1,m2,T,places,oT,m,rfl,t1,t2,m3,m4⟩ | ⟨m1,m2,m4,rfl,m3⟩
 .dsimp only
  erw[jm];refine za (rC (i:=i) (slot:=0) ho hd S m1 ?_);have z1:(ş (w.params.setOrder a ep) es)[i]?=Á:=by
   have:=(gO (w.params.setOrder a ep) es).length_eq;rw[zV,zV] at this;simp;omega
  rw[z1];dsimp only[Option.map];refine za (jA hi (by simp) λh1 g1 b1=>?_);exact iP A7 λh' e=>k h' λb o ne q=>e b o ((b1.2 b ne).trans q)
 .dsimp only
  refine za (j7 t1 t2 ?_);dsimp only;erw[Į];have e1:(places.map λj=>ī (j:Nat) 0).toArray[i]?=Á:=by
   have:=jl Ú m3;rw[zH] at this;simp;omega
  rw[e1];dsimp only;refine za (jA hi (by simp) λh1 g1 b1=>?_);refine za (jA g1 (by simp) λh2 g2 b2=>?_);exact iP A7 λh' e=>k h' λb o ne q=>e b o (((b1.trans b2).2 b ne).trans q)
 .dsimp only
  erw[jm];refine za (rq (i:=i) ho hd S m1 m2 m4 ∅ ?_);have z1:es[i]?=Á:=by simp;omega
  rw[z1];dsimp only[Option.map];refine za (jA hi (by simp) λh1 g1 b1=>?_);exact iP A7 λh' e=>k h' λb o ne q=>e b o ((b1.2 b ne).trans q)
def ik{α:Type}{c:Bool}{X Y:Sem α}{Q:α->Å->Prop}(hc:c=Â)(h:Æ (Í prog w) A X Q E s):Æ (Í prog w) A (if c=Â then X else Y) Q E s:=by
 rw[hc,zQ rfl];exact h
def QL:Slot "set_iterator" "__iter__" "set_iterator.__iter__":=.of (owner:="set_iterator") (n:="__iter__") (by rw[yd,vC];kernel_rfl) ⋯ ⋯ ⋯ (.inl ⋯) (by rw[vW];kernel_rfl)
def Ul:Ÿ table "set_iterator.__iter__" = À ç.«dict_keyiterator.__iter__»:=xU (id':="dict_keyiterator.__iter__") aaa rfl ⋯ aaa
def FF(a:Ã):argsOk "set_iterator.__iter__" ⟨[a],[]⟩:=by unfold argsOk;kernel_rfl
def QG(hh:A.handled=Á){es:Array (Int×Ã)}{R:List (Nat×(Int×Ã))}{vs:List Ã}(S:SOk t es.toList R)(hv:vs.length=es.size)(AE:a≠I)(fp:List Ç)(hI:I∈fp)(ha:a∈fp) :
  Walks prog w A I fp [I] vs.length (λi v=>vs[i]?=À v) (λi h=>∃o first,h.get? a=À o/\o.data=.set es ep t/\IsSI h I first i a es.size ep/\Md w h a es t ep vs first i/\∀T,first=.ref T->T≠I/\T∈fp) where
 sub:=λb hb=>by simp at hb;rw[hb];exact hI
 frame:=λi h h' st hk=>by
  obtain⟨o,first,h1,h2,h3,h4,h5⟩:=st;refine⟨o,first,hk a ha _ h1,h2,hk I hI _ h3,?_,h5⟩;rcases h4 with m | ⟨m1,m2,T,places,oT,m,e,t1,t2,m3,m4⟩ | m
  .exact .inl m
  .exact .inr (.inl ⟨m1,m2,T,places,oT,m,e,hk T (h5 T e).2 _ t1,t2,m3,m4⟩)
  .exact .inr (.inr m)
 item:=λi s Q E hi st hQ=>by
  obtain⟨o,first,h1,h2,h3,h4,h5⟩:=st;have hx:vs[i]?=À vs[i]:=by simp[hi]
  refine BH h1 h2 S h3 h4 hx (λT e=>(h5 T e).1) λAB h' g1 g2 g3 sb=>?_
  refine hQ vs[i] h' s.toks hx ⟨o,AB,(sb.2 a AE).trans h1,h2,g1,g2,λT e=>h5 T (g3 T e)⟩ λb o' hb e=>(sb.2 b (by simpa using hb)).trans e
 done:=λs Q E st hQ=>by
  obtain⟨o,first,h1,h2,h3,h4,h5⟩:=st;exact BU hh h1 h2 S h3 h4 rfl hv λh' e=>hQ h' s.toks λb o hb q=>e b o (by simpa using hb) q
 self:=λi s Q E st hQ=>by
  obtain⟨o,first,h1,h2,h3,h4,h5⟩:=st;refine uz h3.typeIs QL (jh QL h3.typeIs Ul ?_ (FF _));show Æ _ _ (ret (.ref I)) _ _ s
  exact zf ⟨_,rfl,"set_iterator",_,h3.typeIs,slotN.lookup,hQ⟩
def YX{o:ø}{es:Array (Int×Ã)}{t:Ô}{R:List (Nat×(Int×Ã))}(ho:s.heap.get? a=À o)(hc:o.cls=.type "set")(hd:o.data=.set es ep t)(S:SOk t es.toList R)(Ad:t.led = !w.params.followText "set-order")(hz:es.size<=4000)
  (k:∀I first h' d vs,s.heap.objs.size<=I->IsSI h' I first 0 a es.size ep->Md w h' a es t ep vs first 0->vs.Perm (es.toList.map (·.2))->(∀T,first=.ref T->T≠I/\s.heap.objs.size<=T/\T<h'.objs.size)->(∀b o,s.heap.get? b=À o->h'.get? b=À o)->Q (.ref I) { s with heap:=h',drawn:=d }) :
  Æ (Í prog w) A (ĥ (.ref a)) Q E s:=by
 have hT:s.TypeIs (.ref a) "set":=⟨o,ho,hc⟩;refine uz hT F.slot_set_iter (jh F.slot_set_iter hT entryI ?_ (F.args_set_iter_1 _));unfold ç.«frozenset.__iter__»;refine za (show Æ _ _ (Builtin.Frozenset.slot0 "__iter__" { pos:=[Ë a] }) _ _ _ from za (zf (zf ?_)));unfold Ś;refine za (za (wZ ho hd S.fits (zf ?_)));unfold setDrawn;refine za (za (jk ho hd S.fits ?_));dsimp only;refine za (yy ?_);refine zf ?_
 have num:∀vs,Md w s.heap a es t ep vs (.int 0 0) 0->vs.Perm (es.toList.map (·.2))->Æ (Í prog w) A.in1 (do
   let first <-pure (ā 0)
   let e <-setEpoch a
   let it <-newFields "set_iterator" [first,ā 0,Ë a,ā es.size,ā e]
   ret it) (λfin s'=>∃v,fin=Fin.done (Flow.ret v)/\∃T' r,s'.TypeIs v T'/\ŉ (ú T') (ü "__next__")=pure (À r)/\Q v s') E s:=by
  intro vs md pe;refine za (zf ?_);refine za (qN ho hd S.fits ?_);refine za (kE ?_);refine zf ⟨_,rfl,"set_iterator",_,⟨_,zE _ rfl,rfl⟩,slotN.lookup,?_⟩;refine k s.heap.objs.size (.int 0 0) _ s.drawn vs (zr _) (zE _ rfl) ?_ pe (λT e=>by cases e) λb o e=>zc _ e
  rcases md with m | ⟨m1,m2,T,places,oT,m,e,_⟩ | m
  .exact .inl m
  .cases e
  .exact .inr (.inr m)
 by_cases bt:w.params.followText "set-order" = Â
 .refine bP (by rw[bt];rfl) ?_
  exact num _ (.inl ⟨bt,rfl,rfl⟩) ((gO _ es).map _)
 .have bt:w.params.followText "set-order" = Ä:=by simpa using bt
  by_cases dr:(!t.plain&&decide (es.size>1))=Â
  .refine ik (show(!w.params.followText "set-order" && (!t.plain&&decide (es.size>1)))=Â by rw[bt,dr];rfl) ?_
   refine za (nP es.size (ß es.size) s (by simp) λys d pe=>?_);refine za (pK ?_ (by rw[zH,pe.length_eq,xN,jB];omega));have Eu:(s.heap.push { cls:=.type "tuple",data:=.seq (ys.map λ(i:Nat)=>ā (i:Int)).toArray }).get? a=À o:=zc _ ho;refine za (qN (s:={ s with heap:=s.heap.push { cls:=.type "tuple",data:=.seq (ys.map λ(i:Nat)=>ā (i:Int)).toArray },drawn:=d }) Eu hd S.fits ?_);refine za (kE ?_);refine zf ⟨_,rfl,"set_iterator",_,⟨_,zE _ rfl,rfl⟩,slotN.lookup,?_⟩;have sz:(s.heap.push { cls:=.type "tuple",data:=.seq (ys.map λ(i:Nat)=>ā (i:Int)).toArray }).objs.size=s.heap.objs.size+1:=jP ..;refine k (s.heap.push { cls:=.type "tuple",data:=.seq (ys.map λ(i:Nat)=>ā (i:Int)).toArray }).objs.size (.ref s.heap.objs.size) _ d (ys.map λj=>(es.toList.getD j (0,.none)).2) (by rw[sz];omega) (zE _ rfl) ?_ ?_ (λT e=>?_) λb o e=>zc _ (zc _ e)
   .refine .inr (.inl ⟨bt,dr,s.heap.objs.size,ys,_,_,rfl,zc _ (zE _ rfl),rfl,rfl,λj hj=>?_⟩)
    exact jV.mp (pe.mem_iff.mp hj)
   .have:=pe.map λj=>(es.toList.getD j (0,Ö)).2
    refine this.trans ?_;have e2:=jl (List.map (λ(x:Int×Ã)=>x.2)) (range_getD es.toList (0,Ö));rw[jb,zV] at e2;exact List.Perm.of_eq e2
   .cases e
    refine⟨by rw[sz];exact zM (jY _),zr _,?_⟩;rw[jP,sz];exact jD (jY _)
  .have dr:(!t.plain&&decide (es.size>1))=Ä:=by simpa using dr
   refine bP (show(!w.params.followText "set-order" && (!t.plain&&decide (es.size>1)))=Ä by rw[dr];simp) ?_;exact num _ (.inr (.inr ⟨bt,dr,by rw[Ad,bt];rfl,rfl,rfl⟩)) (qR _)
end
section
variable{prog:Ï}{w:Ñ}{A:Ø}{E:Ã->Å->Prop}{s:Å}
def Bq:ŉ (.type "set") "__len__" = pure (À (.builtin "set.__len__")):=by rw[yd,vC];kernel_rfl
def Wo(hT:s.TypeIs (.ref a) "set")(h:Q Ä s):Æ (Í prog w) A (Ņ (.ref a)) Q E s:=by
 unfold Ņ;refine za (ū hT Bq ?_);dsimp only;generalize hid:("set.__len__":String)=idl;rw[show splitId idl=À ("set","__len__") from by subst hid;decide +kernel];subst hid;dsimp only;refine ê (wpAny_isInstance (b:=Â) hT (by rw[isSubtype_type];kernel_rfl) ?_);rw[zW (by decide)];refine ik ⋯ ?_;refine za (qH hT ?_);exact zf h
def ZI{L:List (List È×Ç)}(hh:A.handled=Á)(hS:SetT (SK prog w) s.heap S L)(hb:L.length<900)
  (k:∀(L':List (List È×Ç)) (s':Å),L'.Perm L->(∀b o,s.heap.get? b=À o->s'.heap.get? b=À o)->s'.gens=s.gens->s'.os=s.os->s.heap.objs.size<=s'.heap.objs.size->Q (L'.map λp=>Ë p.2) s'):Æ (Í prog w) A (collect (.ref S)) Q E s:=by
 obtain⟨o,es,ep,t,R,ho,hex,hd,hm,Ad,S0,hL,nd,hT⟩:=hS;have Af:es.size=L.length:=by have:=jl Ú hL;simpa using this
 have Pg:S<s.heap.objs.size:=zJ ho;unfold collect;refine za (wF (jO F.entry_proto_collect ?_));rw[jF F.plain_proto_collect _];show Æ _ A.in1 (newList [] >>= λnl=>again (.builtin "list.__iadd__" ⟨[nl,.ref S],[]⟩)) _ _ s
 refine za (kE ?_);refine zf ⟨vh yM _,jO F.entry_list_iadd ?_⟩;rw[jF yM _];generalize hN:s.heap.objs.size=N;show Æ _ A.in1 (Ą (.ref N) (.ref S) (.ref N)) _ _ _
 let h1:Õ:=s.heap.push { cls:=.type "list",data:=.seq ([]:List Ã).toArray }
 have Ao:∀b o,s.heap.get? b=À o->h1.get? b=À o:=λb o e=>zc _ e
 have EC:h1.objs.size=N+1:=by rw[<-hN];exact jP ..
 have M9:h1.get? S=À o:=Ao _ _ ho;have Oa:h1.get? N=À { cls:=.type "list",data:=.seq ([]:List Ã).toArray }:=by rw[<-hN];exact zE _ rfl
 have Mv:N≠S:=by rw[<-hN];exact(zM Pg).symm
 show Æ _ A.in1 _ _ _ { s with heap:=h1 }
 have Ml:Shared.TypeIs { s with heap:=h1 } (.ref S) "set":=⟨o,M9,hex.1⟩;unfold Ą;refine za (qH Ml ?_);refine bP (by simp[ś,Mv]) ?_;refine za (YX (s:={ s with heap:=h1 }) M9 hex.1 hd S0 Ad ∅ λI first h2 d vs gI SZ S3 Ph gT gK=>?_);refine za (jf (Wo ⟨o,gK _ _ M9,hex.1⟩ ?_));refine ik ⋯ ?_;refine za (vG ?_);refine za ?_;show Æ _ A.in1 (updateSeq N (·.push .none) >>= λ_=>updateSeq N (·.pop)) _ _ _
 have Fm:h2.get? N=À { cls:=.type "list",data:=.seq ([]:List Ã).toArray }:=gK _ _ Oa;refine za (wg Fm rfl ?_);have up1:=jK (á (·.push Ö)) Fm rfl;refine wg up1 rfl ?_;have Ob:=jK (á (·.pop)) up1 rfl;have off:∀b o,b≠N->h2.get? b=À o->((h2.update N (á (·.push Ö))).update N (á (·.pop))).get? b=À o:=
  λb o ne e=>(qu _ _ (jq ne)).trans ((qu _ _ (jq ne)).trans e)
 let fp:List Ç:=I::S::(match first with | .ref T=>[T] | _=>[])
 have Ek:vs.length=es.size:=by have:=Ph.length_eq;simpa using this
 have Oc:N+1<=I:=by rw[<-EC];exact gI
 have S4:S≠I:=λe=>by
  have:S<N:=by rw[<-hN];exact Pg
  exact absurd Oc (by rw[<-e];exact Nat.not_le.mpr (jD this))
 have nF:N∉fp:=by
  intro m;rcases zj.mp m with e | m
  .exact absurd Oc (by rw[<-e];exact pD _)
  .rcases zj.mp m with e | m
   .exact Mv e
   .cases first with
    | ref T=>
     have e:N=T:=by simpa using m
     have:=(gT T rfl).2.1;have this:N+1<=T:=by rw[<-EC];exact this
     exact absurd this (by rw[<-e];exact pD _)
    | _=>simp at m
 have Pi:∀T,first=.ref T->T∈fp:=λT e=>by
  subst e;exact zp _ (zp _ (by simp))
 have A7:A.in1.handled=Á:=by simpa using hh
 have W:=(QG (prog:=prog) (w:=w) (A:=A.in1) A7 (I:=I) (a:=S) (ep:=ep) (vs:=vs) S0 Ek S4 fp (zz ..) (zp _ (zz ..))).toS;have S5:Md w ((h2.update N (á (·.push Ö))).update N (á (·.pop))) S es t ep vs first 0:=by
  rcases S3 with m | ⟨m1,m2,T,places,oT,m,e,t1,t2,m3,m4⟩ | m
  .exact .inl m
  .refine .inr (.inl ⟨m1,m2,T,places,oT,m,e,off _ _ (λz=>?_) t1,t2,m3,m4⟩)
   exact nF (z▸Pi T e)
  .exact .inr (.inr m)
 have nI:I≠N:=λe=>nF (by rw[<-e];exact zz ..)
 refine zf ⟨vh F.plain_extend_loop _,Ż W (by rw[jB];omega) N nF (.ref N) vs.length 0 _ _ _ rfl (jQ _) ?_ Ob (ItemsOf.nil _) λs' acc c Lp Az Fn=>?_⟩
 .exact⟨o,first,off _ _ (jq Mv) (gK _ _ M9),hd,off _ _ nI SZ,S5,λT e=>⟨(gT T e).1,Pi T e⟩⟩
 .show Æ _ A (load N >>= _) _ _ s'
  refine za (xu Az ?_);have Fu:acc.toList=vs:=by
   apply wz
   .rw[zV];exact Fn.1
   .intro i a1 a2
    have this:vs[i]?=À acc.toList[i]:=Fn.2 i acc.toList[i] (by simp);rw[zL a2] at this;exact(zX this).symm
  have Od:(L.map λp=>Ë p.2).Perm vs:=by
   have e:es.toList.map (·.2)=L.map λp=>Ë p.2:=by rw[hL,jb];rfl
   rw[<-e];exact Ph.symm
  obtain⟨L',q1,q2⟩:=xk Od rfl;refine zf ?_;show Q acc.toList s'
  rw[Fu,<-q2];refine k L' s' q1 (λb ob e=>?_) Lp.gens Lp.os (by rw[hN];exact qY (zJ Az));refine Lp.heap b ob ?_ (off b ob ?_ (gK _ _ (Ao _ _ e)))
  .intro m
   have lt:=zJ e;rw[hN] at lt;rcases zj.mp m with z | m
   .exact zM lt z
   .have z:b=I:=by simpa using m
    exact absurd Oc (by rw[<-z];exact Nat.not_le.mpr (jD lt))
  .have lt:=zJ e
   rw[hN] at lt;exact zM lt
def JF{l:List (List È)}(nd:l.Nodup)(h:l.Pairwise λx y=>vb y x=Ä):c8 l:=by
 unfold c8;refine(List.Pairwise.and h nd).imp λ{x y} q=>?_
 rcases gD q.2 with z | z
 .exact z
 .rw[q.1] at z;cases z
def mn{L:List (List È×Ç)}(hh:A.handled=Á)(hS:SetT (SK prog w) s.heap S L)(hb:L.length<64)(ne:∀p∈L,p.1≠[])
  (k:∀(D:Ç) (L':List (List È×Ç)) (n:Nat) (s':Å),L'.Perm L->L'.map (·.1)=kC (L.map (·.1))->s'.heap.get? D=À (ă "list" (L'.map λp=>Ë p.2).toArray n)->s.heap.objs.size<=D->(∀b o,s.heap.get? b=À o->s'.heap.get? b=À o)->s'.gens=s.gens->s'.os=s.os->Q (.ref D) s') :
  Æ (Í prog w) A (ķ (.builtin "sorted") [.ref S]) Q E s:=by
 have nd:(L.map (·.1)).Nodup:=by obtain⟨o,es,ep,t,R,_,_,_,_,_,_,_,nd,_⟩:=hS;exact nd
 have tk:∀p∈L,Ò (SK prog w) s.heap p.1 p.2:=by obtain⟨o,es,ep,t,R,_,_,_,_,_,_,_,_,hT⟩:=hS;exact hT
 refine yE kind_sorted plain_sorted entry_sorted (args_sorted1 _) ?_;unfold ç.«sorted»;refine za (m:=checkCount "sorted" 1 1 _) (zf ?_);refine za (ZI (by simpa using hh) hS ∅ λL1 s1 p1 k1 g1 o1 FB=>?_);refine za (um ?_ (by rw[zH,p1.length_eq,jB];omega));have IU:(s1.heap.push (ă "list" (L1.map λp=>Ë p.2).toArray 0)).get? s1.heap.objs.size=À (ă "list" (L1.map λp=>Ë p.2).toArray 0):=zE _ rfl;have kp:∀b o,s.heap.get? b=À o->(s1.heap.push (ă "list" (L1.map λp=>Ë p.2).toArray 0)).get? b=À o:=λb o e=>zc _ (k1 _ _ e)
 show Æ _ _ _ _ _ { s1 with heap:=s1.heap.push (ă "list" (L1.map λp=>Ë p.2).toArray 0) }
 have Lz:∀p∈L1,Ò (SK prog w) (s1.heap.push (ă "list" (L1.map λp=>Ë p.2).toArray 0)) p.1 p.2/\p.1≠[]:=λp hp=>by
  obtain⟨o,its,m,e1,e2,e3,e4⟩:=tk p (p1.mem_iff.mp hp);exact⟨⟨o,its,m,kp _ _ e1,e2,e3,e4⟩,ne p (p1.mem_iff.mp hp)⟩
 refine za (jf (jh ż ⟨_,IU,rfl⟩ Ŭ (io (L:=L1) IU Lz (by rw[p1.length_eq];exact hb) λL2 h2 n2 p2 up Mw off=>⟨_,rfl,?_⟩) (Ž _)));refine zf ⟨_,rfl,k _ L2 n2 _ (p2.trans p1) ?_ Mw FB (λb o e=>off b o (λz=>?_) (kp _ _ e)) g1 o1⟩
 .have Mx:(L2.map (·.1)).Nodup:=(((p2.trans p1).map (·.1)).nodup_iff).mpr nd
  refine wf (JF Mx up) (vc _) λx=>?_
  rw[ssort_mem];exact((p2.trans p1).map (·.1)).mem_iff
 .have lt:=zJ e
  rw[z] at lt;exact absurd lt (yO.mpr FB)
end
section
variable{prog:Ï}{w:Ñ}{A:Ø}{E:Ã->Å->Prop}{s:Å}
def SetT.kept{h h':Õ}(hS:SetT (SK prog w) h S L)(k1:∀o,h.get? S=À o->h'.get? S=À o)(k2:∀p∈L,∀o,h.get? p.2=À o->h'.get? p.2=À o):SetT (SK prog w) h' S L:=by
 obtain⟨o,es,ep,t,R,h1,h2,h3,h4,h5,h6,h7,h8,h9⟩:=hS;refine⟨o,es,ep,t,R,k1 _ h1,h2,h3,h4,h5,h6,h7,h8,λp hp=>?_⟩;obtain⟨ob,its,m,e1,e2,e3,e4⟩:=h9 p hp;exact⟨ob,its,m,k2 p hp _ e1,e2,e3,e4⟩
theorem SetT.fresh(led:Bool)(hl:led = !w.params.followText "set-order"){h:Õ}(e:h.get? S=À { cls:=.type "set",dict:=Á,data:=.set #[] 0 (.fresh 0 0 led) }):SetT (SK prog w) h S []:=by
 have T:TOk (SetTable.fresh 0 0 led):=⟨rfl,Ğ,λj hj=>(by cases hj),⟨3,zr _,rfl⟩,jQ _⟩;have S:SOk (SetTable.fresh 0 0 led) [] []:=⟨T,rfl,rfl,λr hr=>(by cases hr),show 0*5<7*3 by decide⟩;exact⟨_,#[],0,.fresh 0 0 led,[],e,⟨rfl,rfl,rfl⟩,rfl,show 7<=8191 by decide,hl,S,rfl,vg,λp hp=>(by cases hp)⟩
variable{R:Result->Å->Prop}{I:Ç}{fp wr:List Ç}{G:Array ľ->Array ľ->Prop}{n:Nat}{P:Nat->Ã->Prop}{St:Nat->Å->Prop}
def oG(W:WalksS prog w A.in1 I fp wr G n P St)(S:Ç)(EV:S∉fp)(key:Nat->List È)(ad:Nat->Ç)(Em:∀i v,P i v->v=.ref (ad i))(hu:A.in1.units<û)(hb:n<890)(hw:∀j,j<n->ad j∉wr/\ad j≠S) :
  ∀(k i:Nat) (s:Å) (L:List (List È×Ç)),n-i=k->i<=n->St i s->SetT (SK prog w) s.heap S L->L.length<=i->(∀x,x∈L.map (·.1)↔∃j,j<i/\key j=x)->(∀p∈L,∃j,j<i/\p=(key j,ad j))->(∀j,j<n->Ò (SK prog w) s.heap (key j) (ad j))->
   (∀s' L',Moved (S::wr) G s s'->SetT (SK prog w) s'.heap S L'->L'.length<=n->(∀x,x∈L'.map (·.1)↔∃j,j<n/\key j=x)->(∀p∈L',∃j,j<n/\p=(key j,ad j))->R (.ok (.ret .none)) s')->
   Ĺ (Í prog w) A (.builtin "set.update.loop" ⟨[.ref S,.ref I],[]⟩) R s:=by
 have NV:S∉wr:=λh=>EV (W.sub _ h)
 have up:∀b∈wr,b∈S::wr:=λb hb=>zp _ hb
 have stay:∀{i:Nat} {L:List (List È×Ç)} {s s':Å},i<=n->SetT (SK prog w) s.heap S L->(∀p∈L,∃j,j<i/\p=(key j,ad j))->Moved wr G s s'->SetT (SK prog w) s'.heap S L:=λhi hS hp hm=>hS.kept (λo e=>hm.heap S o NV e) λp mp o e=>by
  obtain⟨j,j1,rfl⟩:=hp p mp;exact hm.heap _ o (hw j ∅).1 e
 have My:∀{s s':Å},(∀j,j<n->Ò (SK prog w) s.heap (key j) (ad j))->Moved wr G s s'->∀j,j<n->Ò (SK prog w) s'.heap (key j) (ad j):=λhk hm j hj=>by
  obtain⟨ob,its,m,e1,e2,e3,e4⟩:=hk j hj;exact⟨ob,its,m,hm.heap _ _ (hw j hj).1 e1,e2,e3,e4⟩
 intro k;induction k with
 | zero=>
  intro i s L hk hi r6 hS d6 IC LC A3 hR;obtain rfl:i=n:=by omega
  refine jO qJ ?_;rw[jF jE _];show Æ _ A.in1 (Ē (.ref I) >>= _) _ _ s;refine za (W.done s _ _ r6 λs' hm=>?_)
  show Æ _ A.in1 (ret Ö) _ _ s';exact zf (hR s' L (hm.mono up) (stay hi hS LC hm) d6 IC LC)
 | succ k ih=>
  intro i s L hk hi r6 hS d6 IC LC A3 hR;have xa:i<n:=by omega
  refine jO qJ ?_;rw[jF jE _];show Æ _ A.in1 (Ē (.ref I) >>= _) _ _ s;refine za (W.item i s _ _ xa r6 λv s' hP A6 hm=>?_)
  obtain rfl:=Em i v hP;have Az:=stay hi hS LC hm;have Oe:=My A3 hm;show Æ _ A.in1 (Đ [Ë (ad i)] (setAdd S (.ref (ad i))) >>= _) _ _ s';refine za (jf ?_)
  unfold setAdd;refine jf (za (wpAny_pyHash_tuple hu (Oe i xa) ?_));refine nS (knd:=SK prog w) (s:={ s' with toks:=s'.toks+((key i).length+1) }) (L:=L) hu Az (Oe i xa) ∅ λadded h' L' sb ST pe=>?_
  have Mz:L'.length<=i+1:=by
   rw[pe.length_eq];split
   .omega
   .erw[zG];omega
  have MA:∀x,x∈L'.map (·.1)↔∃j,j<i+1/\key j=x:=λx=>by
   rw[(pe.map (·.1)).mem_iff];have st:(∃j,j<i+1/\key j=x)↔(∃j,j<i/\key j=x)\/key i=x:=by
    constructor
    .rintro⟨j,j1,j2⟩
     rcases jT (ym j1) with z | z
     .exact .inl ⟨j,z,j2⟩
     .subst z;exact .inr j2
    .rintro(⟨j,j1,j2⟩ | z)
     .exact⟨j,by omega,j2⟩
     .exact⟨i,by omega,z⟩
   rw[st,<-IC x];split
   .rename_i c
    constructor
    .exact .inl
    .rintro(z | z)
     .exact z
     .rw[<-z];exact c
   .rw[zx,zj]
    constructor
    .rintro(z | z)
     .exact .inr z.symm
     .exact .inl z
    .rintro(z | z)
     .exact .inr z
     .exact .inl z.symm
  have Of:∀p∈L',∃j,j<i+1/\p=(key j,ad j):=λp mp=>by
   have:=pe.mem_iff.mp mp;split at this
   .obtain⟨j,j1,j2⟩:=LC p this
    exact⟨j,by omega,j2⟩
   .rcases zj.mp this with z | z
    .exact⟨i,by omega,z⟩
    .obtain⟨j,j1,j2⟩:=LC p z
     exact⟨j,by omega,j2⟩
  have oS:=Az;obtain⟨oS,_,_,_,_,oS1,_⟩:=oS;refine zf ⟨vh jE _,ih (i+1) _ L' ∅ xa (W.frame _ s' _ _ A6 (xZ _ _) λb hb o e=>?_) ST Mz MA Of (λj hj=>?_) λIr L2 Ll ED z1 z2 z3=>?_⟩
  .rw[sb.2 b (λh:b=S=>EV (by rw[<-h];exact hb))];exact e
  .obtain⟨ob,its,m,e1,e2,e3,e4⟩:=Oe j hj
   exact⟨ob,its,m,(sb.2 _ (hw j hj).2).trans e1,e2,e3,e4⟩
  .refine hR Ir L2 (Moved.trans W.gtrans ((hm.mono up).then_heap (xZ _ _) λb o hb e=>?_) Ll) ED z1 z2 z3
   rw[sb.2 b (λh:b=S=>hb (by rw[h];exact zz))];exact e
end
section
variable{prog:Ï}{w:Ñ}{A:Ø}{E:Ã->Å->Prop}{s:Å}
def Z1(h:Q (.ref s.heap.objs.size) { s with heap:=s.heap.push { cls:=.type "set",dict:=Á,data:=.set #[] 0 (.fresh 0 0 (!w.params.followText "set-order")) } }):Æ (Í prog w) A (newSet (.type "set")) Q E s:=by
 unfold newSet;refine za (yy ?_);exact kE h
def WS(a:Ã)(h:Q₁ (.ref s.heap.objs.size) { s with heap:=s.heap.push { cls:=.type "set",dict:=Á,data:=.set #[] 0 (.fresh 0 0 (!w.params.followText "set-order")) } }) :
  Ĺ (Í prog w) A (.call (.builtin "set.__new__") ⟨[.type "set",a],[]⟩) (wants Q₁ E) s:=by
 refine u5 ?_;show Æ _ A.in1 (checkBuiltinCall "set.__new__" ⟨[.type "set",a],[]⟩ >>= λ_=>again (.builtin "set.__new__" ⟨[.type "set",a],[]⟩)) _ _ s
 refine za (yc (F.newCall_set_1 a) ?_);refine zf ⟨vh F.plain_set_new _,jO F.entry_set_new ?_⟩;rw[jF F.plain_set_new _];unfold ç.«set.__new__» Builtin.Frozenset.newClass;have sub:=sub_set_self;obtain⟨hp,g,d,tk,os⟩:=s;dsimp only;wp_walk;refine yR (zf ?_);dsimp only;exact kE (zf h)
set_option maxHeartbeats 3200000 in
def rp{us:List Ã}{Lk:List (List È×Ç)}(hT:T="list" \/ T="tuple")(hl:∃o n,s.heap.get? l=À o/\o.cls=.type T/\o.data=.seq us.toArray n)(MU:us=Lk.map λp=>Ë p.2)(hk:∀p∈Lk,Ò (SK prog w) s.heap p.1 p.2)(hh:A.handled=Á)(hb:Lk.length<890)(hu:A.units+10<û)
  (k:∀(L:List (List È×Ç)) (h':Õ) (tk:Nat),SetT (SK prog w) h' s.heap.objs.size L->L.length<=Lk.length->(∀x,x∈L.map (·.1)↔x∈Lk.map (·.1))->(∀p∈L,p∈Lk)->(∀b o,s.heap.get? b=À o->h'.get? b=À o)->Q (.ref s.heap.objs.size) { s with heap:=h',toks:=tk }):Æ (Í prog w) A (ķ (.type "set") [.ref l]) Q E s:=by
 obtain⟨c,tl,NY⟩:=j5.mro;have f1:=j5.made;have f2:=j5.sub;refine wpAny_call (u5 ?_);show Æ _ _ (callAny (.type "set") _) _ _ _
 refine zf ⟨Code.quiet_builtin _ ⋯,jO F.entry_type_call ?_⟩;rw[Around.under_plain (Ů "set" [.ref l] []) rfl];have f3:=j5.notType;have f4:=j5.canCreate;have f5:=F.typeCall_set_1 (.ref l);repeat (any_goals (first | assumption | wp_step))
 refine wI (WS (.ref l) (E:=E) (Q₁:=λobj d5=>obj=.ref s.heap.objs.size/\d5={ s with heap:=s.heap.push { cls:=.type "set",dict:=Á,data:=.set #[] 0 (.fresh 0 0 (!w.params.followText "set-order")) } }) ⟨rfl,rfl⟩) λr d5 hr=>?_
 cases r with
 | error e=>exact hr
 | ok fl=>
  cases fl with
  | ret obj=>
   obtain⟨rfl,rfl⟩:=hr;generalize A7:s.heap.push { cls:=.type "set",dict:=Á,data:=.set #[] 0 (.fresh 0 0 (!w.params.followText "set-order")) }=h1;have old:∀b o,s.heap.get? b=À o->h1.get? b=À o:=λb o e=>by rw[<-A7];exact zc _ e
   have sz:h1.objs.size=s.heap.objs.size+1:=by rw[<-A7,jP]
   have hS:h1.get? s.heap.objs.size=À { cls:=.type "set",dict:=Á,data:=.set #[] 0 (.fresh 0 0 (!w.params.followText "set-order")) }:=by rw[<-A7];exact zE _ rfl
   have Ml:Shared.TypeIs { s with heap:=h1 } (.ref s.heap.objs.size) "set":=⟨_,hS,rfl⟩;have g1:=j5.init.lookup;have g2:=j5.init.bind (.ref s.heap.objs.size);repeat (any_goals (first | assumption | wp_step))
   refine wI (Ŷ (R:=wants (λr mN=>r=.none/\∃L h' tk,mN={ s with heap:=h',toks:=tk }/\SetT (SK prog w) h' s.heap.objs.size L/\L.length<=Lk.length/\(∀x,x∈L.map (·.1)↔x∈Lk.map (·.1))/\(∀p∈L,p∈Lk)/\(∀b o,s.heap.get? b=À o->h'.get? b=À o)) E) j5.init.plain F.entry_set_init (check_set_init_1 Ml ?_)) λLm mN AA=>?_
   .obtain⟨⟨oc,od,O5,Es⟩,nl,Mn,Ew,Mo⟩:=hl
    simp only at Ew Mo;subst Ew Mo;have EW:=old _ _ Mn;have Mp:l<s.heap.objs.size:=zJ Mn;have Mq:A.in1.in1.in1.handled=Á:=by simp[hh]
    have EX:l≠h1.objs.size:=zM (by rw[sz];exact jD Mp);have EV:s.heap.objs.size∉[h1.objs.size,l]:=by
     erw[zj,zy,kY,ye];exact⟨zM (by rw[sz];exact jY _),vQ Mp⟩
    have FK:us.toArray.size=Lk.length:=by rw[MU];simp
    have ID:∀j,j<us.toArray.size->(Lk.getD j ([],0)).2<s.heap.objs.size/\Lk.getD j ([],0)∈Lk:=λj hj=>by
     rw[FK] at hj;have m:Lk.getD j ([],0)∈Lk:=by simp[Ĕ,hj]
     obtain⟨o,its,mm,e1,_⟩:=hk _ m;exact⟨zJ e1,m⟩
    have hw:∀j,j<us.toArray.size->(Lk.getD j ([],0)).2∉[h1.objs.size]/\(Lk.getD j ([],0)).2≠s.heap.objs.size:=λj hj=>by
     have:=(ID j hj).1;refine⟨?_,zM this⟩;erw[zj,zy,kY];exact zM (by rw[sz];exact jD this)
    have A3:∀(o:ø) j,j<us.toArray.size->Ò (SK prog w) (h1.push o) (Lk.getD j ([],0)).1 (Lk.getD j ([],0)).2:=λo j hj=>by
     obtain⟨ob,its,mm,e1,e2,e3,e4⟩:=hk _ (ID j hj).2;exact⟨ob,its,mm,zc _ (old _ _ e1),e2,e3,e4⟩
    have Em:∀(i:Nat) (v:Ã),us.toArray[i]?=À v->v=Ë (Lk.getD i ([],0)).2:=λi v e=>by
     rw[MU,List.getElem?_toArray,zZ] at e;obtain⟨p,p1,p2⟩:=zg.mp e;simp[Ĕ,p1,<-p2]
    have Pj:A.in1.in1.in1.units<û:=by simp;omega
    have S0:∀o,SetT (SK prog w) (h1.push o) s.heap.objs.size []:=λo=>SetT.fresh _ rfl (zc _ hS)
    have keys:∀x,(∃j,j<us.toArray.size/\(Lk.getD j ([],0)).1=x)↔x∈Lk.map (·.1):=λx=>by
     constructor
     .rintro⟨j,j1,j2⟩
      exact zK.mpr ⟨_,(ID j j1).2,j2⟩
     .intro m
      obtain⟨p,p1,p2⟩:=zK.mp m;obtain⟨j,j1,j2⟩:=qZ p1;exact⟨j,by rw[FK];exact j1,by simp[Ĕ,j1,j2,p2]⟩
    have fin:∀{o:ø} (s':Å) (L':List (List È×Ç)),Moved [s.heap.objs.size,h1.objs.size] (λa b=>b=a) { s with heap:=h1.push o } s'->SetT (SK prog w) s'.heap s.heap.objs.size L'->L'.length<=us.toArray.size->(∀x,x∈L'.map (·.1)↔∃j,j<us.toArray.size/\(Lk.getD j ([],0)).1=x)->(∀p∈L',∃j,j<us.toArray.size/\p=((Lk.getD j ([],0)).1,(Lk.getD j ([],0)).2))->
      ∃L h' tk,s'={ s with heap:=h',toks:=tk }/\SetT (SK prog w) h' s.heap.objs.size L/\L.length<=Lk.length/\(∀x,x∈L.map (·.1)↔x∈Lk.map (·.1))/\(∀p∈L,p∈Lk)/\(∀b o,s.heap.get? b=À o->h'.get? b=À o):=by
     intro o s' L' hm ST ln me pa;obtain⟨h',g',d',As,EH⟩:=s';obtain rfl:g'=s.gens:=hm.gens;obtain rfl:d'=s.drawn:=hm.drawn;obtain rfl:EH=s.os:=hm.os;refine⟨L',h',As,rfl,ST,by rw[<-FK];exact ln,λx=>(me x).trans (keys x),λp mp=>?_,λb o e=>?_⟩
     .obtain⟨j,j1,j2⟩:=pa p mp
      rw[j2];exact(ID j j1).2
     .have hb:=zJ e
      exact hm.heap b o (by erw[zj,zy,kY,ye];exact⟨zM hb,zM (by rw[sz];exact jD hb)⟩) (zc _ (old _ _ e))
    rcases hT with rfl | rfl
    .have a1:=F.sub_list_set;have a2:=F.sub_list_frozenset
     have a3:(ú "list" == ú "dict")=Ä:=by decide
     have A8:h1.IsList l us.toArray:=⟨_,EW,rfl,nl,rfl⟩;unfold ç.«set.__init__» noKeywords ó;generalize hPI:ĥ=PI;wp_walk
     subst hPI;refine vH A8 (za (wF ?_));refine oG ((pU Mq _ l EX us.toArray).toS) s.heap.objs.size EV (λj=>(Lk.getD j ([],0)).1) (λj=>(Lk.getD j ([],0)).2) Em Pj (by rw[FK];exact hb) hw (us.toArray.size-0) 0 _ [] ∅ (jQ _) ⟨⟨_,zE _ rfl,rfl,rfl⟩,A8.push _⟩ (S0 _) (zr _) (λx=>⟨λm=>(by cases m),λ⟨j,j1,_⟩=>absurd j1 (Nat.not_lt_zero _)⟩) (λp mp=>(by cases mp)) (A3 _) λs' L' hm ST ln me pa=>?_
     show Æ _ _ _ _ _ _
     refine zf ?_;show Æ _ _ (ret Ö) _ _ _
     exact zf ⟨rfl,fin s' L' hm ST ln me pa⟩
    .have a1:=sub_tuple_set;have a2:=sub_tuple_frozenset
     have a3:(ú "tuple" == ú "dict")=Ä:=by decide
     have A8:h1.IsTuple l us.toArray:=⟨_,EW,rfl,nl,rfl⟩;unfold ç.«set.__init__» noKeywords ó;generalize hPI:ĥ=PI;wp_walk
     subst hPI;refine wj A8 (za (wF ?_));refine oG ((Walks.tuple Mq _ l EX us.toArray).toS) s.heap.objs.size EV (λj=>(Lk.getD j ([],0)).1) (λj=>(Lk.getD j ([],0)).2) Em Pj (by rw[FK];exact hb) hw (us.toArray.size-0) 0 _ [] ∅ (jQ _) ⟨⟨_,zE _ rfl,rfl,rfl⟩,A8.at λo e=>zc _ e⟩ (S0 _) (zr _) (λx=>⟨λm=>(by cases m),λ⟨j,j1,_⟩=>absurd j1 (Nat.not_lt_zero _)⟩) (λp mp=>(by cases mp)) (A3 _) λs' L' hm ST ln me pa=>?_
     show Æ _ _ _ _ _ _
     refine zf ?_;show Æ _ _ (ret Ö) _ _ _
     exact zf ⟨rfl,fin s' L' hm ST ln me pa⟩
   .cases Lm with
    | error e=>exact AA
    | ok fl₂=>
     cases fl₂ with
     | ret r=>
      obtain⟨rfl,L,h',tk,rfl,Az,z1,z2,z3,z4⟩:=AA;repeat (any_goals (first | assumption | wp_step))
      exact k L h' tk Az z1 z2 z3 z4
     | _=>exact AA.elim
  | _=>exact hr.elim
end
def SOk.congr{t t':Ô}{es:List (Int×Ã)}{R:List (Nat×(Int×Ã))}(S:SOk t es R)(m:t'.mask=t.mask)(p:t'.place=t.place)(d:t'.dummies=t.dummies):SOk t' es R:=
 ⟨⟨d.trans S.T.nod,by rw[p];exact S.T.up,by rw[p,m];exact S.T.le,by rw[m];exact S.T.pow,by rw[p,m];exact S.T.room⟩,by rw[p];exact S.pl,S.es,λr hr=>(S.on r hr).mono m.symm λj hj=>by rw[p];exact hj,by rw[p,m];exact S.few⟩
section
variable{prog:Ï}{w:Ñ}{A:Ø}{E:Ã->Å->Prop}{s:Å}
def SetT.tab{h:Õ}{L:List (List È×Ç)}(S:SetT (SK prog w) h a L):∃o es ep t R,h.get? a=À o/\o.ExactSet/\o.data=.set es ep t/\t.mask<=8191/\t.led=(!w.params.followText "set-order")/\SOk t es.toList R/\es.toList=L.map (λp=>(Ì (SK prog w) p.1,Ë p.2))/\es.size=L.length/\t.place.size=L.length:=by
 obtain⟨o,es,ep,t,R,h1,h2,h3,h4,h5,h6,h7,_⟩:=S;have Af:es.size=L.length:=by have:=jl Ú h7;simpa using this
 refine⟨o,es,ep,t,R,h1,h2,h3,h4,h5,h6,h7,Af,?_⟩;have a1:=jl Ú h6.pl;have a2:=jl Ú h6.es;erw[zH,zV] at a1 a2;omega
def su{L:List (List È×Ç)}{more:Nat}(hS:SetT (SK prog w) s.heap a L)(hb:L.length+more<=900)
  (k:∀h' L',Ü a s.heap h'->SetT (SK prog w) h' a L'->L'.Perm L->(∃o es ep t,h'.get? a=À o/\o.data=.set es ep t/\(L.length+more)*5<t.mask*3)->Q () { s with heap:=h' }):Æ (Í prog w) A (setRoomFor a more) Q E s:=by
 have IT:=hS;obtain⟨o,es,ep,t,R,h1,h2,h3,h4,h5,h6,h7,Af,AM⟩:=hS.tab;obtain⟨_,_,_,_,_,_,_,_,_,_,_,_,nd,hT⟩:=IT;have Lo:s={ s with heap:=s.heap }:=by cases s;rfl
 unfold setRoomFor;refine za (jk h1 h3 h6.fits ?_);dsimp only;have fl:t.fill=L.length:=by unfold ħ;rw[h6.T.nod,AM];rfl
 by_cases c:(t.fill+more)*5>=t.mask*3
 .have e:t.roomFor more=À ((t.place.size+more)*2):=by unfold SetTable.roomFor;rw[zQ c]
  rw[e];dsimp only;obtain⟨kk,a1,b1⟩:=h6.T.pow;have:2 ^ 3<=2 ^ kk:=qd ∅ a1;refine oO (knd:=SK prog w) (L:=L) h1 h2 h3 h6.fits h5 h7 nd hT ∅ ∅ ∅ λh' L' sb ST pe mk=>?_
  obtain⟨o',es',IW,t',m1,m2,m3⟩:=mk;exact k h' L' sb ST pe ⟨o',es',IW,t',m1,m2,by omega⟩
 .have e:t.roomFor more=Á:=by unfold SetTable.roomFor;rw[zW c]
  rw[e];dsimp only;rw[Lo];exact zf (k s.heap L (vM _ _) hS (qR _) ⟨o,es,ep,t,h1,h3,by omega⟩)
def si{L:List (List È×Ç)}(ne:r≠S)(hr:SetT (SK prog w) s.heap r [])(hS:SetT (SK prog w) s.heap S L)(hb:L.length<=800)
  (k:∀h' L',Ü r s.heap h'->SetT (SK prog w) h' r L'->L'.Perm L->Q () { s with heap:=h' }):Æ (Í prog w) A (setMerge r S each) Q E s:=by
 obtain⟨o,es,ep,t,R,h1,h2,h3,h4,h5,h6,h7,Af,AM⟩:=hS.tab;have IT:=hS;obtain⟨_,_,_,_,_,_,_,_,_,_,_,_,nd,hT⟩:=IT;have Lo:s={ s with heap:=s.heap }:=by cases s;rfl
 unfold setMerge;rw[zW (by simpa using ne)];refine za (jk h1 h3 h6.fits ?_);dsimp only;by_cases em:es.isEmpty=Â
 .rw[zQ em]
  have:L=[]:=vY.mp (by rw[<-Af];simpa using em);subst this;rw[Lo];exact zf (k s.heap [] (vM _ _) hr (qR _))
 .rw[zW em]
  have pos:0<es.size:=by
   rcases Nat.eq_zero_or_pos es.size with z | z
   .exact absurd (by simpa using z) em
   .exact z
  refine za (su hr (by simp;omega) λh' L0 sb ST pe rm=>?_);have:L0=[]:=pe.eq_nil;subst this;obtain⟨o1,EA,Pk,t1,g1,g2,g3⟩:=rm;obtain⟨o2,Na,Og,t2,R2,f1,f2,f3,f4,f5,f6,f7,FM,Ef⟩:=ST.tab;have:o1=o2:=zX (g1.symm.trans f1);subst this;rw[f3] at g2;cases g2;have Az:h'.get? S=À o:=(sb.2 S (jq ne)).trans h1;refine za (jk f1 f3 f6.fits ?_);dsimp only;have fl:t1.fill=0:=by unfold ħ;rw[f6.T.nod,Ef];rfl
  obtain⟨o0,es0,ep0,t0,_,q1,_,q3,_⟩:=hr.tab;have Bz:∀p∈L,Ò (SK prog w) h' p.1 p.2:=λp hp=>aT (hT p hp) q1 q3 sb
  have bb:(t1.led&&t.led) = !w.params.followText "set-order":=by rw[f5,h5,Bool.and_self]
  by_cases c:(t1.mask==t.mask&&t.dummies.isEmpty)=Â
  .have rd:t1.road t=.slotForSlot:=by unfold SetTable.road;rw[zW (by simp[fl]),zQ c]
   rw[rd];dsimp only;have S':SOk { t with finger:=t1.finger,led:=t1.led&&t.led,moves:=t1.moves,plain:=t1.plain&&t.plain } es.toList R:=h6.congr rfl rfl rfl;obtain⟨_,Oh⟩:=de (knd:=SK prog w) f1 f2 f3 (t':={ t with finger:=t1.finger,led:=t1.led&&t.led,moves:=t1.moves,plain:=t1.plain&&t.plain }) (es':=es) (L':=L) h4 bb S' h7 nd Bz;exact wpAny_storeSet_of f1 f3 (k _ L (sb.trans (Heap.SameBut.update _ _ _)) Oh (List.Perm.refl _)) (by rw[Af,sizeLine_eq];omega)
  .have rd:t1.road t=.clean:=by unfold SetTable.road;rw[zW (by simp[fl]),zW c]
   rw[rd];dsimp only;obtain⟨kk,a1,b1⟩:=f6.T.pow;obtain⟨t',order,e1,e2,e3,e4,e5,e6,Pl,R',S'⟩:=KL (mask:=t1.mask) (k:=kk) b1 a1 es (by simpa using g3) t1.finger t1.moves (t1.led&&t.led) (t1.plain&&t.plain);rw[e1];have hz:(order.filterMap (es[·]?)).size=es.size:=by rw[<-zV,Pl.length_eq,zV]
   refine za (rP (v:=(order.filterMap (es[·]?),t')) (zW (by rw[hz];simp)) ?_);dsimp only;obtain⟨L',p1,p2⟩:=xk (f:=λp:List È×Ç=>(Ì (SK prog w) p.1,Ë p.2)) Pl.symm h7;obtain⟨_,Oh⟩:=de (knd:=SK prog w) f1 f2 f3 (t':=t') (es':=order.filterMap (es[·]?)) (L':=L') (by rw[e2];exact f4) (by rw[e3];exact bb) S' p2.symm ((p1.map (·.1)).nodup_iff.mpr nd) (λp hp=>Bz p (p1.mem_iff.mp hp));exact ux f1 f3 (k _ L' (sb.trans (qx _ _ _)) Oh p1) (by rw[hz,Af,jB];omega)
def lM{o:ø}{es:Array (Int×Ã)}{t:Ô}{R:List (Nat×(Int×Ã))}(ho:s.heap.get? S=À o)(hd:o.data=.set es ep t)(S0:SOk t es.toList R)(Ad:t.led = !w.params.followText "set-order")
  (k:∀es' d,es'.toList.Perm es.toList->Q es' { s with drawn:=d }):Æ (Í prog w) A (setWalk S) Q E s:=by
 unfold setWalk;refine za (jk ho hd S0.fits ?_);dsimp only;refine za (yy ?_);by_cases bt:w.params.followText "set-order" = Â
 .rw[zQ bt]
  exact za (yR (zf (k _ s.drawn (gO _ es))))
 .rw[zW bt]
  have bt:w.params.followText "set-order" = Ä:=by simpa using bt
  by_cases dr:(!t.plain&&decide (es.size>1))=Â
  .refine ik (show(!t.plain&&decide (es.size>1))=Â from dr) ?_
   exact za (nP es.size es.toList s (by simp) λys d pe=>zf (k _ d (by simpa using pe)))
  .have dr:(!t.plain&&decide (es.size>1))=Ä:=by simpa using dr
   refine bP (show(!t.plain&&decide (es.size>1))=Ä from dr) ?_;refine za (rP (v:=()) (zW (by rw[Ad,bt];simp)) ?_);exact zf (k es s.drawn (qR _))
def QK{l:List (Int×Ã)}{o:ø}{es:Array (Int×Ã)}{R:List (Nat×(Int×Ã))}(others:List Ç)(ho:s.heap.get? S=À o)(hd:o.data=.set es ep t)(S0:SOk t es.toList R){L:List (List È×Ç)}(h7:es.toList=L.map (λp=>(Ì (SK prog w) p.1,Ë p.2)))(hT:∀p∈L,Ò (SK prog w) s.heap p.1 p.2)(ne:L≠[])
  (q:Q Ä s):Æ (Í prog w) A (setsQuiet (S::others)) Q E s:=by
 cases L with
 | nil=>exact absurd rfl ne
 | cons p L=>
  unfold setsQuiet;refine za ?_;rw[vZ];refine za (za (wZ ho hd S0.fits ?_));refine za ?_;rw[<-wU,h7,zx,vZ];dsimp only;refine ê (ê (ū (hT p (List.mem_cons_self ..)).typeIs F.slot_tuple_eq.lookup ?_));rw[if_pos (by decide)];exact zf (zf (zf (zf (zf q))))
def i5{o:ø}{es:Array (Int×Ã)}{t:Ô}{R:List (Nat×(Int×Ã))}(ho:s.heap.get? S=À o)(hd:o.data=.set es ep t)(S0:SOk t es.toList R)(Ad:t.led = !w.params.followText "set-order"){L:List (List È×Ç)}(h7:es.toList=L.map (λp=>(Ì (SK prog w) p.1,Ë p.2)))(hT:∀p∈L,Ò (SK prog w) s.heap p.1 p.2)(ne:L≠[])
  (k:∀es' d,es'.toList.Perm es.toList->Q es' { s with drawn:=d }):Æ (Í prog w) A (Ŝ S others filled) Q E s:=by
 unfold Ŝ;refine za (jk ho hd S0.fits ?_);dsimp only;refine za (yy ?_);split
 .exact lM ho hd S0 Ad k
 .refine za (QK (l:=[]) others ho hd S0 h7 hT ne ?_)
  rw[zQ (by decide)];exact lM ho hd S0 Ad k
def VL{L0 L:List (List È×Ç)}(hu:A.units<û)(ne:r≠S)(hr:SetT (SK prog w) s.heap r L0)(n0:L0≠[])(hS:SetT (SK prog w) s.heap S L)(hb:L0.length+L.length<=800)
  (Eg:∀(s':Å) (Q':Unit->Å->Prop),(∀o,s.heap.get? S=À o->s'.heap.get? S=À o)->Q' () s'->Æ (Í prog w) A each Q' E s')
  (k:∀h' L' d,Ü r s.heap h'->SetT (SK prog w) h' r L'->L'.length<=L0.length+L.length->(∀x,x∈L'.map (·.1)↔x∈L0.map (·.1)\/x∈L.map (·.1))->(∀p∈L',p∈L0\/p∈L)->Q () { s with heap:=h',drawn:=d }):Æ (Í prog w) A (setMerge r S each) Q E s:=by
 obtain⟨o,es,ep,t,R,h1,h2,h3,h4,h5,h6,h7,Af,AM⟩:=hS.tab;have IT:=hS;obtain⟨_,_,_,_,_,_,_,_,_,_,_,_,nd,hT⟩:=IT;have Lo:s={ s with heap:=s.heap,drawn:=s.drawn }:=by cases s;rfl
 unfold setMerge;rw[zW (by simpa using ne)];refine za (jk h1 h3 h6.fits ?_);dsimp only;by_cases em:es.isEmpty=Â
 .rw[zQ em]
  have:L=[]:=vY.mp (by rw[<-Af];simpa using em);subst this;rw[Lo];exact zf (k s.heap L0 s.drawn (vM _ _) hr (by simp) (λx=>by simp) λp hp=>.inl hp)
 .rw[zW em]
  have nL:L≠[]:=λz=>by subst z;simp at Af;exact em (by simpa using Af)
  refine za (su hr ∅ λh' L1 sb ST pe rm=>?_);obtain⟨o2,Na,Og,t2,R2,f1,f2,f3,f4,f5,f6,f7,FM,Ef⟩:=ST.tab;have Az:h'.get? S=À o:=(sb.2 S (jq ne)).trans h1;refine za (jk f1 f3 f6.fits ?_);dsimp only;have l1:0<L1.length:=by rw[pe.length_eq];exact List.length_pos_iff.mpr n0
  have rd:t2.road t=.oneByOne:=by
   have nz:t2.place.size≠0:=by omega
   unfold SetTable.road ħ;rw[f6.T.nod,zQ (by simpa using nz)]
  rw[rd];dsimp only;obtain⟨oq,_,_,_,_,q1,_,q3,_⟩:=hr.tab;have Bz:∀p∈L,Ò (SK prog w) h' p.1 p.2:=λp hp=>aT (hT p hp) q1 q3 sb
  refine za (i5 (s:={ s with heap:=h' }) Az h3 h6 h5 h7 Bz nL λes' d pw=>?_);obtain⟨L2,p1,p2⟩:=xk (f:=λp:List È×Ç=>(Ì (SK prog w) p.1,Ë p.2)) pw.symm h7;rw[<-wU,<-p2];refine za ?_;refine v9 _ (λrest _ s'=>∃done left h2 L',L2=done++left/\rest=left.map (λp:List È×Ç=>(Ì (SK prog w) p.1,Ë p.2))/\s'={ s with heap:=h2,drawn:=d }/\Ü r s.heap h2/\SetT (SK prog w) h2 r L'/\L'.length<=L0.length+done.length/\(∀x,x∈L'.map (·.1)↔x∈L0.map (·.1)\/x∈done.map (·.1))/\∀p∈L',p∈L0\/p∈L) _ ?_ ?_ _ _ ⟨[],L2,h',L1,rfl,rfl,rfl,sb,ST,by rw[pe.length_eq];simp,λx=>by rw[(pe.map (·.1)).mem_iff];simp,λp hp=>.inl (pe.mem_iff.mp hp)⟩
  .rintro x rest b s' ⟨done,left,Ay,L',e1,e2,rfl,Eh,ED,ln,me,pa⟩
   cases left with
   | nil=>cases e2
   | cons q left=>
    cases e2;have mq:q∈L:=p1.mem_iff.mp (by rw[e1];exact kh _ (zz ..));have Oi:done.length+left.length+1=L.length:=by
     have:=jl Ú e1;rw[p1.length_eq,zR,zG] at this;omega
    have kq:Ò (SK prog w) Ay q.1 q.2:=aT (hT q mq) q1 q3 Eh;have NW:Ay.get? S=À o:=(Eh.2 S (jq ne)).trans h1;dsimp only;refine za (jf (nS (knd:=SK prog w) (s:={ s with heap:=Ay,drawn:=d }) (L:=L') hu ED kq ∅ λadded EE L3 IA Oj Lq=>?_));have Po:EE.get? S=À o:=(IA.2 S (jq ne)).trans NW;refine za (Eg { s with heap:=EE,drawn:=d } _ (λo' e=>?_) ?_)
    .rw[h1] at e;cases e;exact Po
    refine za (jk (s:={ s with heap:=EE,drawn:=d }) Po h3 h6.fits ?_);rw[zW (by simp)];refine zf ⟨done++[q],left,EE,L3,by rw[e1];simp,rfl,rfl,Eh.trans IA,Oj,?_,λx=>?_,λp hp=>?_⟩
    .rw[Lq.length_eq,zR,qt]
     split
     .omega
     .rw[zG];omega
    .rw[(Lq.map (·.1)).mem_iff,qp,zF]
     have mx:=me x;split
     .rename_i c
      rw[mx];constructor
      .rintro(z | z)
       .exact .inl z
       .exact .inr (.inl z)
      .rintro(z | z | z)
       .exact .inl z
       .exact .inr z
       .have:x=q.1:=by simpa using z
        subst this;exact(me _).mp c
     .rw[zx,zj,mx]
      constructor
      .rintro(z | z | z)
       .exact .inr (.inr (by simp[z]))
       .exact .inl z
       .exact .inr (.inl z)
      .rintro(z | z | z)
       .exact .inr (.inl z)
       .exact .inr (.inr z)
       .exact .inl (by simpa using z)
    .have:=Lq.mem_iff.mp hp
     split at this
     .exact pa p this
     .rcases zj.mp this with z | z
      .exact .inr (z▸mq)
      .exact pa p z
  .rintro b s' ⟨done,left,Ay,L',e1,e2,rfl,Eh,ED,ln,me,pa⟩
   have:left=[]:=by cases left with | nil=>rfl | cons _ _=>cases e2
   subst this;rw[v6] at e1;subst e1;refine zf (k Ay L' d Eh ED (by rw[<-p1.length_eq];exact ln) (λx=>?_) pa);rw[me x,(p1.map (·.1)).mem_iff]
end
section
variable{prog:Ï}{w:Ñ}{A:Ø}{E:Ã->Å->Prop}{s:Å}
def BD:Ÿ table "set.__or__" = À ç.«frozenset.__or__»:=xU (id':="frozenset.__or__") aaa rfl ⋯ aaa
def YT:Ÿ table "set.__and__" = À ç.«frozenset.__and__»:=xU (id':="frozenset.__and__") aaa rfl ⋯ aaa
def dA(hT:s.TypeIs (.ref a) "set")(h:Q Â s):Æ (Í prog w) A (ĉ (.ref a)) Q E s:=by
 unfold ĉ;refine za (qT (b:=Â) hT (by rw[vW];kernel_rfl) ?_);exact zf h
def Zw(hT:s.TypeIs (.ref a) "set")(h:Q (.type "set") s):Æ (Í prog w) A (Ĩ a) Q E s:=by
 unfold Ĩ;refine za (qT (b:=Â) hT (by rw[vW];kernel_rfl) ?_);exact zf h
def Bi{L1 L2:List (List È×Ç)}(hu:A.units+10<û)(h1:SetT (SK prog w) s.heap S1 L1)(h2:SetT (SK prog w) s.heap S2 L2)(ne:S1≠S2)(hb:L1.length+L2.length<=800)
  (k:∀S h' L' d,s.heap.objs.size<=S->SetT (SK prog w) h' S L'->L'.length<=L1.length+L2.length->(∀x,x∈L'.map (·.1)↔x∈L1.map (·.1)\/x∈L2.map (·.1))->(∀p∈L',p∈L1\/p∈L2)->(∀b o,s.heap.get? b=À o->h'.get? b=À o)->Q (.ref S) { s with heap:=h',drawn:=d }) :
  Æ (Í prog w) A (ä .BitOr (.ref S1) (.ref S2)) Q E s:=by
 have T1:s.TypeIs (.ref S1) "set":=by obtain⟨o,_,_,_,_,a,b,_⟩:=h1.tab;exact⟨o,a,b.1⟩
 have T2:s.TypeIs (.ref S2) "set":=by obtain⟨o,_,_,_,_,a,b,_⟩:=h2.tab;exact⟨o,a,b.1⟩
 refine wpAny_binaryOp_same T1 T2 F.fills_set_or F.slot_set_or (jh F.slot_set_or T1 BD ?_ (F.args_set_or_2 _ _));show Æ _ _ (Ė "__or__" ⟨[.ref S1,.ref S2],[]⟩ >>= _) _ _ _
 refine za (show Æ _ _ (Ė "__or__" ⟨[.ref S1,.ref S2],[]⟩) _ _ _ from za (zf (zf ?_)));erw[zP,jy];refine za (show Æ _ _ (ĉ (.ref S1) >>= _) _ _ _ from za (dA T1 ?_));refine dA T2 ?_;rw[zW (by decide)];refine za (zf ?_);refine za ?_;show Æ _ _ (Builtin.Frozenset.copyOf S1 >>= _) _ _ _
 let h3:Õ:=s.heap.push { cls:=.type "set",dict:=Á,data:=.set #[] 0 (.fresh 0 0 (!w.params.followText "set-order")) }
 have kp:∀b o,s.heap.get? b=À o->h3.get? b=À o:=λb o e=>zc _ e
 have fr:SetT (SK prog w) h3 s.heap.objs.size []:=SetT.fresh _ rfl (zE _ rfl);have Nb:S1<s.heap.objs.size:=by obtain⟨o,_,_,_,_,a,_⟩:=h1.tab;exact zJ a
 have LD:S2<s.heap.objs.size:=by obtain⟨o,_,_,_,_,a,_⟩:=h2.tab;exact zJ a
 have s1:SetT (SK prog w) h3 S1 L1:=h1.kept (λo e=>kp _ o e) λp _ o e=>kp _ o e
 have s2:SetT (SK prog w) h3 S2 L2:=h2.kept (λo e=>kp _ o e) λp _ o e=>kp _ o e
 refine za (show Æ _ _ (Ĩ S1 >>= _) _ _ _ from za (Zw T1 (za (Z1 ?_))));refine za (zf ?_);refine za (si (s:={ s with heap:=h3 }) (zM Nb).symm fr s1 ∅ λh4 L4 Ol LF LG=>?_);refine zf ?_;have nq:((Ë S2 != Ë S1)=Â):=by simp[jq ne]
 rw[zQ nq];have Om:SetT (SK prog w) h4 S2 L2:=s2.kept (λo e=>(Ol.2 _ (zM LD)).trans e) λp hp o e=>by
  obtain⟨_,_,_,_,_,_,_,_,_,_,_,_,_,hT⟩:=h2;obtain⟨o',_,_,e1,_⟩:=hT p hp;exact(Ol.2 _ (zM (zJ e1))).trans e
 refine za (zf ?_);refine za (jf ?_);unfold ó;obtain⟨o2,Na,Og,t2,R2,g1,g2,g3,g4,g5,g6,g7,FM,Ef⟩:=Om.tab;refine za (dA (s:={ s with heap:=h4 }) ⟨o2,g1,g2.1⟩ ?_);rw[zQ rfl];refine za (zf ?_);unfold Builtin.Frozenset.merge;refine za (qN (s:={ s with heap:=h4 }) g1 g3 g6.fits ?_);have Oo:∀b o,s.heap.get? b=À o->h4.get? b=À o:=λb o e=>(Ol.2 _ (zM (zJ e))).trans (kp _ _ e)
 have fin:∀h5 L5 d,Ü s.heap.objs.size h4 h5->SetT (SK prog w) h5 s.heap.objs.size L5->L5.length<=L1.length+L2.length->(∀x,x∈L5.map (·.1)↔x∈L1.map (·.1)\/x∈L2.map (·.1))->(∀p∈L5,p∈L1\/p∈L2)->Q (.ref s.heap.objs.size) { s with heap:=h5,drawn:=d }:=λh5 L5 d IE IF ln me pa=>
  k _ h5 L5 d (zr _) IF ln me pa λb o e=>(IE.2 _ (zM (zJ e))).trans (Oo b o e)
 by_cases z:L1=[]
 .subst z
  have:L4=[]:=LG.eq_nil;subst this;refine si (s:={ s with heap:=h4 }) (zM LD).symm LF Om ∅ λh5 L5 IE IF Oq=>?_
  refine zf (zf ⟨_,rfl,λe=>(by cases e),?_⟩);have:=fin h5 L5 s.drawn IE IF (by rw[Oq.length_eq];simp) (λx=>by rw[(Oq.map (·.1)).mem_iff];simp) λp hp=>.inr (Oq.mem_iff.mp hp)
  exact this
 .have n4:L4≠[]:=λe=>z (by subst e;exact LG.symm.eq_nil)
  refine VL (s:={ s with heap:=h4 }) (by simp;omega) (zM LD).symm LF n4 Om (by rw[LG.length_eq];exact hb) (λs' Q' keep q=>?_) λh5 L5 d IE IF ln me pa=>?_
  .unfold Ġ
   refine za (qN (keep _ g1) g3 g6.fits ?_);rw[zW (by simp)];exact zf q
  .refine zf (zf ⟨_,rfl,λe=>(by cases e),?_⟩)
   exact fin h5 L5 d IE IF (by rw[LG.length_eq] at ln;exact ln) (λx=>by rw[me x,(LG.map (·.1)).mem_iff]) λp hp=>(pa p hp).imp (λm=>LG.mem_iff.mp m) id
end
section
variable{prog:Ï}{w:Ñ}{A:Ø}{E:Ã->Å->Prop}{s:Å}
theorem WB{L:List (List È×Ç)}(hu:A.units<û)(hS:SetT (SK prog w) s.heap a L)(hk:Ò (SK prog w) s.heap k x)
  (h:∀r:Option Nat,r.isSome=decide (k∈L.map (·.1))->Q r s):Æ (Í prog w) A (setFind a (.ref x) (Ì (SK prog w) k)) Q E s:=by
 obtain⟨o,es,ep,t,R,ho,hex,hd,hm,Ad,S,hL,nd,hT⟩:=hS;have Af:es.size=L.length:=by have:=jl Ú hL;simpa using this
 have AM:t.place.size=L.length:=by
  have a1:=jl Ú S.pl;have a2:=jl Ú S.es;erw[zH,zV] at a1 a2;omega
 obtain⟨N,n1,n2,n3⟩:=lj S.T (Ì (SK prog w) k);show Æ _ _ (setFindIn a (.ref x) (Ì (SK prog w) k) (99999+1)) _ _ _
 unfold setFindIn;refine za (jk ho hd S.fits ?_);dsimp only;rw[show byScan (.ref x) es=Ä from rfl];erw[zP,jy];refine za ?_;show Æ _ _ (Ļ a (.ref x) (Ì (SK prog w) k) Ä 100000 Á) _ _ _
 refine mV (knd:=SK prog w) (L:=L) (N:=N) (k:=k) hu ho hd S hL hT hk n2 n3 n1 (λi _ there=>?_) 100000 0 Á rfl (jQ _) (by unfold é at n1;omega) λno=>?_
 .erw[zP,jy]
  refine zf (h _ ?_);obtain⟨p,p1,p2⟩:=there;rw[kO (zK.mpr ⟨p,p1,p2⟩)];rfl
 .refine zf (h _ ?_)
  have absent:k∉L.map (·.1):=by
   intro hc;obtain⟨p,p1,p2⟩:=zK.mp hc;obtain⟨i,hi,e⟩:=qZ p1;have hr:i<R.length:=by have:=jl Ú S.pl;erw[zH,zV] at this;omega
   have Mu:i<t.place.size:=by omega
   have r1:R[i].1=t.place[i]:=by
    have:=jl (·[i]?) S.pl;simp[hr,Mu] at this;exact this
   have r2:R[i].2=(Ì (SK prog w) p.1,Ë p.2):=by
    have:=jl (·[i]?) (S.es.trans hL);simp[hr,hi,e] at this;rw[this]
   obtain⟨n,a1,a2⟩:=S.on R[i] (vf hr);rw[r2,r1] at a1;rw[r2] at a2;dsimp only at a1 a2;rw[p2] at a1 a2;have nN:n<N:=by
    rcases yK n N with z | z
    .exact z
    .rcases jT z with z | z
     .exact absurd (a2 N z) n2
     .subst z
      rw[a1] at n2;exact absurd (by simp) n2
   refine no n i p (jQ _) nN ?_ (by rw[zL hi,e]) p2;rw[a1];exact ig S.T Mu
  rw[jj absent];rfl
def m8(hS:SetT (SK prog w) s.heap S L)
  (k:∀(L':List (List È×Ç)) d es',L'.Perm L->es'.toList=L'.map (λp=>(Ì (SK prog w) p.1,Ë p.2))->Q es' { s with drawn:=d }):Æ (Í prog w) A (Ŝ S others filled) Q E s:=by
 obtain⟨o,es,ep,t,R,ho,hex,hd,hm,Ad,S0,h7,nd,hT⟩:=hS;have Af:es.size=L.length:=by have:=jl Ú h7;simpa using this
 have fin:∀(es':Array (Int×Ã)) d,es'.toList.Perm es.toList->Q es' { s with drawn:=d }:=λes' d pw=>by
  obtain⟨L2,p1,p2⟩:=xk (f:=λp:List È×Ç=>(Ì (SK prog w) p.1,Ë p.2)) pw.symm h7;exact k L2 d es' p1 p2.symm
 by_cases ne:L=[]
 .unfold Ŝ
  refine za (jk ho hd S0.fits ?_);dsimp only;refine ê (yy ?_);rw[if_pos (by subst ne;simp at Af;simp[Af])];exact lM ho hd S0 Ad fin
 .exact i5 ho hd S0 Ad h7 hT ne fin
def oI{r W K:Ç}{Lw Lk L0:List (List È×Ç)}{Q:PUnit->Å->Prop}{un:Sem Unit}{es':Array (Int×Ã)}(hu:A.units<û)(ne1:r≠W)(ne2:r≠K)(Pf:es'.toList=L0.map (λp=>(Ì (SK prog w) p.1,Ë p.2)))(p0:L0.Perm Lw)(hr:SetT (SK prog w) s.heap r [])(hW:SetT (SK prog w) s.heap W Lw)(hK:SetT (SK prog w) s.heap K Lk)(hb:Lw.length<=800)
  (Eg:∀(s':Å) (Q':Unit->Å->Prop),(∀o,s.heap.get? W=À o->s'.heap.get? W=À o)->Q' () s'->Æ (Í prog w) A un Q' E s')
  (k:∀h' L',Ü r s.heap h'->SetT (SK prog w) h' r L'->L'.length<=Lw.length->(∀x,x∈L'.map (·.1)↔x∈Lw.map (·.1)/\x∈Lk.map (·.1))->(∀p∈L',p∈Lw)->Q ŧ { s with heap:=h' }) :
  Æ (Í prog w) A (forIn es' ŧ λx _=>do
   Đ [x.2] (do
    let f <-setFind K x.2 x.1
    if f.isSome=Â then do
      let _ <-setAddHashed r x.2 x.1
      pure ŧ
     else pure ŧ)
   un
   pure (ċ ŧ)) Q E s:=by
 obtain⟨_,_,_,_,_,_,_,_,_,_,_,_,_,hT⟩:=hW;have S6:=hK;obtain⟨_,_,_,_,_,_,_,_,_,_,_,_,_,S7⟩:=S6;obtain⟨oq,_,_,_,_,q1,_,q3,_⟩:=hr.tab;rw[<-wU,Pf];refine v9 _ (λrest _ s'=>∃done left h2 L',L0=done++left/\rest=left.map (λp:List È×Ç=>(Ì (SK prog w) p.1,Ë p.2))/\s'={ s with heap:=h2 }/\Ü r s.heap h2/\SetT (SK prog w) h2 r L'/\L'.length<=done.length/\(∀x,x∈L'.map (·.1)↔x∈done.map (·.1)/\x∈Lk.map (·.1))/\∀p∈L',p∈Lw) _ ?_ ?_ _ _ ⟨[],L0,s.heap,[],rfl,rfl,(by cases s;rfl),vM _ _,hr,zr _,λx=>by simp,λp hp=>(by cases hp)⟩
 .rintro x rest b s' ⟨done,left,Ay,L',e1,e2,rfl,Eh,ED,ln,me,pa⟩
  cases left with
  | nil=>cases e2
  | cons q left=>
   cases e2;have mq:q∈Lw:=p0.mem_iff.mp (by rw[e1];exact kh _ (zz ..));have Oi:done.length+left.length+1=Lw.length:=by
    have:=jl Ú e1;rw[p0.length_eq,zR,zG] at this;omega
   have kq:Ò (SK prog w) Ay q.1 q.2:=aT (hT q mq) q1 q3 Eh;have S8:SetT (SK prog w) Ay K Lk:=hK.kept (λo e=>(Eh.2 _ (jq ne2)).trans e) λp hp o e=>by
    obtain⟨o',its,m,z1,z2,z3,z4⟩:=S7 p hp;have:p.2≠r:=λz=>by
     rw[z,q1] at z1;cases z1;rw[q3] at z3;cases z3
    exact(Eh.2 _ this).trans e
   dsimp only;refine za (jf (za (WB (s:={ s with heap:=Ay }) hu S8 kq λf hf=>?_)));have Pp:∀EE,Ü r Ay EE->∀o,s.heap.get? W=À o->EE.get? W=À o:=λEE IA o e=>(IA.2 _ (jq ne1)).trans ((Eh.2 _ (jq ne1)).trans e)
   by_cases c:q.1∈Lk.map (·.1)
   .rw[kO c] at hf
    rw[zQ hf];refine za (nS (knd:=SK prog w) (s:={ s with heap:=Ay }) (L:=L') hu ED kq ∅ λadded EE L3 IA Oj Lq=>zf ?_);refine za (Eg { s with heap:=EE } _ (Pp EE IA) (zf ⟨done++[q],left,EE,L3,by rw[e1];simp,rfl,rfl,Eh.trans IA,Oj,?_,λx=>?_,λp hp=>?_⟩))
    .rw[Lq.length_eq,zR,qt]
     split
     .omega
     .rw[zG];omega
    .have mx:=me x
     rw[(Lq.map (·.1)).mem_iff,qp,zF];split
     .rename_i c2
      rw[mx];constructor
      .rintro⟨z1,z2⟩;exact⟨.inl z1,z2⟩
      .rintro⟨z1 | z1,z2⟩
       .exact⟨z1,z2⟩
       .have:x=q.1:=by simpa using z1
        subst this;exact(me _).mp c2
     .rw[zx,zj,mx]
      constructor
      .rintro(z | ⟨z1,z2⟩)
       .subst z;exact⟨.inr (by simp),c⟩
       .exact⟨.inl z1,z2⟩
      .rintro⟨z1 | z1,z2⟩
       .exact .inr ⟨z1,z2⟩
       .exact .inl (by simpa using z1)
    .have:=Lq.mem_iff.mp hp
     split at this
     .exact pa p this
     .rcases zj.mp this with z | z
      .exact z▸mq
      .exact pa p z
   .rw[jj c] at hf
    rw[zW (by rw[hf];simp)];refine zf ?_;refine za (Eg { s with heap:=Ay } _ (Pp Ay (vM _ _)) (zf ⟨done++[q],left,Ay,L',by rw[e1];simp,rfl,rfl,Eh,ED,?_,λx=>?_,pa⟩))
    .rw[zR];omega
    .rw[me x,qp,zF]
     constructor
     .rintro⟨z1,z2⟩;exact⟨.inl z1,z2⟩
     .rintro⟨z1 | z1,z2⟩
      .exact⟨z1,z2⟩
      .have:x=q.1:=by simpa using z1
       subst this;exact absurd z2 c
 .rintro b s' ⟨done,left,Ay,L',e1,e2,rfl,Eh,ED,ln,me,pa⟩
  have:left=[]:=by cases left with | nil=>rfl | cons _ _=>cases e2
  subst this;rw[v6] at e1;subst e1;refine k Ay L' Eh ED (by rw[<-p0.length_eq];exact ln) (λx=>?_) pa;rw[me x,(p0.map (·.1)).mem_iff]
def W7{S1 S2:Ç}{L1 L2:List (List È×Ç)}(hu:A.units+10<û)(h1:SetT (SK prog w) s.heap S1 L1)(h2:SetT (SK prog w) s.heap S2 L2)(ne:S1≠S2)(hb:L1.length+L2.length<=800)
  (k:∀S h' L' d,s.heap.objs.size<=S->SetT (SK prog w) h' S L'->L'.length<=L1.length+L2.length->(∀x,x∈L'.map (·.1)↔x∈L1.map (·.1)/\x∈L2.map (·.1))->(∀p∈L',p∈L1\/p∈L2)->(∀b o,s.heap.get? b=À o->h'.get? b=À o)->Q (.ref S) { s with heap:=h',drawn:=d }) :
  Æ (Í prog w) A (ä .BitAnd (.ref S1) (.ref S2)) Q E s:=by
 have T1:s.TypeIs (.ref S1) "set":=by obtain⟨o,_,_,_,_,a,b,_⟩:=h1.tab;exact⟨o,a,b.1⟩
 have T2:s.TypeIs (.ref S2) "set":=by obtain⟨o,_,_,_,_,a,b,_⟩:=h2.tab;exact⟨o,a,b.1⟩
 refine wpAny_binaryOp_same T1 T2 F.fills_set_and F.slot_set_and (jh F.slot_set_and T1 YT ?_ (F.args_set_and_2 _ _));show Æ _ _ (Ė "__and__" ⟨[.ref S1,.ref S2],[]⟩ >>= _) _ _ _
 refine za (show Æ _ _ (Ė "__and__" ⟨[.ref S1,.ref S2],[]⟩) _ _ _ from za (zf (zf ?_)));erw[zP,jy];refine za (show Æ _ _ (ĉ (.ref S1) >>= _) _ _ _ from za (dA T1 ?_));refine dA T2 ?_;rw[zW (by decide)];refine za (zf ?_);refine za ?_;unfold Builtin.Frozenset.intersection;rw[zW (by simp[jq ne])];let h3:Õ:=s.heap.push { cls:=.type "set",dict:=Á,data:=.set #[] 0 (.fresh 0 0 (!w.params.followText "set-order")) }
 have kp:∀b o,s.heap.get? b=À o->h3.get? b=À o:=λb o e=>zc _ e
 have fr:SetT (SK prog w) h3 s.heap.objs.size []:=SetT.fresh _ rfl (zE _ rfl);have Nb:S1<s.heap.objs.size:=by obtain⟨o,_,_,_,_,a,_⟩:=h1.tab;exact zJ a
 have LD:S2<s.heap.objs.size:=by obtain⟨o,_,_,_,_,a,_⟩:=h2.tab;exact zJ a
 have s1:SetT (SK prog w) h3 S1 L1:=h1.kept (λo e=>kp _ o e) λp _ o e=>kp _ o e
 have s2:SetT (SK prog w) h3 S2 L2:=h2.kept (λo e=>kp _ o e) λp _ o e=>kp _ o e
 refine za (Zw T1 (za (Z1 ?_)));refine za (zf (za (jf ?_)));obtain⟨o1,EA,Pk,t1,R1,f1,f2,f3,f4,f5,f6,f7,Pq,Pr⟩:=s1.tab;obtain⟨o2,Na,Og,t2,R2,g1,g2,g3,g4,g5,g6,g7,FM,Ef⟩:=s2.tab;refine za (dA (s:={ s with heap:=h3 }) ⟨o2,g1,g2.1⟩ ?_);rw[zQ rfl];refine za (zf ?_);unfold Ś;refine za (za (wZ (s:={ s with heap:=h3 }) g1 g3 g6.fits (zf ?_)));refine za (za (wZ (s:={ s with heap:=h3 }) f1 f3 f6.fits (zf ?_)));by_cases c:Na.size>EA.size
 .rw[zQ c]
  dsimp only;refine za (qN (s:={ s with heap:=h3 }) f1 f3 f6.fits ?_);refine za (m8 (s:={ s with heap:=h3 }) s1 λL0 d es' pe he=>?_);refine za (oI (s:={ s with heap:=h3,drawn:=d }) (r:=s.heap.objs.size) (W:=S1) (K:=S2) (L0:=L0) (by simp;omega) (zM Nb).symm (zM LD).symm he pe fr s1 s2 ∅ (λs' Q' keep q=>?_) λh5 L5 IE IF ln me pa=>?_)
  .unfold Ġ
   refine za (qN (keep _ f1) f3 f6.fits ?_);rw[zW (by simp)];exact zf q
  .refine zf (zf (zf ⟨_,rfl,λe=>(by cases e),?_⟩))
   exact k _ h5 L5 d (zr _) IF ∅ me (λp hp=>.inl (pa p hp)) λb o e=>(IE.2 _ (zM (zJ e))).trans (kp b o e)
 .rw[zW c]
  dsimp only;refine za (qN (s:={ s with heap:=h3 }) g1 g3 g6.fits ?_);refine za (m8 (s:={ s with heap:=h3 }) s2 λL0 d es' pe he=>?_);refine za (oI (s:={ s with heap:=h3,drawn:=d }) (r:=s.heap.objs.size) (W:=S2) (K:=S1) (L0:=L0) (by simp;omega) (zM LD).symm (zM Nb).symm he pe fr s2 s1 ∅ (λs' Q' keep q=>?_) λh5 L5 IE IF ln me pa=>?_)
  .unfold Ġ
   refine za (qN (keep _ g1) g3 g6.fits ?_);rw[zW (by simp)];exact zf q
  .refine zf (zf (zf ⟨_,rfl,λe=>(by cases e),?_⟩))
   exact k _ h5 L5 d (zr _) IF ∅ (λx=>(me x).trans And.comm) (λp hp=>.inr (pa p hp)) λb o e=>(IE.2 _ (zM (zJ e))).trans (kp b o e)
end
def DEs(h:Õ)(d:Ç)(es:Array ą)(ep:Nat):Prop:=∃o,h.get? d=À o/\o.ExactDict/\o.data=.dict es ep
section
variable{prog:Ï}{w:Ñ}{A:Ø}{E:Ã->Å->Prop}{s:Å}{d it:Ç}{es:Array ą}{ep i:Nat}
def DEs.ty(D:DEs s.heap d es ep):s.TypeIs (.ref d) "dict":=by
 obtain⟨o,g1,g2,g3⟩:=D;exact⟨o,g1,g2.1⟩
def DEs.at{h h':Õ}(D:DEs h d es ep)(k:∀o,h.get? d=À o->h'.get? d=À o):DEs h' d es ep:=by
 obtain⟨o,g1,g2⟩:=D;exact⟨o,k _ g1,g2⟩
def UP(ns:(d==à)=Ä)(D:DEs s.heap d es ep)(k:Q (.ref s.heap.objs.size) { s with heap:=s.heap.push { cls:=.type "dict_keyiterator",data:=.fields #[.ref d,.int 0 0,.int es.size 0,.int ep 0] } }) :
  Æ (Í prog w) A (ĥ (.ref d)) Q E s:=by
 obtain⟨o,g1,g2,g3⟩:=id D;refine uz D.ty F.slot_dict_iter (jh F.slot_dict_iter D.ty F.entry_dict_iter ?_ (F.args_dict_iter_1 _));unfold ç.«dict.__iter__» Builtin.Dict.dictSlotNone;refine za (za (ů D.ty (show Æ _ _ (pure (Ë d)) _ _ s from zf ?_)));show Æ _ _ (Builtin.Dict.showsAll d >>= λ_=>_) _ _ s
 unfold Builtin.Dict.showsAll;refine za ?_;refine bP ns (zf ?_);refine za (wpAny_dictEntries g1 g3 (za (wpAny_dictEpoch g1 g3 ?_)));exact za (kE (zf ⟨_,rfl,"dict_keyiterator",_,⟨_,zE _ rfl,rfl⟩,wY.lookup,by simpa[ā] using k⟩))
def Kv(hi:s.heap.IsKeyIter it d i es.size ep)(D:DEs s.heap d es ep)
  (k1:∀(xa:i<es.size) h',h'.IsKeyIter it d (i+1) es.size ep->Ü it s.heap h'->Q (À es[i].key) { s with heap:=h' })
  (hh:A.handled=Á) (k2:es.size<=i->∀h',(∀b o,b≠it->s.heap.get? b=À o->h'.get? b=À o)->Q Á { s with heap:=h' }):Æ (Í prog w) A (Ē (.ref it)) Q E s:=by
 obtain⟨o,ho,hc,hd⟩:=id hi;obtain⟨od,g1,g2,g3⟩:=id D;unfold Ē;refine za (vI (jx (name:=ü "__next__") hi.typeIs wY (jh wY hi.typeIs F.entry_dict_keyiterator_next ?_ (F.args_dict_keyiterator_next_1 _))));refine za (zf (za (za ?_)));first | refine za (wM hi.typeIs (zf (za (wpAny_fieldsOf ho hd ?_)))) | refine za (yG hi.typeIs (zf (za (wpAny_fieldsOf ho hd ?_))))
 erw[show Builtin.Dict_items.ownsTuple "dict_keyiterator" = Ä from by decide,zP,jy];refine bP (c:=(Ë d==Ö)) rfl (za (zf (za (wpAny_dictEntries g1 g3 ?_))));rw[zW (by simp)];refine za (zf (za (wpAny_dictEpoch g1 g3 ?_)));rw[zW (by simp)];refine zf ?_;by_cases xa:i<es.size
 .erw[show ¬((i:Int)<0) by omega,jy,jm,Array.getElem?_eq_getElem xa]
  refine za ?_;first | refine za (wM hi.typeIs (zf (za (yV hi.typeIs ?_)))) | refine za (yG hi.typeIs (zf (za (yV hi.typeIs ?_))))
  show Æ _ _ (setField (.ref it) 1 (ā ((i:Int)+1)) >>= λ_=>_) _ _ s
  refine za (xT ho hd (by simp) ?_);have A5:(s.heap.update it (Obj.mapFields (·.setIfInBounds 1 (ā ((i:Int)+1))))).IsKeyIter it d (i+1) es.size ep:=
   ⟨_,jK _ ho (ŭ (yu hd _)),(Obj.cls_mapFields ..).trans hc,by rw[yu hd];simp[ā]⟩
  refine za (jf (za (yV (s:={ s with heap:=s.heap.update it (Obj.mapFields (·.setIfInBounds 1 (ā ((i:Int)+1)))) }) A5.typeIs (show Æ _ _ (pure es[i].key) _ _ _ from ?_))));exact zf (zf ⟨_,rfl,zf (k1 xa _ A5 (qx ..))⟩)
 .erw[show ¬((i:Int)<0) by omega,jy,jm,Array.getElem?_eq_none (qe xa)]
  refine za ?_;first | refine za (wM hi.typeIs (zf ?_)) | refine za (yG hi.typeIs (zf ?_))
  refine(show Æ _ _ (setField (.ref it) 0 .none >>= λ_=>_) _ _ s from za (xT ho hd (by simp) ?_));refine iP (by simpa using hh) λh' e=>k2 (qe xa) h' λb o ne q=>e b o ((qu _ _ (jq ne)).trans q)
def YJ(hh:A.handled=Á)(I d:Ç)(AE:d≠I)(es:Array ą)(ep:Nat):Walks prog w A I [I,d] [I] es.size (λi v=>∃h:i<es.size,v=es[i].key) (λi h=>h.IsKeyIter I d i es.size ep/\DEs h d es ep) where
 sub:=λb hb=>by simp at hb;simp[hb]
 frame:=λ_ _ _ st hk=>⟨st.1.at λo e=>hk I (by simp) o e,st.2.at λo e=>hk d (by simp) o e⟩
 item:=λi s Q E hi st hQ=>Kv st.1 st.2 (λxa h' g sb=>hQ _ h' s.toks ⟨xa,rfl⟩ ⟨g,st.2.at λo e=>(sb.2 d AE).trans e⟩ λb o hb e=>(sb.2 b (by simpa using hb)).trans e) hh λLh=>absurd hi (yO.mpr Lh)
 done:=λs Q E st hQ=>Kv st.1 st.2 (λxa=>absurd xa (jZ _)) hh λ_ h' e=>hQ h' s.toks λb o hb q=>e b o (by simpa using hb) q
 self:=λ_ _ _ _ st hQ=>wpAny_pyIter_keyiter st.1 hQ
def Zs(hh:A.handled=Á)(ns:(d==à)=Ä)(D:DEs s.heap d es ep)(hb:es.size<900)
  (k:∀(s':Å),(∀b o,s.heap.get? b=À o->s'.heap.get? b=À o)->s'.gens=s.gens->s'.os=s.os->s.heap.objs.size<=s'.heap.objs.size->Q (es.toList.map (·.key)) s'):Æ (Í prog w) A (collect (.ref d)) Q E s:=by
 have MW:d<s.heap.objs.size:=by obtain⟨o,g1,_⟩:=D;exact zJ g1
 unfold collect;refine za (wF (jO F.entry_proto_collect ?_));rw[jF F.plain_proto_collect _];show Æ _ A.in1 (newList [] >>= λnl=>again (.builtin "list.__iadd__" ⟨[nl,.ref d],[]⟩)) _ _ s
 refine za (kE (zf ⟨vh yM _,jO F.entry_list_iadd ?_⟩));rw[jF yM _];generalize hN:s.heap.objs.size=N;show Æ _ A.in1 (Ą (.ref N) (.ref d) (.ref N)) _ _ _
 let h1:Õ:=s.heap.push { cls:=.type "list",data:=.seq ([]:List Ã).toArray }
 have Ao:∀b o,s.heap.get? b=À o->h1.get? b=À o:=λb o e=>zc _ e
 have EC:h1.objs.size=N+1:=by rw[<-hN];exact jP ..
 have Oa:h1.get? N=À { cls:=.type "list",data:=.seq ([]:List Ã).toArray }:=by rw[<-hN];exact zE _ rfl
 have Os:N≠d:=by rw[<-hN];exact(zM MW).symm
 have D1:DEs h1 d es ep:=D.at λo e=>Ao _ _ e
 show Æ _ A.in1 _ _ _ { s with heap:=h1 }
 unfold Ą;refine za (qH (DEs.ty (s:={ s with heap:=h1 }) D1) ?_);refine bP (by simp[ś,Os]) ?_;refine za (UP (s:={ s with heap:=h1 }) ns D1 ?_);let h2:Õ:=h1.push { cls:=.type "dict_keyiterator",data:=.fields #[.ref d,.int 0 0,.int es.size 0,.int ep 0] }
 have GM:∀b o,h1.get? b=À o->h2.get? b=À o:=λb o e=>zc _ e
 have S9:h2.IsKeyIter h1.objs.size d 0 es.size ep:=⟨_,zE _ rfl,rfl,rfl⟩;have D2:DEs h2 d es ep:=D1.at λo e=>GM _ _ e
 refine za (jf (kdl_hint_dict (DEs.ty (s:={ s with heap:=h2 }) D2) ?_));refine ik ⋯ (za (vG (za ?_)));have Fm:h2.get? N=À { cls:=.type "list",data:=.seq ([]:List Ã).toArray }:=GM _ _ Oa;refine(show Æ _ A.in1 (updateSeq N (·.push .none) >>= λ_=>updateSeq N (·.pop)) _ _ { s with heap:=h2 } from za (wg Fm rfl ?_));have up1:=jK (á (·.push Ö)) Fm rfl;refine wg up1 rfl ?_;have Ob:=jK (á (·.pop)) up1 rfl;have off:∀b o,b≠N->h2.get? b=À o->((h2.update N (á (·.push Ö))).update N (á (·.pop))).get? b=À o:=λb o ne e=>(qu _ _ (jq ne)).trans ((qu _ _ (jq ne)).trans e)
 have A7:A.in1.handled=Á:=by simpa using hh
 have dI:d≠h1.objs.size:=by rw[EC,<-hN];exact zM (jD MW)
 have nI:h1.objs.size≠N:=by rw[EC];exact xX _
 have nF:N∉[h1.objs.size,d]:=by
  erw[zj,zy,kY,ye];exact⟨nI.symm,Os⟩
 have W:=(YJ (prog:=prog) (w:=w) (A:=A.in1) A7 h1.objs.size d dI es ep).toS;refine zf ⟨vh F.plain_extend_loop _,Ż W (by rw[jB];omega) N nF (.ref N) es.size 0 _ _ _ rfl (jQ _) ⟨S9.at λo e=>off _ _ nI e,D2.at λo e=>off _ _ (jq Os) e⟩ Ob (ItemsOf.nil _) λs' acc c Lp Az Fn=>?_⟩;refine(show Æ _ A (load N >>= λ_=>_) _ _ s' from za (xu Az (zf ?_)));have Fu:acc.toList=es.toList.map (·.key):=by
  apply wz
  .rw[zV,zH,zV];exact Fn.1
  .intro j a1 a2
   obtain⟨_,z⟩:=Fn.2 j acc.toList[j] (by simp);rw[z];simp
 show Q acc.toList s'
 rw[Fu];refine k s' (λb ob e=>Lp.heap b ob (λm=>?_) (off b ob ?_ (GM _ _ (Ao _ _ e)))) Lp.gens Lp.os (by rw[hN];exact qY (zJ Az))
 .have lt:=zJ e
  rw[hN] at lt;rcases zj.mp m with z | m
  .exact zM lt z
  .have z:b=h1.objs.size:=by simpa using m
   rw[z,EC] at lt;exact absurd lt (yO.mpr (qK _))
 .have lt:=zJ e
  rw[hN] at lt;exact zM lt
def ZH{xs:List (List È×Ç×Ã)}(hh:A.handled=Á)(ns:(d==à)=Ä)(D:s.heap.DictOfH (Ĥ (SK prog w)) d xs)(hb:xs.length<64)(ne:∀p∈xs,p.1≠[])
  (k:∀(L:Ç) (L':List (List È×Ç)) (n:Nat) (s':Å),L'.Perm (xs.map λx=>(x.1,x.2.1))->L'.map (·.1)=kC (xs.map (·.1))->s'.heap.get? L=À (ă "list" (L'.map λp=>Ë p.2).toArray n)->s.heap.objs.size<=L->(∀b o,s.heap.get? b=À o->s'.heap.get? b=À o)->s'.gens=s.gens->s'.os=s.os->Q (.ref L) s') :
  Æ (Í prog w) A (ķ (.builtin "sorted") [.ref d]) Q E s:=by
 obtain⟨o,es,ep,g1,g2,g3,g4,tk,nd⟩:=D;have len:es.size=xs.length:=by have:=jl Ú g4;simpa using this
 have ks:es.toList.map (·.key)=(xs.map λx=>(x.1,x.2.1)).map λp=>Ë p.2:=by rw[g4,jb,jb];rfl
 refine yE kind_sorted plain_sorted entry_sorted (args_sorted1 _) ?_;unfold ç.«sorted»;refine za (m:=checkCount "sorted" 1 1 _) (zf (za (Zs (by simpa using hh) ns ⟨o,g1,g2,g3⟩ ∅ λs1 k1 q1 o1 FB=>?_)));rw[ks];generalize hL:(xs.map λx=>(x.1,x.2.1))=L1 at k ks ⊢;have Da:L1.length=xs.length:=by rw[<-hL,zH]
 refine za (um ?_ (by rw[zH,Da,jB];omega));have IU:(s1.heap.push (ă "list" (L1.map λp=>Ë p.2).toArray 0)).get? s1.heap.objs.size=À (ă "list" (L1.map λp=>Ë p.2).toArray 0):=zE _ rfl;have kp:∀b o,s.heap.get? b=À o->(s1.heap.push (ă "list" (L1.map λp=>Ë p.2).toArray 0)).get? b=À o:=λb o e=>zc _ (k1 _ _ e)
 show Æ _ _ _ _ _ { s1 with heap:=s1.heap.push (ă "list" (L1.map λp=>Ë p.2).toArray 0) }
 have Lz:∀p∈L1,Ò (SK prog w) (s1.heap.push (ă "list" (L1.map λp=>Ë p.2).toArray 0)) p.1 p.2/\p.1≠[]:=λp hp=>by
  rw[<-hL] at hp;obtain⟨x,hx,rfl⟩:=zK.mp hp;obtain⟨o',its,m,e1,e2,e3,e4⟩:=tk x hx;exact⟨⟨o',its,m,kp _ _ e1,e2,e3,e4⟩,ne x hx⟩
 refine za (jf (jh ż ⟨_,IU,rfl⟩ Ŭ (io (L:=L1) IU Lz ∅ λL2 h2 n2 p2 up Mw off=>⟨_,rfl,?_⟩) (Ž _)));have e1:xs.map (·.1)=L1.map (·.1):=by rw[<-hL,jb];rfl
 refine zf ⟨_,rfl,k _ L2 n2 _ p2 ?_ Mw FB (λb o e=>off b o (λz=>?_) (kp _ _ e)) q1 o1⟩
 .rw[e1] at nd ⊢
  have Mx:(L2.map (·.1)).Nodup:=((p2.map (·.1)).nodup_iff).mpr nd;refine wf (JF Mx up) (vc _) λx=>?_
  rw[ssort_mem];exact(p2.map (·.1)).mem_iff
 .have lt:=zJ e
  rw[z] at lt;exact absurd lt (yO.mpr FB)
end
end ML
namespace ML
open PySem PySem.Spec PyProof.Rows L2
noncomputable def nX:W->Option (List È)
 | .tup l=>strsOf l
 | _=>Á
noncomputable def eQ:List W->Option (List (List È))
 | []=>À []
 | w::r=>(nX w).bind λk=>(eQ r).map (k::·)
noncomputable def tupS(k:List È):W:=.tup (k.map .str)
noncomputable def fz(w:W):M W:=λh=>(qS h w).bind λl=>(eQ l).bind λks=>if ks.length<890/\(kC ks).length<64/\(∀k∈ks,k≠[]) then À (.fls ((kC ks).map tupS),h) else Á
theorem iU:∀{l:List W} {k:List È},strsOf l=À k->l=k.map .str
 | [],k,e=>by cases e;rfl
 | .str b::r,k,e=>by
  unfold strsOf at e;split at e
  .rename_i l' e'
   cases e;rw[iU e'];rfl
  .cases e
 | .non::r,k,e=>by cases e
 | .bl _::r,k,e=>by cases e
 | .int _::r,k,e=>by cases e
 | .tup _::r,k,e=>by cases e
 | .fls _::r,k,e=>by cases e
 | .ref _::r,k,e=>by cases e
 | .fdc _::r,k,e=>by cases e
 | .fn _::r,k,e=>by cases e
def gP{l:List (List È)}(u:c8 l):l.Nodup:=u.imp λ{a b} h e=>by subst e;rw[aw] at h;cases h
def il{l:List (List È)}(nd:l.Nodup)(h:∀x,x∈l↔x∈m):l.length=(kC m).length:=by
 have:l.Perm (kC m):=(List.perm_ext_iff_of_nodup nd (gP (vc m))).mpr λx=>(h x).trans ssort_mem.symm
 exact this.length_eq
def mK(h:∀x,x∈l↔x∈m):kC l=kC m:=wf (vc l) (vc m) λx=>ssort_mem.trans ((h x).trans ssort_mem.symm)
section
variable{X:Cx}{ag:List (Ç×ø)}{σ:L2.St}{H:Hp}{s:Å}{μ:List Ç}
theorem mW:∀{k:List È} {vs:List V} {us:List Ã},RWs X.K μ H (k.map .str) vs->Vals vs us->ItemsAre (SK X.prog X.w) k us
 | [],_,_,.nil,.nil=>.nil
 | x::k,_,_,.cons r rs,.cons v vs=>by
  cases r;obtain⟨t,rfl⟩:=v;exact .cons (ŝ _ _ _ _) (mW rs vs)
def ar(I:Inv X ag σ H s)(r:RW X.K μ H (tupS k) (.ref a)):Ò (SK X.prog X.w) s.heap k a:=by
 unfold tupS at r;cases r with
 | tup sq rs=>
  obtain⟨its,rv,⟨o,g1,g2,n,g4⟩,_⟩:=I.tuple sq;exact⟨o,its.toArray,n,g1,g2,g4,by simpa using mW rs rv⟩
theorem eZ(I:Inv X ag σ H s):∀{l:List W} {vs:List V} {us:List Ã} {ks:List (List È)},eQ l=À ks->RWs X.K μ H l vs->Vals vs us->
  ∃Lk:List (List È×Ç),us=Lk.map (λp=>Ë p.2)/\Lk.map (·.1)=ks/\∀p∈Lk,RW X.K μ H (tupS p.1) (.ref p.2)
 | [],_,_,_,e,.nil,.nil=>by cases e;exact⟨[],rfl,rfl,λp hp=>by cases hp⟩
 | w::l,_,_,_,e,.cons r rs,.cons v vs=>by
  obtain⟨k,e1,e2⟩:=zm.mp e;obtain⟨ks,e3,e4⟩:=zg.mp e2;subst e4;obtain⟨Lk,z1,z2,z3⟩:=eZ I e3 rs vs;cases w with
  | tup l'=>
   have e5:=iU (show strsOf l'=À k from e1);subst e5;have r':=r;cases r with
   | @tup a _ _ sq _=>
    have v':=v;cases v
    exact⟨(k,a)::Lk,by rw[z1];rfl,by rw[zx,z2],λp hp=>by
     rcases zj.mp hp with rfl | hp
     .exact r'
     .exact z3 p hp⟩
  | _=>cases e1
def mD{L:List (List È×Ç)}(h:∀p∈L,RW X.K μ H (tupS p.1) (.ref p.2)):RWs X.K μ H ((L.map (·.1)).map tupS) (L.map λp=>V.ref p.2)/\Vals (L.map λp=>V.ref p.2) (L.map λp=>Ë p.2):=by
 induction L with
 | nil=>exact⟨.nil,.nil⟩
 | cons p L ih=>
  obtain⟨a,b⟩:=ih λq hq=>h q (zp _ hq)
  exact⟨.cons (h p (zz ..)) a,.cons rfl b⟩
def Inv.draw(I:Inv X ag σ H s):Inv X ag σ H { s with drawn:=d }:=⟨I.ok,I.os,I.bare,I.base,I.loc,I.cell,I.free,I.freeC,I.pin,I.hok,I.len⟩
end
section
variable{X:Cx}{cl:Cl}{a:Î}{ma:ME}{p p2 p3 pos:ė}
def K8(hc:X.calm=Â)(hu:X.A.units+64<û)(hl:X.mg "sorted" = Á)(hs:X.mg "set" = Á)(ha:SE X cl a ma)(hg:↥(Gl X "sorted"))(Ij:↥(Gl X "set"))
  (Ez:↥(Ê [a] X.env=(Ä,å a X.env)::Ê [] X.env)) (A9:↥((Þ p3 (Ê [] X.env)).any (·.1)=Ä))
  (Ey:↥(Ê [.Call (.Name "set" p2) [a] [] p3] X.env=(Ä,å (.Call (.Name "set" p2) [a] [] p3) X.env)::Ê [] X.env)) (EY:↥((Þ pos (Ê [] X.env)).any (·.1)=Ä)) :
  SE X cl (.Call (.Name "sorted" p) [.Call (.Name "set" p2) [a] [] p3] [] pos) (wm fz ma):=by
 rintro ag s σ H Q I ⟨μ,h,ρ,w,h',R,er,e,k⟩;obtain⟨x,h1,e1,e⟩:=zD e;have hv:Ù "set" = À (.type "set"):=by decide +kernel
 refine jH (y6 I hg hl yj ?_ (by decide) (by decide));refine qX ?_ Ey EY;rw[Ey];show Æ _ _ (š ((Ä,å (.Call (.Name "set" p2) [a] [] p3) X.env)::Þ pos (Ê [] X.env))) _ _ s
 have h0:∀{q:ė},Þ q (Ê [] X.env)=[]:=λ{q}=>rfl
 rw[h0];refine qj ?_;refine jH (y6 I Ij hs hv ?_ (by decide) (by decide));refine jL ?_ Ez A9;rw[Ez];show Æ _ _ (š ((Ä,å a X.env)::Þ p3 (Ê [] X.env))) _ _ s
 rw[h0];refine qj (kg (ha ag s σ H (λv H1=>∃cb,Ext μ H cb H1/\HR X.K cl cb H1 h1/\RW X.K cb H1 x v) I ⟨μ,h,ρ,x,h1,R,er,e1,λcb H1 v E1 R1 r=>⟨cb,E1,R1,r⟩⟩) ?_);rintro u s1 ⟨v,H1,I1,r1,cb,E1,R1,rv⟩;refine qb ?_;obtain⟨l,el,e⟩:=zm.mp (show(qS h1 x).bind _=À (w,h') from e);obtain⟨ks,ek,e⟩:=zm.mp e;by_cases ok:ks.length<890/\(kC ks).length<64/\(∀k∈ks,k≠[])
 .rw[zQ ok] at e
  cases e;obtain⟨d,vs,rfl,sq,ra⟩:=yY R1 rv el;cases r1;have fin:∀{us:List Ã} {T:String},(T="list" \/ T="tuple")->Vals vs us->(∃o n,s1.heap.get? d=À o/\o.cls=.type T/\o.data=.seq us.toArray n)->Æ (Í X.prog X.w) X.A (ķ (.type "set") [.ref d]) (λv mN=>Æ (Í X.prog X.w) X.A (ķ (.builtin "sorted") [v]) (EP X ag σ Q) X.xe mN) X.xe s1:=by
   intro us T hT Ot ho;obtain⟨Lk,z1,z2,z3⟩:=eZ I1 ek ra Ot;have Da:Lk.length=ks.length:=by rw[<-z2,zH]
   refine rp hT ho z1 (λp hp=>ar I1 (z3 p hp)) (I1.ok.hd hc) ∅ ∅ λL h2 tk ST ln me pa kp=>?_
   have Lr:∀y,y∈L.map (·.1)↔y∈ks:=λy=>by rw[<-z2];exact me y
   have nd:(L.map (·.1)).Nodup:=by obtain⟨_,_,_,_,_,_,_,_,_,_,_,_,nd,_⟩:=ST;exact nd
   have lt:L.length<64:=by have:=il nd Lr;rw[zH] at this;omega
   refine mn (s:={ s1 with heap:=h2,toks:=tk }) (I1.ok.hd hc) ST lt (λp hp=>ok.2.2 p.1 ((Lr _).mp (zK.mpr ⟨p,hp,rfl⟩))) λD L' n s' pe Ee ob le keep gg oo=>?_
   obtain⟨AN,g',d',t',EH⟩:=s';obtain rfl:g'=s1.gens:=gg;obtain rfl:EH=s1.os:=oo;have rr:∀p∈L',RW X.K cb H1 (tupS p.1) (.ref p.2):=λp hp=>z3 p (pa p (pe.mem_iff.mp hp))
   obtain⟨q1,q2⟩:=mD rr;have Ao:∀b o,s1.heap.get? b=À o->AN.get? b=À o:=λb o e=>keep b o (kp b o e)
   have FB:s1.heap.objs.size<=D:=by
    obtain⟨_,_,_,_,_,go,_⟩:=ST;exact zq (qY (zJ go)) le
   have I2:Inv X ag σ (upd H1 D (.lst (L'.map λp=>V.ref p.2))) { s1 with heap:=AN,toks:=t',drawn:=d' }:=Inv.draw (s:={ s1 with heap:=AN,toks:=t' }) (I1.laid (t':=t') Ao FB ⟨by rw[zH,pe.length_eq,jB];omega,_,n,q2,ob⟩);refine⟨.ref D,_,I2,rfl,?_⟩;have Ou:L'.map (·.1)=kC ks:=Ee.trans (mK Lr);rw[Ou] at q1;exact KQ.fls (k.ext E1) R1 q1 (I1.hok.fresh FB)
  rcases sq with sq | sq
  .obtain⟨its,rv,⟨o,n,g1,g2,g3,g4⟩,_⟩:=I1.list sq
   exact j6 (fin (.inl rfl) rv ⟨o,n,g1,g2,g4⟩) (λv mN q=>qb q) λ_ _ e=>e
  .obtain⟨its,rv,⟨o,g1,g2,n,g4⟩,_⟩:=I1.tuple sq
   exact j6 (fin (.inr rfl) rv ⟨o,n,g1,g2,g4⟩) (λv mN q=>qb q) λ_ _ e=>e
 .rw[zW ok] at e;cases e
end
section
variable{prog:Ï}{w:Ñ}{A:Ø}{E:Ã->Å->Prop}{s:Å}
def ZG{L:List (List È×Ç)}(hl:s.heap.IsList l (L.map λp=>Ë p.2).toArray)(hT:∀p∈L,Ò (SK prog w) s.heap p.1 p.2/\p.1≠[])(hb:L.length<64)(nd:(L.map (·.1)).Nodup)
  (k:∀(D:Ç) (L':List (List È×Ç)) (n:Nat) (h':Õ),L'.Perm L->L'.map (·.1)=kC (L.map (·.1))->h'.get? D=À (ă "list" (L'.map λp=>Ë p.2).toArray n)->s.heap.objs.size<=D->(∀b o,s.heap.get? b=À o->h'.get? b=À o)->Q (.ref D) { s with heap:=h' }) :
  Æ (Í prog w) A (ķ (.builtin "sorted") [.ref l]) Q E s:=by
 refine yE kind_sorted plain_sorted entry_sorted (args_sorted1 _) ?_;unfold ç.«sorted»;refine za (m:=checkCount "sorted" 1 1 _) (zf ?_);refine za (collect_list hl ?_ (by rw[zH,jB];omega));let h1:Õ:=(s.heap.push (ă "list" #[] 0)).update s.heap.objs.size (á (· ++ (L.map λp=>Ë p.2).toArray))
 have EC:h1.objs.size=s.heap.objs.size+1:=by show((s.heap.push _).update _ _).objs.size=_;rw[Heap.size_update,size_push']
 have k1:∀b o,s.heap.get? b=À o->h1.get? b=À o:=λb o e=>by
  have lt:=zJ e;show((s.heap.push _).update _ _).get? b=_
  rw[uh _ _ _ _ (zM lt)];exact zc _ e
 refine za (um ?_ (by rw[zH,jB];omega));have IU:(h1.push (ă "list" (L.map λp=>Ë p.2).toArray 0)).get? h1.objs.size=À (ă "list" (L.map λp=>Ë p.2).toArray 0):=zE _ rfl;show Æ _ _ _ _ _ { s with heap:=h1.push (ă "list" (L.map λp=>Ë p.2).toArray 0) }
 have kp:∀b o,s.heap.get? b=À o->(h1.push (ă "list" (L.map λp=>Ë p.2).toArray 0)).get? b=À o:=λb o e=>zc _ (k1 _ _ e)
 have Lz:∀p∈L,Ò (SK prog w) (h1.push (ă "list" (L.map λp=>Ë p.2).toArray 0)) p.1 p.2/\p.1≠[]:=λp hp=>by
  obtain⟨⟨o,its,m,e1,e2,e3,e4⟩,ne⟩:=hT p hp;exact⟨⟨o,its,m,kp _ _ e1,e2,e3,e4⟩,ne⟩
 refine za (jf (jh ż ⟨_,IU,rfl⟩ Ŭ (io (L:=L) IU Lz hb λL2 h2 n2 p2 up Mw off=>⟨_,rfl,?_⟩) (Ž _)));refine zf ⟨_,rfl,k _ L2 n2 h2 p2 ?_ Mw (by rw[EC];exact qK _) λb o e=>off b o (λz=>?_) (kp _ _ e)⟩
 .have Mx:(L2.map (·.1)).Nodup:=((p2.map (·.1)).nodup_iff).mpr nd
  refine wf (JF Mx up) (vc _) λx=>?_
  rw[ssort_mem];exact(p2.map (·.1)).mem_iff
 .have lt:=zJ e
  rw[z,EC] at lt;exact absurd lt (yO.mpr (qK _))
end
noncomputable def X9(w:W):M W:=λh=>(getL h w).bind λl=>(eQ l).bind λks=>if ks.length<64/\ks.Nodup/\(∀k∈ks,k≠[]) then À (.fls ((kC ks).map tupS),h) else Á
noncomputable def fG:List W->M W
 | [w]=>X9 w
 | _=>λ_=>Á
section
variable{X:Cx}{cl:Cl}
def Jn:qo X (.builtin "sorted") (rMs X.K cl fG):=by
 rintro ag s σ H xs us Q I rs ⟨μ,h,ws,w,h',R,ax,e,k⟩;match ws,ax,e with
 | [x],.cons r .nil,e=>
  obtain⟨l,el,e⟩:=zm.mp (show(getL h x).bind _=À (w,h') from e);obtain⟨ks,ek,e⟩:=zm.mp e;by_cases ok:ks.length<64/\ks.Nodup/\(∀k∈ks,k≠[])
  .rw[zQ ok] at e
   cases e;obtain⟨d,vs,rfl,sq,ra⟩:=vv R r el;cases rs with
   | cons r1 r2=>
    cases r2;cases r1
    .obtain⟨its,rv,⟨o,n,g1,g2,g3,g4⟩,_⟩:=I.list sq
     obtain⟨Lk,z1,z2,z3⟩:=eZ I ek ra rv;have Da:Lk.length=ks.length:=by rw[<-z2,zH]
     have hl:s.heap.IsList d (Lk.map λp=>Ë p.2).toArray:=by rw[<-z1];exact⟨o,g1,g2,n,g4⟩
     refine ZG hl (λp hp=>⟨ar I (z3 p hp),ok.2.2 p.1 (by rw[<-z2];exact zK.mpr ⟨p,hp,rfl⟩)⟩) ∅ (by rw[z2];exact ok.2.1) λD L' n' AN pe Ee ob le keep=>?_
     obtain⟨q1,q2⟩:=mD (X:=X) (μ:=μ) (H:=H) (L:=L') λp hp=>z3 p (pe.mem_iff.mp hp)
     have I2:Inv X ag σ (upd H D (.lst (L'.map λp=>V.ref p.2))) { s with heap:=AN,toks:=s.toks }:=I.laid keep le ⟨by rw[zH,pe.length_eq,jB];omega,_,n',q2,ob⟩;refine⟨.ref D,_,I2,rfl,?_⟩;rw[Ee,z2] at q1;exact KQ.fls k R q1 (I.hok.fresh le)
  .rw[zW ok] at e;cases e
end
section
variable{X:Cx}{cl:Cl}{a:Î}{ma:ME}{p2 p3:ė}{ag:List (Ç×ø)}{σ:L2.St}{H:Hp}{s:Å}{μ:List Ç}
structure SetV(X:Cx)(cl:Cl)(ag:List (Ç×ø))(σ:L2.St)(μ:List Ç)(H:Hp)(h1:MH)(ks:List (List È))(v:Ã)(s2:Å):Prop where
 ex:∃S cb H1 L,v=.ref S/\Inv X ag σ H1 s2/\Ext μ H cb H1/\HR X.K cl cb H1 h1/\SetT (SK X.prog X.w) s2.heap S L/\L.length<=ks.length/\(∀x,x∈L.map (·.1)↔x∈ks)/\(∀p∈L,RW X.K cb H1 (tupS p.1) (.ref p.2))/\H1 S=Á/\S≠X.env.locals/\S∉X.fs/\∀p∈ag,p.1≠S
def VQ(hc:X.calm=Â)(hu:X.A.units+64<û)(hs:X.mg "set" = Á)(ha:SE X cl a ma)(Ij:Gl X "set")(Ez:Ê [a] X.env=(Ä,å a X.env)::Ê [] X.env)(A9:(Þ p3 (Ê [] X.env)).any (·.1)=Ä)
      {ks:List (List È)} (I:Inv X ag σ H s) (R:HR X.K cl μ H h) (er:ER X.K μ H ρ σ) (e1:ma ρ h=À (x,h1)) (el:qS h1 x=À l) (ek:eQ l=À ks) (hb:ks.length<890) :
  Æ (Í X.prog X.w) X.A (å (.Call (.Name "set" p2) [a] [] p3) X.env) (SetV X cl ag σ μ H h1 ks) X.xe s:=by
 have hv:Ù "set" = À (.type "set"):=by decide +kernel
 have h0:∀{q:ė},Þ q (Ê [] X.env)=[]:=λ{q}=>rfl
 refine jH (y6 I Ij hs hv ?_ (by decide) (by decide));refine jL ?_ Ez A9;rw[Ez];show Æ _ _ (š ((Ä,å a X.env)::Þ p3 (Ê [] X.env))) _ _ s
 rw[h0];refine qj (kg (ha ag s σ H (λv H1=>∃cb,Ext μ H cb H1/\HR X.K cl cb H1 h1/\RW X.K cb H1 x v) I ⟨μ,h,ρ,x,h1,R,er,e1,λcb H1 v E1 R1 r=>⟨cb,E1,R1,r⟩⟩) ?_);rintro u s1 ⟨v,H1,I1,r1,cb,E1,R1,rv⟩;refine qb ?_;obtain⟨d,vs,rfl,sq,ra⟩:=yY R1 rv el;cases r1;have fin:∀{us:List Ã} {T:String},(T="list" \/ T="tuple")->Vals vs us->(∃o n,s1.heap.get? d=À o/\o.cls=.type T/\o.data=.seq us.toArray n)->Æ (Í X.prog X.w) X.A (ķ (.type "set") [.ref d]) (SetV X cl ag σ μ H h1 ks) X.xe s1:=by
  intro us T hT Ot ho;obtain⟨Lk,z1,z2,z3⟩:=eZ I1 ek ra Ot;have Da:Lk.length=ks.length:=by rw[<-z2,zH]
  refine rp hT ho z1 (λp hp=>ar I1 (z3 p hp)) (I1.ok.hd hc) ∅ ∅ λL h2 tk ST ln me pa kp=>?_
  exact⟨s1.heap.objs.size,cb,H1,L,rfl,I1.kept (t':=tk) kp,E1,R1,ST,by omega,λy=>by rw[<-z2];exact me y,λp hp=>z3 p (pa p hp),I1.fresh,λz=>absurd I1.lt (by rw[<-z];exact jZ _),I1.nofs (zr _),λp hp z=>absurd (zJ (I1.pin p (kh _ hp)).1) (by rw[z];exact jZ _)⟩
 rcases sq with sq | sq
 .obtain⟨its,rv,⟨o,n,g1,g2,g3,g4⟩,_⟩:=I1.list sq
  exact fin (.inl rfl) rv ⟨o,n,g1,g2,g4⟩
 .obtain⟨its,rv,⟨o,g1,g2,n,g4⟩,_⟩:=I1.tuple sq
  exact fin (.inr rfl) rv ⟨o,n,g1,g2,g4⟩
end
noncomputable def rT(h:MH)(w:W):Option (List (List È)):=(qS h w).bind eQ
noncomputable def xl(f:List (List È)->List (List È)->List (List È))(ma mb:ME):ME:=λρ=>bnd (ma ρ) λx h1=>(rT h1 x).bind λka=>bnd (mb ρ) (λy h2=>(rT h2 y).bind λkb=>if ka.length+kb.length<=800/\(kC (f ka kb)).length<64/\(∀k∈f ka kb,k≠[]) then À (.fls ((kC (f ka kb)).map tupS),h2) else Á) h1
def Zd(op:į)(rel:Prop->Prop->Prop):Prop:=∀{prog:Ï} {w:Ñ} {A:Ø} {E:Ã->Å->Prop} {s:Å} {S1 S2:Ç} {L1 L2:List (List È×Ç)} {Q:Ã->Å->Prop},A.units+10<û->SetT (SK prog w) s.heap S1 L1->SetT (SK prog w) s.heap S2 L2->S1≠S2->L1.length+L2.length<=800->
 (∀S h' L' d,s.heap.objs.size<=S->SetT (SK prog w) h' S L'->L'.length<=L1.length+L2.length->(∀x,x∈L'.map (·.1)↔rel (x∈L1.map (·.1)) (x∈L2.map (·.1)))->(∀p∈L',p∈L1\/p∈L2)->(∀b o,s.heap.get? b=À o->h'.get? b=À o)->Q (.ref S) { s with heap:=h',drawn:=d })->
 Æ (Í prog w) A (ä op (.ref S1) (.ref S2)) Q E s
def Gi:Zd .BitOr Or:=λhu h1 h2 ne hb k=>Bi hu h1 h2 ne hb k
def CD:Zd .BitAnd And:=λhu h1 h2 ne hb k=>W7 hu h1 h2 ne hb k
section
variable{X:Cx}{cl:Cl}{a b:Î}{ma mb:ME}{p p2 p3 p4 p5 p6 pos:ė}{op:į}{rel:Prop->Prop->Prop}{f:List (List È)->List (List È)->List (List È)}
def rF(ho:Zd op rel)(hf:∀ka kb x,x∈f ka kb↔rel (x∈ka) (x∈kb))(hc:X.calm=Â)(hu:X.A.units+64<û)(hl:X.mg "sorted" = Á)(hs:X.mg "set" = Á)(ha:SE X cl a ma)(hb:SE X cl b mb)(hg:Gl X "sorted")(Ij:Gl X "set")
  (Ez:Ê [a] X.env=(Ä,å a X.env)::Ê [] X.env) (Ov:Ê [b] X.env=(Ä,å b X.env)::Ê [] X.env) (Ak:∀q:ė,(Þ q (Ê [] X.env)).any (·.1)=Ä)
  (Ey:Ê [.BinOp (.Call (.Name "set" p2) [a] [] p3) op (.Call (.Name "set" p4) [b] [] p5) p6] X.env=(Ä,å (.BinOp (.Call (.Name "set" p2) [a] [] p3) op (.Call (.Name "set" p4) [b] [] p5) p6) X.env)::Ê [] X.env) :
  SE X cl (.Call (.Name "sorted" p) [.BinOp (.Call (.Name "set" p2) [a] [] p3) op (.Call (.Name "set" p4) [b] [] p5) p6] [] pos) (xl f ma mb):=by
 rintro ag s σ H Q I ⟨μ,h,ρ,w,h',R,er,e,k⟩;obtain⟨x,h1,e1,e⟩:=zD e;obtain⟨ka,Tc,e⟩:=zm.mp e;obtain⟨la,Td,Te⟩:=zm.mp Tc;obtain⟨y,h2,e2,e⟩:=zD e;obtain⟨kb,Tf,e⟩:=zm.mp e;obtain⟨lb,Tg,Th⟩:=zm.mp Tf;by_cases ok:ka.length+kb.length<=800/\(kC (f ka kb)).length<64/\(∀k∈f ka kb,k≠[])
 .rw[zQ ok] at e
  cases e;have h0:∀{q:ė},Þ q (Ê [] X.env)=[]:=λ{q}=>rfl
  refine jH (y6 I hg hl yj ?_ (by decide) (by decide));refine qX ?_ Ey (Ak pos);rw[Ey];show Æ _ _ (š ((Ä,å (.BinOp (.Call (.Name "set" p2) [a] [] p3) op (.Call (.Name "set" p4) [b] [] p5) p6) X.env)::Þ pos (Ê [] X.env))) _ _ s
  rw[h0];refine qj (wpAny_BinOp ?_);refine kg (VQ hc hu hs ha Ij Ez (Ak p3) I R er e1 Td Te ∅) ?_;rintro v1 s1 ⟨S1,cb,H1,L1,q1,I1,E1,R1,Pt,ln1,Ti,MB,n1,n2,n3,_⟩;subst q1;obtain⟨o1,EA,Pk,t1,RR1,g1,g2,g3,_⟩:=Pt.tab;have Tj:Inv X (ag++[(S1,o1)]) σ H1 s1:=I1.pins_of λp hp=>by
   rcases zF.mp hp with z | z
   .exact I1.pin p (kh _ z)
   .have:p=(S1,o1):=by simpa using z
    subst this;exact⟨g1,n1,n2,n3,λv e=>by rw[g3] at e;cases e⟩
  refine kg (VQ hc hu hs hb Ij Ov (Ak p5) Tj R1 (er.ext R E1) e2 Tg Th ∅) ?_;rintro v2 s2 ⟨S2,gy,H2,L2,q2,I2,E2,R2,ED,ln2,Tn,Ki,_,_,_,ne2⟩;subst q2;have Nc:Inv X ag σ H2 s2:=I2.unpinned;have To:s2.heap.get? S1=À o1:=(I2.pin (S1,o1) (kh _ (kh _ (jn.mpr rfl)))).1;have Mv:S1≠S2:=ne2 (S1,o1) (kh _ (jn.mpr rfl));have MC:∀p∈L1,RW X.K gy H2 (tupS p.1) (.ref p.2):=λp hp=>(MB p hp).ext R1 E2
  have Ow:SetT (SK X.prog X.w) s2.heap S1 L1:=by
   obtain⟨o,es,ep,t,RR,a1,a2,a3,a4,a5,a6,a7,a8,a9⟩:=Pt;rw[g1] at a1;cases a1;exact⟨_,es,ep,t,RR,To,a2,a3,a4,a5,a6,a7,a8,λp hp=>ar Nc (MC p hp)⟩
  refine ho ∅ Ow ED Mv ∅ λS h4 L d4 Tp LF ln4 Tq Tr Ts=>qb ?_
  have Lr:∀y,y∈L.map (·.1)↔y∈f ka kb:=λy=>by
   rw[Tq y,hf ka kb y];have z1:(y∈L1.map (·.1))=(y∈ka):=propext (Ti y);have z2:(y∈L2.map (·.1))=(y∈kb):=propext (Tn y);rw[z1,z2]
  have nd:(L.map (·.1)).Nodup:=by obtain⟨_,_,_,_,_,_,_,_,_,_,_,_,nd,_⟩:=LF;exact nd
  have lt:L.length<64:=by have:=il nd Lr;rw[zH] at this;omega
  refine mn (s:={ s2 with heap:=h4,drawn:=d4 }) (Nc.ok.hd hc) LF lt (λp hp=>ok.2.2 p.1 ((Lr _).mp (zK.mpr ⟨p,hp,rfl⟩))) λD L' n s' pe Ee ob le keep gg oo=>?_
  obtain⟨AN,g',d',t',EH⟩:=s';obtain rfl:g'=s2.gens:=gg;obtain rfl:EH=s2.os:=oo;have rr:∀p∈L',RW X.K gy H2 (tupS p.1) (.ref p.2):=λp hp=>(Tr p (pe.mem_iff.mp hp)).elim (MC p) (Ki p)
  obtain⟨q1,q2⟩:=mD rr;have Ao:∀b o,s2.heap.get? b=À o->AN.get? b=À o:=λb o e=>keep b o (Ts b o e)
  have FB:s2.heap.objs.size<=D:=by
   obtain⟨_,_,_,_,_,go,_⟩:=LF;exact zq Tp (zq (qY (zJ go)) le)
  have I3:Inv X ag σ (upd H2 D (.lst (L'.map λp=>V.ref p.2))) { s2 with heap:=AN,toks:=t',drawn:=d' }:=Inv.draw (s:={ s2 with heap:=AN,toks:=t' }) (Nc.laid (t':=t') Ao FB ⟨by rw[zH,pe.length_eq,jB];omega,_,n,q2,ob⟩);refine⟨.ref D,_,I3,rfl,?_⟩;rw[Ee.trans (mK Lr)] at q1;exact KQ.fls (k.ext (E1.trans E2)) R2 q1 (Nc.hok.fresh FB)
 .rw[zW ok] at e;cases e
end
structure SamePW(X:Cx)(cl:Cl):Prop where
 P:cl.P=X.prog
 w:cl.w=X.w
noncomputable def mE:ME:=λ_ h=>À (.ref h.length,h++[.tdc []])
noncomputable def yT(ks:List (List È))(k:List È):List (List È):=if k∈ks then ks else ks++[k]
noncomputable def tY(x y v:W):M W:=λh=>match x with
 | .ref n=>match h[n]? with
  | some (.tdc ks)=>match nX y with
   | some k=>if ks.length<800 then À (.non,h.set n (.tdc (yT ks k))) else Á
   | none=>Á
  | _=>JD x y v h
 | _=>Á
noncomputable def rN(mo mi:ME):MG:=λv ρ=>bnd (mo ρ) λx=>bnd (mi ρ) λy=>bnd (tY x y v) λ_ h=>À (ρ,h)
noncomputable def uk(ws:List W):M W:=λh=>match ws with
 | [.ref n]=>match h[n]? with
  | some (.tdc ks)=>if ks.length<64/\(∀k∈ks,k≠[]) then À (.fls ((kC ks).map tupS),h) else Á
  | _=>fG ws h
 | _=>fG ws h
def CT(P:Ï)(w:Ñ)(h:Õ):af P w h.objs.size [] (h.push { cls:=.type "dict",data:=.dict #[] }):=⟨_,#[],0,zE _ rfl,⟨rfl,rfl,rfl⟩,rfl,rfl⟩
def Zf:∀h1 h2:Õ,af P w a xs h1->(∀o,h1.get? a=À o->h2.get? a=À o)->af P w a xs h2:=λh1 h2 ⟨o,es,ep,g,r⟩ k=>⟨o,es,ep,k _ g,r⟩
def i8{xs:List (List È×Ç×Ã)}:(ń xs k b v).map (·.1)=yT (xs.map (·.1)) k:=by
 unfold ń yT;have e:(atKey xs k).isSome=Â↔k∈xs.map (·.1):=by
  unfold atKey;rw[Option.isSome_map,List.find?_isSome];erw[vp,zK]
 by_cases q:k∈xs.map (·.1)
 .rw[zQ (e.mpr q),zQ q,jb]
  refine ql λx _=>?_
  unfold Function.comp putAt;split<;>rfl
 .rw[zW (λz=>q (e.mp z)),zW q]
  simp
def mB{ks:List (List È)}(n:ks.Nodup):(yT ks k).Nodup:=by
 unfold yT;split
 .exact n
 .rename_i q
  rw[xM];refine⟨n,by simp,?_⟩;intro a ha b hb e;rw[jn] at hb;subst hb;subst e;exact q ha
section
variable{X:Cx}{cl:Cl}{o i:Î}{mo mi:ME}{pos:ė}{ag:List (Ç×ø)}{σ:L2.St}{H:Hp}{s:Å}{μ:List Ç}
def Jo{xs:List (List È×Ç×Ã)}(r:RWs X.K μ H ((xs.map (·.1)).map tupS) (xs.map λx=>.ref x.2.1))(rk:RW X.K μ H (tupS k) (.ref b)) :
  RWs X.K μ H ((yT (xs.map (·.1)) k).map tupS) ((ń xs k b v).map λx=>.ref x.2.1):=by
 rw[<-i8 (b:=b) (v:=v)];unfold ń;split
 .have e1:(xs.map (putAt k v)).map (·.1)=xs.map (·.1):=by
   rw[jb];refine ql λx _=>?_
   unfold Function.comp putAt;split<;>rfl
  have e2:((xs.map (putAt k v)).map λx=>V.ref x.2.1)=xs.map λx=>V.ref x.2.1:=by
   rw[jb];refine ql λx _=>?_
   unfold Function.comp putAt;split<;>rfl
  rw[e1,e2];exact r
 .erw[qp,zx,kZ]
  exact r.append (.cons rk .nil)
def KA:∀{ys:List (List È×Ç×Ã)},RWs X.K μ H ((ys.map (·.1)).map tupS) (ys.map λx=>.ref x.2.1)->∀x∈ys,RW X.K μ H (tupS x.1) (.ref x.2.1):=by
 intro ys;induction ys with
 | nil=>intro _ x hx;cases hx
 | cons y ys ih=>
  intro q x hx;cases q with
  | cons q1 q2=>
   rcases zj.mp hx with rfl | hx
   .exact q1
   .exact ih q2 x hx
def KS(S:SamePW X cl)(I:Inv X ag σ H s){xs:List (List È×Ç×Ã)}(hp:H p=À (.ext (af cl.P cl.w p xs)))(nd:(xs.map (·.1)).Nodup)(r:RWs X.K μ H ((xs.map (·.1)).map tupS) (xs.map λx=>.ref x.2.1)):s.heap.DictOfH (Ĥ (SK X.prog X.w)) p xs:=by
 rw[S.P,S.w] at hp;obtain⟨⟨o,es,ep,g1,g2,g3,g4⟩,_⟩:=(show ObjOk X.prog X.w H s.heap p (.ext (af X.prog X.w p xs)) from I.hok p _ hp);refine⟨o,es,ep,g1,g2,g3,g4,λx hx=>?_,nd⟩;exact ar I (KA r x hx)
def GB(S:SamePW X cl)(hu:X.A.units+64<û):JH X (λo i v H Q=>∃μ h wo wi wv w h',HR X.K cl μ H h/\RW X.K μ H wo o/\RW X.K μ H wi i/\RW X.K μ H wv v/\tY wo wi wv h=À (w,h')/\∀d3 H',Ext μ H d3 H'->HR X.K cl d3 H' h'->Q H'):=by
 rintro ag s σ H o i v ov iv u Q I ro ri rv ⟨μ,h,wo,wi,wv,w,h',R,ao,ai,av,e,k⟩;have old:JD wo wi wv h=À (w,h')->Æ (Í X.prog X.w) X.A (setItem ov iv u) (λ_ s'=>∃H',Inv X ag σ H' s'/\Q H') X.xe s:=λe=>GD hu ag s σ H o i v ov iv u Q I ro ri rv ⟨μ,h,wo,wi,wv,w,h',R,ao,ai,av,e,k⟩
 unfold tY at e;split at e
 .rename_i n
  split at e
  .rename_i ks ho
   split at e
   .rename_i kk ek
    split at e
    .rename_i hl
     cases e;cases ao with | @ref _ p hn=>
     obtain⟨xs,hp,rfl,nd,ns,r⟩:=R.ob n p _ hn ho;have Tt:wi=tupS kk:=by
      cases wi with
      | tup l=>unfold tupS;rw[iU (show strsOf l=À kk from ek)]
      | _=>cases ek
     subst Tt;obtain⟨b,vs,rfl,sq,rs⟩:=(show RW X.K μ H (.tup (kk.map .str)) i from ai).tup_of;cases ro;cases ri;have hk:=ar I ai;have LA:xs.length<=Ð:=by rw[zH] at hl;rw[jB];omega
     refine wpAny_setItem_heap (knd:=Ĥ (SK X.prog X.w)) (hsz:=LA) (uo ∅) hk (KS S I hp nd r) λh2 dd hs=>?_
     obtain⟨o2,es,ep,g1,g2,g3,g4,_,_⟩:=dd;have E:Ext μ H μ (upd H p (.ext (af cl.P cl.w p (ń xs kk b u)))):=Ext.put hn;have td:af cl.P cl.w p (ń xs kk b u) h2:=by rw[S.P,S.w];exact⟨o2,es,ep,g1,g2,g3,g4⟩
     refine⟨_,iQ (ob:=.ext (af cl.P cl.w p (ń xs kk b u))) I (by rw[hp];exact õ) hs ⟨o2,g1⟩ (show ObjOk X.prog X.w _ h2 p (.ext (af cl.P cl.w p (ń xs kk b u))) from ⟨td,⟨o2,g1⟩,Zf⟩),k μ _ E (R.put hn ⟨_,jp,i8,mB nd,ns,?_⟩)⟩;exact(Jo r ai).ext R E
    .cases e
   .cases e
  .exact old e
 .cases e
def U9(S:SamePW X cl)(hu:X.A.units+64<û)(ho:SE X cl o mo)(hi:SE X cl i mi)
  (ha:∀v,ŀ (.Subscript o i pos) X.env v=(do
   let ov <-Đ [v] (å o X.env)
   let iv <-Đ [v,ov] (å i X.env)
   standAt pos
   Đ [v,ov,iv] (setItem ov iv v)
   release [v,ov,iv] [])):SG X cl (.Subscript o i pos) (rN mo mi):=
 PG.wk (Fh ho hi (GB S hu) ha) λv σ H Q ⟨μ,h,ρ,w,ρ',h',R,er,rv,e,k⟩=>by
  obtain⟨x,h1,e1,e⟩:=zD e;obtain⟨y,h2,e2,e⟩:=zD e;obtain⟨z,h3,e3,e⟩:=zD e;cases e;refine⟨μ,h,ρ,x,h1,R,er,e1,λcb H1 vx E1 R1 rx=>⟨cb,h1,ρ,y,h2,R1,er.ext R E1,e2,λgy H2 vy E2 R2 ry=>?_⟩⟩;refine⟨gy,h2,x,y,w,z,_,R2,rx.ext R1 E2,ry,(rv.ext R E1).ext R1 E2,e3,λAG H3 E3 R3=>?_⟩;exact k AG H3 σ (E1.trans (E2.trans E3)) R3 (((er.ext R E1).ext R1 E2).ext R2 E3)
def Bv(S:SamePW X cl):SE X cl (.Dict [] [] pos) mE:=by
 rintro ag s σ H Q I ⟨μ,h,ρ,w,h',R,er,e,k⟩;cases e;have hf:H s.heap.objs.size=Á:=I.hok.fresh (zr _);have td:af cl.P cl.w s.heap.objs.size [] (s.heap.push { cls:=.type "dict",data:=.dict #[] }):=CT _ _ _;refine wpAny_Dict_empty ⟨.ref s.heap.objs.size,_,I.laid (a:=s.heap.objs.size) (o:=.ext (af cl.P cl.w s.heap.objs.size [])) (t':=s.toks) (λ_ _ q=>zc _ q) (zr _) (show ObjOk X.prog X.w _ _ _ (.ext (af cl.P cl.w s.heap.objs.size [])) from ⟨td,⟨_,zE _ rfl⟩,Zf⟩),rfl,?_⟩;refine k _ _ _ (Ext.new hf) (R.new hf ⟨[],jp,rfl,.nil,jG.mpr (jq (zM I.big)),.nil⟩) (.ref ?_);rw[<-R.len];simp
def ZM(S:SamePW X cl)(hc:X.calm=Â):qo X (.builtin "sorted") (rMs X.K cl uk):=by
 rintro ag s σ H xs us Q I rs ⟨μ,h,ws,w,h',R,ax,e,k⟩;have old:fG ws h=À (w,h')->Æ (Í X.prog X.w) X.A (ķ (.builtin "sorted") us) (EP X ag σ Q) X.xe s:=λe=>Jn ag s σ H xs us Q I rs ⟨μ,h,ws,w,h',R,ax,e,k⟩
 unfold uk at e;split at e
 .rename_i n
  split at e
  .rename_i ks ho
   split at e
   .rename_i ok
    cases e;cases ax with | cons a1 a2=>
    cases a2;cases a1 with | @ref _ p hn=>
    cases rs with | cons r1 r2=>
    cases r2;cases r1;obtain⟨ys,hp,rfl,nd,ns,r⟩:=R.ob n p _ hn ho;have dd:=KS S I hp nd r;refine ZH (I.ok.hd hc) ns dd (by rw[zH] at ok;exact ok.1) (λx hx=>ok.2 x.1 (zK.mpr ⟨x,hx,rfl⟩)) λD L' m s' pe Ee ob le keep gg oo=>?_
    obtain⟨AN,g',d',t',EH⟩:=s';obtain rfl:g'=s.gens:=gg;obtain rfl:EH=s.os:=oo;have rr:∀q∈L',RW X.K μ H (tupS q.1) (.ref q.2):=λq hq=>by
     obtain⟨x,hx,rfl⟩:=zK.mp (pe.mem_iff.mp hq);exact KA r x hx
    obtain⟨q1,q2⟩:=mD rr;have I2:Inv X ag σ (upd H D (.lst (L'.map λp=>V.ref p.2))) { s with heap:=AN,toks:=t',drawn:=d' }:=Inv.draw (s:={ s with heap:=AN,toks:=t' }) (I.laid (t':=t') keep le ⟨by rw[zH,pe.length_eq,zH,jB];rw[zH] at ok;omega,_,m,q2,ob⟩);refine⟨.ref D,_,I2,rfl,?_⟩;rw[Ee] at q1;exact KQ.fls k R q1 (I.hok.fresh le)
   .cases e
  .exact old e
 .exact old e
end
noncomputable def mw(x:W)(ws:List W):M W:=λh=>match x,ws with
 | .tup l,[.str y]=>match strsOf l with
  | some ks=>match ks.findIdx? (· == y) with
   | some i=>À (.int (i:Nat),h)
   | none=>Á
  | none=>Á
 | _,_=>Á
noncomputable def Vg(f:W->List W->M W)(o:ME)(ms:List ME):ME:=λρ=>bnd (o ρ) λx h=>match x with
 | .tup _=>bnd (xp ms ρ) (λws=>f x ws) h
 | _=>Á
section
variable{prog:Ï}{w:Ñ}{A:Ø}{E:Ã->Å->Prop}{s:Å}
def VX{K:Type}[DecidableEq K]{knd:œ prog w K}{ks:List K}{vs:List Ã}(h:ItemsAre knd ks vs):ks.length=vs.length:=by
 induction h with
 | nil=>rfl
 | cons _ _ ih=>simp[ih]
def Yc{K:Type}[DecidableEq K]{knd:œ prog w K}{ks:List K}{vs:List Ã}(h:ItemsAre knd ks vs):∀(i:Nat) (h1:i<ks.length) (h2:i<vs.length),knd.is ks[i] vs[i]=Â:=by
 induction h with
 | nil=>intro i h1;simp at h1
 | cons a _ ih=>
  intro i h1 h2;cases i with
  | zero=>exact a
  | succ i=>exact ih i (by simpa using h1) (by simpa using h2)
def V3{its:List Ã}{ks:List È}(ht:Ő s.heap a its.toArray)(hi:ItemsAre (ř prog w) ks its)(hj:ks.findIdx? (· == y)=À j)
  (k:∀t',P (.done (.ret (.int (j:Nat) t'))) { s with toks:=s.toks+1 }):Æ (Í prog w) A (ç.«tuple.index» ⟨[.ref a,.str y t],[]⟩) P E s:=by
 unfold ç.«tuple.index»;refine za (show Æ _ _ (selfAndSome "tuple.index" "index" 1 3 ⟨[.ref a,.str y t],[]⟩) _ _ _ from zf ?_);dsimp only;refine ê (tupleItemsOf_ ht ?_);refine ê (wpAny_pure ?_);refine ê (wpAny_pure ?_);rw[Std.Legacy.Range.forIn_eq_forIn_range'];obtain⟨Ox,Tu,Tv⟩:=List.findIdx?_eq_some_iff_getElem.mp hj;have len:ks.length=its.length:=VX hi;refine za (v9 _ (λrest b s'=>b=(Á,())/\s'=s/\∃i,i<=j/\rest=List.range' i (its.length-i)) (λb s'=>∃t',b.1=À (.done (.ret (.int (j:Nat) t')))/\s'={ s with toks:=s.toks+1 }) ?turn ?fin _ _ ?start |> λh=>j6 h (?_) λ_ _ z=>z);rintro b s' ⟨t',e1,e2⟩
 case turn=>
  rintro x rest b s' ⟨rfl,rfl,i,A5,er⟩;have Pu:i<its.length:=by omega
  rw[show its.length-i=(its.length-i-1)+1 by omega,List.range'_succ] at er;obtain⟨rfl,rfl⟩:=uQ er;have e0:its.toArray[x]?=À its[x]:=by simp[Pu]
  rw[e0];dsimp only;have hx:(ř prog w).is (ks[x]'∅) its[x]=Â:=Yc hi x ∅ Pu;refine za ((ř prog w).eqBool hx (ŝ _ _ y t) ?_);by_cases q:ks[x]'∅=y
  .rw[kO q,zQ rfl]
   have xj:x=j:=by
    by_cases z:x=j
    .exact z
    .exfalso
     exact Tv x ∅ (by simp[q])
   subst xj;unfold retInt;refine za (za (wpAny_mkInt ?_));exact zf (zf ⟨_,rfl,rfl⟩)
  .rw[jj q,zW zU]
   refine zf ⟨rfl,rfl,x+1,?_,?_⟩
   .by_cases z:x=j
    .subst z
     exact absurd (eq_of_beq Tu) q
    .omega
   .congr 1
 case fin=>
  rintro b s' ⟨rfl,rfl,i,A5,er⟩;exfalso;have:(List.range' i (its.length-i)).length=0:=by rw[<-er];rfl
  rw[List.length_range'] at this;omega
 case start=>
  refine⟨rfl,rfl,0,jQ _,?_⟩;simp[Std.Legacy.Range.size]
 .rw[e1,e2]
  exact zf (k t')
end
section
variable{X:Cx}{cl:Cl}{o e:Î}{es:List Î}{mo:ME}{ms:List ME}{apos cpos:ė}
def Va:Z3 X "tuple.index" (rMm X.K cl mw):=by
 rintro ag s σ H x xs v us Q I rx rs ⟨μ,h,wx,ws,w,h',R,ax,as,e,k⟩;unfold mw at e;split at e
 .rename_i l y
  split at e
  .rename_i ks ek
   split at e
   .rename_i j hj
    cases e;have el:=iU ek;subst el;obtain⟨a,vs,rfl,sa,ra⟩:=ax.tup_of;cases rx;cases as with | cons r t=>cases t with | nil=>
    cases r.str_of;cases rs with | cons r1 r2=>
    cases r2;obtain⟨tk,rfl⟩:=r1;obtain⟨ob,items,n,g1,g2,g3,g4⟩:=ar I (show RW X.K μ H (tupS ks) (.ref a) from ax);refine jh F.slot_tuple_index ⟨ob,g1,g2⟩ F.entry_tuple_index (V3 (its:=items.toList) (by simpa using ⟨ob,g1,g2,n,g3⟩) g4 hj λt'=>⟨_,rfl,.int (j:Nat),H,I.tok _,⟨t',rfl⟩,k.pure R (.int _)⟩) (F.args_tuple_index_2 _ _)
   .cases e
  .cases e
 .cases e
def WG(ho:SE X cl o mo)(ha:SA X cl (e::es) ms)(Ah:↥(Ď o "index" X.env (å o X.env)=å o X.env))
  (A4:↥(((Þ cpos (Ê (e::es) X.env)).all (λx=>!x.1)&&(Ş cpos (ĭ [] X.env)).all (λx=>x.1.isSome)&&decide ((e::es).length+([]:List ĩ).length+(if ([]:List ĩ).isEmpty then 0 else 1)<30))=Â))
  (Ai:↥((apos.endLine==cpos.line)=Â)) (hs:↥(Ê (e::es) X.env=(Ä,å e X.env)::Ê es X.env)) (Al:↥((Þ cpos (Ê es X.env)).any (·.1)=Ä)):SE X cl (.Call (.Attribute o "index" apos) (e::es) [] cpos) (Vg mw mo ms):=by
 rintro ag s σ H Q I ⟨μ,h,ρ,w,h',R,er,q,k⟩;obtain⟨x,h1,e1,q⟩:=zD q;split at q
 .rename_i l
  obtain⟨ws,h2,e2,q⟩:=zD q;refine ţ Ah A4 Ai rfl (kg (ho ag s σ H (λv H1=>∃cb,Ext μ H cb H1/\HR X.K cl cb H1 h1/\RW X.K cb H1 (.tup l) v) I ⟨μ,h,ρ,_,h1,R,er,e1,λcb H1 v E1 R1 r=>⟨cb,E1,R1,r⟩⟩) ?_);rintro v s1 ⟨vx,H1,I1,r1,cb,E1,R1,rv⟩;obtain⟨a,vs,rfl,sa,ra⟩:=rv.tup_of;have Tw:=r1;cases r1;obtain⟨its,rr,ht,hz⟩:=I1.tuple sa;have nd:=I1.tupleD sa;refine⟨"tuple","tuple.index",F.plainAttrs_tuple,F.slot_tuple_index,F.type_tuple_index,ht.typeIs,λb z=>by cases z;exact nd,?_⟩;have hA:=ha cpos ag s1 σ H1 (λxs H2=>∃gy,Ext cb H1 gy H2/\HR X.K cl gy H2 h2/\RWs X.K gy H2 ws xs) I1 ⟨cb,h1,ρ,ws,h2,R1,er.ext R E1,e2,λgy H2 xs E2 R2 rs=>⟨gy,E2,R2,rs⟩⟩;rw[hs] at hA ⊢;refine wA (by show(Ä||(Þ cpos (Ê es X.env)).any (·.1))=Ä;rw[Al]<;>rfl) (xR (kg hA ?_));rintro us s2 ⟨xs,H2,I2,r2,gy,E2,R2,rs⟩;exact Va (cl:=cl) ag s2 σ H2 (.ref a) xs _ us Q I2 Tw r2 ⟨gy,h2,.tup l,ws,w,h',R2,rv.ext R1 E2,rs,q,k.ext (E1.trans E2)⟩
 .cases q
end
noncomputable def iN(E:Î->Option ME)(es:List Î):Option (List ME):=if es.all noStar=Â then qk E es else Á
noncomputable def x3(Γ:RC)(x:È):Bool:=Γ.bin.any (· == x)
noncomputable def tyOf(x:È):Option Ty:=if x=="int" then À .int else if x=="str" then À .str else if x=="bool" then À .bool else if x=="tuple" then À .tuple else if x=="list" then À .list else if x=="dict" then À .dict else Á
noncomputable def lE(mu:Bool)(x:È):Option (List W->M W):=
 if x=="len" then À kK else if x=="all" then À Zm else if x=="any" then À Ct else if x=="sum" then À iw
 else if x=="int" then À YI else if x=="str" then À WK else if x=="tuple" then À cf else if x=="dict" then À iO
 else if x=="sorted" then À uk
 else if x=="list" then (match mu with
  | true=>À Ju
  | false=>À JY)
 else Á
noncomputable def tN:List Î->Option Î
 | [.Call (.Name y _) [a] [] _]=>if y=="set" then À a else Á
 | _=>Á
noncomputable def nC:List Î->Option (Î×į×Î)
 | [.BinOp (.Call (.Name y _) [a] [] _) op (.Call (.Name z _) [b] [] _) _]=>if (y=="set" && z=="set")=Â then À (a,op,b) else Á
 | _=>Á
noncomputable def tJ(Γ:RC)(E:Î->Option ME)(x:È)(t:Î×į×Î):Option ME:=
 if (x=="sorted" && vF Γ.sc "set" && x3 Γ "set" && noStar t.1&&noStar t.2.2)=Â then (E t.1).bind λma=>(E t.2.2).bind λmb=>match t.2.1 with
  | .BitOr=>À (xl (λa b=>a++b) ma mb)
  | .BitAnd=>À (xl (λa b=>a.filter (b.contains ·)) ma mb)
  | _=>Á
 else Á
noncomputable def sM(Γ:RC):List Î->Option (Î×Ty)
 | [a,.Name y _]=>if (vF Γ.sc y&&x3 Γ y&&noStar a)=Â then (tyOf y).map λT=>(a,T) else Á
 | _=>Á
noncomputable def sd(Γ:RC)(E:Î->Option ME)(mu:Bool)(x:È)(as:List Î):Option ME:=
 if x=="isinstance" then (sM Γ as).bind λp=>(E p.1).map (wm (isW p.2))
 else match as with
  | []=>Á
  | _::_=>(lE mu x).bind λg=>(iN E as).map (ze g)
noncomputable def Zz(Γ:RC)(E:Î->Option ME)(mu:Bool)(x:È)(as:List Î):Option ME:=
 if vF Γ.sc x=Â then (match Γ.fns.lookup x with
  | some g=>(iN E as).map (ze g)
  | none=>if x3 Γ x=Â then (match tN as with
    | some a=>if (x=="len" && vF Γ.sc "set" && x3 Γ "set" && noStar a)=Â then (E a).map (wm l6) else if (x=="sorted" && vF Γ.sc "set" && x3 Γ "set" && noStar a)=Â then (E a).map (wm fz) else Á
    | none=>(match nC as with
     | some t=>tJ Γ E x t
     | none=>sd Γ E mu x as)) else Á) else Á
noncomputable def Jw(E:Î->Option ME)(o:Î)(m:È)(apos:ė)(as:List Î)(pos:ė):Option ME:=
 if (V9 o&&(apos.endLine==pos.line)&&as.all noStar&&decide (as.length<30))=Â then (E o).bind λmo=>match as with
  | []=>if m=="pop" then À (qE lW mo []) else Á
  | a::r=>if m=="append" then (qk E (a::r)).map (qE yn mo)
   else if m=="extend" then (qk E (a::r)).map (qE x6 mo)
   else if m=="index" then (qk E (a::r)).map (Vg mw mo)
   else if m=="get" then (match r with
    | [b]=>(E a).bind λma=>(E b).map (mY mo ma)
    | _=>Á)
   else Á
 else Á
section
variable{Γ:RC}{cl:Cl}{k:Nat}{X:Cx}{x:È}{m:ME}{pos p:ė}{E:Î->Option ME}{as:List Î}{mu:Bool}
theorem cn:∀{es:List Î} {ms:List ME},(∀e m,E e=À m->SE X cl e m)->es.all noStar=Â->qk E es=À ms->SA X cl es ms
 | [],ms,_,_,h=>by cases h;exact nA
 | e::es,ms,hE,hn,h=>by
  obtain⟨m,ms',h1,h2,rfl⟩:=gX h;rw[j4,zu] at hn;exact fC (hE _ _ h1) (cn hE hn.2 h2) (ky hn.1)
def d8{es:List Î}(hE:∀e m,E e=À m->SE X cl e m)(h:iN E es=À ms):es.all noStar=Â/\SA X cl es ms:=by
 unfold iN at h;split at h
 .rename_i hn
  exact⟨hn,cn hE hn h⟩
 .cases h
def w9(F:Fits Γ cl k X)(h:x3 Γ x=Â):X.mg x=Á:=by
 unfold x3 at h;obtain⟨y,hy,e⟩:=yC.mp h;rw[<-eq_of_beq e];exact F.base.bin.at hy
def UI{T:Ty}(h:tyOf x=À T):Ù x=À (.type T.name):=by
 unfold tyOf at h;split at h
 .rename_i q;rw[eq_of_beq q];cases h;exact Kf
 split at h
 .rename_i q;rw[eq_of_beq q];cases h;exact Kq
 split at h
 .rename_i q;rw[eq_of_beq q];cases h;exact Wu
 split at h
 .rename_i q;rw[eq_of_beq q];cases h;exact rB
 split at h
 .rename_i q;rw[eq_of_beq q];cases h;exact lY
 split at h
 .rename_i q;rw[eq_of_beq q];cases h;exact sJ
 .cases h
def ZR(F:Fits Γ cl k X)(hg:vF Γ.sc x=Â)(hb:x3 Γ x=Â)(h:lE mu x=À g)(hn:(e::es).all noStar=Â)(ha:SA X cl (e::es) ms):SE X cl (.Call (.Name x p) (e::es) [] pos) (ze g ms):=by
 have hm:=w9 F hb;rw[j4,zu] at hn;have h1:=ky (es:=es) (env:=X.env) hn.1;have h2:=jI (pos:=pos) (env:=X.env) hn.2;unfold lE at h;split at h
 .rename_i q;have q:=eq_of_beq q;subst q;cases h;exact QS hg Vc hm PySem.boot_len ha F.sc h1 h2
 split at h
 .rename_i q;have q:=eq_of_beq q;subst q;cases h;exact QS hg (We F.calm) hm ML.boot_all ha F.sc h1 h2
 split at h
 .rename_i q;have q:=eq_of_beq q;subst q;cases h;exact QS hg (Ve F.calm) hm ML.boot_any ha F.sc h1 h2
 split at h
 .rename_i q;have q:=eq_of_beq q;subst q;cases h;exact QS hg (Qq F.calm) hm ML.boot_sum ha F.sc h1 h2
 split at h
 .rename_i q;have q:=eq_of_beq q;subst q;cases h;exact Ky hg VN hm Kf ha F.sc h1 h2
 split at h
 .rename_i q;have q:=eq_of_beq q;subst q;cases h;exact Ky hg V1 hm Kq ha F.sc h1 h2
 split at h
 .rename_i q;have q:=eq_of_beq q;subst q;cases h;exact Ky hg ZO hm rB ha F.sc h1 h2
 split at h
 .rename_i q;have q:=eq_of_beq q;subst q;cases h;exact Ky hg (Jx F.calm) hm sJ ha F.sc h1 h2
 split at h
 .rename_i q;have q:=eq_of_beq q;subst q;cases h;exact QS hg (ZM ⟨F.base.pw.1,F.base.pw.2⟩ F.calm) hm yj ha F.sc h1 h2
 split at h
 .rename_i q
  have q:=eq_of_beq q;subst q;split at h
  .cases h;exact Ky hg JQ hm lY ha F.sc h1 h2
  .cases h;exact Ky hg JE hm lY ha F.sc h1 h2
 .cases h
def Vz(h:sM Γ as=À (a,T)):∃y p2,as=[a,.Name y p2]/\vF Γ.sc y=Â/\x3 Γ y=Â/\noStar a=Â/\tyOf y=À T:=by
 unfold sM at h;split at h
 .rename_i a' y p2
  split at h
  .rename_i q
   rw[zg] at h;obtain⟨T',e,z⟩:=h;cases z;erw[zu] at q;exact⟨y,p2,rfl,q.1.1,q.1.2,q.2,e⟩
  .cases h
 .cases h
def VJ(F:Fits Γ cl k X)(hE:∀e m,E e=À m->SE X cl e m)(hg:vF Γ.sc x=Â)(hb:x3 Γ x=Â)(h:sd Γ E mu x as=À m):SE X cl (.Call (.Name x p) as [] pos) m:=by
 unfold sd at h;split at h
 .rename_i q
  have q:=eq_of_beq q;subst q;rw[zm] at h;obtain⟨⟨a,T⟩,e,h⟩:=h;rw[zg] at h;obtain⟨ma,e2,rfl⟩:=h;obtain⟨y,p2,rfl,g2,b2,ns,ty⟩:=Vz e;exact GY T hg g2 (hE _ _ e2) (w9 F hb) (w9 F b2) (UI ty) F.sc (ky ns) (ky rfl) (jI rfl)
 .split at h
  .cases h
  .rw[zm] at h
   obtain⟨g,e,h⟩:=h;rw[zg] at h;obtain⟨ms,e2,rfl⟩:=h;obtain⟨hn,ha⟩:=d8 hE e2;exact ZR F hg hb e hn ha
def oQ(h:tN as=À a):∃p2 p3,as=[.Call (.Name "set" p2) [a] [] p3]:=by
 unfold tN at h;split at h
 .rename_i y p2 a' p3
  split at h
  .rename_i q
   cases h;rw[eq_of_beq q];exact⟨p2,p3,rfl⟩
  .cases h
 .cases h
def Wb{t:Î×į×Î}(h:nC as=À t):∃p2 p3 p4 p5 p6,as=[.BinOp (.Call (.Name "set" p2) [t.1] [] p3) t.2.1 (.Call (.Name "set" p4) [t.2.2] [] p5) p6]:=by
 unfold nC at h;split at h
 .rename_i y p2 a p3 op z p4 b p5 p6
  split at h
  .rename_i q
   cases h;have q':=ju.mp q;rw[eq_of_beq q'.1,eq_of_beq q'.2];exact⟨p2,p3,p4,p5,p6,rfl⟩
  .cases h
 .cases h
def QZ(F:Fits Γ cl k X)(hE:∀e m,E e=À m->SE X cl e m)(hg:vF Γ.sc x=Â)(hb:x3 Γ x=Â)(e:nC as=À t)(h:tJ Γ E x t=À m):SE X cl (.Call (.Name x p) as [] pos) m:=by
 obtain⟨p2,p3,p4,p5,p6,rfl⟩:=Wb e;obtain⟨a,op,b⟩:=t;unfold tJ at h;split at h
 .rename_i q
  erw[zu] at q;obtain⟨⟨⟨⟨q1,q2⟩,q3⟩,q4⟩,q5⟩:=q;obtain⟨ma,e1,h⟩:=zm.mp h;obtain⟨mb,e2,h⟩:=zm.mp h;have hx:=eq_of_beq q1;subst hx;split at h
  .rename_i z
   cases h;have z:op=.BitOr:=z;subst z;exact rF Gi (λka kb y=>zF) F.calm F.room.units (w9 F hb) (w9 F q3) (hE _ _ e1) (hE _ _ e2) (kQ hg F.sc).1 (kQ q2 F.sc).1 (ky q4) (ky q5) (λ_=>jI rfl) (ky rfl)
  .rename_i z
   cases h;have z:op=.BitAnd:=z;subst z;exact rF CD (λka kb y=>by simp[jd]) F.calm F.room.units (w9 F hb) (w9 F q3) (hE _ _ e1) (hE _ _ e2) (kQ hg F.sc).1 (kQ q2 F.sc).1 (ky q4) (ky q5) (λ_=>jI rfl) (ky rfl)
  .cases h
 .cases h
def Vw(F:Fits Γ cl k X)(hE:∀e m,E e=À m->SE X cl e m)(h:Zz Γ E mu x as=À m):SE X cl (.Call (.Name x p) as [] pos) m:=by
 unfold Zz at h;split at h
 .rename_i hg
  split at h
  .rename_i g e
   rw[zg] at h;obtain⟨ms,e2,rfl⟩:=h;obtain⟨hn,ha⟩:=d8 hE e2;obtain⟨f,fd,ps,fo,hm,hk,hb⟩:=F.base.fns.at e;cases as with
   | nil=>
    have:ms=[]:=by
     cases e2;rfl
    subst this;exact HF hg fo F.room hm hk hb F.sc
   | cons a r=>
    rw[j4,zu] at hn;exact c_ hg fo F.room hm hk hb ha F.sc (ky hn.1) (jI hn.2)
  .split at h
   .rename_i hb
    split at h
    .rename_i a e
     split at h
     .rename_i q
      erw[zu] at q;rw[zg] at h;obtain⟨ma,e2,rfl⟩:=h;obtain⟨p2,p3,rfl⟩:=oQ e;have hx:=eq_of_beq q.1.1.1;subst hx;exact FU hg q.1.1.2 F.calm (w9 F hb) (w9 F q.1.2) (hE _ _ e2) F.sc (ky q.2) (jI rfl) (ky rfl) (jI rfl)
     .split at h
      .rename_i q
       erw[zu] at q;rw[zg] at h;obtain⟨ma,e2,rfl⟩:=h;obtain⟨p2,p3,rfl⟩:=oQ e;have hx:=eq_of_beq q.1.1.1;subst hx;exact K8 F.calm F.room.units (w9 F hb) (w9 F q.1.2) (hE _ _ e2) (kQ hg F.sc).1 (kQ q.1.1.2 F.sc).1 (ky q.2) (jI rfl) (ky rfl) (jI rfl)
      .cases h
    .split at h
     .rename_i t e
      exact QZ F hE hg hb e h
     .exact VJ F hE hg hb h
   .cases h
 .cases h
def Yu(F:Fits Γ cl k X)(hE:∀e m,E e=À m->SE X cl e m)(h:Jw E o nm apos as pos=À m):SE X cl (.Call (.Attribute o nm apos) as [] pos) m:=by
 unfold Jw at h;split at h
 .rename_i q
  erw[zu] at q;obtain⟨⟨⟨q1,q2⟩,q3⟩,q4⟩:=q;rw[zm] at h;obtain⟨mo,eo,h⟩:=h;split at h
  .split at h
   .rename_i z
    rw[eq_of_beq z];cases h;exact B1 (hE _ _ eo) (fu q1) q2
   .cases h
  .rename_i a r
   have hn:=q3;rw[j4,zu] at hn;split at h
   .rename_i z
    rw[eq_of_beq z];rw[zg] at h;obtain⟨ms,e2,rfl⟩:=h;exact Qn (hE _ _ eo) (cn hE q3 e2) (fu q1) (mH q3 q4) q2 (ky hn.1) (jI hn.2)
   split at h
   .rename_i z
    rw[eq_of_beq z];rw[zg] at h;obtain⟨ms,e2,rfl⟩:=h;exact QW (hE _ _ eo) (cn hE q3 e2) (fu q1) (mH q3 q4) q2 (ky hn.1) (jI hn.2)
   split at h
   .rename_i z
    rw[eq_of_beq z];rw[zg] at h;obtain⟨ms,e2,rfl⟩:=h;exact WG (hE _ _ eo) (cn hE q3 e2) (fu q1) (mH q3 q4) q2 (ky hn.1) (jI hn.2)
   split at h
   .rename_i z
    rw[eq_of_beq z];split at h
    .rename_i b
     rw[zm] at h;obtain⟨ma,e1,h⟩:=h;rw[zg] at h;obtain⟨mb,e2,rfl⟩:=h;have hb:noStar b=Â:=by simpa using hn.2
     exact WX F.room.units (hE _ _ eo) (hE _ _ e1) (hE _ _ e2) ⟨fu q1,mH q3 q4,q2,by rw[eO hn.1,eO hb,fP];rfl⟩
    .cases h
   .cases h
 .cases h
end
noncomputable def VM(Γ:RC):Î->Bool
 | .Constant (.str _) _ _=>Â
 | .Name x _=>Γ.txt.any (· == x)
 | _=>Ä
noncomputable def Xq(Γ:RC):Î->Bool
 | .Subscript e (.Slice _ _ _ _) _=>VM Γ e
 | e=>VM Γ e
noncomputable def isTup:Î->Bool
 | .Tuple ..=>Â
 | _=>Ä
noncomputable def sx(Γ:RC)(E:Î->Option ME)(tg:Î)(x:È)(as:List Î):Option MI:=
 if (vF Γ.sc x&&x3 Γ x&&as.all noStar)=Â then (match as with
  | [e]=>if x=="range" then (E e).map λm=>cy [m]
   else if (x=="enumerate" && isTup tg)=Â then (E e).map λm=>yk [m]
   else Á
  | [e,e2]=>if (x=="zip" && isTup tg)=Â then (E e).bind λm=>(E e2).map λm2=>be [m,m2] else Á
  | _=>Á) else Á
noncomputable def Vt(Γ:RC)(E:Î->Option ME)(tg:Î):Î->Option MI
 | .Call (.Name x _) as [] _=>sx Γ E tg x as
 | _=>Á
noncomputable def rO(Γ:RC)(E:Î->Option ME)(tg it:Î):Option MI:=match Vt Γ E tg it with
 | some m=>À m
 | none=>(E it).map λm=>match Xq Γ it with
  | true=>nZ m
  | false=>kF m
section
variable{Γ:RC}{cl:Cl}{k:Nat}{X:Cx}{x:È}{pos p:ė}{E:Î->Option ME}{as:List Î}{tg it:Î}{mi:MI}
def tE(h:isTup tg=Â):∃es n tp,tg=.Tuple es n tp:=by
 unfold isTup at h;split at h
 .exact⟨_,_,_,rfl⟩
 .cases h
def VI(F:Fits Γ cl k X)(hE:∀e m,E e=À m->SE X cl e m)(h:sx Γ E tg x as=À mi):SI X cl tg (.Call (.Name x p) as [] pos) mi:=by
 unfold sx at h;split at h
 .rename_i q
  erw[zu] at q;obtain⟨⟨q1,q2⟩,q3⟩:=q;split at h
  .rename_i e
   have hn:noStar e=Â:=by simpa using q3
   split at h
   .rename_i z
    have z:=eq_of_beq z;subst z;rw[zg] at h;obtain⟨m,e1,rfl⟩:=h;exact GZ q1 (w9 F q2) (fC (hE _ _ e1) nA (ky hn)) F.sc (by rw[ky hn,fP])
   split at h
   .rename_i z
    rw[zu] at z;obtain⟨es,n,tp,rfl⟩:=tE z.2;have z:=eq_of_beq z.1;subst z;rw[zg] at h;obtain⟨m,e1,rfl⟩:=h;exact Hs q1 (w9 F q2) (fC (hE _ _ e1) nA (ky hn)) F.sc (ky hn) (jI rfl)
   .cases h
  .rename_i e e2
   rw[j4,zu] at q3;have IZ:noStar e2=Â:=by simpa using q3.2
   split at h
   .rename_i z
    rw[zu] at z;obtain⟨es,n,tp,rfl⟩:=tE z.2;have z:=eq_of_beq z.1;subst z;rw[zm] at h;obtain⟨m,e1,h⟩:=h;rw[zg] at h;obtain⟨m2,e3,rfl⟩:=h;exact GV q1 (w9 F q2) (fC (hE _ _ e1) (fC (hE _ _ e3) nA (ky IZ)) (ky q3.1)) F.sc (ky q3.1) (jI q3.2)
   .cases h
  .cases h
 .cases h
def sY(F:Fits Γ cl k X)(hE:∀e m,E e=À m->SE X cl e m)(h:rO Γ E tg it=À mi):SI X cl tg it mi:=by
 unfold rO at h;split at h
 .rename_i m e
  cases h;unfold Vt at e;split at e
  .exact VI F hE e
  .cases e
 .rw[zg] at h
  obtain⟨m,e1,h⟩:=h;cases q:Xq Γ it with
  | true=>rw[q] at h;subst h;exact DR (hE _ _ e1)
  | false=>rw[q] at h;subst h;exact D3 (hE _ _ e1)
end
noncomputable def Zq(T:Î->Option MT):List Î->Option MT
 | []=>À qB
 | [c]=>T c
 | _=>Á
structure CompR where
 mi:MI
 nl:Nat
 ks:List Nat
 g:MG
 t:MT
 m:ME
noncomputable def RC.inner(Γ:RC)(scope:î)(N':List È):RC:={ Γ with sc:=gZ Γ.sc scope,N:=N',inC:=Â }
noncomputable def Qp(Γ:RC)(E:RC->Bool->Î->Option ME)(T:RC->Î->Option MT)(elt tg it:Î)(ifs:List Î)(scope:î)(N':List È):Option CompR:=
 if (rW it&&Zl N')=Â then (qk (λx=>nH x Γ.N) (N'.drop (Cq tg))).bind λks=>
  if uj Γ.sc Γ.N scope N' (Cq tg) ks=Â then (rO Γ (E Γ Ä) tg it).bind λmi=>(Vn (Γ.inner scope N') tg).bind λg=>(Zq (T (Γ.inner scope N')) ifs).bind λt=>(E (Γ.inner scope N') Ä elt).map λm=>⟨mi,Cq tg,ks,g,t,m⟩
  else Á
 else Á
noncomputable def rR(Γ:RC)(E:RC->Bool->Î->Option ME)(T:RC->Î->Option MT)(elt:Î)(gens:List Comprehension)(scope:î)(pos:ė):Option CompR:=match gens with
 | [⟨tg,it,ifs,ia⟩]=>match Γ.cmp.lookup (pos.line,pos.col) with
  | some N'=>if ia=0 then Qp Γ E T elt tg it ifs scope N' else Á
  | none=>Á
 | _=>Á
section
variable{Γ:RC}{cl:Cl}{k:Nat}{X:Cx}{E:RC->Bool->Î->Option ME}{T:RC->Î->Option MT}{elt:Î}{gens:List Comprehension}{scope:î}{pos:ė}{r:CompR}
theorem Fits.inner(F:Fits Γ cl k X){N':List È}(hN:N'.Nodup)(hk:scope.kind=.function)(cs:List (È×Ç))(C:Ç)(s₀:Å)(H₀:Hp)(ex:List Ç):Fits (Γ.inner scope N') cl k (vt X scope cs C N' s₀ H₀ ex) where
 sc:=by
  show relabel scope X.env=gZ Γ.sc scope
  rw[<-F.sc];rfl
 N:=rfl
 nd:=hN
 fn:=λh=>by cases h
 kind:=hk
 calm:=F.calm
 pass:=yX
 room:=F.room
 base:=⟨F.base.fns,F.base.con,F.base.tab,F.base.bin,F.base.pw⟩
def VR(hT:∀e m,t e=À m->ST X cl e m)(h:Zq t ifs=À m):gR X cl ifs m:=by
 unfold Zq at h;split at h
 .cases h;exact Bm
 .exact U0 (hT _ _ h)
 .cases h
structure CompG(X:Cx)(cl:Cl)(elt:Î)(gens:List Comprehension)(scope:î)(r:CompR):Prop where
 ex:∃tg it ifs N',gens=[⟨tg,it,ifs,0⟩]/\uj X.env.scope X.N scope N' r.nl r.ks=Â/\rW it=Â/\SI X cl tg it r.mi/\(∀cs C s₀ H₀ ex,SG (vt X scope cs C N' s₀ H₀ ex) cl tg r.g)/\(∀cs C s₀ H₀ ex,gR (vt X scope cs C N' s₀ H₀ ex) cl ifs r.t)/\∀cs C s₀ H₀ ex,SE (vt X scope cs C N' s₀ H₀ ex) cl elt r.m
def sS(F:Fits Γ cl k X)(hE:∀Γ X,Fits Γ cl k X->∀mu e m,E Γ mu e=À m->SE X cl e m)(hT:∀Γ X,Fits Γ cl k X->∀e m,T Γ e=À m->ST X cl e m)(h:rR Γ E T elt gens scope pos=À r):CompG X cl elt gens scope r:=by
 unfold rR at h;split at h
 .rename_i tg it ifs ia
  split at h
  .rename_i N' _
   split at h
   .rename_i z
    subst z;unfold Qp at h;split at h
    .rename_i q
     rw[zu] at q;rw[zm] at h;obtain⟨ks,e1,h⟩:=h;split at h
     .rename_i ok
      rw[zm] at h;obtain⟨mi,e2,h⟩:=h;rw[zm] at h;obtain⟨g,e3,h⟩:=h;rw[zm] at h;obtain⟨t,e4,h⟩:=h;rw[zg] at h;obtain⟨m,e5,rfl⟩:=h;have Fi:=λcs C s₀ H₀ ex=>F.inner (scope:=scope) (Xg q.2) (cp ok).kind cs C s₀ H₀ ex
      exact⟨tg,it,ifs,N',rfl,by rw[F.sc,F.N];exact ok,q.1,sY F (hE _ _ F Ä) e2,λcs C s₀ H₀ ex=>sg (Fi cs C s₀ H₀ ex) e3,λcs C s₀ H₀ ex=>VR (hT _ _ (Fi cs C s₀ H₀ ex)) e4,λcs C s₀ H₀ ex=>hE _ _ (Fi cs C s₀ H₀ ex) _ _ _ e5⟩
     .cases h
    .cases h
   .cases h
  .cases h
 .cases h
end
noncomputable def tabOf(Γ:RC):CmpOp->Î->Option (Bool×List (È×W))
 | .In,.Name x _=>if vF Γ.sc x=Â then (Γ.tab.lookup x).map λl=>(Ä,l) else Á
 | .NotIn,.Name x _=>if vF Γ.sc x=Â then (Γ.tab.lookup x).map λl=>(Â,l) else Á
 | _,_=>Á
noncomputable def JA(Γ:RC)(E:Î->Option ME)(a:Î)(op:CmpOp)(b:Î):Option ME:=match tabOf Γ op b with
 | some p=>(E a).map (wm (tabIn p.1 p.2))
 | none=>if ë op b=Â then Á else (XD op).bind λf=>(E a).bind λma=>(E b).map λmb=>zh f ma mb
noncomputable def J2(E:Î->Option ME)(a:Î)(op AD:CmpOp)(b c:Î):Option ME:=
 if lastMarks [op,AD] [b,c]=Â then Á else (XD op).bind λf=>(XD AD).bind λg=>(E a).bind λma=>(E b).bind λmb=>(E c).map λmc=>gL f g ma mb mc
noncomputable def J0(Γ:RC)(E:Î->Option ME)(a:Î)(ops:List CmpOp)(bs:List Î):Option ME:=match ops,bs with
 | [op],[b]=>JA Γ E a op b
 | [op,AD],[b,c]=>J2 E a op AD b c
 | _,_=>Á
noncomputable def nQ(E:Î->Option ME):Option Î->Option (Option ME)
 | none=>À Á
 | some e=>(E e).map À
noncomputable def Zc(E:Î->Option ME)(ma:ME)(lo hi st:Option Î):Option ME:=match st with
 | none=>(nQ E lo).bind λml=>(nQ E hi).map λmh=>cq ma ml mh
 | some (.UnaryOp .USub (.Constant (.int i) _ _) _)=>match lo,hi with
  | none,Á=>if i=1 then À (wm Yx ma) else Á
  | _,_=>Á
 | _=>Á
noncomputable def nR(Γ:RC)(E:Î->Option ME)(a b:Î):Option ME:=match a with
 | .Name x _=>if (vF Γ.sc x&&iz b)=Â then (match Γ.tab.lookup x with
  | some l=>(E b).map (wm (fH l))
  | none=>Á) else Á
 | _=>Á
noncomputable def Jb(Γ:RC)(E:Î->Option ME)(a b:Î):Option ME:=match nR Γ E a b with
 | some m=>À m
 | none=>(E a).bind λma=>match b with
  | .Slice lo hi st _=>Zc E ma lo hi st
  | b=>(E b).map (zh zC ma)
noncomputable def JW(Γ:RC)(E:Î->Option ME)(a b:Î):Bool->Option ME
 | false=>Jb Γ E a b
 | true=>match b with
  | .Slice lo hi Á _=>(E a).bind λma=>(nQ E lo).bind λml=>(nQ E hi).map λmh=>Dv ma ml mh
  | b=>Jb Γ E a b
noncomputable def nv(op:BoolOp)(E:Î->Option ME):List Î->Option ME
 | []=>Á
 | [a]=>E a
 | a::r=>(E a).bind λma=>(nv op E r).map λmb=>match op with
  | .And=>Ji ma mb
  | .Or=>Dq ma mb
noncomputable def mO(op:BoolOp)(T:Î->Option MT):List Î->Option MT
 | []=>Á
 | [a]=>T a
 | a::r=>(T a).bind λma=>(mO op T r).map λmb=>match op with
  | .And=>iD ma mb
  | .Or=>ac ma mb
noncomputable def d7(E:Î->Option ME):List (Option Î)->List Î->Option (List (ME×ME))
 | [],[]=>À []
 | some a::ks,b::vs=>(E a).bind λma=>(E b).bind λmb=>(d7 E ks vs).map λr=>(ma,mb)::r
 | _,_=>Á
noncomputable def JX(E:Î->Option ME)(mu:Bool)(ks:List (Option Î))(vs:List Î):Option ME:=match ks,vs with
 | [],[]=>match mu with
  | true=>À XU
  | false=>À (eC (.fdc []))
 | k::ks,v::vs=>if decide (ks.length<15)=Â then (d7 E (k::ks) (v::vs)).map Jj else Á
 | _,_=>Á
noncomputable def mF(mu:Bool)(r:CompR):ME:=match mu with
 | true=>gU r.mi r.nl r.ks r.g r.t r.m
 | false=>kA r.mi r.nl r.ks r.g r.t r.m
noncomputable def K7(E:RC->Bool->Î->Option ME)(T:RC->Î->Option MT)(Γ:RC)(mu:Bool):Î->Option ME
 | .Name x _=>JZ Γ x
 | .Constant c _ _=>tj c
 | .UnaryOp .Not a _=>(E Γ Ä a).map YY
 | .UnaryOp .USub a _=>(E Γ Ä a).map (wm nO)
 | .BinOp a op b _=>(B4 mu op).bind λf=>(E Γ Ä a).bind λma=>(E Γ Ä b).map (zh f ma)
 | .Compare a ops bs _=>J0 Γ (E Γ Ä) a ops bs
 | .BoolOp op vs _=>nv op (E Γ Ä) vs
 | .IfExp t a b _=>(T Γ t).bind λmt=>(E Γ Ä a).bind λma=>(E Γ Ä b).map (Xf mt ma)
 | .Tuple es _ _=>(iN (E Γ Ä) es).map (ze zo)
 | .List es _=>(iN (E Γ Ä) es).map (match mu with
  | true=>ze dP
  | false=>ze kH)
 | .Dict ks vs _=>JX (E Γ Ä) mu ks vs
 | .Subscript a b _=>JW Γ (E Γ Ä) a b mu
 | .Call (.Name x _) as [] _=>Zz Γ (E Γ Ä) mu x as
 | .Call (.Attribute o nm apos) as [] pos=>Jw (E Γ Ä) o nm apos as pos
 | .ListComp elt gens scope pos=>(rR Γ E T elt gens scope pos).map (mF mu)
 | _=>Á
noncomputable def stepT(E:RC->Bool->Î->Option ME)(T:RC->Î->Option MT)(Γ:RC):Î->Option MT
 | .BoolOp op vs _=>mO op (T Γ) vs
 | .UnaryOp .Not a _=>(T Γ a).map yi
 | .Compare a ops bs _=>(J0 Γ (E Γ Ä) a ops bs).map zS
 | e=>if plainT e=Â then (E Γ Ä e).map zS else Á
noncomputable def pk:Nat->(RC->Bool->Î->Option ME)×(RC->Î->Option MT)
 | 0=>(λ_ _ _=>Á,λ_ _=>Á)
 | n+1=>(K7 (pk n).1 (pk n).2,stepT (pk n).1 (pk n).2)
section
variable{Γ:RC}{cl:Cl}{k:Nat}{X:Cx}{m:ME}{pos p:ė}{E:Î->Option ME}{T:Î->Option MT}{a b:Î}{mu:Bool}
def Yr(F:Fits Γ cl k X)(hE:∀e m,E e=À m->SE X cl e m)(h:JA Γ E a op b=À m):SE X cl (.Compare a [op] [b] pos) m/\ST X cl (.Compare a [op] [b] pos) (zS m):=by
 unfold JA at h;split at h
 .rename_i q e
  rw[zg] at h;obtain⟨ma,e1,rfl⟩:=h;unfold tabOf at e;split at e
  .split at e
   .rename_i hg
    rw[zg] at e;obtain⟨l,e2,rfl⟩:=e;exact⟨HE hg F.room.units (F.base.tab.at e2) (hE _ _ e1) F.sc,Hi hg F.room.units (F.base.tab.at e2) (hE _ _ e1) F.sc⟩
   .cases e
  .split at e
   .rename_i hg
    rw[zg] at e;obtain⟨l,e2,rfl⟩:=e;exact⟨HN hg F.room.units (F.base.tab.at e2) (hE _ _ e1) F.sc,G3 hg F.room.units (F.base.tab.at e2) (hE _ _ e1) F.sc⟩
   .cases e
  .cases e
 .split at h
  .cases h
  .rename_i hm
   rw[Bool.not_eq_true] at hm;rw[zm] at h;obtain⟨f,e0,h⟩:=h;rw[zm] at h;obtain⟨ma,e1,h⟩:=h;rw[zg] at h;obtain⟨mb,e2,rfl⟩:=h;exact⟨Cv (fN F.room.units e0) (hE _ _ e1) (hE _ _ e2) hm,DT (fN F.room.units e0) (hE _ _ e1) (hE _ _ e2) hm⟩
def WA(F:Fits Γ cl k X)(hE:∀e m,E e=À m->SE X cl e m)(h:J2 E a op AD b c=À m):SE X cl (.Compare a [op,AD] [b,c] pos) m/\ST X cl (.Compare a [op,AD] [b,c] pos) (zS m):=by
 unfold J2 at h;split at h
 .cases h
 .rename_i hm
  rw[Bool.not_eq_true] at hm;rw[zm] at h;obtain⟨f,e0,h⟩:=h;rw[zm] at h;obtain⟨g,Pv,h⟩:=h;rw[zm] at h;obtain⟨ma,e1,h⟩:=h;rw[zm] at h;obtain⟨mb,e2,h⟩:=h;rw[zg] at h;obtain⟨mc,e3,rfl⟩:=h;exact⟨Yk (fN F.room.units e0) (fN F.room.units Pv) (hE _ _ e1) (hE _ _ e2) (hE _ _ e3) hm,YZ (fN F.room.units e0) (fN F.room.units Pv) (hE _ _ e1) (hE _ _ e2) (hE _ _ e3) hm⟩
def ZZ{bs:List Î}(F:Fits Γ cl k X)(hE:∀e m,E e=À m->SE X cl e m)(h:J0 Γ E a ops bs=À m):SE X cl (.Compare a ops bs pos) m/\ST X cl (.Compare a ops bs pos) (zS m):=by
 unfold J0 at h;split at h
 .exact Yr F hE h
 .exact WA F hE h
 .cases h
def iG(hE:∀e m,E e=À m->SE X cl e m)(h:nQ E o=À mo):SO X cl o mo:=by
 unfold nQ at h;split at h
 .cases h;exact UU
 .rw[zg] at h
  obtain⟨m,e1,rfl⟩:=h;exact UY (hE _ _ e1)
def Qf{ma:ME}{lo hi st:Option Î}(hE:∀e m,E e=À m->SE X cl e m)(ha:SE X cl a ma)(h:Zc E ma lo hi st=À m):SE X cl (.Subscript a (.Slice lo hi st p) pos) m:=by
 unfold Zc at h;split at h
 .rw[zm] at h
  obtain⟨ml,e1,h⟩:=h;rw[zg] at h;obtain⟨mh,e2,rfl⟩:=h;exact F3 ha (iG hE e1) (iG hE e2)
 .split at h
  .split at h
   .rename_i z
    subst z;cases h;exact FJ ha
   .cases h
  .cases h
 .cases h
def K0(F:Fits Γ cl k X)(hE:∀e m,E e=À m->SE X cl e m)(h:nR Γ E a b=À m):SE X cl (.Subscript a b pos) m:=by
 unfold nR at h;split at h
 .split at h
  .rename_i q
   rw[zu] at q;split at h
   .rename_i l e
    rw[zg] at h;obtain⟨mb,e1,rfl⟩:=h;exact HZ q.1 F.room.units (F.base.tab.at e) (hE _ _ e1) F.sc (XW q.2)
   .cases h
  .cases h
 .cases h
def Z7(F:Fits Γ cl k X)(hE:∀e m,E e=À m->SE X cl e m)(h:Jb Γ E a b=À m):SE X cl (.Subscript a b pos) m:=by
 unfold Jb at h;split at h
 .rename_i m' e
  cases h;exact K0 F hE e
 .rw[zm] at h
  obtain⟨ma,e1,h⟩:=h;split at h
  .exact Qf hE (hE _ _ e1) h
  .rename_i hb
   rw[zg] at h;obtain⟨mb,e2,rfl⟩:=h;refine GI (hE _ _ e1) (hE _ _ e2) (XW ?_);cases b<;>first | rfl | exact absurd rfl (hb _ _ _ _)
def WP(F:Fits Γ cl k X)(hE:∀e m,E e=À m->SE X cl e m)(h:JW Γ E a b mu=À m):SE X cl (.Subscript a b pos) m:=by
 unfold JW at h;split at h
 .exact Z7 F hE h
 .split at h
  .rw[zm] at h
   obtain⟨ma,e0,h⟩:=h;rw[zm] at h;obtain⟨ml,e1,h⟩:=h;rw[zg] at h;obtain⟨mh,e2,rfl⟩:=h;exact Fo (hE _ _ e0) (iG hE e1) (iG hE e2)
  .exact Z7 F hE h
theorem oD(hE:∀e m,E e=À m->SE X cl e m):∀{vs:List Î} {m:ME},nv op E vs=À m->SE X cl (.BoolOp op vs pos) m
 | [],m,h=>by cases h
 | [a],m,h=>Ci (hE _ _ h)
 | a::b::r,m,h=>by
  unfold nv at h;rw[zm] at h;obtain⟨ma,e1,h⟩:=h;rw[zg] at h;obtain⟨mb,e2,h⟩:=h;have ih:=oD hE e2;cases op with
  | And=>subst h;exact DK (hE _ _ e1) ih
  | Or=>subst h;exact Gb (hE _ _ e1) ih
theorem oE(hT:∀e m,T e=À m->ST X cl e m):∀{vs:List Î} {m:MT},mO op T vs=À m->SW X cl (.BoolOp op vs pos) m
 | [],m,h=>by cases h
 | [a],m,h=>by
  cases op with
  | And=>exact UZ (hT _ _ h)
  | Or=>exact Dt (hT _ _ h)
 | a::b::r,m,h=>by
  unfold mO at h;rw[zm] at h;obtain⟨ma,e1,h⟩:=h;rw[zg] at h;obtain⟨mb,e2,h⟩:=h;have ih:=oE hT e2;cases op with
  | And=>subst h;exact DW (hT _ _ e1) ih
  | Or=>subst h;exact FS (hT _ _ e1) ih
theorem pj(hE:∀e m,E e=À m->SE X cl e m):∀{ks:List (Option Î)} {vs:List Î} {r:List (ME×ME)},d7 E ks vs=À r->Qk X cl pos ks vs r/\ks.all (·.isSome)=Â/\ks.length=vs.length
 | [],[],r,h=>by cases h;exact⟨Dc,rfl,rfl⟩
 | some a::ks,b::vs,r,h=>by
  unfold d7 at h;rw[zm] at h;obtain⟨ma,e1,h⟩:=h;rw[zm] at h;obtain⟨mb,e2,h⟩:=h;rw[zg] at h;obtain⟨r',e3,rfl⟩:=h;obtain⟨i1,i2,i3⟩:=pj hE e3;exact⟨BV (hE _ _ e1) (hE _ _ e2) i1,by simpa using i2,by simpa using i3⟩
 | [],_::_,r,h=>by simp[d7] at h
 | none::_,_,r,h=>by simp[d7] at h
 | some _::_,[],r,h=>by simp[d7] at h
def Yw(hE:∀e m,E e=À m->SE X cl e m)(h:JX E mu ks vs=À m):SE X cl (.Dict ks vs pos) m:=by
 unfold JX at h;split at h
 .split at h
  .cases h;exact YR
  .cases h;exact Uj
 .split at h
  .rename_i q
   rw[zg] at h;obtain⟨r,e1,rfl⟩:=h;obtain⟨i1,i2,i3⟩:=pj (pos:=pos) hE e1;exact By i1 i2 i3 (by simp) (by rw[vp] at q;erw[zG];omega)
  .cases h
 .cases h
end
section
variable{Γ:RC}{cl:Cl}{k:Nat}{X:Cx}{m:ME}{pos p:ė}{E:RC->Bool->Î->Option ME}{T:RC->Î->Option MT}{mu:Bool}
def oJ(F:Fits Γ cl k X)(g:CompG X cl elt gens scope r):SE X cl (.ListComp elt gens scope pos) (mF mu r):=by
 obtain⟨tg,it,ifs,N',rfl,ok,hs,hi,hg,ht,he⟩:=g.ex;cases mu with
 | true=>exact YV _ _ N' r.nl r.ks F.calm ok hi hg ht he rfl rfl (b9 hs)
 | false=>exact UV _ _ N' r.nl r.ks F.calm ok hi hg ht he rfl rfl (b9 hs)
def Ym(hE:∀Γ X,Fits Γ cl k X->∀mu e m,E Γ mu e=À m->SE X cl e m)(hT:∀Γ X,Fits Γ cl k X->∀e m,T Γ e=À m->ST X cl e m)(F:Fits Γ cl k X)(h:K7 E T Γ mu e=À m):SE X cl e m:=by
 have Tx:=hE _ _ F;have hF:=Tx Ä;have Bz:=hT _ _ F;unfold K7 at h;split at h
 .exact Y7 F h
 .exact Qm h
 .rw[zg] at h
  obtain⟨ma,e1,rfl⟩:=h;exact CN (hF _ _ e1)
 .rw[zg] at h
  obtain⟨ma,e1,rfl⟩:=h;exact Ga U7 (hF _ _ e1)
 .rw[zm] at h
  obtain⟨f,e0,h⟩:=h;rw[zm] at h;obtain⟨ma,e1,h⟩:=h;rw[zg] at h;obtain⟨mb,e2,rfl⟩:=h;exact Gf (C9 e0) (hF _ _ e1) (hF _ _ e2)
 .exact(ZZ F hF h).1
 .exact oD hF h
 .rw[zm] at h
  obtain⟨mt,e0,h⟩:=h;rw[zm] at h;obtain⟨ma,e1,h⟩:=h;rw[zg] at h;obtain⟨mb,e2,rfl⟩:=h;exact Gz (Bz _ _ e0) (hF _ _ e1) (hF _ _ e2)
 .rw[zg] at h
  obtain⟨ms,e1,rfl⟩:=h;exact Ds (d8 hF e1).2
 .rw[zg] at h
  obtain⟨ms,e1,h⟩:=h;cases mu with
  | true=>subst h;exact Cm (d8 hF e1).2
  | false=>subst h;exact DG (d8 hF e1).2
 .exact Yw hF h
 .exact WP F hF h
 .exact Vw F hF h
 .exact Yu F hF h
 .rw[zg] at h
  obtain⟨r,e1,rfl⟩:=h;exact oJ F (sS F hE hT e1)
 .cases h
def Y3(hE:∀Γ X,Fits Γ cl k X->∀mu e m,E Γ mu e=À m->SE X cl e m)(hT:∀Γ X,Fits Γ cl k X->∀e m,T Γ e=À m->ST X cl e m)(F:Fits Γ cl k X)(h:stepT E T Γ e=À t):ST X cl e t:=by
 have hF:=hE _ _ F Ä;have Bz:=hT _ _ F;unfold stepT at h;split at h
 .exact UE (oE Bz h)
 .rw[zg] at h
  obtain⟨ma,e1,rfl⟩:=h;exact CF (Bz _ _ e1)
 .rw[zg] at h
  obtain⟨ma,e1,rfl⟩:=h;exact(ZZ F hF e1).2
 .split at h
  .rename_i q
   rw[zg] at h;obtain⟨ma,e1,rfl⟩:=h;exact D7 (hF _ _ e1) (YN q)
  .cases h
theorem fx:∀n,(∀Γ X,Fits Γ cl k X->∀mu e m,(pk n).1 Γ mu e=À m->SE X cl e m)/\(∀Γ X,Fits Γ cl k X->∀e m,(pk n).2 Γ e=À m->ST X cl e m)
 | 0=>⟨λ_ _ _ _ _ _ h=>(by cases h),λ_ _ _ _ _ h=>(by cases h)⟩
 | n+1=>⟨λΓ X F mu e m h=>Ym (fx n).1 (fx n).2 F h,λΓ X F e m h=>Y3 (fx n).1 (fx n).2 F h⟩
end
def DF{env:Env}(h:iz i=Â):∀v,ŀ (.Subscript o i pos) env v=(do
   let ov <-Đ [v] (å o env)
   let iv <-Đ [v,ov] (å i env)
   standAt pos
   Đ [v,ov,iv] (setItem ov iv v)
   release [v,ov,iv] []):=by
 intro v;cases i<;>first | (cases h;done) | kernel_rfl
theorem ZP{env:Env}:ŕ [.Subscript o i p] e env=pure Á:=rfl
noncomputable def rS(Γ:RC)(x:È):Bool:=Γ.own.any (· == x)
noncomputable def rL(Γ:RC)(x:È)(px:ė)(scope:î)(cpos:ė):Bool:=Γ.sc.names.lookup x==À .local&&px.line==cpos.line && !(scope.names.any λ(n,k)=>n==x&&(k==.local||k==.cell))
noncomputable def J4(Γ:RC)(E:RC->Bool->Î->Option ME)(T:RC->Î->Option MT)(x:È):Î->Option ME
 | .ListComp elt gens scope cpos=>(rR Γ E T elt gens scope cpos).map (mF (rS Γ x))
 | .Dict [] [] dp=>if Γ.txt.any (· == x)=Â then À mE else E Γ (rS Γ x) (.Dict [] [] dp)
 | v=>if gY v=Â then E Γ (rS Γ x) v else Á
noncomputable def W2(Γ:RC)(E:RC->Bool->Î->Option ME)(T:RC->Î->Option MT)(tg v:Î):Option MS:=match tg with
 | .Name x _=>match nH x Γ.N with
  | some i=>if (setB Γ.sc Γ.N i x && !Γ.inC)=Â then (J4 Γ E T x v).map λm=>kc m (zw i) else Á
  | none=>Á
 | .Subscript o i p=>if (gY v&&iz i)=Â then (E Γ Ä v).bind λm=>(E Γ Ä o).bind λmo=>(E Γ Ä i).map λmi=>kc m (rN mo mi) else Á
 | .Tuple es n p=>if (gY v&&Xo v)=Â then (E Γ Ä v).bind λm=>(Vn Γ (.Tuple es n p)).map λg=>kc m g else Á
 | _=>Á
noncomputable def Y6(Γ:RC)(E:RC->Bool->Î->Option ME)(tg:Î)(op:į)(v:Î):Option MS:=match tg,op with
 | .Name x _,.Add=>match nH x Γ.N with
  | some i=>if (setB Γ.sc Γ.N i x && !Γ.inC)=Â then (E Γ Ä v).map (JO i Ho) else Á
  | none=>Á
 | _,_=>Á
noncomputable def iC:MS:=λ_ _=>Á
def BO{X:Cx}{cl:Cl}{st:ď}:SS X cl st iC:=by
 rintro ag s σ H D I ⟨μ,h,ρ,fl,h',R,er,e,k⟩;cases e
noncomputable def JP(E:RC->Bool->Î->Option ME)(T:RC->Î->Option MT)(B:RC->List ď->Option MS)(Γ:RC):ď->Option MS
 | .Return (À e) _=>(E Γ Ä e).map kf
 | .Pass _=>À ki
 | .Raise ..=>À iC
 | .Expr e _=>if gY e=Â then (E Γ Ä e).map xb else Á
 | .If c a b _=>(T Γ c).bind λt=>(B Γ a).bind λma=>(B Γ b).map (kX t ma)
 | .While c body [] _=>(T Γ c).bind λt=>(B Γ body).map (ck t)
 | .For tg it body [] _=>if rW it=Â then (rO Γ (E Γ Ä) tg it).bind λmi=>(Vn Γ tg).bind λg=>(B Γ body).map (wa mi g) else Á
 | .Assign [tg] v _=>W2 Γ E T tg v
 | .AugAssign tg op v _=>Y6 Γ E tg op v
 | _=>Á
noncomputable def blk(S:ď->Option MS):List ď->Option MS
 | []=>À ki
 | [s]=>S s
 | s::r=>(S s).bind λa=>(blk S r).map (zl a)
noncomputable def cS:Nat->RC->ď->Option MS
 | 0=>λ_ _=>Á
 | n+1=>JP (pk 40).1 (pk 40).2 (λΓ=>blk (cS n Γ))
noncomputable def cB(Γ:RC)(bd:List ď):Option MS:=blk (cS 12 Γ) bd
section
variable{Γ:RC}{cl:Cl}{k:Nat}{X:Cx}{pos p:ė}{E:RC->Bool->Î->Option ME}{T:RC->Î->Option MT}{B:RC->List ď->Option MS}{ms:MS}
theorem Jl{scope:î}{cpos px:ė}{env:Env}:đ (.ListComp elt gens scope cpos) (À (.Name x px)) l env=pure (env.blockKind==.function&&env.kindOf x==À .local&&px.line==cpos.line && !(scope.names.any λ(n,k)=>n==x&&(k==.local||k==.cell))):=rfl
def Y1(hE:∀Γ X,Fits Γ cl k X->∀mu e m,E Γ mu e=À m->SE X cl e m)(hT:∀Γ X,Fits Γ cl k X->∀e m,T Γ e=À m->ST X cl e m)(F:Fits Γ cl k X)(hc:Γ.inC=Ä)(hb:setB Γ.sc Γ.N i x=Â)(h:J4 Γ E T x v=À m):SS X cl (.Assign [.Name x px] v pos) (kc m (zw i)):=by
 have AR:=F.N▸F.nd;unfold J4 at h;split at h
 .rename_i elt gens scope cpos
  rw[zg] at h;obtain⟨r,e1,rfl⟩:=h;have g:=sS F hE hT e1;have hk:X.env.blockKind=.function:=by
   unfold Env.blockKind;rw[F.sc,F.kind];rfl
  have Ec:=Jl (elt:=elt) (gens:=gens) (scope:=scope) (cpos:=cpos) (px:=px) (x:=x) (l:=pos.line) (env:=X.env);have he:(X.env.blockKind==.function&&X.env.kindOf x==À .local&&px.line==cpos.line && !(scope.names.any λ(n,k)=>n==x&&(k==.local||k==.cell)))=rL Γ x px scope cpos:=by
   rw[hk];unfold rL;rw[<-F.sc];rfl
  rw[he] at Ec;cases q:rL Γ x px scope cpos with
  | false=>
   rw[q] at Ec;exact s_ hb AR (oJ F g) F.sc F.N (F.fn hc _) Ec
  | true=>
   rw[q] at Ec;obtain⟨tg,it,ifs,N',rfl,ok,hs,hi,hg,ht,Pw⟩:=g.ex;have hx:X.env.kindOf x=À .local:=by
    unfold rL at q;erw[zu,vN] at q;have:=q.1.1;rw[<-F.sc] at this;exact this
   have Ex:X.N[i]?=À x:=by
    unfold setB at hb;erw[zu,vN] at hb;rw[F.N];exact hb.1
   unfold mF;cases rS Γ x with
   | true=>exact Yi i _ _ N' r.nl r.ks F.nd F.calm ok hi hg ht Pw rfl rfl (b9 hs) Ex hx Ec
   | false=>exact UQ i _ _ N' r.nl r.ks F.nd F.calm ok hi hg ht Pw rfl rfl (b9 hs) Ex hx Ec
 .split at h
  .cases h
   exact s_ hb AR (Bv ⟨F.base.pw.1,F.base.pw.2⟩) F.sc F.N (F.fn hc _) (aS rfl)
  .exact s_ hb AR (hE _ _ F _ _ _ h) F.sc F.N (F.fn hc _) (aS rfl)
 .split at h
  .rename_i q
   exact s_ hb AR (hE _ _ F _ _ _ h) F.sc F.N (F.fn hc _) (aS q)
  .cases h
def Bn(hE:∀Γ X,Fits Γ cl k X->∀mu e m,E Γ mu e=À m->SE X cl e m)(hT:∀Γ X,Fits Γ cl k X->∀e m,T Γ e=À m->ST X cl e m)(F:Fits Γ cl k X)(h:W2 Γ E T tg v=À ms):SS X cl (.Assign [tg] v pos) ms:=by
 unfold W2 at h;split at h
 .split at h
  .split at h
   .rename_i q
    rw[zu,qW] at q;rw[zg] at h;obtain⟨m,e1,rfl⟩:=h;exact Y1 hE hT F q.2 q.1 e1
   .cases h
  .cases h
 .split at h
  .rename_i q
   rw[zu] at q;rw[zm] at h;obtain⟨m,e1,h⟩:=h;rw[zm] at h;obtain⟨mo,e2,h⟩:=h;rw[zg] at h;obtain⟨mi,e3,rfl⟩:=h;exact Vf (hE _ _ F _ _ _ e1) (U9 ⟨F.base.pw.1,F.base.pw.2⟩ F.room.units (hE _ _ F _ _ _ e2) (hE _ _ F _ _ _ e3) (DF q.2)) ((show Ŕ [_] v pos.line X.env=đ v (À _) pos.line X.env from rfl).trans (aS q.1)) ZP (by rw[xC rfl,dc];rfl)
  .cases h
 .split at h
  .rename_i q
   rw[zu] at q;rw[zm] at h;obtain⟨m,e1,h⟩:=h;rw[zg] at h;obtain⟨g,e2,rfl⟩:=h;exact Vf (hE _ _ F _ _ _ e1) (sg F e2) ((show Ŕ [_] v pos.line X.env=đ v (À _) pos.line X.env from rfl).trans (aS q.1)) (K3 q.2) (by rw[xC rfl,dc];rfl)
  .cases h
 .cases h
def B0(hE:∀Γ X,Fits Γ cl k X->∀mu e m,E Γ mu e=À m->SE X cl e m)(F:Fits Γ cl k X)(h:Y6 Γ E tg op v=À ms):SS X cl (.AugAssign tg op v pos) ms:=by
 unfold Y6 at h;split at h
 .split at h
  .split at h
   .rename_i q
    rw[zu,qW] at q;rw[zg] at h;obtain⟨m,e1,rfl⟩:=h;exact HH q.1 (F.N▸F.nd) UC (hE _ _ F _ _ _ e1) F.sc F.N (F.fn q.2 _)
   .cases h
  .cases h
 .cases h
def YH(hE:∀Γ X,Fits Γ cl k X->∀mu e m,E Γ mu e=À m->SE X cl e m)(hT:∀Γ X,Fits Γ cl k X->∀e m,T Γ e=À m->ST X cl e m)(hB:∀Γ X,Fits Γ cl k X->∀b m,B Γ b=À m->SB X cl b m)(F:Fits Γ cl k X){st:ď}(h:JP E T B Γ st=À ms):SS X cl st ms:=by
 have hF:=hE _ _ F Ä;have Bz:=hT _ _ F;have Nd:=hB _ _ F;unfold JP at h;split at h
 .rw[zg] at h
  obtain⟨m,e1,rfl⟩:=h;exact CM (hF _ _ e1)
 .cases h;exact UW
 .cases h;exact BO
 .split at h
  .rename_i q
   rw[zg] at h;obtain⟨m,e1,rfl⟩:=h;exact Ba (hF _ _ e1) (aS q)
  .cases h
 .rw[zm] at h
  obtain⟨t,e0,h⟩:=h;rw[zm] at h;obtain⟨ma,e1,h⟩:=h;rw[zg] at h;obtain⟨mb,e2,rfl⟩:=h;exact GA (Bz _ _ e0) (Nd _ _ e1) (Nd _ _ e2)
 .rw[zm] at h
  obtain⟨t,e0,h⟩:=h;rw[zg] at h;obtain⟨mb,e2,rfl⟩:=h;exact Yo (Bz _ _ e0) (Nd _ _ e2) F.pass
 .split at h
  .rename_i q
   rw[zm] at h;obtain⟨mi,e0,h⟩:=h;rw[zm] at h;obtain⟨g,e1,h⟩:=h;rw[zg] at h;obtain⟨mb,e2,rfl⟩:=h;exact Fc F.calm (sY F hF e0) (sg F e1) (Nd _ _ e2) (b9 q) F.pass
  .cases h
 .exact Bn hE hT F h
 .exact B0 hE F h
 .cases h
theorem tu(hS:∀s m,S s=À m->SS X cl s m):∀{b:List ď} {m:MS},blk S b=À m->SB X cl b m
 | [],m,h=>by cases h;exact CY
 | [s],m,h=>Cy (hS _ _ h)
 | s::s'::r,m,h=>by
  unfold blk at h;rw[zm] at h;obtain⟨ma,e1,h⟩:=h;rw[zg] at h;obtain⟨mb,e2,rfl⟩:=h;exact BN (hS _ _ e1) (tu hS e2)
theorem X8:∀(n:Nat) (Γ:RC) (X:Cx),Fits Γ cl k X->∀s m,cS n Γ s=À m->SS X cl s m
 | 0,_,_,_,_,_,h=>by cases h
 | n+1,Γ,X,F,s,m,h=>YH (fx 40).1 (fx 40).2 (λΓ X F b m h=>tu (X8 n Γ X F) h) F h
def GF(F:Fits Γ cl k X)(h:cB Γ bd=À ms):SB X cl bd ms:=tu (X8 12 Γ X F) h
end
def CQ{P:Ï}{w:Ñ}{K:aab}{mg:È->Option Ã}{base:Õ}{cl:Cl}{x qual:È}{st:ď}{f:Ç}{fd:ć}{ps:List È}{k np ns:Nat}{b:MS}(Γ:RC){bd:List ď}(F:Fun K x qual st f fd)(Ap:ja st=Γ.sc)(N3:ve st=bd)(S:FnScope Γ.N ps Γ.sc)(EM:ps.length=np)(Aq:Γ.N.length-np=ns)
  (hc:Γ.inC=Ä) (B:BaseOk P w K mg base cl k Γ) (hb:cB Γ bd=À b):FnOk P w K mg base dR (k+1) f fd ps (bS K cl (gc (kS np ns b))):=
 Fe F Ap N3 S EM Aq λxI A outer s H E hr=>GF (k:=k) ⟨rfl,rfl,S.nd,λ_ _=>rfl,S.kind,rfl,yX,hr,⟨B.fns,B.con,B.tab,B.bin,B.pw⟩⟩ hb
structure Def where
 x:È
 st:ď
 ps:List È
 N:List È
 own:List È
 txt:List È
 cmp:List ((Nat×Nat)×List È)
noncomputable def dM(N ps:List È)(sc:î):Bool:=sc.kind==.function && !sc.isCoroutine && !sc.isGenerator&&Zl N&&N.take ps.length==ps&&ps.all (Jm sc)&&sc.names.all λy=>y.2 != .free
def Jh(h:dM N ps sc=Â):FnScope N ps sc:=by
 unfold dM at h;erw[zu,qW,vN] at h;obtain⟨⟨⟨⟨⟨⟨h1,h2⟩,h3⟩,h4⟩,h5⟩,h6⟩,h7⟩:=h;exact⟨h1,h2,h3,Xg h4,h5,λx hx=>iH (kJ.mp h6 x hx),λy hy=>by simpa using kJ.mp h7 y hy⟩
noncomputable def HB(x:È)(st:ď)(ps:List È)(us:List Ã):Prop:=∀(kV doc pm:Ã) (an:Option Ç) (xI ct:Ã),bindArgs (Č x x (xy st) (ve st) (ja st) .none kV doc pm an xI ct) ⟨us,[]⟩=pure (ps.zip us)
noncomputable def Zt(x:È)(st:ď)(ps:List È):Prop:=∀us:List Ã,us.length=ps.length->HB x st ps us
section
variable{x:È}{st:ď}{ps:List È}
def y0{us:List Ã}(e:us.length=n+1):∃a r,us=a::r/\r.length=n:=by
 cases us with
 | nil=>cases e
 | cons a r=>exact⟨a,r,rfl,Nat.succ.inj e⟩
def hb1(h:∀a,HB x st ps [a])(hl:↥(ps.length=1)):Zt x st ps:=λus e=>by
 obtain⟨a,r,rfl,e1⟩:=y0 (e.trans hl);rw[qG e1];exact h a
def hb2(h:∀a b,HB x st ps [a,b])(hl:↥(ps.length=2)):Zt x st ps:=λus e=>by
 obtain⟨a,r,rfl,e1⟩:=y0 (e.trans hl);obtain⟨b,r,rfl,e2⟩:=y0 e1;rw[qG e2];exact h a b
def hb3(h:∀a b c,HB x st ps [a,b,c])(hl:↥(ps.length=3)):Zt x st ps:=λus e=>by
 obtain⟨a,r,rfl,e1⟩:=y0 (e.trans hl);obtain⟨b,r,rfl,e2⟩:=y0 e1;obtain⟨c,r,rfl,e3⟩:=y0 e2;rw[qG e3];exact h a b c
def hb4(h:∀a b c d,HB x st ps [a,b,c,d])(hl:↥(ps.length=4)):Zt x st ps:=λus e=>by
 obtain⟨a,r,rfl,e1⟩:=y0 (e.trans hl);obtain⟨b,r,rfl,e2⟩:=y0 e1;obtain⟨c,r,rfl,e3⟩:=y0 e2;obtain⟨d,r,rfl,e4⟩:=y0 e3;rw[qG e4];exact h a b c d
def hb5(h:∀a b c d f,HB x st ps [a,b,c,d,f])(hl:↥(ps.length=5)):Zt x st ps:=λus e=>by
 obtain⟨a,r,rfl,e1⟩:=y0 (e.trans hl);obtain⟨b,r,rfl,e2⟩:=y0 e1;obtain⟨c,r,rfl,e3⟩:=y0 e2;obtain⟨d,r,rfl,e4⟩:=y0 e3;obtain⟨f,r,rfl,e5⟩:=y0 e4;rw[qG e5];exact h a b c d f
end
noncomputable def eF(K:aab)(mg:È->Option Ã)(d:Def):Prop:=∃a fd,FTxt K mg d.x d.st d.ps a fd
noncomputable def tw(P:Def->Prop):List Def->Prop
 | []=>True
 | d::r=>P d/\tw P r
noncomputable def RC.at(Γ:RC)(d:Def):RC:=⟨ja d.st,d.N,Ä,Γ.fns,Γ.con,Γ.tab,Γ.bin,d.own,d.txt,d.cmp⟩
section
variable{P:Ï}{w:Ñ}{K:aab}{mg:È->Option Ã}{base:Õ}{cl:Cl}{n np ns:Nat}{Γ:RC}{d:Def}{b:MS}
def Ko(T:FTxt K mg d.x d.st d.ps a fd)(B:BaseOk P w K mg base cl n Γ)(Ap:dM d.N d.ps (ja d.st)=Â)(EM:d.ps.length=np)(Aq:d.N.length-np=ns)(hb:cB (Γ.at d) (ve d.st)=À b):FnOk P w K mg base dR (n+1) a fd d.ps (bS K cl (gc (kS np ns b))):=
 CQ (Γ.at d) T.F rfl rfl (Jh Ap) EM Aq rfl ⟨B.fns,B.con,B.tab,B.bin,B.pw⟩ hb
def kN(T:eF K mg d)(B:BaseOk P w K mg base cl n Γ)(Ap:dM d.N d.ps (ja d.st)=Â:=by kernel_rfl)(EM:↥(d.ps.length=np))(Aq:↥(d.N.length-np=ns))(hb:cB (Γ.at d) (ve d.st)=À b:=by kernel_rfl):FnAt P w K mg base cl (n+1) d.x (gc (kS np ns b)):=by
 obtain⟨a,fd,T⟩:=T;exact⟨a,fd,d.ps,Ko T B Ap EM Aq hb,T.m,T.F.kp,T.B⟩
def ko(T:eF K mg d):FnAt P w K mg base cl 0 d.x λ_ _=>Á:=by
 obtain⟨a,fd,T⟩:=T;have no:∀vs H Q E,¬bS K cl (λ_ _=>Á) vs H Q E:=λvs H Q E ⟨μ,h,ws,w,h2,R,rs,e,k⟩=>by cases e
 exact⟨a,fd,d.ps,⟨λvs H Q E h=>absurd h (no vs H Q E),λA outer s H args us vs Q E _ _ _ _ h=>absurd h (no vs H Q E)⟩,T.m,T.F.kp,T.B⟩
end
end ML
namespace ML
open PySem PySem.Spec PyProof.Rows PySem.W L2
noncomputable def Kw(h:Õ):aab:=(ß h.objs.size).filterMap λa=>(h.get? a).map λo=>(a,o)
theorem Kw.lookupAux(h:Õ)(a:Ç):∀l:List Nat,(l.filterMap λa=>(h.get? a).map λo=>(a,o)).lookup a=if a∈l then h.get? a else Á
 | []=>by simp
 | b::l=>by
  cases q:h.get? b with
  | none=>
   rw[qU (by rw[q];rfl),Kw.lookupAux h a l];by_cases e:a=b
   .subst e;simp[q]
   .simp[e]
  | some o=>
   rw[j9 (b:=(b,o)) (by rw[q];rfl),qF];by_cases e:a=b
   .subst e;simp[q]
   .have:(a==b)=Ä:=by simp[e]
    rw[this];simp only[];rw[Kw.lookupAux h a l];simp[e]
theorem Kw.lookup{h:Õ}:(Kw h).lookup a=h.get? a:=by
 unfold Kw;rw[Kw.lookupAux];split
 .rfl
 .rename_i n
  cases q:h.get? a with
  | none=>rfl
  | some o=>exact absurd (jV.mpr (zJ q)) n
def Kw.in(h:Õ):(Kw h).In h:=λa o e=>Kw.lookup▸e
def YF{l:PySem.W.OpenLaw}{n k:Nat}{q:Ï}{loose:List È}{XP:(È->Option Ã)->Õ->Prop}{YP:Ñ->Õ->Prop}{d:DefRec}{CX:gH}{sp:Ñ->aab->Sp}{x:È}
  (hn:l.most=À n) (IZ:n<=Ð) (LW:d.params.defaults=[]) (hr:Room k Ť)
  (F:∀(w:Ñ) (s₀:Å) (mg mb:È->Option Ã) (fa:Ç) (h:Õ),Ground q loose [] XP w s₀ mg mb h->YP w h->mg d.name=À (.ref fa)->
   ∃fd:ć,(∀(s:Å) (u:Ã),BindsTo s fd ⟨[u],[]⟩ [(x,u)]) /\
    ∀base:Õ,(Kw h).In base->base.Ns â mg->FnOk l.prog w (Kw h) mg base CX k fa fd [x] (sp w (Kw h)))
  (EJ:∀(w:Ñ) (K:aab) (H:Hp) (a:Ç) (ns:List Int),ns.length<=n->Only H->SqL K H a (ns.map V.int)->sp w K [.ref a] H (λv _=>v=.bl Â) λ_ _ _=>False)
  (Nv:∀(H:Hp) (s:Å) (e:Ã) (s':Å),CX [] H s (λ_ _ _=>False) e s'->False) :
  PySem.W.WalkO q loose XP YP l.row.toRowW d [] (λf vs=>PySem.call f vs):=by
 refine Att.attach_call hn LW λw s₀ d5 mg mb fa o pm cd doc a vs ns G Y ho hd Ep LX AI EK d6 hg=>?_
 obtain⟨fd,hb,hF⟩:=F w s₀ mg mb fa _ G Y LX;exact YU (Kw.in _) G.T.g G.T.b G.T.builtins G.T.nolimit hg AI EK (zq d6 IZ) hr hF hb (λH hO hS=>EJ w _ H a ns d6 hO hS) λH e s'=>Nv H d5 e s'
def Zy{q:Ï}{R:WRecords}(G:Ground q loose R XP w s₀ mg mb h){d:Def}
  (hd:(defOf q d.x).map (λp=>(p.1.name,p.1.params,p.1.body,p.1.scope,p.2))=À (d.x,xy d.st,ve d.st,ja d.st,[])) (hb:Zt d.x d.st d.ps) (hf:(xy d.st).defaults=[]):eF (Kw h) mg d:=by
 obtain⟨⟨⟨n,p,b,sc,ps⟩,kw⟩,hq,e⟩:=zg.mp hd;cases e;obtain⟨a,o,pm,cd,doc,dV,kV,m,ho,Tz,hc,D⟩:=G.fn hq;obtain rfl:dV=.none:=Dflts.none D hf;obtain rfl:kV=.none:=Dflts.noKw D;have lk:(Kw h).lookup a=À ⟨o.cls,o.dict,.func (Č d.x d.x (xy d.st) (ve d.st) (ja d.st) .none .none doc pm Á cd .none),o.slots⟩:=by
  rw[Kw.lookup,ho];cases o;cases Tz;rfl
 have c:İ (Kw h) cd d.x=Â:=by
  obtain⟨c,o',vs,t,rfl,e1,e2,e3⟩:=hc;unfold İ;erw[Kw.lookup,e1];cases o';cases e2;simp only[];obtain⟨vs⟩:=vs;match vs,e3 with
  | [],e3=>cases e3
  | [_],e3=>cases e3
  | _::v::r,e3=>
   have e4:À v=À (Ĝ d.x t):=by simpa using e3
   cases e4;simp
 have k:ï (Kw h) (.ref a)=Â:=by
  unfold ï;erw[lk]
 have F:=D4 (st:=d.st) lk c k;exact⟨a,_,F,F.binds (λkV doc pm an xI ct us hl=>hb us hl kV doc pm an xI ct),m⟩
noncomputable def Xl:Nat->Cn->W
 | 0,_=>.non
 | n+1,c=>match c with
  | .int i=>.int i
  | .str x=>.str x
  | .tup l=>.tup (l.map (Xl n))
noncomputable def toT(l:List (È×Cn)):List (È×W):=l.map λp=>(p.1,Xl 9 p.2)
def YB{h:Õ}(e:rX h v=À its):∃a o n,v=.ref a/\h.get? a=À o/\(o.cls=.type "tuple" /\ o.dict=Á)/\o.data=.seq its n:=by
 cases v with
 | ref a=>
  obtain⟨⟨c,di,d,sl⟩,e1,e2⟩:=zm.mp e;cases c with
  | type t=>
   have e3:(if t="tuple" then (match d with | .seq its _=>if di.isNone then À its else Á | _=>Á) else Á)=À its:=e2;by_cases q:t="tuple"
   .rw[zQ q] at e3
    cases d with
    | seq its' n=>
     have e4:(if di.isNone then À its' else Á)=À its:=e3;by_cases q2:di.isNone=Â
     .rw[zQ q2] at e4
      cases e4;exact⟨a,_,n,rfl,e1,⟨by rw[q],wW.mp q2⟩,rfl⟩
     .rw[zW q2] at e4;cases e4
    | _=>cases e3
   .rw[zW q] at e3;cases e3
  | _=>cases e2
 | _=>cases e
def DS{K:aab}{p:Cn->Ã->Bool}(hp:∀w v,p w v=Â->KW K (f w) v)(l:List Cn):∀vs:List Ã,ft p l vs=Â->KWs K (l.map f) vs:=by
 induction l with
 | nil=>intro vs h;cases vs with | nil=>exact .nil | cons _ _=>cases h
 | cons w l ih=>
  intro vs h;cases vs with
  | nil=>cases h
  | cons v vs=>have h2:=ju.mp h;exact .cons (hp _ _ h2.1) (ih vs h2.2)
def oW{h:Õ}{K:aab}(hK:∀b o,h.get? b=À o->K.lookup b=À o)(n:Nat):∀w v,fy h n w v=Â->KW K (Xl n w) v:=by
 induction n with
 | zero=>intro w v e;cases e
 | succ n ih=>
  intro w v e;cases w with
  | int i=>cases v with
   | int j t=>cases eq_of_beq (show(i==j)=Â from e);exact .int
   | _=>cases e
  | str x=>cases v with
   | str j t=>cases eq_of_beq (show(x==j)=Â from e);exact .str
   | _=>cases e
  | tup l=>
   have e1:((rX h v).any λits=>decide (its.size<=Ð)&&ft (fy h n) l its.toList)=Â:=e;cases z:rX h v with
   | none=>rw[z] at e1;cases e1
   | some its=>
    rw[z] at e1;obtain⟨a,o,m,rfl,e4,e5,e6⟩:=YB z;have e7:=ju.mp e1;exact .tup (hK _ _ e4) e5 e6 (j8 e7.1) (DS ih _ _ e7.2)
def Qb{h:Õ}(e:dictAt h v=À es):∃a n,v=.ref a/\h.get? a=À ⟨.type "dict",Á,.dict es n,#[]⟩/\(a==à)=Ä:=by
 cases v with
 | ref a=>
  obtain⟨⟨c,di,d,sl⟩,e1,e2⟩:=zm.mp e;cases c with
  | type t=>
   have e3:(if t="dict" then (match d with | .dict es _=>if di.isNone&&sl.isEmpty&&a != à then À es else Á | _=>Á) else Á)=À es:=e2;by_cases q:t="dict"
   .rw[zQ q] at e3
    cases d with
    | dict es' n=>
     have e4:(if di.isNone&&sl.isEmpty&&a != à then À es' else Á)=À es:=e3;by_cases z:(di.isNone&&sl.isEmpty&&a != à)=Â
     .rw[zQ z] at e4
      cases e4;have z1:=ju.mp z;have z2:=ju.mp z1.1;refine⟨a,n,rfl,?_,?_⟩
      .rw[e1,q,wW.mp z2.1,Array.isEmpty_iff.mp z2.2]
      .have:=z1.2;rw[bne,qW] at this;exact this
     .rw[zW z] at e4;cases e4
    | _=>cases e3
   .rw[zW q] at e3;cases e3
  | _=>cases e2
 | _=>cases e
def tab_of{h:Õ}{K:aab}(hK:∀b o,h.get? b=À o->K.lookup b=À o)(l:List (È×Cn)):∀es:List ą,ft (λp (e:ą)=>Ft p.1 e.key&&fy h 9 p.2 e.val) l es=Â->es.map (·.hash)=l.map (λp=>Ų P p.1)->TabRel K (toT l) es/\ũ P es:=by
 induction l with
 | nil=>intro es a b;cases es with | nil=>exact⟨.nil,trivial⟩ | cons _ _=>cases a
 | cons p l ih=>
  intro es a b;cases es with
  | nil=>cases a
  | cons e es=>
   have a1:=ju.mp a;have a2:=ju.mp a1.1;have b1:=uQ b;obtain⟨r,t⟩:=ih es a1.2 b1.2;obtain⟨eh,ek,ev⟩:=e;cases ek with
   | str y t'=>
    have q:=eq_of_beq (show(p.1==y)=Â from a2.1);subst q;exact⟨.cons (hs:=0) (v:=.none) rfl (oW hK _ _ _ a2.2) r,⟨_,_,rfl,b1.1⟩,t⟩
   | _=>cases a2.1
def Ui{h h₀:Õ}(G:h.Ns â mg)(k:∀b o,h₀.get? b=À o->h.get? b=À o)(hn:h₀.isNs â=Â)(x:È):mg x=h₀.nsMap â x:=by
 obtain⟨o,es,ep,e1,e2,e3,e4⟩:=Heap.Ns.of_isNs hn;obtain⟨o',es',IW,f1,f2,f3,f4⟩:=G;have:=k _ _ e1;rw[f1] at this;cases this;rw[e2] at f2;cases f2;rw[<-f4 x,<-e4 x]
theorem tO{α β:Type}{P:È->α->Prop}(f:β->α):∀{l:List (È×β)},(∀p∈l,P p.1 (f p.2))->AllOf P (l.map λp=>(p.1,f p.2))
 | [],_=>trivial
 | (x,g)::r,h=>⟨h (x,g) (zz ..),tO f λp m=>h p (zp _ m)⟩
theorem none_of:∀{l:List È},(∀x∈l,mg x=Á)->AllNone mg l
 | [],_=>trivial
 | x::r,h=>⟨h x (zz ..),none_of λp m=>h p (zp _ m)⟩
def D8{cons:List (È×Cn)}{tabs:List (È×List (È×Cn))}{bins:List È}{w:Ñ}{h:Õ}(Y:(Jg cons tabs bins).says w h)(G:h.Ns â mg) :
  AllOf (Glob (Kw h) mg) (toT cons)/\AllOf (TabOk (Kw h) w.params mg) (tabs.map λp=>(p.1,toT p.2))/\AllNone mg bins:=by
 obtain⟨h₀,k,b,t⟩:=Y;have hK:∀b o,h₀.get? b=À o->(Kw h).lookup b=À o:=λb o e=>by rw[Kw.lookup];exact k _ _ e
 unfold Y0 at b;erw[zu,kJ] at b;obtain⟨⟨b1,b2⟩,b3⟩:=b;have M:=Ui G k b1;refine⟨tO (Xl 9) λp m=>?_,tO toT λp m=>?_,none_of λx m=>?_⟩
 .have e:=b2 p m
  cases q:h₀.nsMap â p.1 with
  | none=>rw[q] at e;cases e
  | some v=>rw[q] at e;exact(oW hK _ _ _ e).glob ((M _).trans q)
 .have e:WD h₀ p.2 (h₀.nsMap â p.1)=(Â,p.2.map λk=>Ų w.params k.1):=by
   unfold Yv Js at t;exact(List.map_inj_left.mp t) p m
  unfold WD at e;cases q:h₀.nsMap â p.1 with
  | none=>rw[q] at e;cases e
  | some v=>
   rw[q] at e;cases z:dictAt h₀ v with
   | none=>rw[qD,z] at e;cases e
   | some es=>
    rw[qD,z] at e;have e2:=Prod.mk.inj e;obtain⟨a,n,rfl,g,f⟩:=Qb z;obtain⟨r,kl⟩:=tab_of hK (P:=w.params) p.2 es.toList e2.1 e2.2;exact⟨a,es,n,(M _).trans q,hK _ _ g,kl,f,r⟩
 .have:=b3 x m
  rw[M];exact wW.mp this
def walk_lawE{l:PySem.W.OpenLaw}{q:Ï}{d:DefRec}{D:Def}{Γ:RC}{ns:Nat}{cons:List (È×Cn)}{tabs:List (È×List (È×Cn))}(hc:toT cons=Γ.con)(ht:(tabs.map λp=>(p.1,toT p.2))=Γ.tab)(hn:l.most=À 63)(LW:d.params.defaults=[])
  (hr:Room (room+1) Ť) (hx:D.x=d.name) (Oy:D.ps=[y]) (hb:Zt D.x D.st D.ps) (Ap:dM D.N D.ps (ja D.st)=Â) (Aq:D.N.length-1=ns) (hB:cB (Γ.at D) (ve D.st)=À b) (hg:g=gc (kS 1 ns b))
  (main:∀ns:List Int,ns.length<=63->∃h',g [.fls (ns.map W.int)] []=À (.bl Â,h'))
  (lvl:∀(w:Ñ) (K:aab) (mg:È->Option Ã) (base:Õ),tw (eF K mg) ds->AllOf (Glob K mg) Γ.con->AllOf (TabOk K w.params mg) Γ.tab->AllNone mg Γ.bin->BaseOk l.prog w K mg base ⟨λ_=>0,l.prog,w⟩ room Γ)
  (F:∀(w:Ñ) (s₀:Å) (mg mb:È->Option Ã) (h:Õ),Ground q loose [] XP w s₀ mg mb h->eF (Kw h) mg D/\tw (eF (Kw h) mg) ds):PySem.W.WalkO q loose XP (Jg cons tabs Γ.bin).says l.row.toRowW d [] (λf vs=>PySem.call f vs):=by
 refine YF (n:=63) (k:=room+1) (x:=y) (CX:=dR) (sp:=λw=>GS l.prog w g) hn (by decide) LW hr (λw s₀ mg mb fa h G Y LX=>?_) (λw K H a ns hl _ hS=>C5 main K H a ns hl hS) λ_ _ _ _ z=>z
 obtain⟨⟨a,fd,T⟩,h1⟩:=F w s₀ mg mb h G;obtain⟨h2,h3,h4⟩:=D8 Y G.T.g;rw[hc] at h2;rw[ht] at h3;have e:=T.m.symm.trans (hx▸LX);cases e;refine⟨fd,?_,λbase _ _=>?_⟩
 .have hb2:=λkV doc pm an xI ct us hl=>hb us hl kV doc pm an xI ct
  rw[Oy] at hb2;exact tZ T.F hb2
 .have:=Ko T (lvl w _ mg base h1 h2 h3 h4) Ap (np:=1) (by rw[Oy];rfl) Aq hB
  rw[Oy] at this;subst hg;exact this
end ML
namespace ML
open PySem L2
noncomputable def dt:Nat->W->Bool
 | 0,_=>Ä
 | _+1,.non=>Â
 | _+1,.bl _=>Â
 | _+1,.int _=>Â
 | _+1,.str x=>ý x&&decide (x.length<=1000)
 | n+1,.tup l=>decide (l.length<=1000)&&l.all (dt n)
 | n+1,.fls l=>decide (l.length<=1000)&&l.all (dt n)
 | _+1,.ref _=>Ä
 | _+1,.fdc _=>Ä
 | _+1,.fn _=>Ä
noncomputable def toD:Nat->W->PyData
 | 0,_=>.none
 | _+1,.non=>.none
 | _+1,.bl b=>.bool b
 | _+1,.int i=>.int i
 | _+1,.str x=>.str x
 | n+1,.tup l=>.tuple (l.map (toD n))
 | n+1,.fls l=>.list (l.map (toD n))
 | _+1,_=>.none
theorem qV:∀{l:List W},(∀w∈l,low m w=Â)->lows m l=Â
 | [],_=>by unfold lows;rfl
 | w::r,h=>by
  unfold lows;rw[h w zz,qV λw hw=>h w (zp _ hw)];rfl
theorem wl:∀{n:Nat} {w:W},dt n w=Â->low m w=Â
 | 0,_,h=>by cases h
 | n+1,.non,_=>by unfold low;rfl
 | n+1,.bl _,_=>by unfold low;rfl
 | n+1,.int _,_=>by unfold low;rfl
 | n+1,.str _,_=>by unfold low;rfl
 | n+1,.tup l,h=>by
  unfold dt at h;rw[zu] at h;unfold low;exact qV λw hw=>wl (kJ.mp h.2 w hw)
 | n+1,.fls l,h=>by
  unfold dt at h;rw[zu] at h;unfold low;exact qV λw hw=>wl (kJ.mp h.2 w hw)
 | n+1,.ref _,h=>by cases h
 | n+1,.fdc _,h=>by cases h
 | n+1,.fn _,h=>by cases h
theorem vj:∀{n m:Nat} {w:W},dt n w=Â->n<=m->dt m w=Â
 | 0,_,_,h,_=>by cases h
 | n+1,0,_,_,h=>by omega
 | n+1,m+1,.non,_,_=>rfl
 | n+1,m+1,.bl _,_,_=>rfl
 | n+1,m+1,.int _,_,_=>rfl
 | n+1,m+1,.str _,h,_=>h
 | n+1,m+1,.tup l,h,hn=>by
  unfold dt at h ⊢;rw[zu] at h ⊢;exact⟨h.1,kJ.mpr λw hw=>vj (kJ.mp h.2 w hw) ∅⟩
 | n+1,m+1,.fls l,h,hn=>by
  unfold dt at h ⊢;rw[zu] at h ⊢;exact⟨h.1,kJ.mpr λw hw=>vj (kJ.mp h.2 w hw) ∅⟩
 | n+1,m+1,.ref _,h,_=>by cases h
 | n+1,m+1,.fdc _,h,_=>by cases h
 | n+1,m+1,.fn _,h,_=>by cases h
theorem oh{α β:Type}{f:α->Option β}{g:α->β}:∀{l:List α},(∀x∈l,f x=À (g x))->qk f l=À (l.map g)
 | [],_=>rfl
 | x::r,h=>by
  unfold qk;rw[h x zz,oh λy hy=>h y (zp _ hy)];rfl
theorem ya:∀{n m:Nat} {w:W},dt n w=Â->n<=m->kP m h w=À (toD n w)
 | 0,_,_,e,_=>by cases e
 | n+1,0,_,_,hn=>by omega
 | n+1,m+1,.non,_,_=>rfl
 | n+1,m+1,.bl _,_,_=>rfl
 | n+1,m+1,.int _,_,_=>rfl
 | n+1,m+1,.str x,e,_=>by
  unfold dt at e;rw[zu] at e;unfold kP;rw[zQ e.1];rfl
 | n+1,m+1,.tup l,e,hn=>by
  unfold dt at e;rw[zu] at e;unfold kP;rw[oh λw hw=>ya (kJ.mp e.2 w hw) ∅];rfl
 | n+1,m+1,.fls l,e,hn=>by
  unfold dt at e;rw[zu] at e;unfold kP;rw[oh λw hw=>ya (kJ.mp e.2 w hw) ∅];rfl
 | n+1,m+1,.ref _,e,_=>by cases e
 | n+1,m+1,.fdc _,e,_=>by cases e
 | n+1,m+1,.fn _,e,_=>by cases e
def qA(e:f ws h=À (w,h))(d:dt n w=Â):gc f ws h=À (w,h):=wn e (wl d) (jw _)
def Dr(e:f ws h=À (w,h++t))(d:dt n w=Â):gc f ws h=À (w,h):=wn e (wl d) (qy _ _)
noncomputable def tyB(T:Ty):W->Bool
 | .bl _=>decide (T=.bool)||decide (T=.int)
 | .int _=>decide (T=.int)
 | .str _=>decide (T=.str)
 | .tup _=>decide (T=.tuple)
 | .fls _=>decide (T=.list)
 | _=>Ä
theorem CI(d:dt n w=Â):isW T w h=À (.bl (tyB T w),h):=by
 cases n with
 | zero=>cases d
 | succ n=>
  unfold isW sR tyB;cases w with
  | ref _=>cases d
  | fdc _=>cases d
  | fn _=>cases d
  | non=>rfl
  | bl b=>erw[i7];cases T<;>rfl
  | int b=>erw[i7];cases T<;>rfl
  | str b=>erw[i7];cases T<;>rfl
  | tup b=>erw[i7];cases T<;>rfl
  | fls b=>erw[i7];cases T<;>rfl
theorem vi(h:MH)(x y:È):eqB h (.str x) (.str y)=À (x==y):=rfl
theorem va(h:MH)(x y:Int):eqB h (.int x) (.int y)=À (x==y):=rfl
theorem DU(h:MH)(x y:Bool):eqB h (.bl x) (.bl y)=À (x==y):=rfl
noncomputable def my:W->Bool
 | .tup []=>Â
 | _=>Ä
def Bb(d:dt n w=Â)(hn:n<=60)(dl:dt m (.tup l)=Â)(hm:m<=60):eqB h w (.tup l)=À (ö (toD n w) (toD m (.tup l))):=by
 have e1:=ya (h:=h) d (show n<=deep from hn);have e2:=ya (h:=h) dl (show m<=deep from hm);unfold eqB;have:p9 w (.tup l)=Á:=by unfold p9;cases w<;>rfl
 rw[this,e1,e2]
def Kp(d:dt n w=Â)(hn:n<=60):eqB h w (.tup [])=À (my w):=by
 rw[Bb d hn (m:=1) (by rfl) ∅];cases n with
 | zero=>cases d
 | succ n=>
  cases w with
  | ref _=>cases d
  | fdc _=>cases d
  | fn _=>cases d
  | tup l=>cases l<;>simp[toD,ö,þ,my]
  | _=>simp[toD,ö,my]
noncomputable def kU(l:List È):W->Bool
 | .str x=>l.any (· == x)
 | _=>Ä
noncomputable def zk(l:List È):List W:=l.map .str
def Yp{l:List È}(d:dt n w=Â)(hn:n<=60)(hl:l.all ý=Â)(hy:qS h y=À (zk l))(Aq:∀z,y≠.str z):inB h w y=À (kU l w):=by
 have e1:=ya (h:=h) d (show n<=deep from hn);have e2:qk (kP deep h) (zk l)=À (l.map .str):=by
  unfold zk;have:∀l:List È,l.all ý=Â->qk (kP deep h) (l.map .str)=À (l.map PyData.str):=by
   intro l;induction l with
   | nil=>intro _;rfl
   | cons x r ih=>
    intro hl;rw[j4,zu] at hl;erw[zx];unfold qk;have:kP deep h (.str x)=À (.str x):=by
     show kP (59+1) h (.str x)=_
     unfold kP;rw[zQ hl.1]
    rw[this,ih hl.2]
  exact this l hl
 have e3:inB h w y=match qS h y with
  | some l=>match kP deep h w,qk (kP deep h) l with
   | some d,À ds=>À (ds.any λe=>ö e d)
   | _,_=>Á
  | none=>Á:=by
  unfold inB;split
  .rename_i j
   exact absurd rfl (Aq _)
  .rfl
 rw[e3,hy];erw[e1,e2];congr 1
 cases n with
 | zero=>cases d
 | succ n=>
  rw[ph];cases w with
  | ref _=>cases d
  | fdc _=>cases d
  | fn _=>cases d
  | str x=>
   unfold kU;congr 1
  | _=>simp[toD,ö,kU]
def dW{l:List È}(d:dt n w=Â)(hn:n<=60)(hl:l.all ý=Â):inB h w (.tup (zk l))=À (kU l w):=Yp d hn hl rfl (λz=>nofun)
theorem mP{h:MH}(hn:h.length=n0)(p:W->Bool)(f:W->W):∀(l:List W) (acc:List W) (o:Option W),
  (∀w∈l,∀H',t (À w::caps) H'=À (p w,H'))->(∀w∈l,p w=Â->∀H',m (À w::caps) H'=À (f w,H'))->acc.length+l.length<=cap->
  yA 1 (zw 0) t m n0 l (o::caps) (h++[.lst acc])=À (h++[.lst (acc++(l.filter p).map f)])
 | [],acc,o,_,_,_=>by simp[yA]
 | w::l,acc,o,ht,hf,hl=>by
  have ih:=λHI=>mP (caps:=caps) (t:=t) (m:=m) hn p f l HI Á (λw hw=>ht w (zp _ hw)) (λw hw=>hf w (zp _ hw))
  have hb:blank 1 (À w::caps)=Á::caps:=by simp[blank]
  unfold yA;have hg:zw 0 w (o::caps) (h++[.lst acc])=À (À w::caps,h++[.lst acc]):=by simp[zw]
  rw[hg];simp only;rw[ht w zz];erw[zG] at hl;cases hp:p w with
  | false=>
   simp only;rw[hb,ih acc ∅];simp[qg,hp]
  | true=>
   simp only;rw[hf w zz hp];have e1:(h++[MO.lst acc])[n0]?=À (.lst acc):=by rw[<-hn];simp
   have e2:(h++[MO.lst acc]).set n0 (.lst (acc++[f w]))=h++[.lst (acc++[f w])]:=by rw[<-hn,qm _ _ (zr _)];simp
   erw[e1];rw[zQ ∅,hb,e2,ih (acc++[f w]) (by rw[zR];simp;omega)];simp[qg,hp]
def eX{ks:List Nat}{ρ:En}{h:MH}{l:List W}(p:W->Bool)(f:W->W)(hm:mi ρ h=À (.items l,h))(ht:∀w∈l,∀H',t (À w::ks.map λk=>(ρ[k]?).join) H'=À (p w,H'))
  (hf:∀w∈l,p w=Â->∀H',m (À w::ks.map λk=>(ρ[k]?).join) H'=À (f w,H')) (Ia:∀w∈l,p w=Â->low h.length (f w)=Â) (hl:l.length<=cap):kA mi 1 ks (zw 0) t m ρ h=À (.fls ((l.filter p).map f),h):=by
 have e:=mP (caps:=ks.map λk=>(ρ[k]?).join) (t:=t) (m:=m) (h:=h) rfl p f l [] Á ht hf (by simpa using hl);unfold kA eY;rw[hm];have er:(É 1 (Á:Option W)++ks.map λk=>(ρ[k]?).join)=Á::ks.map λk=>(ρ[k]?).join:=rfl
 simp only;rw[er,e];erw[jc,ji (zr _),u6,q9];rw[zQ];refine⟨qy _ _,qV λw hw=>?_⟩;obtain⟨w',h1,rfl⟩:=zK.mp hw;obtain⟨h2,h3⟩:=jd.mp h1;exact Ia w' h2 h3
theorem i4{h:MH}(hn:h.length=n0)(p:W->W->Bool)(f:W->W->W):∀(l:List (W×W)) (acc:List W) (o1 o2:Option W),
  (∀w∈l,∀H',t (À w.1::À w.2::caps) H'=À (p w.1 w.2,H'))->(∀w∈l,p w.1 w.2=Â->∀H',m (À w.1::À w.2::caps) H'=À (f w.1 w.2,H'))->acc.length+l.length<=cap->
  yA 2 (vS [zw 0,zw 1]) t m n0 (l.map λw=>.tup [w.1,w.2]) (o1::o2::caps) (h++[.lst acc])=À (h++[.lst (acc++(l.filter λw=>p w.1 w.2).map λw=>f w.1 w.2)])
 | [],acc,_,_,_,_,_=>by simp[yA]
 | (a,b)::l,acc,o1,o2,ht,hf,hl=>by
  have ih:=λHI=>i4 (caps:=caps) (t:=t) (m:=m) hn p f l HI Á Á (λw hw=>ht w (zp _ hw)) (λw hw=>hf w (zp _ hw))
  have hb:blank 2 (À a::À b::caps)=Á::Á::caps:=by simp[blank,É]
  erw[zx];unfold yA;have hg:vS [zw 0,zw 1] (.tup [a,b]) (o1::o2::caps) (h++[.lst acc])=À (À a::À b::caps,h++[.lst acc]):=by simp[vS,fh,bnd,zw]
  rw[hg];simp only;rw[ht (a,b) zz];erw[zG] at hl;cases hp:p a b with
  | false=>
   simp only;rw[hb,ih acc ∅];simp[qg,hp]
  | true=>
   simp only;rw[hf (a,b) zz hp];have e1:(h++[MO.lst acc])[n0]?=À (.lst acc):=by rw[<-hn];simp
   have e2:(h++[MO.lst acc]).set n0 (.lst (acc++[f a b]))=h++[.lst (acc++[f a b])]:=by rw[<-hn,qm _ _ (zr _)];simp
   erw[e1];rw[zQ ∅,hb,e2,ih (acc++[f a b]) (by rw[zR];simp;omega)];simp[qg,hp]
def JT{ks:List Nat}{ρ:En}{h:MH}{l:List (W×W)}(p:W->W->Bool)(f:W->W->W)(hm:mi ρ h=À (.items (l.map λw=>.tup [w.1,w.2]),h))(ht:∀w∈l,∀H',t (À w.1::À w.2::ks.map λk=>(ρ[k]?).join) H'=À (p w.1 w.2,H'))
  (hf:∀w∈l,p w.1 w.2=Â->∀H',m (À w.1::À w.2::ks.map λk=>(ρ[k]?).join) H'=À (f w.1 w.2,H')) (Ia:∀w∈l,p w.1 w.2=Â->low h.length (f w.1 w.2)=Â) (hl:l.length<=cap):kA mi 2 ks (vS [zw 0,zw 1]) t m ρ h=À (.fls ((l.filter λw=>p w.1 w.2).map λw=>f w.1 w.2),h):=by
 have e:=i4 (caps:=ks.map λk=>(ρ[k]?).join) (t:=t) (m:=m) (h:=h) rfl p f l [] Á Á ht hf (by simpa using hl);unfold kA eY;rw[hm];have er:(É 2 (Á:Option W)++ks.map λk=>(ρ[k]?).join)=Á::Á::ks.map λk=>(ρ[k]?).join:=rfl
 simp only;rw[er,e];erw[jc,ji (zr _),u6,q9];rw[zQ];refine⟨qy _ _,qV λw hw=>?_⟩;obtain⟨w',h1,rfl⟩:=zK.mp hw;obtain⟨h2,h3⟩:=jd.mp h1;exact Ia w' h2 h3
end ML
namespace K32
open PySem PySem.Spec PyProof.Rows L2 ML
def top(i:Nat):ď:=PySem.Challenge.pw_shelfwork_k32_whole_kinds.main.body.getD i (.Pass ⟨0,0,0,0⟩)
def wt:W:=(.tup [.str "a",.str "b",.str "c",.str "d"])
def t_FORMS:List (È×W):=[("number",(.tup [.int 2,.int 2])),("name",(.tup [.int 2,.int 2])),("read",(.tup [.int 2,.int 2])),("write",(.tup [.int 3,.int 2])),("add",(.tup [.int 3,.int 1])),("less",(.tup [.int 3,.int 1])),("then",(.tup [.int 3,.int 1])),("if",(.tup [.int 4,.int 1])),("loop",(.tup [.int 3,.int 1])),("let",(.tup [.int 4,.int 2])),("own",(.tup [.int 4,.int 2])),("say",(.tup [.int 2,.int 1])),("ask",(.tup [.int 1,.int 1])),("do",(.tup [.int 2,.int 2])),("call",(.tup [.int 4,.int 2]))]
set_option genInjectivity false in
structure Fs where
 (bV aD aM aN bx aG aZ aq aY aJ bR aF aR aU aK bH bh cI aL aB aH aC bL aa bU au bT bu az ak bj cN:List W->M W)
noncomputable def bN(F:Fs):MS:=(zl (kX (zS (zh (jv Ä) (zh zC (zd 0) (RS 0)) (Si "call")))
 (kf (zh addW (zh zC (zd 0) (RS 2)) (zh zC (zd 0) (RS 3))))
 ki)
 (kf (cq (zd 0) (À (zh zC (wm (fH t_FORMS) (zh zC (zd 0) (RS 0))) (RS 1))) Á)))
noncomputable def aj(F:Fs):MS:=(zl (kX (zS (zh (ab Ä) (zh zC (zd 1) (RS 0)) (ze zo [Si "read",Si "write",Si "do"])))
 (kf (ze kH [ze zo [zh zC (zd 1) (RS 0),zh zC (zd 1) (RS 1)]]))
 ki)
 (zl (kX (zS (zh (ab Ä) (zh zC (zd 1) (RS 0)) (ze zo [Si "say",Si "ask"])))
 (kf (ze kH [ze zo [zh zC (zd 1) (RS 0)]]))
 ki)
 (zl (kX (zS (zh (jv Ä) (zh zC (zd 1) (RS 0)) (Si "call")))
 (kf (kA (kF (zh zC (zd 0) (zh zC (zd 1) (RS 1)))) 1 [] (zw 0) (zS (zh (jv Â) (zh zC (zd 0) (RS 0)) (Si "do"))) (zd 0)))
 ki)
 (kf (ze kH [])))))
noncomputable def aW(F:Fs):MS:=(zl (kc (zh zC (zh zC (zd 0) (zd 2)) (RS 1)) (zw 4))
 (kf (ze cf [kA (be [zd 4,zd 3]) 2 [1,2] (vS [zw 0,zw 1]) (zS (zh (ab Ä) (ze zo [Si "do",zd 0]) (zh zC (zd 2) (zd 3)))) (zd 1)])))
noncomputable def aQ(F:Fs):MS:=(zl (kX (zS (zh (jv Ä) (zh zC (zd 2) (RS 0)) (Si "call")))
 (kf (zh addW (zh zC (zd 2) (RS 2)) (ze F.aM [zd 0,zd 1,zh zC (zd 2) (RS 1),zh zC (zd 2) (RS 3)])))
 ki)
 (kf (ze F.bV [zd 2])))
noncomputable def bc(F:Fs):MS:=(kf (Xf (zS (zh (ab Ä) (zd 1) (zd 0))) (zd 0) (zh addW (zd 0) (ze zo [zd 1]))))
noncomputable def aA(F:Fs):MS:=(zl (kX (zS (zh (jv Ä) (zh zC (zd 2) (RS 0)) (Si "own")))
 (kf (ze kH [ze zo [zh zC (zd 2) (RS 2),zd 3],ze zo [zh zC (zd 2) (RS 3),ze F.bx [zd 3,zh zC (zd 2) (RS 1)]]]))
 ki)
 (kf (kA (kF (ze F.aN [zd 0,zd 1,zd 2])) 1 [3] (zw 0) qB (ze zo [zd 0,zd 1]))))
noncomputable def zT:MT:=zS (zh Vl (ze kK [zd 4]) (RS 0))
noncomputable def Ka:MS:=(kX (zS (zh (ab Â) (zh zC (zd 6) (wm nO (RS 1))) (zh zC (zd 5) (RS 1))))
 (kc (eC (.bl Â)) (rN (zd 3) (zd 6)))
 ki)
noncomputable def zB(F:Fs):MS:=(zl (kc (qE lW (zd 4) []) (zw 5))
 (zl (wa (kF (ze F.aD [zd 1,zh zC (zd 5) (RS 0)])) (zw 6) Ka)
 (xb (qE x6 (zd 4) [ze F.aG [zd 0,zd 1,zh zC (zd 5) (RS 0),zh zC (zd 5) (RS 1)]]))))
noncomputable def bQ(F:Fs):MS:=zl (kc mE (zw 3)) (zl (kc (ze dP [ze zo [zd 2,ze zo []]]) (zw 4)) (zl (ck zT (zB F)) (kf (ze uk [zd 3]))))
noncomputable def bB(F:Fs):MS:=(xb (qE yn (zd 1) [ze F.aZ [zd 0,zd 1,zh zC (zd 2) (RS 2)]]))
noncomputable def aX(F:Fs):MS:=zl (kc (ze dP []) (zw 1)) (zl (wa (kF (zd 0)) (zw 2) (bB F)) (kf (zd 1)))
noncomputable def b8(F:Fs):MS:=(kf (ze F.aZ [zd 0,ze F.aq [zd 0],zd 1]))
noncomputable def bF(F:Fs):MS:=(kf (zh zC (ze F.aq [zd 0]) (zd 1)))
noncomputable def bD(F:Fs):MS:=(zl (kc (kA (kF (eC wt)) 1 [] (zw 0) qB (ze zo [Si "read",zd 0])) (zw 1))
 (zl (kc (kA (kF (eC wt)) 1 [] (zw 0) qB (ze zo [Si "write",zd 0])) (zw 2))
 (kf (zh addW (zh addW (zh addW (zd 1) (zd 2)) (ze kH [ze zo [Si "say"],ze zo [Si "ask"]])) (kA (kF (zd 0)) 1 [] (zw 0) qB (ze zo [Si "do",zd 0]))))))
noncomputable def cj(F:Fs):MS:=(zl (kX (yi (zS (wm (isW .list) (zd 0))))
 (kf (eC (.bl Ä)))
 ki)
 (zl (kc (ze F.bR [zd 1]) (zw 2))
 (kf (Ji (ze Zm [kA (kF (zd 0)) 1 [2] (zw 0) qB (zh (ab Ä) (zd 0) (zd 1))]) (zh (jv Ä) (zd 0) (wm fz (zd 0)))))))
noncomputable def bZ(F:Fs):MS:=(kf (kA (kF (zd 0)) 1 [1] (zw 0) (zS (zh (ab Â) (zd 0) (zd 1))) (zd 0)))
noncomputable def cg(F:Fs):MS:=(kf (zh (jv Ä) (ze kK [ze F.aR [zd 0,zd 1]]) (RS 0)))
noncomputable def cC(F:Fs):MS:=(kf (xl (λa b=>a++b) (zd 0) (zd 1)))
noncomputable def b7(F:Fs):MS:=(kf (xl (λa b=>a.filter (b.contains ·)) (zd 0) (zd 1)))
noncomputable def bY(F:Fs):MS:=(kf (ze F.aR [ze F.aY [zd 0,zd 1],zd 2]))
noncomputable def cJ(F:Fs):MS:=(kf (zh (jv Ä) (ze kK [ze F.bh [zd 0,zd 1,zd 2]]) (RS 0)))
noncomputable def bI(F:Fs):MS:=(kf (ze F.aq [zd 0]))
noncomputable def aP(F:Fs):MS:=(zl (kX (zS (zh (jv Â) (ze kK [zd 1]) (ze kK [zd 0])))
 iC
 ki)
 (wa (be [zd 0,zd 1]) (vS [zw 2,zw 3])
 (kX (yi (zS (ze F.aF [zd 3,zh zC (zd 2) (RS 1)])))
 iC
 ki)))
noncomputable def bO(F:Fs):MS:=(zl (xb (ze F.aB [zd 0,zd 1]))
 (zl (wa (yk [ze F.aL [zd 0]]) (vS [zw 2,zw 3])
 (zl (kc (ze F.aR [zd 3,zh zC (zd 1) (zd 2)]) (zw 4))
 (kX (zS (zh Vl (ze kK [zd 4]) (RS 0)))
 (kf (ze zo [zd 2,zd 4]))
 ki)))
 (kf (eC .non))))
noncomputable def bG(F:Fs):MS:=(zl (xb (ze F.aB [zd 0,zd 1]))
 (kf (ze F.aZ [zd 0,zd 1,zd 2])))
noncomputable def bM(F:Fs):MS:=(zl (kX (zS (zh (jv Ä) (zd 0) (ze kH [])))
 (kf (zh kx (RS 7) (zd 1)))
 ki)
 (kf (zh addW (zh zC (zd 0) (zh y7 (zd 1) (ze kK [zd 0]))) (zh kx (RS 6553) (zh aI (zd 1) (ze kK [zd 0]))))))
noncomputable def bC(F:Fs):MS:=(zl (kc (zh y7 (zh addW (zh kx (zh y7 (ze F.bL [zd 0,zd 1]) (RS 2147483563)) (RS 69069)) (zh kx (RS 104723) (zh addW (zd 1) (RS 1)))) (RS 2147483563)) (zw 3))
 (zl (kc (zh y7 (zh addW (zh kx (zd 3) (zd 3)) (zh aI (zd 3) (RS 3))) (RS 2147483399)) (zw 3))
 (kf (zh y7 (zh aI (zh y7 (zh addW (zh kx (zd 3) (zd 3)) (zh aI (zd 3) (RS 7))) (RS 2147483647)) (RS 11)) (zd 2)))))
noncomputable def XS(F:Fs):MS:=(kc (zd 2) (vS [zw 3,zw 4,zw 5]))
noncomputable def XF(F:Fs):MS:=(kc (ze F.aa [zd 0,zd 1,RS 8]) (zw 6))
noncomputable def KN(F:Fs):MS:=(kX (zS (zh Kk (zd 6) (RS 2)))
 (kf (ze zo [Si "number",zh zC (ze kH [RS 0,RS 1,RS 2,RS 3,RS 7,RS 1008]) (ze F.aa [zd 0,zh addW (zd 1) (RS 1),RS 6])]))
 ki)
noncomputable def tW(F:Fs):MS:=(kX (iD (zS (zh (jv Ä) (zd 6) (RS 2))) (zS (zh (jv Â) (zd 3) (ze zo []))))
 (kf (ze zo [Si "name",zh zC (zd 3) (ze F.aa [zd 0,zh addW (zd 1) (RS 1),ze kK [zd 3]])]))
 ki)
noncomputable def tT(F:Fs):MS:=(kX (iD (zS (zh (jv Ä) (zd 6) (RS 3))) (zS (zh (jv Â) (zd 5) (ze zo []))))
 (kf (ze zo [Si "do",zh zC (zd 5) (ze F.aa [zd 0,zh addW (zd 1) (RS 1),ze kK [zd 5]])]))
 ki)
noncomputable def Qs(F:Fs):MS:=(kX (zS (zh (jv Ä) (zd 6) (RS 4)))
 (kf (ze zo [Si "ask"]))
 ki)
noncomputable def V2(F:Fs):MS:=(kc (zh addW (ze zo [Si "a",Si "b",Si "c",Si "d"]) (zh kx (zd 4) (RS 3))) (zw 7))
noncomputable def Xx(F:Fs):MS:=(kf (ze zo [Si "read",zh zC (zd 7) (ze F.aa [zd 0,zh addW (zd 1) (RS 1),ze kK [zd 7]])]))
noncomputable def bf(F:Fs):MS:=zl (XS F) (zl (XF F) (zl (KN F) (zl (tW F) (zl (tT F) (zl (Qs F) (zl (V2 F) (Xx F)))))))
noncomputable def Vo(F:Fs):MS:=(kc (ze F.aa [zd 0,zd 1,RS 15]) (zw 5))
noncomputable def ZF(F:Fs):MS:=(kX (ac (zS (zh (jv Ä) (zd 2) (RS 0))) (zS (zh Kk (zd 5) (RS 2))))
 (kf (ze F.bU [zd 0,zh addW (zd 1) (RS 1),zd 3]))
 ki)
noncomputable def pT(F:Fs):MS:=(kX (iD (zS (zh Kk (zd 5) (RS 4))) (zS (zh (jv Â) (zd 4) (ze zo []))))
 (kf (ze F.bT [zd 0,zd 1,zd 2,zd 3,zd 4]))
 ki)
noncomputable def KG(F:Fs):MS:=(kc (ze F.au [zd 0,zh addW (zh kx (zd 1) (RS 3)) (RS 7),zh yB (zd 2) (RS 1),zd 3,zd 4]) (zw 6))
noncomputable def sD(F:Fs):MS:=(kX (zS (zh Kk (zd 5) (RS 6)))
 (zl (kc (zh addW (ze zo [Si "a",Si "b",Si "c",Si "d"]) (zh kx (zh zC (zd 3) (RS 1)) (RS 3))) (zw 7))
 (kf (ze zo [Si "write",zh zC (zd 7) (ze F.aa [zd 0,zh addW (zd 1) (RS 3),ze kK [zd 7]]),zd 6])))
 ki)
noncomputable def Z4(F:Fs):MS:=(kX (zS (zh (jv Ä) (zd 5) (RS 6)))
 (kf (ze zo [Si "say",zd 6]))
 ki)
noncomputable def KO(F:Fs):MS:=(kX (zS (zh (jv Ä) (zd 5) (RS 7)))
 (zl (kc (zh zC (ze kH [Si "x",Si "y",Si "x1"]) (ze F.aa [zd 0,zh addW (zd 1) (RS 3),RS 3])) (zw 8))
 (kf (ze zo [Si "let",zd 8,zd 6,ze F.au [zd 0,zh addW (zh kx (zd 1) (RS 3)) (RS 23),zh yB (zd 2) (RS 1),zh addW (ze zo [zh addW (zh zC (zd 3) (RS 0)) (ze zo [zd 8])]) (cq (zd 3) (À (RS 1)) Á),zd 4]])))
 ki)
noncomputable def Km(F:Fs):MS:=(kX (zS (zh (jv Ä) (zd 5) (RS 8)))
 (zl (kc (zh zC (ze kH [Si "p",Si "q"]) (ze F.aa [zd 0,zh addW (zd 1) (RS 3),RS 2])) (zw 8))
 (zl (kc (ze zo [zh zC (zd 3) (RS 0),zh addW (zh zC (zd 3) (RS 1)) (ze zo [zd 8]),zh zC (zd 3) (RS 2)]) (zw 9))
 (kf (ze zo [Si "own",zd 8,zd 6,ze F.au [zd 0,zh addW (zh kx (zd 1) (RS 3)) (RS 23),zh yB (zd 2) (RS 1),zd 9,zd 4]]))))
 ki)
noncomputable def sP(F:Fs):MS:=(kc (ze F.au [zd 0,zh addW (zh kx (zd 1) (RS 3)) (RS 41),zh yB (zd 2) (RS 1),zd 3,zd 4]) (zw 10))
noncomputable def sQ(F:Fs):MS:=(kX (zS (zh (jv Ä) (zd 5) (RS 9)))
 (kf (ze zo [Si "if",zd 6,zd 10,ze F.au [zd 0,zh addW (zh kx (zd 1) (RS 3)) (RS 61),zh yB (zd 2) (RS 1),zd 3,zd 4]]))
 ki)
noncomputable def lQ(F:Fs):MS:=(kf (zh addW (zh zC (ze kH [ze zo [Si "then"],ze zo [Si "add"],ze zo [Si "less"],ze zo [Si "loop"],ze zo [Si "then"]]) (zh yB (zd 5) (RS 10))) (ze zo [zd 6,zd 10])))
noncomputable def aO(F:Fs):MS:=zl (Vo F) (zl (ZF F) (zl (pT F) (zl (KG F) (zl (sD F) (zl (Z4 F) (zl (KO F) (zl (Km F) (zl (sP F) (zl (sQ F) (lQ F))))))))))
noncomputable def Xs(F:Fs):MS:=(kc (ze F.aa [zd 0,zh addW (zd 1) (RS 3),ze kK [zd 4]]) (zw 5))
noncomputable def XH(F:Fs):MS:=(kc (ze kK [zh zC (zh zC (zd 4) (zd 5)) (RS 0)]) (zw 6))
noncomputable def Xd(F:Fs):MS:=(kc (ze dP []) (zw 7))
noncomputable def Xm(F:Fs):MS:=(wa (cy [zh addW (zd 6) (ze kK [zh zC (zh zC (zd 4) (zd 5)) (RS 1)])]) (zw 8)
 (xb (qE yn (zd 7) [ze F.au [zd 0,zh addW (zh addW (zh kx (zd 1) (RS 3)) (RS 7)) (zh kx (RS 5) (zd 8)),zh yB (zd 2) (RS 1),zd 3,zd 4]])))
noncomputable def Y9(F:Fs):MS:=(kf (ze zo [Si "call",zd 5,ze cf [cq (zd 7) Á (À (zd 6))],ze cf [cq (zd 7) (À (zd 6)) Á]]))
noncomputable def bK(F:Fs):MS:=zl (Xs F) (zl (XH F) (zl (Xd F) (zl (Xm F) (Y9 F))))
noncomputable def XX(F:Fs):MS:=(kc (ze zo []) (zw 2))
noncomputable def DH(F:Fs):MS:=(wa (cy [ze F.aa [zd 0,zd 1,RS 3]]) (zw 3)
 (zl (kc (zh zC (ze kH [ze zo [],ze zo [Si "x"],ze zo [Si "y",Si "x"]]) (ze F.aa [zd 0,zh addW (zh addW (zd 1) (RS 1)) (zh kx (RS 5) (zd 3)),RS 3])) (zw 4))
 (zl (kc (zh zC (ze kH [ze zo [],ze zo [Si "f"],ze zo [Si "f",Si "g1"]]) (ze F.aa [zd 0,zh addW (zh addW (zd 1) (RS 2)) (zh kx (RS 5) (zd 3)),RS 3])) (zw 5))
 (zl (kc (ze F.au [zd 0,zh addW (zh addW (zd 1) (RS 20)) (zh kx (RS 7) (zd 3)),RS 2,ze zo [zd 4,ze zo [],zd 5],zd 2]) (zw 6))
 (kc (zh addW (zd 2) (ze zo [ze zo [zd 4,zd 5,zd 6]])) (zw 2))))))
noncomputable def Dw(F:Fs):MS:=(kf (zd 2))
noncomputable def bz(F:Fs):MS:=zl (XX F) (zl (DH F) (Dw F))
noncomputable def bJ(F:Fs):MS:=(zl (kc (zh addW (ze kH [ze zo [Si "ask"],ze zo [Si "say"]]) (kA (kF (zd 2)) 1 [] (zw 0) qB (ze zo [Si "do",zd 0]))) (zw 3))
 (zl (wa (nZ (Si "abcd")) (zw 4)
 (kc (zh addW (zd 3) (ze kH [ze zo [Si "read",zd 4],ze zo [Si "write",zd 4]])) (zw 3)))
 (kf (ze uk [kA (yk [zd 3]) 2 [0,1] (vS [zw 0,zw 1]) (zS (zh (jv Ä) (ze F.aa [zd 2,zh addW (zd 3) (zd 0),RS 3]) (RS 0))) (zd 1)]))))
noncomputable def w1(F:Fs):MS:=(kX (zS (zh (ab Ä) (zd 3) (ze zo [Si "number",Si "name",Si "ask",Si "read"])))
 (kf (RS 1))
 ki)
noncomputable def w2(F:Fs):MS:=(kX (zS (zh (jv Ä) (zd 3) (Si "do")))
 (kf (mY (zd 2) (zh zC (zd 1) (RS 1)) (RS 1)))
 ki)
noncomputable def w3(F:Fs):MS:=(kX (zS (zh (jv Ä) (zd 3) (Si "call")))
 (zl (kc (ze iO [kA (be [zh zC (zh zC (zd 0) (zh zC (zd 1) (RS 1))) (RS 1),zh zC (zd 1) (RS 3)]) 2 [0,2] (vS [zw 0,zw 1]) qB (ze zo [zd 0,ze F.ak [zd 2,zd 1,zd 3]])]) (zw 4))
 (zl (kc (ze iw [kA (kF (zh zC (zd 1) (RS 2))) 1 [0,2] (zw 0) qB (ze F.ak [zd 1,zd 0,zd 2])]) (zw 5))
 (kf (zh addW (zh addW (RS 1) (zd 5)) (ze F.ak [zd 0,zh zC (zh zC (zd 0) (zh zC (zd 1) (RS 1))) (RS 2),zd 4])))))
 ki)
noncomputable def w4(F:Fs):MS:=(kc (kA (kF (cq (zd 1) (À (RS 1)) Á)) 1 [0,2] (zw 0) (zS (wm (isW .tuple) (zd 0))) (ze F.ak [zd 1,zd 0,zd 2])) (zw 6))
noncomputable def w5(F:Fs):MS:=(kX (zS (zh (jv Ä) (zd 3) (Si "loop")))
 (kf (zh addW (zh addW (RS 1) (zh zC (zd 6) (RS 0))) (zh kx (RS 3) (zh zC (zd 6) (RS 1)))))
 ki)
noncomputable def w6(F:Fs):MS:=(kf (zh addW (RS 1) (ze iw [zd 6])))
noncomputable def aV(F:Fs):MS:=zl (kc (zh zC (zd 1) (RS 0)) (zw 3)) (zl (w1 F) (zl (w2 F) (zl (w3 F) (zl (w4 F) (zl (w5 F) (w6 F))))))
noncomputable def bA(F:Fs):MS:=(zl (kc (ze F.au [zd 0,zd 1,zd 2,ze zo [ze zo [],ze zo [],ze zo []],zd 3]) (zw 4))
 (zl (kX (zS (zh Vl (ze F.ak [zd 3,zd 4,eC (.fdc [])]) (RS 80)))
 (kf (ze zo [Si "read",zh zC (Si "abcd") (ze F.aa [zd 0,zd 1,RS 4])]))
 ki)
 (kf (zd 4))))
noncomputable def Q0(F:Fs):MS:=(kc (ze F.bu [zd 0,RS 1]) (zw 1))
noncomputable def Q1(F:Fs):MS:=(kc (ze F.bj [zd 0,RS 90,RS 2,zd 1]) (zw 2))
noncomputable def Q2(F:Fs):MS:=(kc (ze F.aY [zd 1,zd 2]) (zw 3))
noncomputable def Q3(F:Fs):MS:=(kc (ze F.az [zd 0,RS 400,ze zo []]) (zw 4))
noncomputable def Q4(F:Fs):MS:=(kc (ze F.az [zd 0,RS 420,ze zo []]) (zw 5))
noncomputable def Q5(F:Fs):MS:=(kX (ac (yi (zS (ze F.cI [zd 1,zd 2,ze F.aK [zd 3,zd 4]]))) (ac (zS (zh (jv Â) (ze F.bh [zd 1,zd 2,zd 3]) (ze kH []))) (yi (zS (ze F.aF [zd 3,ze zo []])))))
 (kf (eC (.bl Ä)))
 ki)
noncomputable def Q6(F:Fs):MS:=(kX (ac (yi (zS (ze F.aU [zd 4,ze F.aK [zd 4,zd 5]]))) (yi (zS (ze F.aU [ze F.bH [zd 4,zd 5],zd 5]))))
 (kf (eC (.bl Ä)))
 ki)
noncomputable def Q7(F:Fs):MS:=(kX (ac (zS (zh (jv Â) (ze F.aU [zd 4,zd 5]) (zh (jv Ä) (ze F.aK [zd 4,zd 5]) (zd 5)))) (zS (zh (jv Â) (ze F.aU [zd 4,zd 5]) (zh (jv Ä) (ze F.bH [zd 4,zd 5]) (zd 4)))))
 (kf (eC (.bl Ä)))
 ki)
noncomputable def Q8(F:Fs):MS:=(kc (ze F.aL [zd 1]) (zw 6))
noncomputable def Q9(F:Fs):MS:=(kc (kA (yk [zd 6]) 2 [0,1] (vS [zw 0,zw 1]) qB (ze F.aK [zd 1,ze F.az [zd 2,zh addW (RS 440) (zh kx (RS 20) (zd 0)),zh zC (zh zC (zd 3) (zd 0)) (RS 1)]])) (zw 7))
noncomputable def FD(F:Fs):MS:=(kc (kA (yk [zd 7]) 2 [0,1] (vS [zw 0,zw 1]) qB (ze F.aK [zd 1,ze F.az [zd 2,zh addW (RS 480) (zh kx (RS 20) (zd 0)),zh zC (zh zC (zd 3) (zd 0)) (RS 1)]])) (zw 8))
noncomputable def XI(F:Fs):MS:=(kX (ac (zS (zh (uS Ä) (ze F.aH [zd 1,zd 6]) (eC .non))) (zS (zh (uS Ä) (ze F.aH [zd 1,zd 7]) (eC .non))))
 (kf (eC (.bl Ä)))
 ki)
noncomputable def XR(F:Fs):MS:=(kc (ze F.aC [zd 1,zd 7,zd 2]) (zw 9))
noncomputable def X3(F:Fs):MS:=(kX (ac (zS (zh (jv Â) (ze F.aC [zd 1,zd 6,zd 2]) (zd 3))) (yi (zS (ze F.aU [zd 3,zd 9]))))
 (kf (eC (.bl Ä)))
 ki)
noncomputable def Xv(F:Fs):MS:=(kX (yi (zS (ze F.aU [zd 9,ze F.aC [zd 1,zd 8,zd 2]])))
 (kf (eC (.bl Ä)))
 ki)
noncomputable def FN(F:Fs):MS:=(wa (cy [ze kK [zd 1]]) (zw 10)
 (zl (kX (ac (yi (zS (ze F.aF [zh zC (zd 6) (zd 10),zh zC (zh zC (zd 1) (zd 10)) (RS 1)]))) (zS (zh (jv Â) (zh zC (zd 6) (zd 10)) (ze F.aJ [zd 1,zd 10]))))
 (kf (eC (.bl Ä)))
 ki)
 (kX (zS (zh (jv Â) (zh zC (zd 6) (zd 10)) (ze kH [])))
 (zl (kc (zh zC (zh zC (zd 6) (zd 10)) (ze F.aa [zd 0,zh addW (RS 520) (zd 10),ze kK [zh zC (zd 6) (zd 10)]])) (zw 11))
 (zl (kc (zh addW (zh addW (cq (zd 7) Á (À (zd 10))) (ze kH [kA (kF (zh zC (zd 7) (zd 10))) 1 [11] (zw 0) (zS (zh (jv Â) (zd 0) (zd 1))) (zd 0)])) (cq (zd 7) (À (zh addW (zd 10) (RS 1))) Á)) (zw 12))
 (kX (zS (zh (jv Â) (ze F.aH [zd 1,zd 12]) (ze zo [zd 10,ze kH [zd 11]])))
 (kf (eC (.bl Ä)))
 ki)))
 ki)))
noncomputable def GN(F:Fs):MS:=(kf (eC (.bl Â)))
noncomputable def cu(F:Fs):MS:=zl (Q0 F) (zl (Q1 F) (zl (Q2 F) (zl (Q3 F) (zl (Q4 F) (zl (Q5 F) (zl (Q6 F) (zl (Q7 F) (zl (Q8 F) (zl (Q9 F) (zl (FD F) (zl (XI F) (zl (XR F) (zl (X3 F) (zl (Xv F) (zl (FN F) (GN F))))))))))))))))
noncomputable def step(F:Fs):Fs where
 bV:=gc (kS 1 0 (bN F))
 aD:=gc (kS 2 0 (aj F))
 aM:=gc (kS 4 1 (aW F))
 aN:=gc (kS 3 0 (aQ F))
 bx:=gc (kS 2 0 (bc F))
 aG:=gc (kS 4 0 (aA F))
 aZ:=gc (kS 3 4 (bQ F))
 aq:=gc (kS 1 2 (aX F))
 aY:=gc (kS 2 0 (b8 F))
 aJ:=gc (kS 2 0 (bF F))
 bR:=gc (kS 1 2 (bD F))
 aF:=gc (kS 2 1 (cj F))
 aR:=gc (kS 2 0 (bZ F))
 aU:=gc (kS 2 0 (cg F))
 aK:=gc (kS 2 0 (cC F))
 bH:=gc (kS 2 0 (b7 F))
 bh:=gc (kS 3 0 (bY F))
 cI:=gc (kS 3 0 (cJ F))
 aL:=gc (kS 1 0 (bI F))
 aB:=gc (kS 2 2 (aP F))
 aH:=gc (kS 2 3 (bO F))
 aC:=gc (kS 3 0 (bG F))
 bL:=gc (kS 2 0 (bM F))
 aa:=gc (kS 3 1 (bC F))
 bU:=gc (kS 3 5 (bf F))
 au:=gc (kS 5 6 (aO F))
 bT:=gc (kS 5 4 (bK F))
 bu:=gc (kS 2 5 (bz F))
 az:=gc (kS 3 2 (bJ F))
 ak:=gc (kS 3 4 (aV F))
 bj:=gc (kS 4 1 (bA F))
 cN:=gc (kS 1 12 (cu F))
noncomputable def Fs.bot:Fs:=let z:List W->M W:=λ_ _=>Á;⟨z,z,z,z,z,z,z,z,z,z,z,z,z,z,z,z,z,z,z,z,z,z,z,z,z,z,z,z,z,z,z,z⟩
noncomputable def lv:Nat->Fs
 | 0=>.bot
 | n+1=>step (lv n)
def fns(F:Fs):List (È×(List W->M W)):=[(("parts_of":È),F.bV),(("marks_of_itself":È),F.aD),(("handed_that_are_done":È),F.aM),(("parts_that_count":È),F.aN),(("with_hidden":È),F.bx),(("parts_with_hidden":È),F.aG),(("marks_by":È),F.aZ),(("marks_of_bodies":È),F.aq),(("touches":È),F.aY),(("rule_touches":È),F.aJ),(("marks_let":È),F.bR),(("is_kind":È),F.aF),(("lacking":È),F.aR),(("is_less":È),F.aU),(("joined":È),F.aK),(("both_of":È),F.bH),(("too_much":È),F.bh),(("fits":È),F.cI),(("least_kinds":È),F.aL),(("refuse_bad_kinds":È),F.aB),(("first_fault":È),F.aH),(("told_touches":È),F.aC),(("_law_cell":È),F.bL),(("_law_drawn":È),F.aa),(("_law_leaf":È),F.bU),(("_law_deed":È),F.au),(("_law_call":È),F.bT),(("_law_rules":È),F.bu),(("_law_kind":È),F.az),(("_law_weight":È),F.ak),(("_law_light":È),F.bj),(("law":È),F.cN)]
def cons:List (È×W):=[("SHELVES",wt)]
def tabs:List (È×List (È×W)):=[("FORMS",t_FORMS)]
def bins:List È:=["all","dict","enumerate","isinstance","len","list","range","set","sorted","sum","tuple","zip"]
def rc(F:Fs):RC:=⟨⟨.function,[],Ä,Ä,[]⟩,[],Ä,fns F,cons,tabs,bins,[],[],[]⟩
def dj:Def:=⟨"parts_of",top 6,["deed"],["deed"],[],[],[]⟩
def cG:Def:=⟨"marks_of_itself",top 8,["bodies","deed"],["bodies","deed"],[],[],[((20,15),["mark"])]⟩
def bW:Def:=⟨"handed_that_are_done",top 9,["rules","bodies","number","handed"],["rules","bodies","number","handed","names"],[],[],[((24,17),["name","part","bodies","number"])]⟩
def cF:Def:=⟨"parts_that_count",top 10,["rules","bodies","deed"],["rules","bodies","deed"],[],[],[]⟩
def cQ:Def:=⟨"with_hidden",top 11,["hidden","shelf"],["hidden","shelf"],[],[],[]⟩
def cA:Def:=⟨"parts_with_hidden",top 12,["rules","bodies","deed","hidden"],["rules","bodies","deed","hidden"],[],[],[((34,11),["part","hidden"])]⟩
def cZ:Def:=⟨"marks_by",top 13,["rules","bodies","deed"],["rules","bodies","deed","found","waiting","place","mark"],["found","waiting"],["found"],[]⟩
def cH:Def:=⟨"marks_of_bodies",top 14,["rules"],["rules","bodies","rule"],["bodies"],[],[]⟩
def dF:Def:=⟨"touches",top 15,["rules","deed"],["rules","deed"],[],[],[]⟩
def cL:Def:=⟨"rule_touches",top 16,["rules","number"],["rules","number"],[],[],[]⟩
def cW:Def:=⟨"marks_let",top 18,["handed"],["handed","reads","writes"],[],[],[((56,12),["shelf"]),((57,13),["shelf"]),((58,51),["name"])]⟩
def dw:Def:=⟨"is_kind",top 19,["thing","handed"],["thing","handed","let"],[],[],[((63,15),["mark","let"])]⟩
def dD:Def:=⟨"lacking",top 20,["marks","kind"],["marks","kind"],[],[],[((65,11),["mark","kind"])]⟩
def dB:Def:=⟨"is_less",top 21,["one","other"],["one","other"],[],[],[]⟩
def dH:Def:=⟨"joined",top 22,["one","other"],["one","other"],[],[],[]⟩
def dC:Def:=⟨"both_of",top 23,["one","other"],["one","other"],[],[],[]⟩
def dh:Def:=⟨"too_much",top 24,["rules","deed","kind"],["rules","deed","kind"],[],[],[]⟩
def dJ:Def:=⟨"fits",top 25,["rules","deed","kind"],["rules","deed","kind"],[],[],[]⟩
def cO:Def:=⟨"least_kinds",top 26,["rules"],["rules"],[],[],[]⟩
def cD:Def:=⟨"refuse_bad_kinds",top 27,["rules","kinds"],["rules","kinds","rule","kind"],[],[],[]⟩
def cP:Def:=⟨"first_fault",top 28,["rules","kinds"],["rules","kinds","number","marks","lacks"],[],[],[]⟩
def cM:Def:=⟨"told_touches",top 29,["rules","kinds","deed"],["rules","kinds","deed"],[],[],[]⟩
def du:Def:=⟨"_law_cell",top 31,["_law_script","_law_k"],["_law_script","_law_k"],[],[],[]⟩
def cT:Def:=⟨"_law_drawn",top 32,["_law_script","_law_k","_law_many"],["_law_script","_law_k","_law_many","_law_cell_here"],[],[],[]⟩
def cX:Def:=⟨"_law_leaf",top 33,["_law_script","_law_at","_law_known"],["_law_script","_law_at","_law_known","_law_names","_law_owns","_law_handed","_law_way","_law_shelves"],[],[],[]⟩
def dg:Def:=⟨"_law_deed",top 34,["_law_script","_law_at","_law_deep","_law_known","_law_rules_here"],["_law_script","_law_at","_law_deep","_law_known","_law_rules_here","_law_way","_law_one","_law_shelves","_law_word","_law_inner","_law_other"],[],[],[]⟩
def dq:Def:=⟨"_law_call",top 35,["_law_script","_law_at","_law_deep","_law_known","_law_rules_here"],["_law_script","_law_at","_law_deep","_law_known","_law_rules_here","_law_number","_law_size","_law_parts","_law_k"],["_law_parts"],[],[]⟩
def cV:Def:=⟨"_law_rules",top 36,["_law_script","_law_at"],["_law_script","_law_at","_law_rules_here","_law_k","_law_names","_law_handed","_law_body"],[],[],[]⟩
def cY:Def:=⟨"_law_kind",top 39,["_law_script","_law_at","_law_handed"],["_law_script","_law_at","_law_handed","_law_every","_law_shelf"],[],[],[((159,40),["_law_word"]),((162,18),["_law_k","_law_mark","_law_script","_law_at"])]⟩
def cR:Def:=⟨"_law_weight",top 40,["_law_rules_here","_law_deed_here","_law_handed"],["_law_rules_here","_law_deed_here","_law_handed","_law_word","_law_there","_law_parts","_law_inner"],[],[],[((173,17),["_law_part","_law_rules_here","_law_handed"]),((170,26),["_law_one","_law_part","_law_rules_here","_law_handed"]),((171,25),["_law_part","_law_rules_here","_law_handed"])]⟩
def cU:Def:=⟨"_law_light",top 41,["_law_script","_law_at","_law_deep","_law_rules_here"],["_law_script","_law_at","_law_deep","_law_rules_here","_law_deed_here"],[],[],[]⟩
def dG:Def:=⟨"law",top 42,["_law_script"],["_law_script","_law_rules_here","_law_deed_here","_law_mine","_law_one","_law_other","_law_least","_law_kinds","_law_greater","_law_told","_law_k","_law_mark","_law_less"],[],[],[((195,17),["_law_k","_law_some","_law_script","_law_rules_here"]),((196,19),["_law_k","_law_some","_law_script","_law_rules_here"]),((209,47),["_law_one_mark","_law_mark"])]⟩
def defs:List Def:=[dj,cG,bW,cF,cQ,cA,cZ,cH,dF,cL,cW,dw,dD,dB,dH,dC,dh,dJ,cO,cD,cP,cM,du,cT,cX,dg,dq,cV,cY,cR,cU,dG]
def lvl{P:Ï}{w:Ñ}{K:aab}{mg:È->Option Ã}{base:Õ}(T:tw (eF K mg) defs)(c:AllOf (Glob K mg) cons)(t:AllOf (TabOk K w.params mg) tabs)(z:AllNone mg bins):∀n,BaseOk P w K mg base ⟨λ_=>0,P,w⟩ n (rc (lv n)):=by
 obtain⟨T0,T1,T2,T3,T4,T5,T6,T7,T8,T9,Px,Py,Pz,PB,PD,PF,PH,PJ,PL,PM,PN,PP,PQ,PU,PV,PX,PY,PZ,P0,P3,P4,P5,-⟩:=T;intro n;induction n with
 | zero=>exact⟨⟨ko T0,ko T1,ko T2,ko T3,ko T4,ko T5,ko T6,ko T7,ko T8,ko T9,ko Px,ko Py,ko Pz,ko PB,ko PD,ko PF,ko PH,ko PJ,ko PL,ko PM,ko PN,ko PP,ko PQ,ko PU,ko PV,ko PX,ko PY,ko PZ,ko P0,ko P3,ko P4,ko P5,trivial⟩,c,t,z,⟨rfl,rfl⟩⟩
 | succ n ih=>exact⟨⟨kN (b:=bN _) T0 ih,kN (b:=aj _) T1 ih,kN (b:=aW _) T2 ih,kN (b:=aQ _) T3 ih,kN (b:=bc _) T4 ih,kN (b:=aA _) T5 ih,kN (b:=bQ _) T6 ih,kN (b:=aX _) T7 ih,kN (b:=b8 _) T8 ih,kN (b:=bF _) T9 ih,kN (b:=bD _) Px ih,kN (b:=cj _) Py ih,kN (b:=bZ _) Pz ih,kN (b:=cg _) PB ih,kN (b:=cC _) PD ih,kN (b:=b7 _) PF ih,kN (b:=bY _) PH ih,kN (b:=cJ _) PJ ih,kN (b:=bI _) PL ih,kN (b:=aP _) PM ih,kN (b:=bO _) PN ih,kN (b:=bG _) PP ih,kN (b:=bM _) PQ ih,kN (b:=bC _) PU ih,kN (b:=bf _) PV ih,kN (b:=aO _) PX ih,kN (b:=bK _) PY ih,kN (b:=bz _) PZ ih,kN (b:=bJ _) P0 ih,kN (b:=aV _) P3 ih,kN (b:=bA _) P4 ih,kN (b:=cu _) P5 ih,trivial⟩,c,t,z,⟨rfl,rfl⟩⟩
end K32
namespace K32
open PySem L2 ML
theorem DE{α:Type}{β:Type}{c:Prop}[Decidable c]{f g:α->β}{x:α}:(if c then f else g) x=if c then f x else g x:=by split<;>rfl
local macro_rules
 |`(tactic|simp![$l,*])=>`(tactic|simp[step,kS,zl,kX,kf,xb,ki,kc,zw,vS,fh,zd,eC,zh,wm,ze,xp,Ji,Dq,YY,Xf,gL,zS,iD,ac,yi,oK,bnd,jv,ab,DE,$l,*])
def BC(l:List W)(f:W->Bool):iL (l.map λw=>.bl (f w))=À (l.map f):=by
 induction l with
 | nil=>rfl
 | cons x r ih=>erw[zx];unfold iL;rw[ih]
def forms:List (È×(Int×Int)):=[("number",(2,2)),("name",(2,2)),("read",(2,2)),("write",(3,2)),("add",(3,1)),("less",(3,1)),("then",(3,1)),("if",(4,1)),("loop",(3,1)),("let",(4,2)),("own",(4,2)),("say",(2,1)),("ask",(1,1)),("do",(2,2)),("call",(4,2))]
def fm(x:È):Option (Int×Int):=forms.lookup x
theorem Uc:t_FORMS=forms.map λp=>(p.1,.tup [.int p.2.1,.int p.2.2]):=rfl
theorem Wj{α β:Type}(f:α->β)(x:È):∀l:List (È×α),(l.map λp=>(p.1,f p.2)).lookup x=(l.lookup x).map f
 | []=>rfl
 | (k,v)::r=>by
  erw[zx,qF];cases x==k with
  | true=>rfl
  | false=>exact Wj f x r
def G5(x:È):t_FORMS.lookup x=(fm x).map λp=>W.tup [.int p.1,.int p.2]:=by
 rw[Uc];exact Wj (λp:Int×Int=>W.tup [.int p.1,.int p.2]) x forms
def qc{l:List W}(d:dt n (.tup l)=Â):∃m,n=m+1/\l.length<=1000/\∀w∈l,dt m w=Â:=by
 cases n with
 | zero=>cases d
 | succ m=>
  unfold dt at d;rw[zu] at d;exact⟨m,rfl,j8 d.1,λw hw=>kJ.mp d.2 w hw⟩
def u7:zC (.tup (x::r)) (.int 0) h=À (x,h):=by simp[zC,atI,y8]
def bq:zC (.tup (x::y::r)) (.int 1) h=À (y,h):=by
 have:(1:Int)<(r.length:Int)+1+1:=by omega
 simp[zC,atI,y8,this]
def tR:zC (.tup (x::y::z::r)) (.int 2) h=À (z,h):=by
 have:(2:Int)<(r.length:Int)+1+1+1:=by omega
 simp[zC,atI,y8,this]
def XA:zC (.tup (x::y::z::u::r)) (.int 3) h=À (u,h):=by
 have:(3:Int)<(r.length:Int)+1+1+1+1:=by omega
 simp[zC,atI,y8,this]
def Xz{l:List W}{i:Int}(h0:0<=i)(h1:i<l.length)(e:l[i.toNat]?=À w):zC (.tup l) (.int i) h=À (w,h):=by
 have hj:i.toNat<l.length:=by omega
 have:l[i.toNat]=w:=by rw[zL hj] at e;exact zX e
 simp[zC,atI,y8,h0,h1,this]
def zI:W->List W
 | .tup (.str x::r)=>if x=="call" then (match r with
   | [_,.tup a,.tup b]=>a++b
   | _=>[]) else (match fm x with
   | some p=>r.drop (p.2.toNat-1)
   | none=>[])
 | _=>[]
def gC{l:List W}{k:Nat}:cutW l (À (k:Int)) Á=l.drop k:=by
 unfold cutW;have e1:HT.sIx l.length 0 (À (k:Int))=min k l.length:=by
  have:¬((k:Int)<0):=by omega
  simp[HT.sIx,this]
 have e2:HT.sIx l.length l.length Á=l.length:=rfl;rw[e1,e2];have:l.drop (min k l.length)=l.drop k:=by
  by_cases h:k<=l.length
  .rw[Nat.min_eq_left h]
  .rw[Nat.min_eq_right ∅,ug,List.drop_of_length_le ∅]
 rw[this];apply uW
 rw[qO];omega
def CA{p:Int×Int}(e:fm x=À p):1<=p.2/\p.2<=4:=by
 have:∀(l:List (È×(Int×Int))),(l.all λq=>decide (1<=q.2.2/\q.2.2<=4))=Â->l.lookup x=À p->1<=p.2/\p.2<=4:=by
  intro l;induction l with
  | nil=>intro _ e;cases e
  | cons q r ih=>
   obtain⟨k,v⟩:=q;intro h e;rw[j4,zu] at h;rw[qF] at e;split at e
   .cases e;exact j8 h.1
   .exact ih h.2 e
 exact this forms (by decide) e
def qq(ks:List È):(zk ks).length=ks.length:=by simp[zk]
def eI(d:dt (n+1) w=Â):∀v∈zI w,dt n v=Â:=by
 intro v hv;unfold zI at hv;split at hv
 .rename_i x r
  obtain⟨m,e,hl,hd⟩:=qc d;cases e;split at hv
  .split at hv
   .rename_i a b
    rename_i z0;cases n with
    | zero=>have:=hd (.tup a) (by simp);cases this
    | succ n=>
    obtain⟨m1,e1,la,da⟩:=qc (hd (.tup a) (by simp));obtain⟨m2,e2,lb,db⟩:=qc (hd (.tup b) (by simp));cases e1;cases e2;rcases zF.mp hv with h | h
    .exact vj (da v h) (qK _)
    .exact vj (db v h) (qK _)
   .simp at hv
  .split at hv
   .exact hd v (zp _ (jR hv))
   .simp at hv
 .simp at hv
def gq(d:dt n w=Â):(zI w).length<=2000:=by
 unfold zI;split
 .rename_i x r
  obtain⟨m,rfl,hl,hd⟩:=qc d;split
  .split
   .rename_i a b
    obtain⟨m1,e1,la,da⟩:=qc (hd (.tup a) (by simp));obtain⟨m2,e2,lb,db⟩:=qc (hd (.tup b) (by simp));rw[zR];omega
   .simp
  .split
   .rw[qO]
    simp at hl;omega
   .simp
 .simp
def at0{α:Type}(h:List α)(o:α):(h++[o])[h.length]?=À o:=by simp
def Ht{α:Type}(h:List α)(o o':α):(h++[o]).set h.length o'=h++[o']:=by rw[qm _ _ (zr _)];simp
noncomputable def up:Nat->Fs->Fs
 | 0,F=>F
 | n+1,F=>step (up n F)
def zt(e:a ρ h=À (.nx ρ',h')):zl a b ρ h=b ρ' h':=by unfold zl;rw[e]
def we(e:a ρ h=À (.ret w,h')):zl a b ρ h=À (.ret w,h'):=by unfold zl;rw[e]
def Hu:zC (.fls (a::r)) (.int 0) h=À (a,h):=by simp[zC,getL,atI,y8]
def Hv:zC (.fls (a::b::r)) (.int 1) h=À (b,h):=by
 have:(1:Int)<(r.length:Int)+1+1:=by omega
 simp[zC,getL,atI,y8,this]
noncomputable abbrev th(x:È)(r:List W):W:=.tup (.str x::r)
def VC{l:List W}(hk:k<=l.length):cutW l Á (À (k:Int))=l.take k:=by
 unfold cutW;have e1:HT.sIx l.length l.length (À (k:Int))=k:=by
  have:¬((k:Int)<0):=by omega
  simp[HT.sIx,this];omega
 have e2:HT.sIx l.length 0 Á=0:=rfl;rw[e1,e2];simp
def Xp:cutW (x::r) (À 1) Á=r:=by
 have:=gC (l:=x::r) (k:=1);simpa using this
def ints_map(l:List W)(f:W->Int):intsOf (l.map λw=>.int (f w))=À (l.map f):=by
 induction l with
 | nil=>rfl
 | cons x r ih=>erw[zx];unfold intsOf;rw[ih]
def filter_true{α:Type}(l:List α):(l.filter λ_=>Â)=l:=vK.mpr (by simp)
def lq{l:List W}(d:dt n (.fls l)=Â)(hn:n<=60):eqB h (.fls l) (.fls [])=À l.isEmpty:=by
 have e1:=ya (h:=h) d (show n<=deep from hn);have e2:=ya (h:=h) (show dt 1 (.fls [])=Â from rfl) (show 1<=deep by decide);unfold eqB;erw[p9,e1,e2];congr 1
 cases n with
 | zero=>cases d
 | succ n=>
  cases l<;>simp[toD,ö,þ]
def kz(ns:List Int):W:=.fls (ns.map W.int)
theorem Cz{ns:List Int}(h:ns.length<=63):dt 2 (kz ns)=Â:=by
 unfold kz dt;rw[zu];refine⟨kO (by simp;omega),kJ.mpr λw hw=>?_⟩;obtain⟨i,_,rfl⟩:=zK.mp hw;rfl
def bg(ns:List Int)(k:Int):Int:=if ns=[] then 7*k else ns.getD (k%ns.length).toNat 0+6553*(k/ns.length)
def B5{ns:List Int}(hl:ns.length<=63):(step F).bL [kz ns,.int k] h=À (.int (bg ns k),h):=by
 refine qA (n:=1) ?_ rfl;have eq:=lq (h:=h) (Cz hl) ∅;have sm:(small 7||small k)=Â:=by rw[show small 7=Â by decide];rfl
 cases ns with
 | nil=>
  have Oz:eqB h (kz []) (.fls [])=À Â:=eq;simp![bM,kH,cap,Oz,kx,sm,bg]
 | cons n r=>
  have Oz:eqB h (kz (n::r)) (.fls [])=À Ä:=eq;have hp:(0:Int)<(r.length:Int)+1:=by omega
  have hb:(r.length:Int)+1<1073741824:=by simp at hl;omega
  have Pb:=wL k (show((r.length:Int)+1)≠0 by omega);have hm1:=v7 k hp;have d6:kK [kz (n::r)] h=À (.int ((r.length:Int)+1),h):=by simp[kK,kz,getL]
  have Ex:zC (kz (n::r)) (.int (k%((r.length:Int)+1))) h=À (.int ((n::r).getD (k%((r.length:Int)+1)).toNat 0),h):=by
   have hj:(k%((r.length:Int)+1)).toNat<(n::r).length:=by simp;omega
   have e1:((n::r).map W.int)[(k%((r.length:Int)+1)).toNat]?=À (.int ((n::r).getD (k%((r.length:Int)+1)).toNat 0)):=by
    rw[zZ,zL hj];erw[Option.map_some,Ĕ,zL hj,qC]
   have e2:atI ((n::r).map W.int) (k%((r.length:Int)+1))=À (.int ((n::r).getD (k%((r.length:Int)+1)).toNat 0)):=by
    unfold atI y8;rw[zQ Pb,zQ (by simp;omega)];exact e1
   erw[zC,kz,getL,e2]
  have TB:(small 6553||small (k/((r.length:Int)+1)))=Â:=by rw[show small 6553=Â by decide];rfl
  simp![bM,kH,cap,Oz,d6,y7,hp,Ex,aI,hb,kx,TB,addW,j3,bg]
def br(ns:List Int)(k:Int):Int:=(bg ns k%2147483563*69069+104723*(k+1))%2147483563
def bE(ns:List Int)(k:Int):Int:=(br ns k*br ns k+br ns k/3)%2147483399
def wb(ns:List Int)(k many:Int):Int:=(bE ns k*bE ns k+bE ns k/7)%2147483647/11%many
def lD(h0:0<=i)(h1:i<2147483648):small i=Â:=by
 unfold small;exact kO ⟨by omega,by omega⟩
def ui{ns:List Int}(hl:ns.length<=63)(hm:0<many):(step (step F)).aa [kz ns,.int k,.int many] h=À (.int (wb ns k many),h):=by
 refine qA (n:=1) ?_ rfl;have e:=λh=>B5 (F:=F) (k:=k) (h:=h) hl
 generalize step F=G at e;have a1:0<=br ns k/\br ns k<2147483563:=⟨wL _ ∅,v7 _ ∅⟩;have a2:0<=bE ns k/\bE ns k<2147483399:=⟨wL _ ∅,v7 _ ∅⟩;have c0:0<=bg ns k%2147483563/\bg ns k%2147483563<2147483563:=⟨wL _ ∅,v7 _ ∅⟩;have s1:(small (bg ns k%2147483563)||small 69069)=Â:=by rw[lD c0.1 ∅];rfl
 have s2:(small 104723||small (k+1))=Â:=by rw[show small 104723=Â by decide];rfl
 have s3:(small (br ns k)||small (br ns k))=Â:=by rw[lD a1.1 ∅];rfl
 have s4:(small (bE ns k)||small (bE ns k))=Â:=by rw[lD a2.1 ∅];rfl
 have m1:∀h,kx (.int (bg ns k%2147483563)) (.int 69069) h=À (.int (bg ns k%2147483563*69069),h):=λh=>by erw[kx,s1,je]
 have m2:∀h,kx (.int 104723) (.int (k+1)) h=À (.int (104723*(k+1)),h):=λh=>by erw[kx,s2,je]
 have m3:∀h,kx (.int (br ns k)) (.int (br ns k)) h=À (.int (br ns k*br ns k),h):=λh=>by erw[kx,s3,je]
 have m4:∀h,kx (.int (bE ns k)) (.int (bE ns k)) h=À (.int (bE ns k*bE ns k),h):=λh=>by erw[kx,s4,je]
 have f1:(bg ns k%2147483563*69069+104723*(k+1))%2147483563=br ns k:=rfl;have f2:(br ns k*br ns k+br ns k/3)%2147483399=bE ns k:=rfl;have f3:(bE ns k*bE ns k+bE ns k/7)%2147483647/11%many=wb ns k many:=rfl;have b1:(kc (zh y7 (zh addW (zh kx (zh y7 (ze G.bL [zd 0,zd 1]) (RS 2147483563)) (RS 69069)) (zh kx (RS 104723) (zh addW (zd 1) (RS 1)))) (RS 2147483563)) (zw 3)) [À (kz ns),À (.int k),À (.int many),Á] h=À (.nx [À (kz ns),À (.int k),À (.int many),À (.int (br ns k))],h):=by
  simp![e,y7,m1,m2,addW,j3,f1]
 have b2:(kc (zh y7 (zh addW (zh kx (zd 3) (zd 3)) (zh aI (zd 3) (RS 3))) (RS 2147483399)) (zw 3)) [À (kz ns),À (.int k),À (.int many),À (.int (br ns k))] h=À (.nx [À (kz ns),À (.int k),À (.int many),À (.int (bE ns k))],h):=by
  simp![y7,m3,aI,addW,j3,f2]
 have b3:(kf (zh y7 (zh aI (zh y7 (zh addW (zh kx (zd 3) (zd 3)) (zh aI (zd 3) (RS 7))) (RS 2147483647)) (RS 11)) (zd 2))) [À (kz ns),À (.int k),À (.int many),À (.int (bE ns k))] h=À (.ret (.int (wb ns k many)),h):=by
  simp![y7,m4,aI,addW,j3,hm,f3]
 have row:bC G [À (kz ns),À (.int k),À (.int many),Á] h=À (.ret (.int (wb ns k many)),h):=by
  unfold bC;rw[zt b1,zt b2,b3]
 erw[kS,zG,kI,je,zx,kZ,É,jt,jc];erw[row]
def ku(hm:0<many):0<=wb ns k many/\wb ns k many<many:=⟨wL _ ∅,v7 _ hm⟩
def pl:Nat->W->Bool
 | 0,_=>Ä
 | _+1,.int i=>decide (0<=i)&&decide (i<=1008)
 | _+1,.str x=>ý x&&decide (x.length<=1000)
 | n+1,.tup l=>decide (l.length<=4)&&l.all (pl n)
 | _+1,_=>Ä
def gN{l:List W}(d:pl n (.tup l)=Â):∃m,n=m+1/\l.length<=4/\∀w∈l,pl m w=Â:=by
 cases n with
 | zero=>cases d
 | succ m=>
  unfold pl at d;rw[zu] at d;exact⟨m,rfl,j8 d.1,λw hw=>kJ.mp d.2 w hw⟩
def y9{l:List W}(hl:l.length<=4)(h:∀w∈l,pl n w=Â):pl (n+1) (.tup l)=Â:=by
 unfold pl;rw[zu];exact⟨kO hl,kJ.mpr h⟩
def uu{l:List W}(hl:l.length<=1000)(h:∀w∈l,dt n w=Â):dt (n+1) (.tup l)=Â:=by
 unfold dt;rw[zu];exact⟨kO hl,kJ.mpr h⟩
def QY{l:List W}(hl:l.length<=1000)(h:∀w∈l,dt n w=Â):dt (n+1) (.fls l)=Â:=by
 unfold dt;rw[zu];exact⟨kO hl,kJ.mpr h⟩
theorem yb:∀{n:Nat} {w:W},pl n w=Â->dt n w=Â
 | 0,_,h=>by cases h
 | n+1,.non,h=>by cases h
 | n+1,.bl _,h=>by cases h
 | n+1,.int _,_=>rfl
 | n+1,.str _,h=>h
 | n+1,.tup l,h=>by
  obtain⟨m,e,hl,hd⟩:=gN h;cases e;exact uu ∅ λw hw=>yb (hd w hw)
 | n+1,.fls _,h=>by cases h
 | n+1,.ref _,h=>by cases h
 | n+1,.fdc _,h=>by cases h
 | n+1,.fn _,h=>by cases h
theorem k8:∀{n m:Nat} {w:W},pl n w=Â->n<=m->pl m w=Â
 | 0,_,_,h,_=>by cases h
 | n+1,0,_,_,h=>by omega
 | n+1,m+1,.non,h,_=>by cases h
 | n+1,m+1,.bl _,h,_=>by cases h
 | n+1,m+1,.int _,h,_=>h
 | n+1,m+1,.str _,h,_=>h
 | n+1,m+1,.tup l,h,hn=>by
  obtain⟨m',e,hl,hd⟩:=gN h;cases e;exact y9 hl λw hw=>k8 (hd w hw) ∅
 | n+1,m+1,.fls _,h,_=>by cases h
 | n+1,m+1,.ref _,h,_=>by cases h
 | n+1,m+1,.fdc _,h,_=>by cases h
 | n+1,m+1,.fn _,h,_=>by cases h
def six:List È:=["a","b","c","d","p","q"]
inductive Sh(rl:List W)(k:Nat)(H:List È):W->Prop
 | number (i:Int):Sh rl k H (th "number" [.int i])
 | name (v:È):Sh rl k H (th "name" [.str v])
 | read (v:È) (hv:v∈six):Sh rl k H (th "read" [.str v])
 | doo (v:È) (hv:v∈H):Sh rl k H (th "do" [.str v])
 | ask:Sh rl k H (th "ask" [])
 | write (v:È) (hv:v∈six) (a:List W):Sh rl k H (th "write" [.str v,.tup a])
 | say (a:List W):Sh rl k H (th "say" [.tup a])
 | lett (v:È) (a b:List W):Sh rl k H (th "let" [.str v,.tup a,.tup b])
 | own (v:È) (hv:v="p" \/ v="q") (a b:List W):Sh rl k H (th "own" [.str v,.tup a,.tup b])
 | add (a b:List W):Sh rl k H (th "add" [.tup a,.tup b])
 | less (a b:List W):Sh rl k H (th "less" [.tup a,.tup b])
 | thenn (a b:List W):Sh rl k H (th "then" [.tup a,.tup b])
 | loop (a b:List W):Sh rl k H (th "loop" [.tup a,.tup b])
 | iff (a b c:List W):Sh rl k H (th "if" [.tup a,.tup b,.tup c])
 | call (i:Nat) (a b:List W) (hi:i<k) (ns:List W) (hs:List È) (body:W) (e:rl[i]?=À (.tup [.tup ns,.tup (zk hs),body])) (lb:b.length=hs.length):Sh rl k H (th "call" [.int i,.tup a,.tup b])
inductive Pn:W->Prop
 | mk (x:È) (r:List W) (p:Int×Int) (hc:(x==("call":È))=Ä) (hf:fm x=À p) (hp:r.filter (tyB .tuple)=zI (th x r)):Pn (th x r)
def Sh.split{rl:List W}{H:List È}(h:Sh rl k H w):Pn w\/∃(i:Nat) (a b:List W) (ns:List W) (hs:List È) (body:W),w=th "call" [.int i,.tup a,.tup b]/\i<k/\rl[i]?=À (.tup [.tup ns,.tup (zk hs),body]):=by
 have key:∀(x:È) (p:Int×Int),(x==("call":È))=Ä->fm x=À p->∀r:List W,r.filter (tyB .tuple)=r.drop (p.2.toNat-1)->Pn (th x r):=by
  intro x p hc hf r hr;refine .mk x r p hc hf ?_;erw[zI,hc,hf,hr];rfl
 cases h with
 | number i=>exact .inl (key _ (2,2) ⋯ ⋯ _ (by simp[tyB]))
 | name v=>exact .inl (key _ (2,2) ⋯ ⋯ _ (by simp[tyB]))
 | read v hv=>exact .inl (key _ (2,2) ⋯ ⋯ _ (by simp[tyB]))
 | doo v hv=>exact .inl (key _ (2,2) ⋯ ⋯ _ (by simp[tyB]))
 | ask=>exact .inl (key _ (1,1) ⋯ ⋯ _ (by simp))
 | write v hv a=>exact .inl (key _ (3,2) ⋯ ⋯ _ (by simp[tyB]))
 | say a=>exact .inl (key _ (2,1) ⋯ ⋯ _ (by simp[tyB]))
 | lett v a b=>exact .inl (key _ (4,2) ⋯ ⋯ _ (by simp[tyB]))
 | own v hv a b=>exact .inl (key _ (4,2) ⋯ ⋯ _ (by simp[tyB]))
 | add a b=>exact .inl (key _ (3,1) ⋯ ⋯ _ (by simp[tyB]))
 | less a b=>exact .inl (key _ (3,1) ⋯ ⋯ _ (by simp[tyB]))
 | thenn a b=>exact .inl (key _ (3,1) ⋯ ⋯ _ (by simp[tyB]))
 | loop a b=>exact .inl (key _ (3,1) ⋯ ⋯ _ (by simp[tyB]))
 | iff a b c=>exact .inl (key _ (4,1) ⋯ ⋯ _ (by simp[tyB]))
 | call i a b hi ns hs body e lb=>exact .inr ⟨i,a,b,ns,hs,body,rfl,hi,e⟩
def wc(i:Int)(a b:List W):zI (th "call" [.int i,.tup a,.tup b])=a++b:=by simp[zI]
def JL{H:List È}(d:dt n w=Â)(ho:Sh rl k H w):(step F).bV [w] h=À (.tup (zI w),h):=by
 rcases ho.split with hp | ⟨i,a,b,ns,hs,body,rfl,hi,e⟩
 .obtain⟨x,r,p,t7,hp,hq⟩:=hp
  obtain⟨m,rfl,hl,hd⟩:=qc d;obtain⟨p1,p2⟩:=CA hp;obtain⟨k,hk⟩:=yt (show 0<=p.2 by omega);have e:zI (.tup (.str x::r))=(W.str x::r).drop k:=by
   erw[zI,t7,hp];rw[hk];cases k with
   | zero=>omega
   | succ k=>simp
  rw[e];refine wn (h':=h) ?_ ?_ (jw _)
  .have ek:zC (.tup [.int p.1,.int p.2]) (.int 1) h=À (.int p.2,h):=bq
   simp![bN,u7,vi,t7,cq,bo,fH,G5,hp,ek,gE];rw[hk];exact gC
  .unfold low
   exact qV λw hw=>wl (hd w (jR hw))
 .obtain⟨m,rfl,hl,hd⟩:=qc d
  obtain⟨m1,rfl,la,da⟩:=qc (hd (.tup a) (by simp));obtain⟨m2,e2,lb,db⟩:=qc (hd (.tup b) (by simp));have hc:a.length+b.length<=cap:=zq (show a.length+b.length<=2000 by omega) (by decide);rw[wc];refine wn (h':=h) ?_ ?_ (jw _)
  .simp![bN,u7,tR,XA,vi,addW,j3,hc]
  .unfold low
   refine qV λw hw=>?_
   rcases zF.mp hw with hw | hw
   .exact wl (da w hw)
   .exact wl (db w hw)
def okd(rl:List W)(k:Nat)(H:List È):Nat->W->Prop
 | 0,_=>False
 | n+1,w=>Sh rl k H w/\∀p∈zI w,okd rl k H n p
def cnt:Nat->W->Nat
 | 0,_=>0
 | n+1,w=>1+((zI w).map (cnt n)).sum
theorem fQ{H:List È}:∀{n m:Nat} {w:W},okd rl k H n w->n<=m->okd rl k H m w
 | 0,_,_,h,_=>by cases h
 | n+1,0,_,_,h=>by omega
 | n+1,m+1,w,h,hn=>⟨h.1,λp hp=>fQ (h.2 p hp) ∅⟩
def gG{f g:W->Nat}{l:List W}(h:∀p∈l,f p=g p):(l.map f).sum=(l.map g).sum:=by rw[ql h]
theorem Zp{rl:List W}{k:Nat}{H:List È}:∀{n m:Nat} {w:W},okd rl k H n w->n<=m->cnt m w=cnt n w
 | 0,_,_,h,_=>by cases h
 | n+1,0,_,_,h=>by omega
 | n+1,m+1,w,h,hn=>by
  unfold cnt;rw[gG λp hp=>Zp (h.2 p hp) ∅]
def Kh:1<=cnt (n+1) w:=by unfold cnt;omega
def DQ(hl:(zI w).length<=l)(h:∀p∈zI w,cnt n p<=B):cnt (n+1) w<=1+l*B:=by
 unfold cnt;have:∀ps:List W,(∀p∈ps,cnt n p<=B)->(ps.map (cnt n)).sum<=ps.length*B:=by
  intro ps;induction ps with
  | nil=>intro _;simp
  | cons p r ih=>
   intro hp;have h1:=hp p zz;have h2:=ih λq hq=>hp q (zp _ hq)
   erw[zx,wC,zG,Nat.add_mul];omega
 have h1:=this _ h;have h2:(zI w).length*B<=l*B:=Nat.mul_le_mul_right _ hl;omega
def fZ(l:List (Key×W)):Prop:=∀p∈l,∃v,p.2=.int v
def Ux(h:fZ l):fZ (lZ l k (.int v)):=by
 intro p hp;unfold lZ at hp;split at hp
 .obtain⟨q,hq,rfl⟩:=zK.mp hp
  split
  .exact⟨v,rfl⟩
  .exact h q hq
 .rcases zF.mp hp with z | z
  .exact h p z
  .simp at z;subst z;exact⟨v,rfl⟩
theorem om:∀{more l:List (Key×W)},fZ l->fZ more->fZ (wq l more)
 | [],l,h,_=>h
 | (k,w)::r,l,h,hm=>by
  obtain⟨v,e⟩:=hm (k,w) zz;simp only at e;subst e;have:=om (more:=r) (l:=lZ l k (.int v)) (Ux h) λp hp=>hm p (zp _ hp)
  exact this
def UJ(h:fZ l):∃v,(fb l k).getD (.int 1)=.int v:=by
 unfold fb;cases e:l.find? λkv=>decide (kv.1=k) with
 | none=>exact⟨1,rfl⟩
 | some p=>
  obtain⟨v,hv⟩:=h p (List.mem_of_find?_eq_some e);exact⟨v,by simp[hv]⟩
structure RulesGood(rl:List W):Prop where
 g:∀i,i<rl.length->∃(ns:List W) (hs:List È) (body:W),rl[i]?=À (.tup [.tup ns,.tup (zk hs),body])/\dt 60 body=Â/\okd rl i hs 3 body/\hs.length<=4
def WOk(G:Fs)(rl:List W)(k n:Nat):Prop:=∀(Hd:List È) (w:W) (hd:List (Key×W)),okd rl k Hd n w->dt 60 w=Â->fZ hd->∃v:Int,∀h,G.ak [.tup rl,w,.fdc hd] h=À (.int v,h)
noncomputable def wv(G:Fs)(rl:List W)(hd:List (Key×W))(w:W):Int:=match G.ak [.tup rl,w,.fdc hd] [] with
 | some (.int v,_)=>v
 | _=>0
def WOk.at{G:Fs}(H:WOk G rl k n)(o:okd rl k Hd n w)(d:dt 60 w=Â)(q:fZ hd)(h:MH):G.ak [.tup rl,w,.fdc hd] h=À (.int (wv G rl hd w),h):=by
 obtain⟨v,e⟩:=H _ w hd o d q;unfold wv;rw[e []];exact e h
def four:List È:=["number","name","ask","read"]
noncomputable abbrev ρw(rl:List W)(w:W)(hd:List (Key×W))(x:È)(o4 o5 o6:Option W):En:=[À (.tup rl),À w,À (.fdc hd),À (.str x),o4,o5,o6]
theorem nD(F:Fs):aV F=zl (kc (zh zC (zd 1) (RS 0)) (zw 3)) (zl (w1 F) (zl (w2 F) (zl (w3 F) (zl (w4 F) (zl (w5 F) (w6 F)))))):=rfl
def in4(d:dt n (.str x)=Â)(hn:n<=60):inB h (.str x) (.tup [.str "number",.str "name",.str "ask",.str "read"])=À (kU four (.str x)):=dW (l:=four) d hn ⋯
def DC(d:dt n (.str x)=Â)(hn:n<=60)(q:kU four (.str x)=Â):w1 F (ρw rl w hd x Á Á Á) h=À (.ret (.int 1),h):=by
 have c4:(4:Nat)<=cap:=by decide
 have e:=in4 (h:=h) d hn;rw[q] at e;simp![w1,zo,c4,e]
def rJ(d:dt n (.str x)=Â)(hn:n<=60)(q:kU four (.str x)=Ä):w1 F (ρw rl w hd x Á Á Á) h=À (.nx (ρw rl w hd x Á Á Á),h):=by
 have c4:(4:Nat)<=cap:=by decide
 have e:=in4 (h:=h) d hn;rw[q] at e;simp![w1,zo,c4,e]
def Jp(q:(x==("do":È))=Ä):w2 F (ρw rl w hd x Á Á Á) h=À (.nx (ρw rl w hd x Á Á Á),h):=by
 simp![w2,vi,q]
def XM(q:(x==("call":È))=Ä):w3 F (ρw rl w hd x Á Á Á) h=À (.nx (ρw rl w hd x Á Á Á),h):=by
 simp![w3,vi,q]
def VU(l:List (È×W))(f:W->Int):pairsOf (l.map λp=>.tup [.str p.1,.int (f p.2)])=À (l.map λp=>(.str p.1,.int (f p.2))):=by
 induction l with
 | nil=>rfl
 | cons x r ih=>erw[zx];unfold pairsOf;rw[ih]
theorem YA(l:List (È×W))(f:W->Int):keysOf (l.map λp=>(W.str p.1,W.int (f p.2)))=À (l.map λp=>(.inr p.1,.int (f p.2))):=by
 induction l with
 | nil=>rfl
 | cons x r ih=>erw[zx];unfold keysOf;rw[ih];rfl
def ZD(hs:List È)(b:List W):(zk hs).zip b=(hs.zip b).map λp=>(W.str p.1,p.2):=by
 induction hs generalizing b with
 | nil=>rfl
 | cons x r ih=>
  cases b with
  | nil=>rfl
  | cons y b=>erw[zk,zx,yZ,zx] at ih ⊢;rw[ih]
theorem x8:∀{a b:List È},zk a=zk b->a=b
 | [],[],_=>rfl
 | [],y::b,h=>by simp[zk] at h
 | x::a,[],h=>by simp[zk] at h
 | x::a,y::b,h=>by
  erw[zk,zx,vo,W.str.injEq] at h;rw[h.1,x8 (a:=a) (b:=b) h.2]
def mX(e1:m ρ h=À (w,h'))(e2:g w ρ h'=À (ρ',h2)):kc m g ρ h=À (.nx ρ',h2):=by
 unfold kc;rw[e1];erw[e2]
def sv(e:m ρ h=À (w,h')):ze f [m] ρ h=f [w] h':=by
 simp[ze,xp,bnd,e]
def ZJ{rl:List W}(hr:RulesGood rl)(hk:k<=rl.length)(H:WOk G rl k n)(HB:∀i,i<k->WOk G rl i 3):WOk (step G) rl k (n+1):=by
 intro Hd w hd o d q;suffices hs:∃v:Int,∀h,aV G [À (.tup rl),À w,À (.fdc hd),Á,Á,Á,Á] h=À (.ret (.int v),h) by
  obtain⟨v,e⟩:=hs;refine⟨v,λh=>qA (n:=1) ?_ rfl⟩;erw[kS,zG,kI,je,zx,kZ,É,jt,jc];erw[e h]
 have dp:∀v∈zI w,dt 60 v=Â:=λv hv=>vj (eI (n:=59) d v hv) ∅
 have lp:=gq d;have start:∀x r,w=th x r->∀h,(kc (zh zC (zd 1) (RS 0)) (zw 3)) [À (.tup rl),À w,À (.fdc hd),Á,Á,Á,Á] h=À (.nx (ρw rl w hd x Á Á Á),h):=by
  intro x r e h;subst e;simp![u7]
 have dx:∀x r,w=th x r->dt 59 (.str x)=Â:=by
  intro x r e;subst e;obtain⟨m,e,hl,hd⟩:=qc d;cases e;exact hd _ zz
 have leaf:∀x r,w=th x r->kU four (.str x)=Â->∃v:Int,∀h,aV G [À (.tup rl),À w,À (.fdc hd),Á,Á,Á,Á] h=À (.ret (.int v),h):=by
  intro x r e hx;refine⟨1,λh=>?_⟩;rw[nD,zt (start x r e h),we (DC (dx x r e) ∅ hx)]
 have inner:∀x r,w=th x r->r.filter (tyB .tuple)=zI w->∀h,w4 G (ρw rl w hd x Á Á Á) h=À (.nx (ρw rl w hd x Á Á (À (.fls ((zI w).map λv=>.int (wv G rl hd v))))),h):=by
  intro x r e hq h;have c:=eX (mi:=kF (cq (zd 1) (À (RS 1)) Á)) (ks:=[0,2]) (t:=zS (wm (isW .tuple) (zd 0))) (m:=ze G.ak [zd 1,zd 0,zd 2]) (ρ:=ρw rl w hd x Á Á Á) (h:=h) (l:=r) (tyB .tuple) (λv=>.int (wv G rl hd v))
   (by subst e;simp![kF,cq,bo,gE,srcOf,Xp])
   (λv hv H'=>by
    subst e;obtain⟨m,e,hl,AQ⟩:=qc d
    simp![CI (AQ v (zp _ hv))])
   (λv hv hy H'=>by
    have P6:v∈zI w:=by rw[<-hq];exact jd.mpr ⟨hv,hy⟩
    simp![H.at (o.2 v P6) (dp v P6) q H'])
   (λv hv _=>by unfold low;rfl)
   (by
    subst e;obtain⟨m,e,hl,AQ⟩:=qc d;have:r.length<=1000:=by simp at hl;omega
    exact zq this (by decide))
  rw[hq] at c;unfold w4 kc;rw[c];simp![]
 have other:∀x r,w=th x r->kU four (.str x)=Ä->(x==("do":È))=Ä->(x==("loop":È))=Ä->Pn w->∃v:Int,∀h,aV G [À (.tup rl),À w,À (.fdc hd),Á,Á,Á,Á] h=À (.ret (.int v),h):=by
  intro x r e h1 h2 h3 hp;refine⟨1+ah ((zI w).map λv=>wv G rl hd v),λh=>?_⟩;cases hp with
  | mk x' r' p hc hf hq=>
   cases e;have e2:=ints_map (zI (th x r)) λv=>wv G rl hd v
   rw[nD,zt (start x r rfl h),zt (rJ (dx x r rfl) ∅ h1),zt (Jp h2),zt (XM hc),zt (inner x r rfl hq h),
    zt (ρ':=ρw rl (th x r) hd x Á Á (À (.fls ((zI (th x r)).map λv=>.int (wv G rl hd v))))) (h':=h) (by simp![w5,vi,h3])]
   simp![w6,iw,qS,getL,e2,addW,j3]
 have TC:=o.1;have IV:=o.1.split;cases TC with
 | number i=>exact leaf _ _ rfl ⋯
 | name v=>exact leaf _ _ rfl ⋯
 | read v=>exact leaf _ _ rfl ⋯
 | ask=>exact leaf _ _ rfl ⋯
 | doo v=>
  obtain⟨u,hu⟩:=UJ (k:=.inr v) q;refine⟨u,λh=>?_⟩;rw[nD,zt (start _ _ rfl h),zt (rJ (dx _ _ rfl) ∅ ⋯)];refine we ?_;simp![w2,vi,mY,gp,bq,keyOf,hu]
 | write v a=>
  rcases IV with hp | ⟨_,_,_,_,_,_,e,_,_⟩
  .exact other _ _ rfl ⋯ ⋯ ⋯ hp
  .cases e
 | say a=>
  rcases IV with hp | ⟨_,_,_,_,_,_,e,_,_⟩
  .exact other _ _ rfl ⋯ ⋯ ⋯ hp
  .cases e
 | lett v a b=>
  rcases IV with hp | ⟨_,_,_,_,_,_,e,_,_⟩
  .exact other _ _ rfl ⋯ ⋯ ⋯ hp
  .cases e
 | own v a b=>
  rcases IV with hp | ⟨_,_,_,_,_,_,e,_,_⟩
  .exact other _ _ rfl ⋯ ⋯ ⋯ hp
  .cases e
 | add a b=>
  rcases IV with hp | ⟨_,_,_,_,_,_,e,_,_⟩
  .exact other _ _ rfl ⋯ ⋯ ⋯ hp
  .cases e
 | less a b=>
  rcases IV with hp | ⟨_,_,_,_,_,_,e,_,_⟩
  .exact other _ _ rfl ⋯ ⋯ ⋯ hp
  .cases e
 | thenn a b=>
  rcases IV with hp | ⟨_,_,_,_,_,_,e,_,_⟩
  .exact other _ _ rfl ⋯ ⋯ ⋯ hp
  .cases e
 | iff a b c=>
  rcases IV with hp | ⟨_,_,_,_,_,_,e,_,_⟩
  .exact other _ _ rfl ⋯ ⋯ ⋯ hp
  .cases e
 | loop a b=>
  have ep:zI (th "loop" [.tup a,.tup b])=[.tup a,.tup b]:=by
   simp[zI,show(("loop":È)=="call")=Ä by decide +kernel,show fm "loop" = À (3,1) by decide +kernel]
  refine⟨1+wv G rl hd (.tup a)+3*wv G rl hd (.tup b),λh=>?_⟩;have LH:=inner _ _ rfl (by rw[ep];simp[tyB]) h;rw[ep] at LH;rw[nD,zt (start _ _ rfl h),zt (rJ (dx _ _ rfl) ∅ ⋯),zt (Jp ⋯),zt (XM ⋯),zt LH];refine we ?_;have sm:(small 3||small (wv G rl hd (.tup b)))=Â:=by rw[show small 3=Â by decide];rfl
  simp![w5,vi,Hu,Hv,addW,j3,kx,sm]
 | call i a b hi ns hs body e=>
  obtain⟨ns',Am,Ae,e',db,ob,TF⟩:=hr.g i ∅;have eb:hs=Am/\body=Ae:=by
   rw[e] at e';injection e' with e';injection e' with e';erw[vo,W.tup.injEq,uL] at e';refine⟨?_,e'.2.2⟩;have:=e'.2.1;exact x8 this
  obtain⟨rfl,rfl⟩:=eb;obtain⟨m,em,hl,AQ⟩:=qc d;cases em;obtain⟨m1,e1,la,da⟩:=qc (AQ (.tup a) (by simp));obtain⟨m2,e2,lb,dbb⟩:=qc (AQ (.tup b) (by simp));rw[wc] at dp;have op:=o.2;rw[wc] at op;have ei:∀h,zC (.tup rl) (.int (i:Int)) h=À (.tup [.tup ns,.tup (zk hs),body],h):=λh=>Xz ∅ ∅ (by simpa using e)
  have TH:fZ (wq [] ((hs.zip b).map λp=>(ģ p.1,W.int (wv G rl hd p.2)))):=by
   refine om (λp hp=>by simp at hp) λp hp=>?_
   obtain⟨z,_,rfl⟩:=zK.mp hp;exact⟨_,rfl⟩
  refine⟨1+ah (a.map λv=>wv G rl hd v)+wv G rl (wq [] ((hs.zip b).map λp=>(ģ p.1,W.int (wv G rl hd p.2)))) body,λh=>?_⟩;have c2:(2:Nat)<=cap:=by decide
  have TJ:(hs.zip b).length<=4:=by rw[vX];omega
  have cz:=JT (mi:=be [zh zC (zh zC (zd 0) (zh zC (zd 1) (RS 1))) (RS 1),zh zC (zd 1) (RS 3)]) (ks:=[0,2]) (t:=qB) (m:=ze zo [zd 0,ze G.ak [zd 2,zd 1,zd 3]]) (ρ:=ρw rl (th "call" [.int i,.tup a,.tup b]) hd "call" Á Á Á) (h:=h) (l:=(hs.zip b).map λp=>(W.str p.1,p.2)) (λ_ _=>Â) (λx y=>.tup [x,.int (wv G rl hd y)])
   (by simp![be,u7,bq,XA,ei,tV,u4,ZD])
   (λv hv H'=>rfl)
   (λv hv _ H'=>by
    obtain⟨p,hp,rfl⟩:=zK.mp hv;have hb:p.2∈b:=(qM (show(p.1,p.2)∈hs.zip b from hp)).2;have AL:p.2∈a++b:=zF.mpr (.inr hb)
    simp![H.at (op _ AL) (dp _ AL) q H',zo,c2])
   (λv hv _=>by
    obtain⟨p,hp,rfl⟩:=zK.mp hv
    simp[low,lows])
   (by rw[zH];exact zq TJ (by decide))
  rw[filter_true,jb] at cz;have cs:=eX (mi:=kF (zh zC (zd 1) (RS 2))) (ks:=[0,2]) (t:=qB) (m:=ze G.ak [zd 1,zd 0,zd 2]) (ρ:=ρw rl (th "call" [.int i,.tup a,.tup b]) hd "call" (À (.fdc (wq [] ((hs.zip b).map λp=>(ģ p.1,W.int (wv G rl hd p.2)))))) Á Á) (h:=h) (l:=a) (λ_=>Â) (λv=>.int (wv G rl hd v))
   (by simp![kF,tR,srcOf])
   (λv hv H'=>rfl)
   (λv hv _ H'=>by
    have AL:v∈a++b:=zF.mpr (.inl hv)
    simp![H.at (op _ AL) (dp _ AL) q H'])
   (λv hv _=>by unfold low;rfl)
   (zq la (by decide))
  rw[filter_true] at cs;have e3:=ints_map a λv=>wv G rl hd v
  have pm:=VU (hs.zip b) λv=>wv G rl hd v
  have km:=YA (hs.zip b) λv=>wv G rl hd v
  have IG:=(HB i hi).at (hd:=wq [] ((hs.zip b).map λp=>(ģ p.1,W.int (wv G rl hd p.2)))) ob db TH h;have Ls:(hs.zip b).length<=1000:=by omega
  rw[nD,zt (start _ _ rfl h),zt (rJ (dx _ _ rfl) ∅ ⋯),zt (Jp ⋯)];refine we ?_;have s1:(kc (ze iO [kA (be [zh zC (zh zC (zd 0) (zh zC (zd 1) (RS 1))) (RS 1),zh zC (zd 1) (RS 3)]) 2 [0,2] (vS [zw 0,zw 1]) qB (ze zo [zd 0,ze G.ak [zd 2,zd 1,zd 3]])]) (zw 4)) (ρw rl (th "call" [.int i,.tup a,.tup b]) hd "call" Á Á Á) h=À (.nx (ρw rl (th "call" [.int i,.tup a,.tup b]) hd "call" (À (.fdc (wq [] ((hs.zip b).map λp=>(ģ p.1,W.int (wv G rl hd p.2)))))) Á Á),h):=by
   refine mX ((sv cz).trans ?_) rfl;have:(List.map ((λw:W×W=>W.tup [w.fst,W.int (wv G rl hd w.snd)])∘λp:È×W=>(W.str p.fst,p.snd)) (hs.zip b))=(hs.zip b).map λp=>.tup [.str p.1,.int (wv G rl hd p.2)]:=rfl
   rw[this];erw[iO,gp,getL,pm,km];rw[zH,zQ Ls]
  have s2:(kc (ze iw [kA (kF (zh zC (zd 1) (RS 2))) 1 [0,2] (zw 0) qB (ze G.ak [zd 1,zd 0,zd 2])]) (zw 5)) (ρw rl (th "call" [.int i,.tup a,.tup b]) hd "call" (À (.fdc (wq [] ((hs.zip b).map λp=>(ģ p.1,W.int (wv G rl hd p.2)))))) Á Á) h=À (.nx (ρw rl (th "call" [.int i,.tup a,.tup b]) hd "call" (À (.fdc (wq [] ((hs.zip b).map λp=>(ģ p.1,W.int (wv G rl hd p.2)))))) (À (.int (ah (a.map λv=>wv G rl hd v)))) Á),h):=by
   refine mX ((sv cs).trans ?_) rfl;erw[iw,qS,getL,e3]
  have t:zS (zh (jv Ä) (zd 3) (Si "call")) (ρw rl (th "call" [.int i,.tup a,.tup b]) hd "call" Á Á Á) h=À (Â,h):=by simp![vi]
  unfold w3 kX;erw[t,je];rw[zt s1,zt s2];simp![u7,bq,tR,ei,IG,addW,j3]
theorem gz{rl:List W}(hr:RulesGood rl)(F:Fs):∀(m k n:Nat),3*k+n<=m->n<=3->k<=rl.length->WOk (up m F) rl k n
 | m,k,0,_,_,_=>by intro Hd w hd o;cases o
 | 0,k,n+1,h,_,_=>by omega
 | m+1,k,n+1,h,hn,hk=>ZJ hr hk (gz hr F m k n ∅ ∅ hk) λi hi=>gz hr F m i 3 ∅ ∅ ∅
theorem Dd(F:Fs):bf F=zl (XS F) (zl (XF F) (zl (KN F) (zl (tW F) (zl (tT F) (zl (Qs F) (zl (V2 F) (Xx F))))))):=rfl
def wd(l:List È):Prop:=∀v∈l,pl 1 (.str v)=Â
noncomputable abbrev kn(N O H:List È):W:=.tup [.tup (zk N),.tup (zk O),.tup (zk H)]
def Wk{l:List W}{i:Int}(h0:0<=i)(h1:i<l.length):∃v∈l,atI l i=À v:=by
 have hj:i.toNat<l.length:=by omega
 exact⟨l[i.toNat],vf hj,by unfold atI y8;rw[zQ h0,zQ h1];simp[hj]⟩
def dO{l:List W}{i:Int}(h0:0<=i)(h1:i<l.length):∃v∈l,∀h,zC (.fls l) (.int i) h=À (v,h):=by
 obtain⟨v,hv,e⟩:=Wk h0 h1;exact⟨v,hv,λh=>by simp[zC,getL,e]⟩
def Za{l:List W}{i:Int}(h0:0<=i)(h1:i<l.length):∃v∈l,∀h,zC (.tup l) (.int i) h=À (v,h):=by
 obtain⟨v,hv,e⟩:=Wk h0 h1;exact⟨v,hv,λh=>by simp[zC,e]⟩
def iJ{l:List È}{i:Int}(h0:0<=i)(h1:i<l.length):∃v∈l,∀h,zC (.tup (zk l)) (.int i) h=À (.str v,h):=by
 obtain⟨v,hv,e⟩:=Za (l:=zk l) h0 (by rw[qq];exact h1);unfold zk at hv;obtain⟨x,hx,rfl⟩:=zK.mp hv;exact⟨x,hx,e⟩
def ZW{l:List È}(h:wd l)(hl:l.length<=4):pl 2 (.tup (zk l))=Â:=by
 refine y9 (by rw[qq];exact hl) λw hw=>?_
 unfold zk at hw;obtain⟨x,hx,rfl⟩:=zK.mp hw;exact h x hx
def BQ{l:List È}(h:wd l)(hl:l.length<=1000):dt 2 (.tup (zk l))=Â:=by
 refine uu (by rw[qq];exact hl) λw hw=>?_
 unfold zk at hw;obtain⟨x,hx,rfl⟩:=zK.mp hw;exact yb (h x hx)
theorem JM(l:List È):my (.tup (zk l))=l.isEmpty:=by cases l<;>rfl
def lh{l:List È}{h:MH}(hw:wd l)(hl:l.length<=1000):eqB h (.tup (zk l)) (.tup [])=À l.isEmpty:=by
 rw[Kp (BQ hw hl) ∅,JM]
def QV{x v:W}(hx:pl 1 x=Â)(hv:pl 1 v=Â):pl 2 (.tup [x,v])=Â:=y9 (by simp) λw hw=>by
 erw[zj,zy,kY] at hw;rcases hw with rfl | rfl<;>assumption
def xD{x:È}{p:Int×Int}{r:List W}(hc:(x==("call":È))=Ä)(hf:fm x=À p)(hr:r.drop (p.2.toNat-1)=[]):zI (th x r)=[]:=by
 simp[zI,hc,hf,hr]
def wo(l:List È):Prop:=∀v∈l,v="p" \/ v="q"
def KY{l:List È}(h:wo l):wd l:=λv hv=>by rcases h v hv with rfl | rfl<;>decide +kernel
def vk(O:List È):List È:=([("a":È),"b","c","d"]:List È)++(O++(O++O))
def Kt(O:List È):[W.str "a",.str "b",.str "c",.str "d"]++(É 3 (zk O)).flatten=zk (vk O):=by
 simp[vk,zk,É]
def KD{O:List È}(h:wd O):wd (vk O):=by
 intro v hv;unfold vk at hv;rcases zF.mp hv with z | z
 .erw[zj,zy,kY] at z
  rcases z with rfl | rfl | rfl | rfl<;>decide +kernel
 .rcases zF.mp z with z | z
  .exact h v z
  .rcases zF.mp z with z | z<;>exact h v z
def tH{O:List È}(h:wo O):∀v∈vk O,v∈six:=by
 intro v hv;have o:v∈O->v∈six:=λq=>by rcases h v q with rfl | rfl<;>decide +kernel
 unfold vk at hv;rcases zF.mp hv with z | z
 .have:∀x∈([("a":È),"b","c","d"]:List È),x∈six:=by decide +kernel
  exact this v z
 .rcases zF.mp z with z | z
  .exact o z
  .rcases zF.mp z with z | z<;>exact o z
def Zi(O:List È):(vk O).length=4+3*O.length:=by simp[vk];omega
noncomputable def c9:Nat->List È->W->Prop
 | 0,_,_=>False
 | n+1,O,w=>(∀x v r,w=th x (.str v::r)->x="read" \/ x="write"->v∈vk O)/\(∀v a b,w=th "own" [.str v,a,b]->c9 n O a/\c9 n (O++[v]) b)/\((∀r,w≠th "own" r)->∀p∈zI w,c9 n O p)
def dQ{x y:È}{r s:List W}(h:th x r=th y s):x=y/\r=s:=by
 erw[th,W.tup.injEq,vo,W.str.injEq] at h;exact h
theorem dN:∀{n m:Nat} {O:List È} {w:W},c9 n O w->n<=m->c9 m O w
 | 0,_,_,_,h,_=>by cases h
 | n+1,0,_,_,_,h=>by omega
 | n+1,m+1,_,_,⟨h1,h2,h3⟩,hn=>⟨h1,λv a b e=>⟨dN (h2 v a b e).1 ∅,dN (h2 v a b e).2 ∅⟩,λne p hp=>dN (h3 ne p hp) ∅⟩
def X0{n:Nat}{O:List È}{x v:È}{r:List W}(hx:x≠"own")(hv:v∈vk O)(hp:∀q∈zI (th x (.str v::r)),c9 n O q):c9 (n+1) O (th x (.str v::r)):=
 ⟨λy u s e _=>by
  obtain⟨_,e⟩:=dQ e;cases e
  exact hv,λu a b e=>absurd (dQ e).1 hx,λ_=>hp⟩
def JK{n:Nat}{O:List È}{x:È}{r:List W}(hx:x≠"read" /\ x≠"write" /\ x≠"own")(hp:∀q∈zI (th x r),c9 n O q):c9 (n+1) O (th x r):=
 ⟨λy u s e z=>by
  have e:=(dQ e).1;subst e;rcases z with z | z
  .exact absurd z hx.1
  .exact absurd z hx.2.1,λu a b e=>absurd (dQ e).1 hx.2.2,λ_=>hp⟩
def CG{n:Nat}{O:List È}{v:È}{a b:W}(ha:c9 n O a)(hb:c9 n (O++[v]) b):c9 (n+1) O (th "own" [.str v,a,b]):=
 ⟨λy u s e z=>by
  have e:=(dQ e).1;subst e;rcases z with z | z<;>exact absurd z ⋯,λu a' b' e=>by
  obtain⟨_,e⟩:=dQ e;cases e
  exact⟨ha,hb⟩,λne=>absurd rfl (ne _)⟩
noncomputable def okc(rl:List W)(k:Nat)(H O:List È)(n:Nat)(w:W):Prop:=okd rl k H n w/\c9 n O w
def mC{rl:List W}{k:Nat}{H O:List È}{x:È}{r:List W}(sh:Sh rl k H (th x r))(hp:zI (th x r)=[])(hx:x≠"read" /\ x≠"write" /\ x≠"own"):okc rl k H O 1 (th x r):=
 ⟨⟨sh,λp q=>by rw[hp] at q;cases q⟩,JK hx λp q=>by rw[hp] at q;cases q⟩
def tf{rl:List W}{k:Nat}{H O:List È}{v:È}(h6:v∈six)(hv:v∈vk O):okc rl k H O 1 (th "read" [.str v]):=by
 have hp:zI (th "read" [.str v])=[]:=xD (p:=(2,2)) ⋯ ⋯ rfl;exact⟨⟨.read v h6,λp q=>by rw[hp] at q;cases q⟩,X0 ⋯ hv λp q=>by rw[hp] at q;cases q⟩
def QQ{F:Fs}{ns:List Int}{a:Int}{N O H:List È}{rl:List W}{k:Nat}(hl:ns.length<=63)(hN:wd N)(Dx:wo O)(hH:wd H)(lN:N.length<=100)(lO:O.length<=100)(lH:H.length<=100) :
  ∃w,(∀h,(step (step (step F))).bU [kz ns,.int a,kn N O H] h=À (w,h))/\pl 2 w=Â/\okc rl k H O 1 w:=by
 have hO:=KY Dx;have e:=λ(k many:Int) (h:MH) (hm:0<many)=>ui (F:=F) (k:=k) (many:=many) (h:=h) hl hm
 generalize step (step F)=G at e;suffices hs:∃w,(∀h,bf G [À (kz ns),À (.int a),À (kn N O H),Á,Á,Á,Á,Á] h=À (.ret w,h))/\pl 2 w=Â/\okc rl k H O 1 w by
  obtain⟨w,e,p,o⟩:=hs;refine⟨w,λh=>qA (n:=2) ?_ (yb p),p,o⟩;erw[kS,zG,kI,je,zx,kZ,É,jt,jc];erw[e h]
 have M5:(1:Nat)<=cap:=by decide
 have I0:(2:Nat)<=cap:=by decide
 have TK:(4:Nat)<=cap:=by decide
 have TL:(6:Nat)<=cap:=by decide
 have s0:∀h,XS G [À (kz ns),À (.int a),À (kn N O H),Á,Á,Á,Á,Á] h=À (.nx [À (kz ns),À (.int a),À (kn N O H),À (.tup (zk N)),À (.tup (zk O)),À (.tup (zk H)),Á,Á],h):=λh=>by
  simp![XS]
 have s1:∀h,XF G [À (kz ns),À (.int a),À (kn N O H),À (.tup (zk N)),À (.tup (zk O)),À (.tup (zk H)),Á,Á] h=À (.nx [À (kz ns),À (.int a),À (kn N O H),À (.tup (zk N)),À (.tup (zk O)),À (.tup (zk H)),À (.int (wb ns a 8)),Á],h):=λh=>by
  simp![XF,e a 8 _ ∅]
 generalize wb ns a 8=d at s1;have row:∀h,bf G [À (kz ns),À (.int a),À (kn N O H),Á,Á,Á,Á,Á] h=zl (KN G) (zl (tW G) (zl (tT G) (zl (Qs G) (zl (V2 G) (Xx G))))) [À (kz ns),À (.int a),À (kn N O H),À (.tup (zk N)),À (.tup (zk O)),À (.tup (zk H)),À (.int d),Á] h:=λh=>by
  rw[Dd,zt (s0 h),zt (s1 h)]
 by_cases k2:d<2
 .obtain⟨v,hv,ev⟩:=dO (l:=[.int 0,.int 1,.int 2,.int 3,.int 7,.int 1008]) (ku (ns:=ns) (k:=a+1) (many:=6) ∅).1 (by simpa using (ku (ns:=ns) (k:=a+1) (many:=6) ∅).2)
  refine⟨th "number" [v],λh=>?_,?_,?_⟩
  .rw[row]
   refine we ?_;simp![KN,vw,k2,kH,TL,addW,j3,e (a+1) 6 _ ∅,ev,zo,I0]
  .refine QV ⋯ ?_
   erw[zj,zy,kY] at hv;rcases hv with rfl | rfl | rfl | rfl | rfl | rfl<;>rfl
  .have:∃i,v=.int i:=by
    erw[zj,zy,kY] at hv;rcases hv with rfl | rfl | rfl | rfl | rfl | rfl<;>exact⟨_,rfl⟩
   obtain⟨i,rfl⟩:=this;exact mC (.number i) (xD (p:=(2,2)) ⋯ ⋯ rfl) ⋯
 have p2:∀h,KN G [À (kz ns),À (.int a),À (kn N O H),À (.tup (zk N)),À (.tup (zk O)),À (.tup (zk H)),À (.int d),Á] h=À (.nx [À (kz ns),À (.int a),À (kn N O H),À (.tup (zk N)),À (.tup (zk O)),À (.tup (zk H)),À (.int d),Á],h):=λh=>by
  simp![KN,vw,k2]
 have eN:=λh=>lh (h:=h) hN ∅
 have eH:=λh=>lh (h:=h) hH ∅
 by_cases k3:(d==2)=Â/\N.isEmpty=Ä
 .have hp:(0:Int)<(N.length:Int):=by
   cases N with
   | nil=>simp at k3
   | cons _ _=>erw[zG];omega
  obtain⟨v,hv,ev⟩:=iJ (l:=N) (ku (ns:=ns) (k:=a+1) (many:=N.length) hp).1 (ku (ns:=ns) (k:=a+1) (many:=N.length) hp).2;refine⟨th "name" [.str v],λh=>?_,?_,?_⟩
  .rw[row,zt (p2 h)]
   refine we ?_;simp![tW,va,k3.1,k3.2,eN,zo,kK,qq,addW,j3,e (a+1) N.length _ hp,ev,I0]
  .exact QV ⋯ (hN v hv)
  .exact mC (.name v) (xD (p:=(2,2)) ⋯ ⋯ rfl) ⋯
 have p3:∀h,tW G [À (kz ns),À (.int a),À (kn N O H),À (.tup (zk N)),À (.tup (zk O)),À (.tup (zk H)),À (.int d),Á] h=À (.nx [À (kz ns),À (.int a),À (kn N O H),À (.tup (zk N)),À (.tup (zk O)),À (.tup (zk H)),À (.int d),Á],h):=λh=>by
  cases q1:(d==2) with
  | false=>simp![tW,va,q1]
  | true=>
   have q2:N.isEmpty=Â:=by
    cases q:N.isEmpty with
    | true=>rfl
    | false=>exact absurd ⟨q1,q⟩ k3
   simp![tW,va,q1,eN,zo,q2]
 by_cases k4:(d==3)=Â/\H.isEmpty=Ä
 .have hp:(0:Int)<(H.length:Int):=by
   cases H with
   | nil=>simp at k4
   | cons _ _=>erw[zG];omega
  obtain⟨v,hv,ev⟩:=iJ (l:=H) (ku (ns:=ns) (k:=a+1) (many:=H.length) hp).1 (ku (ns:=ns) (k:=a+1) (many:=H.length) hp).2;refine⟨th "do" [.str v],λh=>?_,?_,?_⟩
  .rw[row,zt (p2 h),zt (p3 h)]
   refine we ?_;simp![tT,va,k4.1,k4.2,eH,zo,kK,qq,addW,j3,e (a+1) H.length _ hp,ev,I0]
  .exact QV ⋯ (hH v hv)
  .exact mC (.doo v hv) (xD (p:=(2,2)) ⋯ ⋯ rfl) ⋯
 have p4:∀h,tT G [À (kz ns),À (.int a),À (kn N O H),À (.tup (zk N)),À (.tup (zk O)),À (.tup (zk H)),À (.int d),Á] h=À (.nx [À (kz ns),À (.int a),À (kn N O H),À (.tup (zk N)),À (.tup (zk O)),À (.tup (zk H)),À (.int d),Á],h):=λh=>by
  cases q1:(d==3) with
  | false=>simp![tT,va,q1]
  | true=>
   have q2:H.isEmpty=Â:=by
    cases q:H.isEmpty with
    | true=>rfl
    | false=>exact absurd ⟨q1,q⟩ k4
   simp![tT,va,q1,eH,zo,q2]
 cases k5:(d==4) with
 | true=>
  refine⟨th "ask" [],λh=>?_,by decide +kernel,?_⟩
  .rw[row,zt (p2 h),zt (p3 h),zt (p4 h)]
   refine we ?_;simp![Qs,va,k5,zo,M5]
  .exact mC .ask (xD (p:=(1,1)) ⋯ ⋯ rfl) ⋯
 | false=>
  have hp:(0:Int)<((vk O).length:Int):=by rw[Zi];omega
  obtain⟨v,hv,ev⟩:=iJ (l:=vk O) (ku (ns:=ns) (k:=a+1) (many:=(vk O).length) hp).1 (ku (ns:=ns) (k:=a+1) (many:=(vk O).length) hp).2;have c7:4+(É 3 (zk O)).flatten.length<=cap:=by
   have:(É 3 (zk O)).flatten.length=3*O.length:=by simp[É,zk];omega
   rw[this];exact zq (show 4+3*O.length<=400 by omega) (by decide)
  have OA:(zk O).length<=1000:=by rw[qq];omega
  refine⟨th "read" [.str v],λh=>?_,QV ⋯ (KD hO v hv),tf (tH Dx v hv) hv⟩;have p6:V2 G [À (kz ns),À (.int a),À (kn N O H),À (.tup (zk N)),À (.tup (zk O)),À (.tup (zk H)),À (.int d),Á] h=À (.nx [À (kz ns),À (.int a),À (kn N O H),À (.tup (zk N)),À (.tup (zk O)),À (.tup (zk H)),À (.int d),À (.tup (zk (vk O)))],h):=by
   rw[<-Kt];have m:∀h,kx (.tup (zk O)) (.int 3) h=À (.tup (É 3 (zk O)).flatten,h):=λh=>by
    erw[kx];rw[zQ ⟨by omega,by omega,OA⟩];rfl
   have ad:∀h,addW (.tup [.str "a",.str "b",.str "c",.str "d"]) (.tup (É 3 (zk O)).flatten) h=À (.tup ([.str "a",.str "b",.str "c",.str "d"]++(É 3 (zk O)).flatten),h):=λh=>by
    erw[addW,j3,zG,kI];rw[zQ c7]
   generalize (É 3 (zk O)).flatten=Z at m ad;simp![V2,zo,TK,m,ad]
  rw[row,zt (p2 h),zt (p3 h),zt (p4 h),zt (ρ':=[À (kz ns),À (.int a),À (kn N O H),À (.tup (zk N)),À (.tup (zk O)),À (.tup (zk H)),À (.int d),Á]) (h':=h) (by simp![Qs,va,k5]),zt p6];simp![Xx,kK,qq,addW,j3,e (a+1) (vk O).length _ hp,ev,zo,I0]
theorem DN(F:Fs):aO F=zl (Vo F) (zl (ZF F) (zl (pT F) (zl (KG F) (zl (sD F) (zl (Z4 F) (zl (KO F) (zl (Km F) (zl (sP F) (zl (sQ F) (lQ F)))))))))):=rfl
def dZ(G:Fs)(ns:List Int)(rl:List W)(d:Nat):Prop:=∀(a:Int) (N O H:List È),wd N->wo O->wd H->N.length+d<=20->O.length+d<=20->H.length<=20->
 ∃w,(∀h,G.au [kz ns,.int a,.int (d:Int),kn N O H,.tup rl] h=À (w,h))/\pl (2+2*d) w=Â/\okc rl rl.length H O (d+1) w
def VG(G:Fs)(ns:List Int)(rl:List W)(d:Nat):Prop:=∀(a:Int) (N O H:List È),wd N->wo O->wd H->N.length+d<=20->O.length+d<=20->H.length<=20->
 ∃w,(∀h,G.bT [kz ns,.int a,.int ((d:Int)+1),kn N O H,.tup rl] h=À (w,h))/\pl (2+2*(d+1)) w=Â/\okc rl rl.length H O (d+2) w
theorem Sh.tup{rl:List W}{k:Nat}{H:List È}{w:W}(h:Sh rl k H w):∃l,w=.tup l:=by cases h<;>exact⟨_,rfl⟩
theorem okd.tup{rl:List W}{k n:Nat}{H:List È}{w:W}(h:okd rl k H n w):∃l,w=.tup l:=by
 cases n with
 | zero=>cases h
 | succ n=>exact h.1.tup
def tG{H:List È}{p:Int×Int}{r:List W}(sh:Sh rl k H (th x r))(hc:(x==("call":È))=Ä)(hf:fm x=À p)(hr:∀q∈r.drop (p.2.toNat-1),okd rl k H n q):okd rl k H (n+1) (th x r):=by
 refine⟨sh,λq hq=>hr q ?_⟩;have e:zI (th x r)=r.drop (p.2.toNat-1):=by simp[zI,hc,hf]
 rw[<-e];exact hq
theorem okc.tup{rl:List W}{k n:Nat}{H O:List È}{w:W}(h:okc rl k H O n w):∃l,w=.tup l:=h.1.tup
def mZ{H:List È}{p:Int×Int}{r:List W}(sh:Sh rl k H (th x r))(hc:(x==("call":È))=Ä)(hf:fm x=À p)(hx:x≠"read" /\ x≠"write" /\ x≠"own")(hr:∀q∈r.drop (p.2.toNat-1),okc rl k H O n q):okc rl k H O (n+1) (th x r):=by
 refine⟨tG sh hc hf λq hq=>(hr q hq).1,JK hx λq hq=>(hr q ?_).2⟩;have e:zI (th x r)=r.drop (p.2.toNat-1):=by simp[zI,hc,hf]
 rw[<-e];exact hq
def Uo(h:wd l)(hv:pl 1 (.str v)=Â):wd (l++[v]):=by
 intro u hu;rcases zF.mp hu with z | z
 .exact h u z
 .simp at z;subst z;exact hv
def BM{l:List È}{v:È}(h:wo l)(hv:v="p" \/ v="q"):wo (l++[v]):=λu hu=>by
 rcases zF.mp hu with z | z
 .exact h u z
 .rw[jn.mp z];exact hv
def fS(l:List È)(v:È):zk l++[.str v]=zk (l++[v]):=by simp[zk]
def dy(e:t ρ h=À (Â,h))(eA:A ρ h=À (.ret w,h')):zl (kX t A ki) b ρ h=À (.ret w,h'):=by
 refine we ?_;unfold kX;rw[e];erw[je];exact eA
theorem Qe(e:t ρ h=À (Ä,h)):zl (kX t A ki) b ρ h=b ρ h:=by
 refine zt ?_;unfold kX;rw[e];rfl
def sN(e:t ρ h=À (Â,h))(eA:A ρ h=À (f,h')):kX t A ki ρ h=À (f,h'):=by
 unfold kX;rw[e];erw[je];exact eA
theorem gj(e:t ρ h=À (Ä,h)):kX t A ki ρ h=À (.nx ρ,h):=by
 unfold kX;rw[e];rfl
noncomputable abbrev ρD(ns:List Int)(a:Int)(d:Int)(K:W)(rl:List W)(o5 o6 o7 o8 o9 MD:Option W):En:=[À (kz ns),À (.int a),À (.int d),À K,À (.tup rl),o5,o6,o7,o8,o9,MD]
def CO{j:Nat}{ρ:En}(e:ρ[i]?=À (À (.int d))):zS (zh Kk (zd i) (eC (.int m))) ρ h=À (decide (d<m),h):=by simp![e,vw]
def ij{ρ:En}(e:ρ[i]?=À (À (.int d))):zS (zh (jv Ä) (zd i) (eC (.int m))) ρ h=À (d==m,h):=by simp![e,va]
def m3:kx (.int a) (.int 3) h=À (.int (a*3),h):=by
 have:(small a||small 3)=Â:=by rw[show small 3=Â by decide];simp
 erw[kx,this,je]
def QR{F:Fs}{ns:List Int}{rl:List W}{d:Nat}(hl:ns.length<=63)(Ny:dt 20 (.tup rl)=Â)(hd:d+1<=5)(HD:dZ (step (step (step F))) ns rl d)(HC:rl≠[]->VG (step (step (step F))) ns rl d):dZ (step (step (step (step F)))) ns rl (d+1):=by
 intro a N O H hN Dx hH lN lO lH;have hO:=KY Dx;have e:=λ(k many:Int) (h:MH) (hm:0<many)=>ui (F:=step F) (k:=k) (many:=many) (h:=h) hl hm
 have eL:=λ(a:Int)=>QQ (F:=F) (ns:=ns) (a:=a) (N:=N) (O:=O) (H:=H) (rl:=rl) (k:=rl.length) hl hN Dx hH ∅ ∅ ∅
 generalize step (step (step F))=G at e HD HC eL;have ed:((d+1:Nat):Int)=(d:Int)+1:=by omega
 rw[ed];suffices hs:∃w,(∀h,aO G (ρD ns a ((d:Int)+1) (kn N O H) rl Á Á Á Á Á Á) h=À (.ret w,h))/\pl (2+2*(d+1)) w=Â/\okc rl rl.length H O (d+1+1) w by
  obtain⟨w,e,p,o⟩:=hs;refine⟨w,λh=>qA (n:=2+2*(d+1)) ?_ (yb p),p,o⟩;erw[kS,zG,kI,je,zx,kZ,É,jt,jc];have:=e h;erw[ρD] at this;erw[this]
 have c1:(1:Nat)<=cap:=by decide
 have c2:(2:Nat)<=cap:=by decide
 have c3:(3:Nat)<=cap:=by decide
 have c4:(4:Nat)<=cap:=by decide
 have c5:(5:Nat)<=cap:=by decide
 have s0:∀h,Vo G (ρD ns a ((d:Int)+1) (kn N O H) rl Á Á Á Á Á Á) h=À (.nx (ρD ns a ((d:Int)+1) (kn N O H) rl (À (.int (wb ns a 15))) Á Á Á Á Á),h):=λh=>by
  simp![Vo,e a 15 _ ∅]
 have rg:=ku (ns:=ns) (k:=a) (many:=15) ∅;generalize wb ns a 15=y at s0 rg;have row:∀h,aO G (ρD ns a ((d:Int)+1) (kn N O H) rl Á Á Á Á Á Á) h=zl (ZF G) (zl (pT G) (zl (KG G) (zl (sD G) (zl (Z4 G) (zl (KO G) (zl (Km G) (zl (sP G) (zl (sQ G) (lQ G))))))))) (ρD ns a ((d:Int)+1) (kn N O H) rl (À (.int y)) Á Á Á Á Á) h:=λh=>by
  rw[DN,zt (s0 h)]
 have dz:(((d:Int)+1)==0)=Ä:=by rw[jG];omega
 by_cases k1:y<2
 .obtain⟨w,ew,p,o⟩:=eL (a+1)
  refine⟨w,λh=>?_,k8 p ∅,⟨fQ o.1 ∅,dN o.2 ∅⟩⟩;rw[row];refine we ?_;simp![ZF,va,dz,vw,k1,addW,j3,ew]
 have p1:∀h,ZF G (ρD ns a ((d:Int)+1) (kn N O H) rl (À (.int y)) Á Á Á Á Á) h=À (.nx (ρD ns a ((d:Int)+1) (kn N O H) rl (À (.int y)) Á Á Á Á Á),h):=λh=>by
  simp![ZF,va,dz,vw,k1]
 have eR:=λh=>Kp (h:=h) Ny ∅
 have iR:my (.tup rl)=rl.isEmpty:=by cases rl<;>rfl
 by_cases k2:y<4/\rl≠[]
 .obtain⟨w,ew,p,o⟩:=HC k2.2 a N O H hN Dx hH ∅ ∅ lH
  refine⟨w,λh=>?_,p,o⟩;have q:rl.isEmpty=Ä:=by
   cases rl with
   | nil=>exact absurd rfl k2.2
   | cons _ _=>rfl
  rw[row,zt (p1 h)];refine we ?_;simp![pT,vw,k2.1,eR,iR,q,zo,ew]
 have p2:∀h,pT G (ρD ns a ((d:Int)+1) (kn N O H) rl (À (.int y)) Á Á Á Á Á) h=À (.nx (ρD ns a ((d:Int)+1) (kn N O H) rl (À (.int y)) Á Á Á Á Á),h):=λh=>by
  by_cases q1:y<4
  .have q:rl.isEmpty=Â:=by
    cases rl with
    | nil=>rfl
    | cons _ _=>exact absurd ⟨q1,by simp⟩ k2
   simp![pT,vw,q1,eR,iR,q,zo]
  .simp![pT,vw,q1]
 obtain⟨w1,e1,LI,o1⟩:=HD (a*3+7) N O H hN Dx hH ∅ ∅ lH;have p3:∀h,KG G (ρD ns a ((d:Int)+1) (kn N O H) rl (À (.int y)) Á Á Á Á Á) h=À (.nx (ρD ns a ((d:Int)+1) (kn N O H) rl (À (.int y)) (À w1) Á Á Á Á),h):=λh=>by
  simp![KG,m3,addW,j3,yB,e1]
 have Ib:∀h,aO G (ρD ns a ((d:Int)+1) (kn N O H) rl Á Á Á Á Á Á) h=zl (sD G) (zl (Z4 G) (zl (KO G) (zl (Km G) (zl (sP G) (zl (sQ G) (lQ G)))))) (ρD ns a ((d:Int)+1) (kn N O H) rl (À (.int y)) (À w1) Á Á Á Á) h:=λh=>by
  rw[row,zt (p1 h),zt (p2 h),zt (p3 h)]
 obtain⟨l1,rfl⟩:=o1.tup;have pS:∀{n:Nat} {v:È},pl 1 (.str v)=Â->pl (n+1) (.str v)=Â:=λh=>h
 by_cases k4:y<6
 .have hp:(0:Int)<((vk O).length:Int):=by rw[Zi];omega
  obtain⟨v,hv,ev⟩:=iJ (l:=vk O) (ku (ns:=ns) (k:=a+3) (many:=(vk O).length) hp).1 (ku (ns:=ns) (k:=a+3) (many:=(vk O).length) hp).2;have c7:4+(É 3 (zk O)).flatten.length<=cap:=by
   have:(É 3 (zk O)).flatten.length=3*O.length:=by simp[É,zk];omega
   rw[this];exact zq (show 4+3*O.length<=400 by omega) (by decide)
  have OA:(zk O).length<=1000:=by rw[qq];omega
  refine⟨th "write" [.str v,.tup l1],λh=>?_,?_,?_⟩
  .rw[Ib]
   refine we ?_;have m:∀h,kx (.tup (zk O)) (.int 3) h=À (.tup (É 3 (zk O)).flatten,h):=λh=>by
    erw[kx];rw[zQ ⟨by omega,by omega,OA⟩];rfl
   have ad:∀h,addW (.tup [.str "a",.str "b",.str "c",.str "d"]) (.tup (É 3 (zk O)).flatten) h=À (.tup ([.str "a",.str "b",.str "c",.str "d"]++(É 3 (zk O)).flatten),h):=λh=>by
    erw[addW,j3,zG,kI];rw[zQ c7]
   rw[Kt] at ad;generalize (É 3 (zk O)).flatten=Z at m ad;have a3:∀h,addW (.int a) (.int 3) h=À (.int (a+3),h):=λh=>by simp[addW,j3]
   unfold sD;refine sN ((CO (j:=0) rfl).trans (by simp[k4])) ?_;rw[zt (ρ':=ρD ns a ((d:Int)+1) (kn N O H) rl (À (.int y)) (À (.tup l1)) (À (.tup (zk (vk O)))) Á Á Á) (h':=h) (by simp![zo,c4,bq,m,ad])];simp![kK,qq,a3,e (a+3) (vk O).length _ hp,ev,zo,c3]
  .rw[show 2+2*(d+1)=(2*d+3)+1 by omega]
   refine y9 (by simp) λw hw=>?_
   erw[zj,zy,kY] at hw;rcases hw with rfl | rfl | rfl
   .exact pS ⋯
   .exact pS (KD hO v hv)
   .exact k8 LI ∅
  .refine⟨tG (p:=(3,2)) (.write v (tH Dx v hv) l1) ⋯ ⋯ λq hq=>?_,X0 ⋯ hv λq hq=>?_⟩
   .simp at hq;subst hq;exact o1.1
   .have e:zI (th "write" [.str v,.tup l1])=[.tup l1]:=by
     have h1:(("write":È)==("call":È))=Ä:=by decide +kernel
     have h2:fm "write" = À (3,2):=by decide +kernel
     simp[zI,h1,h2]
    rw[e] at hq;simp at hq;subst hq;exact o1.2
 have p4:∀h,sD G (ρD ns a ((d:Int)+1) (kn N O H) rl (À (.int y)) (À (.tup l1)) Á Á Á Á) h=À (.nx (ρD ns a ((d:Int)+1) (kn N O H) rl (À (.int y)) (À (.tup l1)) Á Á Á Á),h):=λh=>
  gj ((CO (j:=0) rfl).trans (by simp[k4]))
 cases k5:(y==6) with
 | true=>
  refine⟨th "say" [.tup l1],λh=>?_,?_,?_⟩
  .rw[Ib,zt (p4 h)]
   refine dy ((ij rfl).trans (by rw[k5])) ?_;simp![zo,c2]
  .rw[show 2+2*(d+1)=(2*d+3)+1 by omega]
   refine y9 (by simp) λw hw=>?_
   erw[zj,zy,kY] at hw;rcases hw with rfl | rfl
   .exact pS ⋯
   .exact k8 LI ∅
  .refine mZ (p:=(2,1)) (.say l1) ⋯ ⋯ ⋯ λq hq=>?_
   simp at hq;subst hq;exact o1
 | false=>
 have p5:∀h,Z4 G (ρD ns a ((d:Int)+1) (kn N O H) rl (À (.int y)) (À (.tup l1)) Á Á Á Á) h=À (.nx (ρD ns a ((d:Int)+1) (kn N O H) rl (À (.int y)) (À (.tup l1)) Á Á Á Á),h):=λh=>
  gj ((ij rfl).trans (by rw[k5]))
 have a3:∀h,addW (.int a) (.int 3) h=À (.int (a+3),h):=λh=>by simp[addW,j3]
 cases k6:(y==7) with
 | true=>
  obtain⟨v',hv,ev⟩:=dO (l:=[.str "x",.str "y",.str "x1"]) (ku (ns:=ns) (k:=a+3) (many:=3) ∅).1 (by simpa using (ku (ns:=ns) (k:=a+3) (many:=3) ∅).2);have:∃v:È,v'=.str v/\pl 1 (.str v)=Â:=by
   erw[zj,zy,kY] at hv;rcases hv with rfl | rfl | rfl<;>exact⟨_,rfl,by decide +kernel⟩
  obtain⟨v,rfl,pv⟩:=this;obtain⟨w2,e2,Eo,o2⟩:=HD (a*3+23) (N++[v]) O H (Uo hN pv) Dx hH (by simp;omega) ∅ lH;obtain⟨l2,rfl⟩:=o2.tup;have a4:∀h,addW (.tup (zk N)) (.tup [.str v]) h=À (.tup (zk (N++[v])),h):=λh=>by
   rw[<-fS];erw[addW,j3,zG,kI,qq];rw[zQ (zq (show N.length+(0+1)<=100 by omega) (by decide))]
  have a5:∀h,gE (kn N O H) (À 1) Á h=À (.tup [.tup (zk O),.tup (zk H)],h):=λh=>by simp[gE,Xp]
  have a6:∀h,addW (.tup [.tup (zk (N++[v]))]) (.tup [.tup (zk O),.tup (zk H)]) h=À (kn (N++[v]) O H,h):=λh=>by
   erw[addW,j3,zG,kI];rw[zQ (by decide)];rfl
  have a7:∀h,addW (.int (a*3)) (.int 23) h=À (.int (a*3+23),h):=λh=>by simp[addW,j3]
  refine⟨th "let" [.str v,.tup l1,.tup l2],λh=>?_,?_,?_⟩
  .rw[Ib,zt (p4 h),zt (p5 h)]
   refine dy ((ij rfl).trans (by rw[k6])) ?_;rw[zt (ρ':=ρD ns a ((d:Int)+1) (kn N O H) rl (À (.int y)) (À (.tup l1)) Á (À (.str v)) Á Á) (h':=h) (by simp![kH,c3,a3,e (a+3) 3 _ ∅,ev])];simp![m3,a7,yB,u7,zo,c1,c4,a4,cq,bo,a5,a6,e2]
  .rw[show 2+2*(d+1)=(2*d+3)+1 by omega]
   refine y9 (by simp) λw hw=>?_
   erw[zj,zy,kY] at hw;rcases hw with rfl | rfl | rfl | rfl
   .exact pS ⋯
   .exact pS pv
   .exact k8 LI ∅
   .exact k8 Eo ∅
  .refine mZ (p:=(4,2)) (.lett v l1 l2) ⋯ ⋯ ⋯ λq hq=>?_
   simp at hq;rcases hq with rfl | rfl
   .exact o1
   .exact o2
 | false=>
 have p6:∀h,KO G (ρD ns a ((d:Int)+1) (kn N O H) rl (À (.int y)) (À (.tup l1)) Á Á Á Á) h=À (.nx (ρD ns a ((d:Int)+1) (kn N O H) rl (À (.int y)) (À (.tup l1)) Á Á Á Á),h):=λh=>
  gj ((ij rfl).trans (by rw[k6]))
 cases k7:(y==8) with
 | true=>
  obtain⟨v',hv,ev⟩:=dO (l:=[.str "p",.str "q"]) (ku (ns:=ns) (k:=a+3) (many:=2) ∅).1 (by simpa using (ku (ns:=ns) (k:=a+3) (many:=2) ∅).2);have:∃v:È,v'=.str v/\pl 1 (.str v)=Â/\(v="p" \/ v="q"):=by
   erw[zj,zy,kY] at hv;rcases hv with rfl | rfl
   .exact⟨_,rfl,by decide +kernel,.inl rfl⟩
   .exact⟨_,rfl,by decide +kernel,.inr rfl⟩
  obtain⟨v,rfl,pv,P7⟩:=this;obtain⟨w2,e2,Eo,o2⟩:=HD (a*3+23) N (O++[v]) H hN (BM Dx P7) hH ∅ (by simp;omega) lH;obtain⟨l2,rfl⟩:=o2.tup;have a4:∀h,addW (.tup (zk O)) (.tup [.str v]) h=À (.tup (zk (O++[v])),h):=λh=>by
   rw[<-fS];erw[addW,j3,zG,kI,qq];rw[zQ (zq (show O.length+(0+1)<=100 by omega) (by decide))]
  have a7:∀h,addW (.int (a*3)) (.int 23) h=À (.int (a*3+23),h):=λh=>by simp[addW,j3]
  refine⟨th "own" [.str v,.tup l1,.tup l2],λh=>?_,?_,?_⟩
  .rw[Ib,zt (p4 h),zt (p5 h),zt (p6 h)]
   refine dy ((ij rfl).trans (by rw[k7])) ?_;rw[zt (ρ':=ρD ns a ((d:Int)+1) (kn N O H) rl (À (.int y)) (À (.tup l1)) Á (À (.str v)) Á Á) (h':=h) (by simp![kH,c2,a3,e (a+3) 2 _ ∅,ev])];rw[zt (ρ':=ρD ns a ((d:Int)+1) (kn N O H) rl (À (.int y)) (À (.tup l1)) Á (À (.str v)) (À (kn N (O++[v]) H)) Á) (h':=h) (by simp![zo,c1,c3,u7,bq,tR,a4])];simp![m3,a7,yB,zo,c4,e2]
  .rw[show 2+2*(d+1)=(2*d+3)+1 by omega]
   refine y9 (by simp) λw hw=>?_
   erw[zj,zy,kY] at hw;rcases hw with rfl | rfl | rfl | rfl
   .exact pS ⋯
   .exact pS pv
   .exact k8 LI ∅
   .exact k8 Eo ∅
  .refine⟨tG (p:=(4,2)) (.own v P7 l1 l2) ⋯ ⋯ λq hq=>?_,CG o1.2 o2.2⟩
   simp at hq;rcases hq with rfl | rfl
   .exact o1.1
   .exact o2.1
 | false=>
 have p7:∀h,Km G (ρD ns a ((d:Int)+1) (kn N O H) rl (À (.int y)) (À (.tup l1)) Á Á Á Á) h=À (.nx (ρD ns a ((d:Int)+1) (kn N O H) rl (À (.int y)) (À (.tup l1)) Á Á Á Á),h):=λh=>
  gj ((ij rfl).trans (by rw[k7]))
 obtain⟨w2,e2,Eo,o2⟩:=HD (a*3+41) N O H hN Dx hH ∅ ∅ lH;obtain⟨l2,rfl⟩:=o2.tup;have a8:∀h,addW (.int (a*3)) (.int 41) h=À (.int (a*3+41),h):=λh=>by simp[addW,j3]
 have p8:∀h,sP G (ρD ns a ((d:Int)+1) (kn N O H) rl (À (.int y)) (À (.tup l1)) Á Á Á Á) h=À (.nx (ρD ns a ((d:Int)+1) (kn N O H) rl (À (.int y)) (À (.tup l1)) Á Á Á (À (.tup l2))),h):=λh=>by
  simp![sP,m3,a8,yB,e2]
 have MF:∀h,aO G (ρD ns a ((d:Int)+1) (kn N O H) rl Á Á Á Á Á Á) h=zl (sQ G) (lQ G) (ρD ns a ((d:Int)+1) (kn N O H) rl (À (.int y)) (À (.tup l1)) Á Á Á (À (.tup l2))) h:=λh=>by
  rw[Ib,zt (p4 h),zt (p5 h),zt (p6 h),zt (p7 h),zt (p8 h)]
 cases k9:(y==9) with
 | true=>
  obtain⟨w3,e3,TM,o3⟩:=HD (a*3+61) N O H hN Dx hH ∅ ∅ lH;obtain⟨l3,rfl⟩:=o3.tup;have a9:∀h,addW (.int (a*3)) (.int 61) h=À (.int (a*3+61),h):=λh=>by simp[addW,j3]
  refine⟨th "if" [.tup l1,.tup l2,.tup l3],λh=>?_,?_,?_⟩
  .rw[MF]
   refine dy ((ij rfl).trans (by rw[k9])) ?_;simp![m3,a9,yB,zo,c4,e3]
  .rw[show 2+2*(d+1)=(2*d+3)+1 by omega]
   refine y9 (by simp) λw hw=>?_
   erw[zj,zy,kY] at hw;rcases hw with rfl | rfl | rfl | rfl
   .exact pS ⋯
   .exact k8 LI ∅
   .exact k8 Eo ∅
   .exact k8 TM ∅
  .refine mZ (p:=(4,1)) (.iff l1 l2 l3) ⋯ ⋯ ⋯ λq hq=>?_
   simp at hq;rcases hq with rfl | rfl | rfl
   .exact o1
   .exact o2
   .exact o3
 | false=>
 have P8:0<=y-10/\y-10<5:=by
  rw[jG] at k5 k6 k7 k9;omega
 obtain⟨v',hv,ev⟩:=dO (l:=[.tup [.str "then"],.tup [.str "add"],.tup [.str "less"],.tup [.str "loop"],.tup [.str "then"]]) (i:=y-10) P8.1 (by simpa using P8.2);have:∃x:È,v'=.tup [.str x]/\pl 1 (.str x)=Â/\(x==("call":È))=Ä/\fm x=À (3,1)/\(x≠"read" /\ x≠"write" /\ x≠"own")/\Sh rl rl.length H (th x [.tup l1,.tup l2]):=by
  erw[zj,zy,kY] at hv;rcases hv with rfl | rfl | rfl | rfl | rfl
  .exact⟨_,rfl,by decide +kernel,by decide +kernel,by decide +kernel,by decide +kernel,.thenn l1 l2⟩
  .exact⟨_,rfl,by decide +kernel,by decide +kernel,by decide +kernel,by decide +kernel,.add l1 l2⟩
  .exact⟨_,rfl,by decide +kernel,by decide +kernel,by decide +kernel,by decide +kernel,.less l1 l2⟩
  .exact⟨_,rfl,by decide +kernel,by decide +kernel,by decide +kernel,by decide +kernel,.loop l1 l2⟩
  .exact⟨_,rfl,by decide +kernel,by decide +kernel,by decide +kernel,by decide +kernel,.thenn l1 l2⟩
 obtain⟨x,rfl,px,hc,hf,hx,sh⟩:=this;refine⟨th x [.tup l1,.tup l2],λh=>?_,?_,?_⟩
 .rw[MF]
  unfold sQ;rw[Qe ((ij rfl).trans (by rw[k9]))];have OB:∀h,addW (.tup [.str x]) (.tup [.tup l1,.tup l2]) h=À (th x [.tup l1,.tup l2],h):=λh=>by
   erw[addW,j3,zG,kI];rw[zQ (by decide)];rfl
  simp![lQ,zo,kH,c1,c2,c5,yB,ev,OB]
 .rw[show 2+2*(d+1)=(2*d+3)+1 by omega]
  refine y9 (by simp) λw hw=>?_
  erw[zj,zy,kY] at hw;rcases hw with rfl | rfl | rfl
  .exact pS px
  .exact k8 LI ∅
  .exact k8 Eo ∅
 .refine mZ (p:=(3,1)) sh hc hf hx λq hq=>?_
  simp at hq;rcases hq with rfl | rfl
  .exact o1
  .exact o2
def Wm{ns:List Int}(hl:ns.length<=63):dZ (step (step (step (step F)))) ns rl 0:=by
 intro a N O H hN Dx hH lN lO lH;have hO:=KY Dx;have e:=λ(k many:Int) (h:MH) (hm:0<many)=>ui (F:=step F) (k:=k) (many:=many) (h:=h) hl hm
 obtain⟨w,ew,p,o⟩:=QQ (F:=F) (ns:=ns) (a:=a+1) (N:=N) (O:=O) (H:=H) (rl:=rl) (k:=rl.length) hl hN Dx hH ∅ ∅ ∅;generalize step (step (step F))=G at e ew;refine⟨w,λh=>qA (n:=2) ?_ (yb p),p,o⟩;simp![aO,Vo,ZF,pT,KG,sD,Z4,KO,Km,sP,sQ,lQ,e a 15 _ ∅,va,addW,j3,ew]
theorem Ce(F:Fs):bK F=zl (Xs F) (zl (XH F) (zl (Xd F) (zl (Xm F) (Y9 F)))):=rfl
theorem Dh(F:Fs):bz F=zl (XX F) (zl (DH F) (Dw F)):=rfl
def hnd:List (List È):=[[],["f"],["f","g1"]]
structure RG(rl:List W):Prop where
 l:rl.length<=4
 g:∀i,i<rl.length->∃(N hs:List È) (body:W),rl[i]?=À (.tup [.tup (zk N),.tup (zk hs),body])/\N.length<=2/\hs.length<=2/\wd N/\wd hs/\pl 6 body=Â/\okd rl i hs 3 body/\hs.Nodup/\c9 3 [] body/\hs∈hnd
theorem RG.pl(h:RG rl):pl 8 (.tup rl)=Â:=by
 refine y9 h.l λw hw=>?_
 obtain⟨i,hi,rfl⟩:=List.mem_iff_getElem.mp hw;obtain⟨N,hs,body,e,l1,l2,w1,w2,p,o⟩:=h.g i hi;rw[zL hi] at e;injection e with e;rw[e];refine y9 (by simp) λv hv=>?_
 erw[zj,zy,kY] at hv;rcases hv with rfl | rfl | rfl
 .exact k8 (ZW w1 ∅) ∅
 .exact k8 (ZW w2 ∅) ∅
 .exact p
def RG.good(h:RG rl):RulesGood rl:=⟨λi hi=>by
 obtain⟨N,hs,body,e,l1,l2,w1,w2,p,o⟩:=h.g i hi
 exact⟨zk N,hs,body,e,vj (yb p) ∅,o.1,by omega⟩⟩
def Sh.more{H:List È}(h:Sh rl k H w):Sh (rl++[r]) k H w:=by
 cases h with
 | call i a b hi ns hs body e lb=>exact .call i a b hi ns hs body (lb:=lb) (by rw[zY (zA.mp e).1];exact e)
 | number i=>exact .number i
 | name v=>exact .name v
 | read v hv=>exact .read v hv
 | doo v hv=>exact .doo v hv
 | ask=>exact .ask
 | write v hv a=>exact .write v hv a
 | say a=>exact .say a
 | lett v a b=>exact .lett v a b
 | own v hv a b=>exact .own v hv a b
 | add a b=>exact .add a b
 | less a b=>exact .less a b
 | thenn a b=>exact .thenn a b
 | loop a b=>exact .loop a b
 | iff a b c=>exact .iff a b c
theorem lL{H:List È}:∀{n:Nat} {w:W},okd rl k H n w->okd (rl++[r]) k H n w
 | 0,_,h=>by cases h
 | n+1,w,h=>⟨h.1.more,λp hp=>lL (h.2 p hp)⟩
def RG.snoc{rl:List W}(h:RG rl)(hl:rl.length<=3){N hs:List È}(l1:N.length<=2)(l2:hs.length<=2)(w1:wd N)(w2:wd hs)(p:K32.pl 6 body=Â)(o:okc rl rl.length hs [] 3 body)(nd:hs.Nodup)(hh:hs∈hnd):RG (rl++[.tup [.tup (zk N),.tup (zk hs),body]]):=by
 refine⟨by simp;omega,λi hi=>?_⟩;by_cases c:i<rl.length
 .obtain⟨N',Am,Ae,e,a1,a2,a3,a4,a5,a6⟩:=h.g i c
  exact⟨N',Am,Ae,by rw[zY c];exact e,a1,a2,a3,a4,a5,lL a6.1,a6.2⟩
 .have:i=rl.length:=by simp at hi;omega
  subst this;exact⟨N,hs,body,by simp,l1,l2,w1,w2,p,lL o.1,nd,o.2,hh⟩
def m5:kx (.int 5) (.int a) h=À (.int (5*a),h):=by
 have:(small 5||small a)=Â:=by rw[show small 5=Â by decide];rfl
 erw[kx,this,je]
def m7:kx (.int 7) (.int a) h=À (.int (7*a),h):=by
 have:(small 7||small a)=Â:=by rw[show small 7=Â by decide];rfl
 erw[kx,this,je]
noncomputable abbrev ρC(ns:List Int)(a d:Int)(K:W)(rl:List W)(o5 o6 o7 o8:Option W):En:=[À (kz ns),À (.int a),À (.int d),À K,À (.tup rl),o5,o6,o7,o8]
theorem rf{G:Fs}{rl:List W}{N O H:List È}(HD:dZ G ns rl d)(hN:wd N)(hO:wo O)(hH:wd H)(lN:N.length+d<=20)(lO:O.length+d<=20)(lH:H.length<=20) :
  ∀is:List Int,∃ws:List W,ws.length=is.length/\(∀w∈ws,pl (2+2*d) w=Â/\okc rl rl.length H O (d+1) w)/\∀(h0:MH) (acc:List W) (o5 o6 o8:Option W),acc.length+is.length<=1000->
   ∃o,forL (zw 8) (xb (qE yn (zd 7) [ze G.au [zd 0,zh addW (zh addW (zh kx (zd 1) (RS 3)) (RS 7)) (zh kx (RS 5) (zd 8)),zh yB (zd 2) (RS 1),zd 3,zd 4]])) (is.map W.int) (ρC ns a ((d:Int)+1) (kn N O H) rl o5 o6 (À (.ref h0.length)) o8) (h0++[.lst acc]) =
    À (.nx (ρC ns a ((d:Int)+1) (kn N O H) rl o5 o6 (À (.ref h0.length)) o),h0++[.lst (acc++ws)])
 | []=>⟨[],rfl,λw hw=>by simp at hw,λh0 acc o5 o6 o8 _=>⟨o8,by simp[forL]⟩⟩
 | i::is=>by
  obtain⟨ws,h1,h2,h3⟩:=rf (a:=a) HD hN hO hH lN lO lH is;obtain⟨w,ew,p,o⟩:=HD (a*3+7+5*i) N O H hN hO hH lN lO lH;refine⟨w::ws,by simp[h1],λv hv=>?_,λh0 acc o5 o6 o8 hc=>?_⟩
  .rcases zj.mp hv with rfl | z
   .exact⟨p,o⟩
   .exact h2 v z
  .erw[zG] at hc
   obtain⟨o',e⟩:=h3 h0 (acc++[w]) o5 o6 (À (.int i)) (by simp;omega);refine⟨o',?_⟩;erw[zx];unfold forL;have g:zw 8 (.int i) (ρC ns a ((d:Int)+1) (kn N O H) rl o5 o6 (À (.ref h0.length)) o8) (h0++[.lst acc])=À (ρC ns a ((d:Int)+1) (kn N O H) rl o5 o6 (À (.ref h0.length)) (À (.int i)),h0++[.lst acc]):=by simp[zw]
   rw[g];have EO:acc.length<cap:=zN (show acc.length<1000 by omega) (by decide);have b:(xb (qE yn (zd 7) [ze G.au [zd 0,zh addW (zh addW (zh kx (zd 1) (RS 3)) (RS 7)) (zh kx (RS 5) (zd 8)),zh yB (zd 2) (RS 1),zd 3,zd 4]])) (ρC ns a ((d:Int)+1) (kn N O H) rl o5 o6 (À (.ref h0.length)) (À (.int i))) (h0++[.lst acc])=À (.nx (ρC ns a ((d:Int)+1) (kn N O H) rl o5 o6 (À (.ref h0.length)) (À (.int i))),h0++[.lst (acc++[w])]):=by
    simp![qE,getL,at0,yn,Ht,m3,m5,addW,j3,yB,ew,EO]
   erw[b];rw[e];simp
def rE(n:Nat):upto n=((_root_.List.range n).map λ(i:Nat)=>(i:Int)).map W.int:=by simp[upto]
def V7{ns:List Int}(hl:ns.length<=63)(Lu:RG rl)(AE:rl≠[])(HD:dZ (step (step F)) ns rl d):VG (step (step (step F))) ns rl d:=by
 intro a N O H hN hO hH lN lO lH;have e:=λ(k many:Int) (h:MH) (hm:0<many)=>ui (F:=F) (k:=k) (many:=many) (h:=h) hl hm
 generalize step (step F)=G at e HD;have hp:(0:Int)<(rl.length:Int):=by
  cases rl with
  | nil=>exact absurd rfl AE
  | cons _ _=>erw[zG];omega
 have rg:=ku (ns:=ns) (k:=a+3) (many:=rl.length) hp;have er:=λh=>e (a+3) rl.length h hp
 obtain⟨j,hj⟩:=yt rg.1;rw[hj] at rg er;have Ox:j<rl.length:=by omega
 obtain⟨N',Am,Ae,eb,b1,b2,b3,b4,b5,b6⟩:=Lu.g j Ox;have ei:∀h,zC (.tup rl) (.int (j:Int)) h=À (.tup [.tup (zk N'),.tup (zk Am),Ae],h):=λh=>Xz ∅ ∅ (by simpa using eb)
 obtain⟨ws,h1,h2,h3⟩:=rf (a:=a) HD hN hO hH lN lO lH ((_root_.List.range (N'.length+Am.length)).map λ(i:Nat)=>(i:Int));erw[zH,xN] at h1 h3;refine⟨th "call" [.int (j:Int),.tup (ws.take N'.length),.tup (ws.drop N'.length)],λh=>?_,?_,?_⟩
 .have pw:dt (2+2*(d+1)) (th "call" [.int (j:Int),.tup (ws.take N'.length),.tup (ws.drop N'.length)])=Â:=by
   rw[show 2+2*(d+1)=(2*d+3)+1 by omega];refine uu (by simp) λv hv=>?_
   erw[zj,zy,kY] at hv;rcases hv with rfl | rfl | rfl | rfl
   .have:dt 1 (.str "call")=Â:=by decide +kernel
    exact vj this ∅
   .rfl
   .exact uu (by simp;omega) λu hu=>vj (yb (h2 u (vA hu)).1) ∅
   .exact uu (by simp;omega) λu hu=>vj (yb (h2 u (jR hu)).1) ∅
  refine Dr (t:=[.lst ws]) ?_ pw;obtain⟨o,e3⟩:=h3 h [] (À (.int (j:Int))) (À (.int (N'.length:Int))) Á (by simp;omega);rw[jc] at e3;suffices hs:bK G (ρC ns a ((d:Int)+1) (kn N O H) rl Á Á Á Á) h=À (.ret (th "call" [.int (j:Int),.tup (ws.take N'.length),.tup (ws.drop N'.length)]),h++[.lst ws]) by
   erw[kS,zG,kI,je,zx,kZ,É,jt,jc];erw[ρC] at hs;erw[hs]
  have c0:(0:Nat)<=cap:=by decide
  have c4:(4:Nat)<=cap:=by decide
  have s0:Xs G (ρC ns a ((d:Int)+1) (kn N O H) rl Á Á Á Á) h=À (.nx (ρC ns a ((d:Int)+1) (kn N O H) rl (À (.int (j:Int))) Á Á Á),h):=by
   simp![Xs,addW,j3,kK,er]
  have s1:XH G (ρC ns a ((d:Int)+1) (kn N O H) rl (À (.int (j:Int))) Á Á Á) h=À (.nx (ρC ns a ((d:Int)+1) (kn N O H) rl (À (.int (j:Int))) (À (.int (N'.length:Int))) Á Á),h):=by
   simp![XH,ei,u7,kK,qq]
  have s2:Xd G (ρC ns a ((d:Int)+1) (kn N O H) rl (À (.int (j:Int))) (À (.int (N'.length:Int))) Á Á) h=À (.nx (ρC ns a ((d:Int)+1) (kn N O H) rl (À (.int (j:Int))) (À (.int (N'.length:Int))) (À (.ref h.length)) Á),h++[.lst []]):=by
   simp![Xd,dP,c0]
  have s3:Xm G (ρC ns a ((d:Int)+1) (kn N O H) rl (À (.int (j:Int))) (À (.int (N'.length:Int))) (À (.ref h.length)) Á) (h++[.lst []])=À (.nx (ρC ns a ((d:Int)+1) (kn N O H) rl (À (.int (j:Int))) (À (.int (N'.length:Int))) (À (.ref h.length)) o),h++[.lst ws]):=by
   rw[<-e3];have ir:(cy [zh addW (zd 6) (ze kK [zh zC (zh zC (zd 4) (zd 5)) (RS 1)])]) (ρC ns a ((d:Int)+1) (kn N O H) rl (À (.int (j:Int))) (À (.int (N'.length:Int))) (À (.ref h.length)) Á) (h++[.lst []])=À (.items (upto (N'.length+Am.length)),h++[.lst []]):=by
    have q:-(2 ^ 62:Int)<=(N'.length:Int)+(Am.length:Int)/\(N'.length:Int)+(Am.length:Int)<2 ^ 62:=by omega
    have q2:((N'.length:Int)+(Am.length:Int)).toNat=N'.length+Am.length:=by omega
    have lw:∀h,kK [.tup (zk Am)] h=À (.int (Am.length:Int),h):=λh=>by simp[kK,qq]
    have ad:∀h,addW (.int (N'.length:Int)) (.int (Am.length:Int)) h=À (.int ((N'.length:Int)+(Am.length:Int)),h):=λh=>by simp[addW,j3]
    have MB:∀h,iq [.int ((N'.length:Int)+(Am.length:Int))] h=À (.items (upto (N'.length+Am.length)),h):=λh=>by
     unfold iq;simp only;rw[zQ q,q2]
    simp![cy,ei,bq,lw,ad,MB]
   unfold Xm wa;rw[ir];simp only;rw[rE]
  have s4:Y9 G (ρC ns a ((d:Int)+1) (kn N O H) rl (À (.int (j:Int))) (À (.int (N'.length:Int))) (À (.ref h.length)) o) (h++[.lst ws])=À (.ret (th "call" [.int (j:Int),.tup (ws.take N'.length),.tup (ws.drop N'.length)]),h++[.lst ws]):=by
   have t1:=VC (l:=ws) (k:=N'.length) ∅;have t2:=gC (l:=ws) (k:=N'.length);simp![Y9,cq,bo,gE,getL,at0,cf,zo,c4,t1,t2]
  rw[Ce,zt s0,zt s1,zt s2,zt s3,s4]
 .rw[show 2+2*(d+1)=(2*d+3)+1 by omega]
  refine y9 (by simp) λv hv=>?_
  erw[zj,zy,kY] at hv;have TF:=Lu.l;rcases hv with rfl | rfl | rfl | rfl
  .have:pl 1 (.str "call")=Â:=by decide +kernel
   exact k8 this ∅
  .have:pl 1 (.int (j:Int))=Â:=by
    unfold pl;rw[zu];exact⟨kO ∅,kO ∅⟩
   exact k8 this ∅
  .exact y9 (by simp;omega) λu hu=>k8 (h2 u (vA hu)).1 ∅
  .exact y9 (by simp;omega) λu hu=>k8 (h2 u (jR hu)).1 ∅
 .refine⟨⟨.call j _ _ Ox (zk N') Am Ae eb (by rw[qO];omega),λp hp=>?_⟩,JK ⋯ λp hp=>?_⟩ <;>
  rw[wc,qP] at hp
  .exact(h2 p hp).2.1
  .exact(h2 p hp).2.2
theorem gA{ns:List Int}(hl:ns.length<=63)(Lu:RG rl)(F:Fs):∀(d:Nat),d<=4->∀m,4+2*d<=m->dZ (up m F) ns rl d
 | 0,_,m,hm=>by
  obtain⟨m',rfl⟩:∃m',m=m'+4:=⟨m-4,by omega⟩;exact Wm hl
 | d+1,hd,m,hm=>by
  obtain⟨m',rfl⟩:∃m',m=m'+4:=⟨m-4,by omega⟩;have i1:=gA hl Lu F d ∅ (m'+3) ∅;have i2:=gA hl Lu F d ∅ (m'+2) ∅;exact QR hl (vj (yb Lu.pl) ∅) ∅ i1 λAE=>V7 hl Lu AE i2
noncomputable abbrev ρR(ns:List Int)(a:Int)(rl:List W)(o3 o4 o5 o6:Option W):En:=[À (kz ns),À (.int a),À (.tup rl),o3,o4,o5,o6]
noncomputable def XN(F:Fs):MS:=(zl (kc (zh zC (ze kH [ze zo [],ze zo [Si "x"],ze zo [Si "y",Si "x"]]) (ze F.aa [zd 0,zh addW (zh addW (zd 1) (RS 1)) (zh kx (RS 5) (zd 3)),RS 3])) (zw 4))
 (zl (kc (zh zC (ze kH [ze zo [],ze zo [Si "f"],ze zo [Si "f",Si "g1"]]) (ze F.aa [zd 0,zh addW (zh addW (zd 1) (RS 2)) (zh kx (RS 5) (zd 3)),RS 3])) (zw 5))
 (zl (kc (ze F.au [zd 0,zh addW (zh addW (zd 1) (RS 20)) (zh kx (RS 7) (zd 3)),RS 2,ze zo [zd 4,ze zo [],zd 5],zd 2]) (zw 6))
 (kc (zh addW (zd 2) (ze zo [ze zo [zd 4,zd 5,zd 6]])) (zw 2)))))
theorem m6{G:Fs}(e:∀(k many:Int) (h:MH),0<many->G.aa [kz ns,.int k,.int many] h=À (.int (wb ns k many),h))(HD:∀rl,RG rl->dZ G ns rl 2) :
  ∀(is:List Int) (rl:List W),RG rl->rl.length+is.length<=4->∃IH,RG IH/\IH.length=rl.length+is.length/\∀(h:MH) (o3 o4 o5 o6:Option W),∃p3 p4 p5 p6,forL (zw 3) (XN G) (is.map W.int) (ρR ns a rl o3 o4 o5 o6) h=À (.nx (ρR ns a IH p3 p4 p5 p6),h)
 | [],rl,hr,_=>⟨rl,hr,by simp,λh o3 o4 o5 o6=>⟨o3,o4,o5,o6,by simp[forL]⟩⟩
 | i::is,rl,hr,hl=>by
  erw[zG] at hl;have c0:(0:Nat)<=cap:=by decide
  have c1:(1:Nat)<=cap:=by decide
  have c2:(2:Nat)<=cap:=by decide
  have c3:(3:Nat)<=cap:=by decide
  obtain⟨v1,P9,TN⟩:=dO (l:=[.tup [],.tup [.str "x"],.tup [.str "y",.str "x"]]) (ku (ns:=ns) (k:=a+1+5*i) (many:=3) ∅).1 (by simpa using (ku (ns:=ns) (k:=a+1+5*i) (many:=3) ∅).2);have:∃N:List È,v1=.tup (zk N)/\N.length<=2/\wd N:=by
   erw[zj,zy,kY] at P9;rcases P9 with rfl | rfl | rfl
   .exact⟨[],rfl,by simp,λv hv=>by simp at hv⟩
   .exact⟨["x"],rfl,by simp,λv hv=>by erw[zj,zy,kY] at hv;subst hv;decide +kernel⟩
   .exact⟨["y","x"],rfl,by simp,λv hv=>by erw[zj,zy,kY] at hv;rcases hv with rfl | rfl<;>decide +kernel⟩
  obtain⟨N,rfl,lN,wN⟩:=this;obtain⟨v2,OC,TQ⟩:=dO (l:=[.tup [],.tup [.str "f"],.tup [.str "f",.str "g1"]]) (ku (ns:=ns) (k:=a+2+5*i) (many:=3) ∅).1 (by simpa using (ku (ns:=ns) (k:=a+2+5*i) (many:=3) ∅).2);have:∃N:List È,v2=.tup (zk N)/\N.length<=2/\wd N/\N.Nodup/\N∈hnd:=by
   erw[zj,zy,kY] at OC;rcases OC with rfl | rfl | rfl
   .exact⟨[],rfl,by simp,λv hv=>by simp at hv,by simp,by decide +kernel⟩
   .exact⟨["f"],rfl,by simp,λv hv=>by erw[zj,zy,kY] at hv;subst hv;decide +kernel,by decide +kernel,by decide +kernel⟩
   .exact⟨["f","g1"],rfl,by simp,λv hv=>by erw[zj,zy,kY] at hv;rcases hv with rfl | rfl<;>decide +kernel,by decide +kernel,by decide +kernel⟩
  obtain⟨H,rfl,lH,wH,TR,hH⟩:=this;obtain⟨w,ew,pw,ow⟩:=HD rl hr (a+20+7*i) N [] H wN (λv hv=>by simp at hv) wH ∅ (by simp) ∅;obtain⟨IH,Nf,LA,ih⟩:=m6 (a:=a) e HD is (rl++[.tup [.tup (zk N),.tup (zk H),w]]) (hr.snoc ∅ lN lH wN wH pw ow TR hH) (by simp;omega);refine⟨IH,Nf,by rw[LA];simp;omega,λh o3 o4 o5 o6=>?_⟩;obtain⟨p3,p4,p5,p6,e6⟩:=ih h (À (.int i)) (À (.tup (zk N))) (À (.tup (zk H))) (À w);refine⟨p3,p4,p5,p6,?_⟩;erw[zx];unfold forL;have g:zw 3 (.int i) (ρR ns a rl o3 o4 o5 o6) h=À (ρR ns a rl (À (.int i)) o4 o5 o6,h):=by simp[zw]
  rw[g];have cr:rl.length+1<=cap:=zq (show rl.length+1<=10 by omega) (by decide);have a1:∀x y:Int,∀h,addW (.int x) (.int y) h=À (.int (x+y),h):=λx y h=>by simp[addW,j3]
  have a2:∀w h,addW (.tup rl) (.tup [w]) h=À (.tup (rl++[w]),h):=λw h=>by
   erw[addW,j3,zG,kI];rw[zQ (by simpa using cr)]
  have Ag:∀h,G.au [kz ns,.int (a+20+7*i),.int 2,.tup [.tup (zk N),.tup [],.tup (zk H)],.tup rl] h=À (w,h):=λh=>ew h
  have b:XN G (ρR ns a rl (À (.int i)) o4 o5 o6) h=À (.nx (ρR ns a (rl++[.tup [.tup (zk N),.tup (zk H),w]]) (À (.int i)) (À (.tup (zk N))) (À (.tup (zk H))) (À w)),h):=by
   unfold XN;rw[zt (ρ':=ρR ns a rl (À (.int i)) (À (.tup (zk N))) o5 o6) (h':=h) (by simp![zo,kH,c0,c1,c2,c3,a1,m5,e (a+1+5*i) 3 _ ∅,TN])];rw[zt (ρ':=ρR ns a rl (À (.int i)) (À (.tup (zk N))) (À (.tup (zk H))) o6) (h':=h) (by simp![zo,kH,c0,c1,c2,c3,a1,m5,e (a+2+5*i) 3 _ ∅,TQ])];rw[zt (ρ':=ρR ns a rl (À (.int i)) (À (.tup (zk N))) (À (.tup (zk H))) (À w)) (h':=h) (by simp![zo,c0,c3,a1,m7,Ag])];simp![zo,c1,c3,a2]
  erw[b];rw[e6]
def BP{ns:List Int}(hl:ns.length<=63)(hm:8<=m):∃rl,RG rl/\∀h,(step (up m F)).bu [kz ns,.int 1] h=À (.tup rl,h):=by
 have HD:=λrl (hr:RG rl)=>gA hl hr F 2 ∅ m ∅
 have e:∀(k many:Int) (h:MH),0<many->(up m F).aa [kz ns,.int k,.int many] h=À (.int (wb ns k many),h):=by
  obtain⟨m',rfl⟩:∃m',m=m'+2:=⟨m-2,by omega⟩;exactλk many h hm=>ui (F:=up m' F) hl hm
 generalize up m F=G at e HD;have rg:=ku (ns:=ns) (k:=1) (many:=3) ∅;have e1:=λh=>e 1 3 h ∅
 obtain⟨j,hj⟩:=yt rg.1;rw[hj] at rg e1;obtain⟨IH,Nf,LA,ih⟩:=m6 (a:=1) e HD ((_root_.List.range j).map λ(i:Nat)=>(i:Int)) [] ⟨by simp,λi hi=>by simp at hi⟩ (by simp;omega);refine⟨IH,Nf,λh=>qA (n:=8) ?_ (yb Nf.pl)⟩;obtain⟨p3,p4,p5,p6,e6⟩:=ih h Á Á Á Á;have c0:(0:Nat)<=cap:=by decide
 have s0:XX G [À (kz ns),À (.int 1),Á,Á,Á,Á,Á] h=À (.nx (ρR ns 1 [] Á Á Á Á),h):=by
  simp![XX,zo,c0]
 have s1:DH G (ρR ns 1 [] Á Á Á Á) h=À (.nx (ρR ns 1 IH p3 p4 p5 p6),h):=by
  rw[<-e6];have ir:(cy [ze G.aa [zd 0,zd 1,RS 3]]) (ρR ns 1 [] Á Á Á Á) h=À (.items (upto j),h):=by
   have q:-(2 ^ 62:Int)<=(j:Int)/\(j:Int)<2 ^ 62:=by omega
   have MB:∀h,iq [.int (j:Int)] h=À (.items (upto j),h):=λh=>by
    unfold iq;simp only;rw[zQ q,jm]
   simp![cy,e1,MB]
  show(wa _ _ (XN G)) _ _=_
  unfold wa;rw[ir];simp only;rw[rE]
 have hs:bz G [À (kz ns),À (.int 1),Á,Á,Á,Á,Á] h=À (.ret (.tup IH),h):=by
  rw[Dh,zt s0,zt s1];simp![Dw]
 erw[kS,zG,kI,je,zx,kZ,É,jt,jc];erw[hs]
def BK{ns:List Int}{rl:List W}(hl:ns.length<=63)(hm:15<=m)(hr:RG rl):∃w,pl 6 w=Â/\okc rl rl.length [] [] 3 w/\∀h,(step (up m F)).bj [kz ns,.int a,.int 2,.tup rl] h=À (w,h):=by
 obtain⟨w,ew,p,o⟩:=gA hl hr F 2 ∅ m ∅ a [] [] [] (λv hv=>by simp at hv) (λv hv=>by simp at hv) (λv hv=>by simp at hv) (by simp) (by simp) (by simp);obtain⟨v,ev⟩:=gz hr.good F m rl.length 3 (by have:=hr.l;omega) ∅ ∅ _ w [] o.1 (vj (yb p) ∅) (λp hp=>by simp at hp);have e:∀(k many:Int) (h:MH),0<many->(up m F).aa [kz ns,.int k,.int many] h=À (.int (wb ns k many),h):=by
  obtain⟨m',rfl⟩:∃m',m=m'+2:=⟨m-2,by omega⟩;exactλk many h hm=>ui (F:=up m' F) hl hm
 generalize up m F=G at e ew ev;have c0:(0:Nat)<=cap:=by decide
 have c2:(2:Nat)<=cap:=by decide
 have c3:(3:Nat)<=cap:=by decide
 have Ag:∀h,G.au [kz ns,.int a,.int 2,.tup [.tup [],.tup [],.tup []],.tup rl] h=À (w,h):=λh=>ew h
 by_cases k:80<v
 .have rg:=ku (ns:=ns) (k:=a) (many:=4) ∅
  have e1:=λh=>e a 4 h ∅
  generalize wb ns a 4=y at rg e1;have:∃c:È,(pl 1 (.str c)=Â/\c∈six/\c∈vk [])/\∀h,zC (.str "abcd") (.int y) h=À (.str c,h):=by
   have hy:y=0\/y=1\/y=2\/y=3:=by omega
   have hc:(("abcd":È).length<=cap):=by decide +kernel
   have hx:("abcd":È).cps.toList=[97,98,99,100]:=by decide +kernel
   rcases hy with rfl | rfl | rfl | rfl
   .exact⟨⟨#[97]⟩,by decide +kernel,λh=>by simp[zC,hc,hx,atI,y8]⟩
   .exact⟨⟨#[98]⟩,by decide +kernel,λh=>by simp[zC,hc,hx,atI,y8]⟩
   .exact⟨⟨#[99]⟩,by decide +kernel,λh=>by simp[zC,hc,hx,atI,y8]⟩
   .exact⟨⟨#[100]⟩,by decide +kernel,λh=>by simp[zC,hc,hx,atI,y8]⟩
  obtain⟨c,⟨pc,c6,cs⟩,ec⟩:=this;have pr:pl 2 (th "read" [.str c])=Â:=QV ⋯ pc;refine⟨th "read" [.str c],k8 pr ∅,⟨fQ (tf (rl:=rl) (k:=rl.length) (H:=[]) c6 cs).1 ∅,dN (tf (rl:=rl) (k:=rl.length) (H:=[]) c6 cs).2 ∅⟩,λh=>qA (n:=2) ?_ (yb pr)⟩
  .simp![bA,zo,c0,c2,c3,Ag,ev,vw,k,e1,ec]
 .refine⟨w,p,o,λh=>qA (n:=6) ?_ (yb p)⟩
  simp![bA,zo,c0,c2,c3,Ag,ev,vw,k]
def kr(k:List È):Bool:=decide (k.length<=4)&&k.all λx=>ý x&&decide (x.length<=1000)
def ZU(g:kr k=Â):dt 2 (tupS k)=Â:=by
 unfold kr at g;rw[zu] at g;have l:=j8 g.1;refine uu (by simp;omega) λw hw=>?_
 obtain⟨x,hx,rfl⟩:=zK.mp hw;exact kJ.mp g.2 x hx
def xo{ks:List (List È)}(hl:ks.length<=1000)(g:∀k∈ks,kr k=Â):dt 3 (.fls (ks.map tupS))=Â:=QY (by simpa using hl) λw hw=>by
 obtain⟨k,hk,rfl⟩:=zK.mp hw;exact ZU (g k hk)
theorem xi(k:List È):low m (tupS k)=Â:=by
 unfold tupS low;exact qV λw hw=>by
  obtain⟨x,_,rfl⟩:=zK.mp hw;unfold low;rfl
def dX(ks:List (List È)):low m (.fls (ks.map tupS))=Â:=by
 unfold low;exact qV λw hw=>by
  obtain⟨k,_,rfl⟩:=zK.mp hw;exact xi k
noncomputable def bw(B:List (List (List È))):List W:=B.map λks=>.fls (ks.map tupS)
def bi(k:List È):Bool:=match k with
 | x::_=>!(x=="do")
 | []=>Â
noncomputable def itself(B:List (List (List È))):W->List (List È)
 | .tup (.str x::r)=>if kU ["read","write","do"] (.str x) then (match r with
   | .str v::_=>[[x,v]]
   | _=>[]) else if kU ["say","ask"] (.str x) then [[x]] else if x=="call" then (match r with
   | .int i::_=>((B[i.toNat]?).getD []).filter bi
   | _=>[]) else []
 | _=>[]
def i3(d:dt n (.str x)=Â)(hn:n<=60):inB h (.str x) (.tup [.str "read",.str "write",.str "do"])=À (kU ["read","write","do"] (.str x)):=dW (l:=["read","write","do"]) d hn ⋯
def i2(d:dt n (.str x)=Â)(hn:n<=60):inB h (.str x) (.tup [.str "say",.str "ask"])=À (kU ["say","ask"] (.str x)):=dW (l:=["say","ask"]) d hn ⋯
def Ws{B:List (List (List È))}{H:List È}(hb:getL h bd=À (bw B))(nb:∀l,bd≠.tup l)(ns:∀z,bd≠.str z)(hB:∀ks∈B,ks.length<=60/\∀k∈ks,k≠[])(hk:k<=B.length)(d:dt 60 w=Â)(sh:Sh rl k H w) :
  (step F).aD [bd,w] h=À (.fls ((itself B w).map tupS),h):=by
 refine wn (h':=h) ?_ (dX _) (jw _);suffices row:aj F [À bd,À w] h=À (.ret (.fls ((itself B w).map tupS)),h) by
  erw[kS,zG,kI,je,zx,kZ,É,jt,jc];erw[row]
 have c0:(0:Nat)<=cap:=by decide
 have c1:(1:Nat)<=cap:=by decide
 have c2:(2:Nat)<=cap:=by decide
 have c3:(3:Nat)<=cap:=by decide
 have one:∀(x v:È) (r:List W),kU ["read","write","do"] (.str x)=Â->dt 60 (th x (.str v::r))=Â->aj F [À bd,À (th x (.str v::r))] h=À (.ret (.fls ((itself B (th x (.str v::r))).map tupS)),h):=by
  intro x v r q d;obtain⟨m,e,_,hd⟩:=qc d;cases e;have z3:=i3 (h:=h) (hd (.str x) (by simp)) ∅;rw[q] at z3;have e:itself B (th x (.str v::r))=[[x,v]]:=by erw[th,itself,q,je]
  rw[e];simp![aj,u7,bq,z3,zo,kH,c1,c2,c3,tupS]
 have two:∀(x:È) (r:List W),kU ["read","write","do"] (.str x)=Ä->kU ["say","ask"] (.str x)=Â->dt 60 (th x r)=Â->aj F [À bd,À (th x r)] h=À (.ret (.fls ((itself B (th x r)).map tupS)),h):=by
  intro x r q q2 d;obtain⟨m,e,_,hd⟩:=qc d;cases e;have z3:=i3 (h:=h) (hd (.str x) (by simp)) ∅;have z2:=i2 (h:=h) (hd (.str x) (by simp)) ∅;rw[q] at z3;rw[q2] at z2;have e:itself B (th x r)=[[x]]:=by erw[th,itself,q,q2,je,zP,jy]
  rw[e];simp![aj,u7,z3,z2,zo,kH,c1,c2,c3,tupS]
 have non:∀(x:È) (r:List W),kU ["read","write","do"] (.str x)=Ä->kU ["say","ask"] (.str x)=Ä->(x==("call":È))=Ä->dt 60 (th x r)=Â->aj F [À bd,À (th x r)] h=À (.ret (.fls ((itself B (th x r)).map tupS)),h):=by
  intro x r q q2 q4 d;obtain⟨m,e,_,hd⟩:=qc d;cases e;have z3:=i3 (h:=h) (hd (.str x) (by simp)) ∅;have z2:=i2 (h:=h) (hd (.str x) (by simp)) ∅;rw[q] at z3;rw[q2] at z2;have e:itself B (th x r)=[]:=by erw[th,itself,q,q2,q4,zP,jy]
  rw[e];simp![aj,u7,z3,z2,vi,q4,zo,kH,c0,c2,c3]
 cases sh with
 | read v hv=>exact one _ v [] ⋯ d
 | doo v hv=>exact one _ v [] ⋯ d
 | write v hv a=>exact one _ v _ ⋯ d
 | ask=>exact two _ _ ⋯ ⋯ d
 | say a=>exact two _ _ ⋯ ⋯ d
 | call i a b hi ns hs body e lb=>
  obtain⟨m,em,_,hd⟩:=qc d;cases em;have z3:=i3 (h:=h) (hd (.str "call") (by simp)) ∅;have z2:=i2 (h:=h) (hd (.str "call") (by simp)) ∅;rw[show kU ["read","write","do"] (.str "call")=Ä by decide +kernel] at z3;rw[show kU ["say","ask"] (.str "call")=Ä by decide +kernel] at z2;have LJ:i<B.length:=by omega
  obtain⟨lk,nk⟩:=hB B[i] (vf LJ);have e:itself B (th "call" [.int (i:Int),.tup a,.tup b])=B[i].filter bi:=by
   erw[th,itself,show kU ["read","write","do"] (.str "call")=Ä by decide +kernel,show kU ["say","ask"] (.str "call")=Ä by decide +kernel,jJ,je,zP,jy,jm,zL LJ,qC]
  rw[e];have ei:∀{h'},getL h' bd=À (bw B)->zC bd (.int (i:Int)) h'=À (.fls (B[i].map tupS),h'):=by
   intro h' AL;have at1:atI (bw B) (i:Int)=À (.fls (B[i].map tupS)):=by
    unfold atI y8 bw;rw[zQ ∅,zQ (by simp;omega)];simp[LJ]
   cases bd with
   | tup l=>exact absurd rfl (nb l)
   | str z=>exact absurd rfl (ns z)
   | fls l=>unfold zC;erw[AL,at1]
   | ref n=>unfold zC;erw[AL,at1]
   | _=>cases AL
  have cm:kA (kF (zh zC (zd 0) (zh zC (zd 1) (RS 1)))) 1 [] (zw 0) (zS (zh (jv Â) (zh zC (zd 0) (RS 0)) (Si "do"))) (zd 0) [À bd,À (th "call" [.int (i:Int),.tup a,.tup b])] h=À (.fls ((B[i].filter bi).map tupS),h):=by
   refine(eX (l:=B[i].map tupS) (λw=>match w with | .tup (.str x::_)=>!(x=="do") | _=>Â) id ?_ ?_ ?_ ?_ ?_).trans ?_
   .simp![kF,bq,ei hb,srcOf]
   .intro w hw H'
    obtain⟨k,hk,rfl⟩:=zK.mp hw;cases k with
    | nil=>exact absurd rfl (nk _ hk)
    | cons x r=>
     simp![tupS,u7,vi]
   .intro w hw _ H';simp![]
   .intro w hw _
    obtain⟨k,hk,rfl⟩:=zK.mp hw;exact xi k
   .erw[zH];exact zq lk (by decide)
   .have fe:((λw=>match w with | .tup (.str x::_)=>!(x=="do") | _=>Â)∘tupS)=bi:=funext λk=>by cases k<;>rfl
    rw[pN,wK,fe]
  simp![aj,u7,z3,z2,vi,zo,c2,c3,cm]
 | number i=>exact non _ _ ⋯ ⋯ ⋯ d
 | name v=>exact non _ _ ⋯ ⋯ ⋯ d
 | lett v a b=>exact non _ _ ⋯ ⋯ ⋯ d
 | own v hv a b=>exact non _ _ ⋯ ⋯ ⋯ d
 | add a b=>exact non _ _ ⋯ ⋯ ⋯ d
 | less a b=>exact non _ _ ⋯ ⋯ ⋯ d
 | thenn a b=>exact non _ _ ⋯ ⋯ ⋯ d
 | loop a b=>exact non _ _ ⋯ ⋯ ⋯ d
 | iff a b c=>exact non _ _ ⋯ ⋯ ⋯ d
theorem fV:∀k:List È,strsOf (k.map .str)=À k
 | []=>rfl
 | x::r=>by erw[zx];unfold strsOf;rw[fV r]
def x9(k:List È):nX (tupS k)=À k:=fV k
structure Bod(h:MH)(B:List (List (List È)))(bd:W):Prop where
 gl:getL h bd=À (bw B)
 nt:∀l,bd≠.tup l
 ns:∀z,bd≠.str z
def Bod.ix{B:List (List (List È))}(b:Bod h B bd)(hi:i<B.length):zC bd (.int (i:Int)) h=À (.fls (B[i].map tupS),h):=by
 have AL:=b.gl;have at1:atI (bw B) (i:Int)=À (.fls (B[i].map tupS)):=by
  unfold atI y8 bw;rw[zQ ∅,zQ (by simp;omega)];simp[hi]
 cases bd with
 | tup l=>exact absurd rfl (b.nt l)
 | str z=>exact absurd rfl (b.ns z)
 | fls l=>unfold zC;erw[AL,at1]
 | ref n=>unfold zC;erw[AL,at1]
 | _=>cases AL
def Bod.more(b:Bod h B bd):Bod (h++t) B bd:=by
 refine⟨?_,b.nt,b.ns⟩;have AL:=b.gl;cases bd with
 | fls l=>exact AL
 | ref n=>
  have hb2:(match h[n]? with | some (.lst l)=>À l | _=>Á)=À (bw B):=AL;show(match (h++t)[n]? with | some (.lst l)=>À l | _=>Á)=À (bw B)
  cases e:h[n]? with
  | none=>rw[e] at hb2;cases hb2
  | some o=>
   rw[zY (zA.mp e).1,e];rw[e] at hb2;exact hb2
 | _=>cases AL
theorem i6{h:MH}(hn:h.length=n0)(p:W->W->Bool)(f:W->W->W):∀(l:List (W×W)) (acc:List W) (o1 o2:Option W),
  (∀w∈l,∀acc,t (À w.1::À w.2::caps) (h++[.lst acc])=À (p w.1 w.2,h++[.lst acc]))->(∀w∈l,p w.1 w.2=Â->∀H',m (À w.1::À w.2::caps) H'=À (f w.1 w.2,H'))->acc.length+l.length<=cap->
  yA 2 (vS [zw 0,zw 1]) t m n0 (l.map λw=>.tup [w.1,w.2]) (o1::o2::caps) (h++[.lst acc])=À (h++[.lst (acc++(l.filter λw=>p w.1 w.2).map λw=>f w.1 w.2)])
 | [],acc,_,_,_,_,_=>by simp[yA]
 | (a,b)::l,acc,o1,o2,ht,hf,hl=>by
  have ih:=λHI=>i6 (caps:=caps) (t:=t) (m:=m) hn p f l HI Á Á (λw hw=>ht w (zp _ hw)) (λw hw=>hf w (zp _ hw))
  have hb:blank 2 (À a::À b::caps)=Á::Á::caps:=by simp[blank,É]
  erw[zx];unfold yA;have hg:vS [zw 0,zw 1] (.tup [a,b]) (o1::o2::caps) (h++[.lst acc])=À (À a::À b::caps,h++[.lst acc]):=by simp[vS,fh,bnd,zw]
  rw[hg];simp only;rw[ht (a,b) zz];erw[zG] at hl;cases hp:p a b with
  | false=>
   simp only;rw[hb,ih acc ∅];simp[qg,hp]
  | true=>
   simp only;rw[hf (a,b) zz hp];have e1:(h++[MO.lst acc])[n0]?=À (.lst acc):=by rw[<-hn];simp
   have e2:(h++[MO.lst acc]).set n0 (.lst (acc++[f a b]))=h++[.lst (acc++[f a b])]:=by rw[<-hn,qm _ _ (zr _)];simp
   erw[e1];rw[zQ ∅,hb,e2,ih (acc++[f a b]) (by rw[zR];simp;omega)];simp[qg,hp]
def B2{ks:List Nat}{ρ:En}{h:MH}{l:List (W×W)}(p:W->W->Bool)(f:W->W->W)(hm:mi ρ h=À (.items (l.map λw=>.tup [w.1,w.2]),h))(ht:∀w∈l,∀acc,t (À w.1::À w.2::ks.map λk=>(ρ[k]?).join) (h++[.lst acc])=À (p w.1 w.2,h++[.lst acc]))
  (hf:∀w∈l,p w.1 w.2=Â->∀H',m (À w.1::À w.2::ks.map λk=>(ρ[k]?).join) H'=À (f w.1 w.2,H')) (Ia:∀w∈l,p w.1 w.2=Â->low h.length (f w.1 w.2)=Â) (hl:l.length<=cap):kA mi 2 ks (vS [zw 0,zw 1]) t m ρ h=À (.fls ((l.filter λw=>p w.1 w.2).map λw=>f w.1 w.2),h):=by
 have e:=i6 (caps:=ks.map λk=>(ρ[k]?).join) (t:=t) (m:=m) (h:=h) rfl p f l [] Á Á ht hf (by simpa using hl);unfold kA eY;rw[hm];have er:(É 2 (Á:Option W)++ks.map λk=>(ρ[k]?).join)=Á::Á::ks.map λk=>(ρ[k]?).join:=rfl
 simp only;rw[er,e];erw[jc,ji (zr _),u6,q9];rw[zQ];refine⟨qy _ _,qV λw hw=>?_⟩;obtain⟨w',h1,rfl⟩:=zK.mp hw;obtain⟨h2,h3⟩:=jd.mp h1;exact Ia w' h2 h3
theorem dU:∀(k l:List È),þ (k.map .str) (l.map .str)=decide (k=l)
 | [],[]=>by simp[þ]
 | [],_::_=>by simp[þ]
 | _::_,[]=>by simp[þ]
 | x::k,y::l=>by
  erw[zx,þ,ö,dU k l];by_cases e:x=y
  .subst e;simp
  .have:(x==y)=Ä:=jG.mpr e
   simp[this,e]
def eS{k:List È}(g:kr k=Â):kP deep h (tupS k)=À (.tuple (k.map .str)):=by
 rw[ya (ZU g) (show 2<=deep by decide)];unfold tupS toD;erw[jb];congr 2
def Wf{ks:List (List È)}(g:∀k∈ks,kr k=Â):qk (kP deep h) (ks.map tupS)=À (ks.map λk=>.tuple (k.map .str)):=by
 induction ks with
 | nil=>rfl
 | cons k r ih=>
  erw[zx];unfold qk;rw[eS (g k zz),ih λq hq=>g q (zp _ hq)]
def lS{ks:List (List È)}(g:kr k=Â)(gs:∀k∈ks,kr k=Â)(hy:qS h y=À (ks.map tupS)):inB h (tupS k) y=À (ks.contains k):=by
 have e3:inB h (tupS k) y=match qS h y with
  | some l=>match kP deep h (tupS k),qk (kP deep h) l with
   | some d,À ds=>À (ds.any λe=>ö e d)
   | _,_=>Á
  | none=>Á:=by unfold inB tupS;rfl
 rw[e3,hy];erw[eS g,Wf gs];congr 1
 rw[ph,List.contains_eq_any_beq];congr 1
 funext x
 show ö (.tuple (x.map .str)) (.tuple (k.map .str))=(k==x)
 erw[ö,dU];by_cases e:x=k
 .subst e;simp
 .have:(k==x)=Ä:=jG.mpr λz=>e z.symm
  simp[this,e]
def jS(ks:List (List È))(hs:List È)(b:List W):List W:=((hs.zip b).filter λp=>ks.contains ["do",p.1]).map (·.2)
def Yq{B:List (List (List È))}{rl:List W}{b:List W}(Bo:Bod h B bd)(hB:∀ks∈B,∀k∈ks,kr k=Â)(hi:i<B.length)(Ra:i<rl.length)(lr:rl.length<=1000)(e:rl[i]?=À (.tup [.tup ns,.tup (zk hs),body]))(hg:∀x∈hs,kr ["do",x]=Â)(lb:b.length<=1000)(db:∀w∈b,dt n w=Â) :
  (step F).aM [.tup rl,bd,.int (i:Int),.tup b] h=À (.tup (jS B[i] hs b),h):=by
 have ei:∀h,zC (.tup rl) (.int (i:Int)) h=À (.tup [.tup ns,.tup (zk hs),body],h):=λh=>Xz ∅ ∅ (by simpa using e)
 have ld:(jS B[i] hs b).length<=1000:=by
  unfold jS;rw[zH];refine zq (jM _ _) ?_;rw[vX];omega
 have dd:∀w∈jS B[i] hs b,dt n w=Â:=λw hw=>by
  unfold jS at hw;obtain⟨p,hp,rfl⟩:=zK.mp hw;exact db _ (qM (jd.mp hp).1).2
 refine qA (n:=n+1) ?_ (uu ld dd);have c2:(2:Nat)<=cap:=by decide
 have gB:=hB B[i] (vf hi);have cm:kA (be [zd 4,zd 3]) 2 [1,2] (vS [zw 0,zw 1]) (zS (zh (ab Ä) (ze zo [Si "do",zd 0]) (zh zC (zd 2) (zd 3)))) (zd 1) [À (.tup rl),À bd,À (.int (i:Int)),À (.tup b),À (.tup (zk hs))] h=À (.fls (jS B[i] hs b),h):=by
  have zs:=ZD hs b;refine(B2 (l:=(hs.zip b).map λp=>(W.str p.1,p.2)) (λx y=>match x with | .str v=>B[i].contains ["do",v] | _=>Ä) (λ_ y=>y) ?_ ?_ ?_ ?_ ?_).trans ?_
  .rw[<-zs]
   simp![be,tV,u4]
  .intro w hw acc
   obtain⟨p,hp,rfl⟩:=zK.mp hw;have h1:=(Bo.more (t:=[.lst acc])).ix hi;have h2:=lS (h:=h++[.lst acc]) (k:=["do",p.1]) (ks:=B[i]) (y:=.fls (B[i].map tupS)) (hg _ (qM hp).1) gB rfl;have h3:tupS ["do",p.1]=.tup [.str "do",.str p.1]:=rfl;rw[h3] at h2;rw[List.contains_eq_mem] at h2;simp![zo,c2,h1,h2]
  .intro w hw _ H';simp![]
  .intro w hw _
   obtain⟨p,hp,rfl⟩:=zK.mp hw;exact wl (db _ (qM hp).2)
  .rw[zH,vX];exact zq (show min hs.length b.length<=1000 by omega) (by decide)
  .rw[wK,jb]
   rfl
 simp![aW,ei,bq,cm,cf,getL]
noncomputable def qa(rl:List W)(B:List (List (List È))):W->List W
 | .tup [.str x,.int i,.tup a,.tup b]=>if x=="call" then a++jS ((B[i.toNat]?).getD []) (match rl[i.toNat]? with
   | some (.tup [_,.tup l,_])=>(strsOf l).getD []
   | _=>[]) b else zI (.tup [.str x,.int i,.tup a,.tup b])
 | w=>zI w
theorem qr(h:Pn w):qa rl B w=zI w:=by
 cases h with
 | mk x r p hc hf hp=>
  unfold qa th;split
  .rename_i x' i a b e
   cases e;rw[zW (by rw[hc];exact zU)]
  .rfl
def BY{B:List (List (List È))}{rl:List W}{H:List È}(Bo:Bod h B bd)(hB:∀ks∈B,∀k∈ks,kr k=Â)(hk:k<=B.length)(lr:rl.length<=1000)(hg:∀(i:Nat) (ns:List W) (hs:List È) (body:W),rl[i]?=À (.tup [.tup ns,.tup (zk hs),body])->∀x∈hs,kr ["do",x]=Â)(d:dt 60 w=Â)(sh:Sh rl k H w) :
  (step (step F)).aN [.tup rl,bd,w] h=À (.tup (qa rl B w),h):=by
 have eP:=JL (F:=F) (h:=h) d sh;rcases sh.split with hp | ⟨i,a,b,ns,hs,body,rfl,hi,e⟩
 .rw[qr hp]
  generalize step F=G at eP;have dp:=eI (n:=59) d;have lp:=gq d;obtain⟨x,r,p,hc,hf,hq⟩:=hp;refine wn (h':=h) ?_ ?_ (jw _)
  .simp![aQ,u7,vi,hc,eP]
  .unfold low
   exact qV λw hw=>wl (dp w hw)
 .have LJ:i<B.length:=by omega
  have Ra:i<rl.length:=(zA.mp e).1;obtain⟨m,em,hl,hd⟩:=qc d;cases em;obtain⟨m1,e1,la,da⟩:=qc (hd (.tup a) (by simp));obtain⟨m2,e2,lb,db⟩:=qc (hd (.tup b) (by simp));have eH:=Yq (F:=F) (n:=m2) Bo hB LJ Ra lr e (hg i ns hs body e) lb db;generalize step F=G at eH;have ec:qa rl B (th "call" [.int (i:Int),.tup a,.tup b])=a++jS B[i] hs b:=by
   unfold qa th;erw[jJ,je,jm,zL LJ,qC,e];rw[show strsOf (zk hs)=À hs from fV hs];rfl
  rw[ec];have ld:(jS B[i] hs b).length<=b.length:=by
   unfold jS;rw[zH];refine zq (jM _ _) ?_;rw[vX];omega
  have ad:∀h,addW (.tup a) (.tup (jS B[i] hs b)) h=À (.tup (a++jS B[i] hs b),h):=λh=>by
   erw[addW,j3];rw[zQ (zq (show a.length+(jS B[i] hs b).length<=2000 by omega) (by decide))]
  have lw:low h.length (.tup (a++jS B[i] hs b))=Â:=by
   unfold low;refine qV λw hw=>?_
   rcases zF.mp hw with z | z
   .exact wl (da w z)
   .unfold jS at z
    obtain⟨p,hp,rfl⟩:=zK.mp z;exact wl (db _ (qM (jd.mp hp).1).2)
  generalize a++jS B[i] hs b=Z at ad lw;generalize jS B[i] hs b=Y at eH ad;refine wn (h':=h) ?_ lw (jw _);simp![aQ,u7,bq,tR,XA,vi,eH,ad]
noncomputable def hide(hid:List È)(v:È):List È:=if hid.any (· == v) then hid else hid++[v]
noncomputable def ke(rl:List W)(B:List (List (List È)))(w:W)(hid:List È):List (W×List È):=match w with
 | .tup [.str x,.str v,a,b]=>if x=="own" then [(a,hid),(b,hide hid v)] else (qa rl B w).map λp=>(p,hid)
 | w=>(qa rl B w).map λp=>(p,hid)
noncomputable def encP(p:W×List È):W:=.tup [p.1,.tup (zk p.2)]
def Cu{hid:List È}(ho:hid.all ý=Â)(dv:dt 1 (.str v)=Â)(hl:hid.length<=100):(step F).bx [.tup (zk hid),.str v] h=À (.tup (zk (hide hid v)),h):=by
 have e:=λh=>dW (h:=h) (w:=.str v) (l:=hid) dv ∅ ho
 have e':∀h,inB h (.str v) (.tup (zk hid))=À (hid.any (· == v)):=e;have c1:(1:Nat)<=cap:=by decide
 have ad:∀h,addW (.tup (zk hid)) (.tup [.str v]) h=À (.tup (zk (hid++[v])),h):=λh=>by
  rw[<-fS];erw[addW,j3,zG,kI,qq];rw[zQ (zq (show hid.length+(0+1)<=101 by omega) (by decide))]
 refine wn (h':=h) ?_ ?_ (jw _)
 .unfold hide
  cases q:hid.any (· == v) with
  | true=>simp![bc,e',q]
  | false=>simp![bc,e',q,zo,c1,ad]
 .exact xi _
theorem xc(hx:(x==("own":È))=Ä):ke rl B (th x r) hid=(qa rl B (th x r)).map λp=>(p,hid):=by
 unfold ke th;split
 .rename_i x' v a b e
  cases e;rw[zW (by rw[hx];exact zU)]
 .rfl
structure HidOk(hid:List È):Prop where
 nd:hid.Nodup
 pq:∀v∈hid,v="p" \/ v="q"
theorem ip{α:Type}[DecidableEq α]:∀{l m:List α},l.Nodup->(∀x∈l,x∈m)->l.length<=m.length
 | [],_,_,_=>jQ _
 | x::l,m,n,h=>by
  obtain⟨n1,n2⟩:=jU.mp n;have hx:=h x zz;have ih:=ip (m:=m.erase x) n2 λy hy=>by
   have ne:y≠x:=λe=>by subst e;exact n1 hy
   exact(pF ne).mpr (h y (zp _ hy))
  rw[uG hx] at ih;have:0<m.length:=uX hx;erw[zG];omega
def HidOk.len{hid:List È}(h:HidOk hid):hid.length<=2:=ip (m:=[("p":È),"q"]) h.nd λv hv=>by rcases h.pq v hv with rfl | rfl<;>simp
theorem xt(x:È)(p:Int×Int)(hc:(x==("call":È))=Ä)(hf:fm x=À p)(r:List W)(hr:r.filter (tyB .tuple)=r.drop (p.2.toNat-1)):Pn (th x r):=by
 refine .mk x r p hc hf ?_;erw[zI,hc,hf,hr];rfl
def HidOk.ok{hid:List È}(h:HidOk hid):hid.all ý=Â:=kJ.mpr λv hv=>by rcases h.pq v hv with rfl | rfl<;>decide +kernel
theorem HidOk.hide{hid:List È}(h:HidOk hid){v:È}(hv:v="p" \/ v="q"):HidOk (hide hid v):=by
 unfold K32.hide;split
 .exact h
 .rename_i q
  refine⟨?_,λu hu=>?_⟩
  .rw[xM]
   refine⟨h.nd,by simp,λa ha b hb e=>?_⟩;rw[jn] at hb;subst hb;subst e;exact q (yC.mpr ⟨a,ha,by simp⟩)
  .rcases zF.mp hu with z | z
   .exact h.pq u z
   .rw[jn.mp z];exact hv
def Jc{b:List W}:(∀p∈jS ks hs b,p∈b)/\(jS ks hs b).length<=b.length:=by
 unfold jS;refine⟨λp hp=>?_,?_⟩
 .obtain⟨q,hq,rfl⟩:=zK.mp hp
  exact(qM (jd.mp hq).1).2
 .rw[zH]
  refine zq (jM _ _) ?_;rw[vX];omega
def l8{a b:List W}:(∀p∈qa rl B (th "call" [.int (i:Int),.tup a,.tup b]),p∈a++b)/\(qa rl B (th "call" [.int (i:Int),.tup a,.tup b])).length<=a.length+b.length:=by
 unfold qa th;erw[jJ,je]
 have:=Jc (ks:=(B[(i:Int).toNat]?).getD []) (hs:=match rl[(i:Int).toNat]? with
   | some (.tup [_,.tup l,_])=>(strsOf l).getD []
   | _=>[]) (b:=b)
 refine⟨λp hp=>?_,by rw[zR];exact Nat.add_le_add_left this.2 _⟩;rcases zF.mp hp with z | z
 .exact zF.mpr (.inl z)
 .exact zF.mpr (.inr (this.1 p z))
structure Env0(rl:List W)(B:List (List (List È)))(k:Nat):Prop where
 lr:rl.length<=1000
 kB:k<=B.length
 len:∀ks∈B,ks.length<=60
 good:∀ks∈B,∀k∈ks,kr k=Â
 ne:∀ks∈B,∀k∈ks,k≠[]
 hg:∀(i:Nat) (ns:List W) (hs:List È) (body:W),rl[i]?=À (.tup [.tup ns,.tup (zk hs),body])->∀x∈hs,kr ["do",x]=Â
def Gc{H:List È}(E0:Env0 rl B k)(Bo:Bod h B bd)(d:dt 60 w=Â)(sh:Sh rl k H w)(ho:HidOk hid) :
  (step (step (step F))).aG [.tup rl,bd,w,.tup (zk hid)] h=À (.fls ((ke rl B w hid).map encP),h):=by
 have eC:=BY (F:=F) Bo E0.good E0.kB E0.lr E0.hg d sh;have eH:=λ(v:È) (dv:dt 1 (.str v)=Â) h=>Cu (F:=step F) (h:=h) ho.ok dv (zq ho.len ∅)
 generalize step (step F)=G at eC eH;have II:∀(p:W) (hd:List È),low h.length p=Â->low h.length (encP (p,hd))=Â:=λp hd hp=>by
  unfold encP low;refine qV λw hw=>?_
  erw[zj,zy,kY] at hw;rcases hw with rfl | rfl
  .exact hp
  .exact xi _
 have c2:(2:Nat)<=cap:=by decide
 have plain:∀(x:È) (r:List W),w=th x r->(x==("own":È))=Ä->(∀p∈qa rl B w,low h.length p=Â)->(qa rl B w).length<=2000->gc (kS 4 0 (aA G)) [.tup rl,bd,w,.tup (zk hid)] h=À (.fls ((ke rl B w hid).map encP),h):=by
  intro x r ew hx lp ll;have Rb:ke rl B w hid=(qa rl B w).map λp=>(p,hid):=by subst ew;exact xc hx
  refine wn (h':=h) ?_ ?_ (jw _)
  .have cm:kA (kF (ze G.aN [zd 0,zd 1,zd 2])) 1 [3] (zw 0) qB (ze zo [zd 0,zd 1]) [À (.tup rl),À bd,À w,À (.tup (zk hid))] h=À (.fls ((ke rl B w hid).map encP),h):=by
    refine(eX (l:=qa rl B w) (λ_=>Â) (λp=>.tup [p,.tup (zk hid)]) ?_ ?_ ?_ ?_ ?_).trans ?_
    .simp![kF,eC,srcOf]
    .intro p _ H';rfl
    .intro p hp _ H';simp![zo,c2]
    .intro p hp _;exact II p hid (lp p hp)
    .exact zq ll (by decide)
    .rw[filter_true,Rb,jb];rfl
   subst ew;generalize (ke rl B (th x r) hid).map encP=Z at cm;simp![aA,u7,vi,hx,cm]
  .rw[Rb,jb]
   unfold low;refine qV λz hz=>?_
   obtain⟨p,hp,rfl⟩:=zK.mp hz;exact II p hid (lp p hp)
 have Rc:=eI (n:=59) d;have OD:=gq d;show gc (kS 4 0 (aA G)) [.tup rl,bd,w,.tup (zk hid)] h=_
 have pn:∀(x:È) (r:List W),w=th x r->(x==("own":È))=Ä->Pn w->gc (kS 4 0 (aA G)) [.tup rl,bd,w,.tup (zk hid)] h=À (.fls ((ke rl B w hid).map encP),h):=λx r ew hx p=>by
  refine plain x r ew hx ?_ ?_<;>rw[qr p]
  .exact λp hp=>wl (Rc p hp)
  .exact OD
 cases sh with
 | number i=>exact pn _ _ rfl ⋯ (xt _ (2,2) ⋯ ⋯ _ (by simp[tyB]))
 | name v=>exact pn _ _ rfl ⋯ (xt _ (2,2) ⋯ ⋯ _ (by simp[tyB]))
 | read v hv=>exact pn _ _ rfl ⋯ (xt _ (2,2) ⋯ ⋯ _ (by simp[tyB]))
 | doo v hv=>exact pn _ _ rfl ⋯ (xt _ (2,2) ⋯ ⋯ _ (by simp[tyB]))
 | ask=>exact pn _ _ rfl ⋯ (xt _ (1,1) ⋯ ⋯ _ (by simp))
 | write v hv a=>exact pn _ _ rfl ⋯ (xt _ (3,2) ⋯ ⋯ _ (by simp[tyB]))
 | say a=>exact pn _ _ rfl ⋯ (xt _ (2,1) ⋯ ⋯ _ (by simp[tyB]))
 | lett v a b=>exact pn _ _ rfl ⋯ (xt _ (4,2) ⋯ ⋯ _ (by simp[tyB]))
 | add a b=>exact pn _ _ rfl ⋯ (xt _ (3,1) ⋯ ⋯ _ (by simp[tyB]))
 | less a b=>exact pn _ _ rfl ⋯ (xt _ (3,1) ⋯ ⋯ _ (by simp[tyB]))
 | thenn a b=>exact pn _ _ rfl ⋯ (xt _ (3,1) ⋯ ⋯ _ (by simp[tyB]))
 | loop a b=>exact pn _ _ rfl ⋯ (xt _ (3,1) ⋯ ⋯ _ (by simp[tyB]))
 | iff a b c=>exact pn _ _ rfl ⋯ (xt _ (4,1) ⋯ ⋯ _ (by simp[tyB]))
 | call i a b hi ns hs body e lb=>
  have sub:=l8 (rl:=rl) (B:=B) (i:=i) (a:=a) (b:=b);refine plain _ _ rfl ⋯ (λp hp=>?_) ?_
  .have:=sub.1 p hp
   rw[<-wc (i:Int)] at this;exact wl (Rc p this)
  .have:=sub.2
   rw[wc] at OD;rw[zR] at OD;omega
 | own v hv a b=>
  obtain⟨m,em,hl,hd⟩:=qc d;cases em;have dv:dt 1 (.str v)=Â:=by
   have:ý v=Â/\v.length<=1000:=by rcases hv with rfl | rfl<;>decide +kernel
   unfold dt;rw[zu];exact⟨this.1,kO this.2⟩
  have e2:=eH v dv;have ew:ke rl B (th "own" [.str v,.tup a,.tup b]) hid=[(.tup a,hid),(.tup b,hide hid v)]:=by
   erw[ke,th,jJ,je]
  rw[ew];refine wn (h':=h) ?_ ?_ (jw _)
  .generalize hide hid v=OC at e2
   simp![aA,u7,bq,tR,XA,vi,e2,zo,kH,c2,encP]
  .unfold low
   refine qV λz hz=>?_
   erw[zx,kZ,zj,zy,kY] at hz;rcases hz with rfl | rfl
   .exact II _ _ (wl (hd (.tup a) (by simp)))
   .exact II _ _ (wl (hd (.tup b) (by simp)))
def x4(k:List È):È:=k.getLastD ""
noncomputable def qv(hid:List È)(k:List È):Bool:=hid.any (· == x4 k)
noncomputable def xA(hid:List È)(F:List (List È))(ks:List (List È)):List (List È):=ks.foldl (λF k=>if qv hid k then F else yT F k) F
def Ys:x∈yT F k↔x∈F\/x=k:=by
 unfold yT;split
 .rename_i q
  refine⟨.inl,λh=>h.elim id λe=>by subst e;exact q⟩
 .simp
theorem mem_addAll:∀{ks F:List (List È)},x∈xA hid F ks↔x∈F\/(x∈ks/\qv hid x=Ä)
 | [],F=>by simp[xA]
 | k::ks,F=>by
  have ih:=mem_addAll (hid:=hid) (x:=x) (ks:=ks) (F:=if qv hid k then F else yT F k);have e:xA hid F (k::ks)=xA hid (if qv hid k then F else yT F k) ks:=rfl;rw[e,ih];cases q:qv hid k with
  | true=>
   erw[je,zj];constructor
   .rintro(h | ⟨h,z⟩)
    .exact .inl h
    .exact .inr ⟨.inr h,z⟩
   .rintro(h | ⟨rfl | h,z⟩)
    .exact .inl h
    .rw[q] at z;cases z
    .exact .inr ⟨h,z⟩
  | false=>
   erw[zP,jy,Ys,zj];constructor
   .rintro((h | rfl) | ⟨h,z⟩)
    .exact .inl h
    .exact .inr ⟨.inl rfl,q⟩
    .exact .inr ⟨.inr h,z⟩
   .rintro(h | ⟨rfl | h,z⟩)
    .exact .inl (.inl h)
    .exact .inl (.inr rfl)
    .exact .inr ⟨h,z⟩
theorem oR:∀{ks F:List (List È)},F.Nodup->(xA hid F ks).Nodup
 | [],F,n=>n
 | k::ks,F,n=>by
  have e:xA hid F (k::ks)=xA hid (if qv hid k then F else yT F k) ks:=rfl;rw[e];refine oR ?_;split
  .exact n
  .exact mB n
theorem last_eq(x:È)(r:List È):x4 (x::r)=(x::r).getLast (by simp):=by
 unfold x4;rw[List.getLastD_eq_getLast?,List.getLast?_eq_some_getLast (by simp)];rfl
def Uh(hk:k≠[]):∀h,zC (tupS k) (.int (-1)) h=À (.str (x4 k),h):=by
 intro h;obtain⟨x,r,rfl⟩:∃x r,k=x::r:=by
  cases k with
  | nil=>exact absurd rfl hk
  | cons x r=>exact⟨x,r,rfl⟩
 have e4:((x::r).map W.str)[r.length]?=À (.str (x4 (x::r))):=by
  rw[zZ,last_eq,List.getLast_eq_getElem];simp
 have e:atI ((x::r).map W.str) (-1)=À (.str (x4 (x::r))):=by
  have n:y8 ((x::r).map W.str).length (-1)=À r.length:=by
   unfold y8;simp;omega
  unfold atI;rw[n];exact e4
 unfold tupS zC;erw[e]
abbrev ρm(r b d:W)(n:Nat)(o5 o6:Option W):En:=[À r,À b,À d,À (.ref n),À (.ref (n+1)),o5,o6]
theorem pV{h0:MH}(ho:HidOk hid):∀(ks F:List (List È)) (o6:Option W),(∀k∈ks,kr k=Â/\k≠[])->F.length+ks.length<800->
  ∃IJ,forL (zw 6) Ka (ks.map tupS) (ρm r b d h0.length (À (encP (p,hid))) o6) (h0++[.tdc F,.lst s])=À (.nx (ρm r b d h0.length (À (encP (p,hid))) IJ),h0++[.tdc (xA hid F ks),.lst s])
 | [],F,o6,_,_=>⟨o6,by simp[forL,xA]⟩
 | k::ks,F,o6,hk,hl=>by
  obtain⟨g,ne⟩:=hk k zz;erw[zG] at hl;have hF:(if qv hid k then F else yT F k).length<=F.length+1:=by
   split
   .omega
   .unfold yT;split
    .omega
    .simp
  obtain⟨IJ,ih⟩:=pV (r:=r) (b:=b) (d:=d) (p:=p) (h0:=h0) (s:=s) ho ks (if qv hid k then F else yT F k) (À (tupS k)) (λq hq=>hk q (zp _ hq)) ∅;refine⟨IJ,?_⟩;have hg:zw 6 (tupS k) (ρm r b d h0.length (À (encP (p,hid))) o6) (h0++[.tdc F,.lst s])=À (ρm r b d h0.length (À (encP (p,hid))) (À (tupS k)),h0++[.tdc F,.lst s]):=by simp[zw]
  have dl:dt 1 (.str (x4 k))=Â:=by
   unfold kr at g;rw[zu] at g;obtain⟨x,q,rfl⟩:∃x q,k=x::q:=by
    cases k with
    | nil=>exact absurd rfl ne
    | cons x q=>exact⟨x,q,rfl⟩
   have hm:x4 (x::q)∈x::q:=by
    rw[last_eq];exact List.getLast_mem _
   exact kJ.mp g.2 _ hm
  have li:=Uh ne (h0++[.tdc F,.lst s]);have ii:zC (encP (p,hid)) (.int 1) (h0++[.tdc F,.lst s])=À (.tup (zk hid),h0++[.tdc F,.lst s]):=bq;have ib:inB (h0++[.tdc F,.lst s]) (.str (x4 k)) (.tup (zk hid))=À (qv hid k):=dW (w:=.str (x4 k)) (l:=hid) dl ∅ ho.ok;have pt:tY (.ref h0.length) (tupS k) (.bl Â) (h0++[.tdc F,.lst s])=À (.non,h0++[.tdc (yT F k),.lst s]):=by
   have e1:(h0++[.tdc F,.lst s])[h0.length]?=À (.tdc F):=by simp
   have e2:(h0++([.tdc F,.lst s]:MH)).set h0.length (.tdc (yT F k))=h0++[.tdc (yT F k),.lst s]:=by
    rw[qm _ _ (zr _)];simp
   unfold tY;erw[e1,x9];rw[zQ ∅,e2]
  have bd:Ka (ρm r b d h0.length (À (encP (p,hid))) (À (tupS k))) (h0++[.tdc F,.lst s])=À (.nx (ρm r b d h0.length (À (encP (p,hid))) (À (tupS k))),h0++[.tdc (if qv hid k then F else yT F k),.lst s]):=by
   generalize tupS k=tk at li pt;generalize encP (p,hid)=pp at ii;cases q:qv hid k with
   | true=>
    rw[q] at ib;simp![Ka,nO,li,ii,ib]
   | false=>
    rw[q] at ib;simp![Ka,nO,li,ii,ib,rN,pt]
  erw[zx];unfold forL;rw[hg];erw[bd];exact ih
noncomputable def mk(rl:List W)(B:List (List (List È))):Nat->W->List (List È)
 | 0,_=>[]
 | n+1,w=>itself B w++(ke rl B w []).flatMap λp=>(mk rl B n p.1).filter λk=>!qv p.2 k
def rn{H:List È}(sh:Sh rl k H w):∀p∈qa rl B w,p∈zI w:=by
 rcases sh.split with hp | ⟨i,a,b,ns,hs,body,rfl,hi,e⟩
 .rw[qr hp];exactλp hp=>hp
 .rw[wc];exact l8.1
def bv{H:List È}(sh:Sh rl k H w)(ho:HidOk hid):∀p∈ke rl B w hid,p.1∈zI w/\HidOk p.2:=by
 have pl:∀(x:È) (r:List W),w=th x r->(x==("own":È))=Ä->∀p∈ke rl B w hid,p.1∈zI w/\HidOk p.2:=by
  intro x r e hx p hp;have e2:ke rl B w hid=(qa rl B w).map λp=>(p,hid):=by subst e;exact xc hx
  rw[e2] at hp;obtain⟨q,hq,rfl⟩:=zK.mp hp;exact⟨rn sh q hq,ho⟩
 have sh':=sh;cases sh with
 | own v hv a b=>
  intro p hp;have e:ke rl B (th "own" [.str v,.tup a,.tup b]) hid=[(.tup a,hid),(.tup b,hide hid v)]:=by
   erw[ke,th,jJ,je]
  rw[e] at hp;have ep:zI (th "own" [.str v,.tup a,.tup b])=[.tup a,.tup b]:=by
   have h1:(("own":È)=="call")=Ä:=by decide +kernel
   have h2:fm "own" = À (4,2):=by decide +kernel
   erw[zI,h1,h2];rfl
  rw[ep];erw[zj,zy,kY] at hp;rcases hp with rfl | rfl
  .exact⟨by simp,ho⟩
  .exact⟨by simp,ho.hide hv⟩
 | _=>exact pl _ _ rfl ⋯
theorem Ks(k:List È):qv [] k=Ä:=rfl
def YK:qv (hide hid v) k=(qv hid k||qv (hide [] v) k):=by
 unfold qv hide;by_cases q:(hid.any (· == v))=Â
 .rw[zQ q]
  erw[List.any_nil,zP,jy,jc,wD,uR];obtain⟨u,hu,e⟩:=yC.mp q;have e:=eq_of_beq e;subst e;cases z:(u==x4 k) with
  | false=>simp
  | true=>
   rw[Bool.or_true];exact yC.mpr ⟨u,hu,z⟩
 .rw[zW q]
  simp[List.any_append]
def Ja{rl:List W}{B:List (List (List È))}{w:W}{hid:List È}{f:W->List (List È)}{x:List È}:(∃p∈ke rl B w hid,x∈f p.1/\qv p.2 x=Ä)↔(∃p∈ke rl B w [],x∈f p.1/\qv p.2 x=Ä)/\qv hid x=Ä:=by
 unfold ke;split
 .rename_i y v a b
  split
  .erw[zj,zy,kY,exists_eq_or_imp,exists_eq_left,Ks]
   rw[YK (hid:=hid)];cases qv hid x<;>simp
  .erw[zK]
   constructor
   .rintro⟨p,⟨q,hq,rfl⟩,h1,h2⟩
    exact⟨⟨(q,[]),⟨q,hq,rfl⟩,h1,rfl⟩,h2⟩
   .rintro⟨⟨p,⟨q,hq,rfl⟩,h1,_⟩,h2⟩
    exact⟨(q,hid),⟨q,hq,rfl⟩,h1,h2⟩
 .erw[zK]
  constructor
  .rintro⟨p,⟨q,hq,rfl⟩,h1,h2⟩
   exact⟨⟨(q,[]),⟨q,hq,rfl⟩,h1,rfl⟩,h2⟩
  .rintro⟨⟨p,⟨q,hq,rfl⟩,h1,_⟩,h2⟩
   exact⟨(q,hid),⟨q,hq,rfl⟩,h1,h2⟩
def mem_mk:x∈mk rl B (n+1) w↔x∈itself B w\/∃p∈ke rl B w [],x∈mk rl B n p.1/\qv p.2 x=Ä:=by
 have e:mk rl B (n+1) w=itself B w++(ke rl B w []).flatMap λp=>(mk rl B n p.1).filter λk=>!qv p.2 k:=rfl
 rw[e,zF,ww];erw[jd,qW]
def seen{rl:List W}{B:List (List (List È))}{n:Nat}{w:W}{hid:List È}{x:List È}:(x∈mk rl B (n+1) w/\qv hid x=Ä)↔(x∈itself B w/\qv hid x=Ä)\/∃p∈ke rl B w hid,x∈mk rl B n p.1/\qv p.2 x=Ä:=by
 rw[Ja (hid:=hid) (f:=mk rl B n),mem_mk];constructor
 .rintro⟨h | h,z⟩
  .exact .inl ⟨h,z⟩
  .exact .inr ⟨h,z⟩
 .rintro(⟨h,z⟩ | ⟨h,z⟩)
  .exact⟨.inl h,z⟩
  .exact⟨.inr h,z⟩
theorem Kn{H:List È}:∀{n m:Nat} {w:W},okd rl k H n w->n<=m->mk rl B m w=mk rl B n w
 | 0,_,_,h,_=>by cases h
 | n+1,0,_,_,h=>by omega
 | n+1,m+1,w,h,hn=>by
  show itself B w++_=itself B w++_
  congr 1
  have:∀p∈ke rl B w [],(λp:W×List È=>(mk rl B m p.1).filter λk=>!qv p.2 k) p=(λp:W×List È=>(mk rl B n p.1).filter λk=>!qv p.2 k) p:=λp hp=>by
   have AN:=(bv h.1 ⟨vg,nofun⟩ p hp).1;show(mk rl B m p.1).filter _=(mk rl B n p.1).filter _
   rw[Kn (h.2 p.1 AN) ∅]
  rw[yz,yz,ql this]
def JU{H:List È}(sh:Sh rl k H w):((ke rl B w hid).map λp=>cnt n p.1).sum<=((zI w).map (cnt n)).sum:=by
 have sub:∀{l m:List W},l.Sublist m->(l.map (cnt n)).sum<=(m.map (cnt n)).sum:=by
  intro l m s;induction s with
  | slnil=>exact zr _
  | cons a _ ih=>erw[zx,wC];omega
  | cons_cons a _ ih=>erw[zx,wC];omega
 have OE:∀(ks:List (List È)) (hs:List È) (b:List W),(jS ks hs b).Sublist b:=by
  intro ks hs b;unfold jS;have h1:(((hs.zip b).filter λp=>ks.contains ["do",p.1]).map (·.2)).Sublist ((hs.zip b).map (·.2)):=yU.map _;have h2:((hs.zip b).map (·.2)).Sublist b:=by
   have:(hs.zip b).map (·.2)=b.take hs.length:=by
    clear h1;induction hs generalizing b with
    | nil=>simp
    | cons x hs ih=>
     cases b with
     | nil=>simp
     | cons y b=>
      erw[yZ,zx,zG,List.take_succ_cons];rw[ih b]
   rw[this];exact xJ _ _
  exact h1.trans h2
 have OF:(qa rl B w).Sublist (zI w):=by
  rcases sh.split with hp | ⟨i,a,b,ns,hs,body,rfl,hi,e⟩
  .rw[qr hp];exact List.Sublist.refl _
  .rw[wc]
   unfold qa th;erw[jJ,je];exact List.Sublist.append (List.Sublist.refl _) (OE _ _ _)
 have pl:∀(x:È) (r:List W),w=th x r->(x==("own":È))=Ä->((ke rl B w hid).map λp=>cnt n p.1).sum<=((zI w).map (cnt n)).sum:=by
  intro x r e hx;have e2:ke rl B w hid=(qa rl B w).map λp=>(p,hid):=by subst e;exact xc hx
  rw[e2,jb];exact sub OF
 cases sh with
 | own v hv a b=>
  have e:ke rl B (th "own" [.str v,.tup a,.tup b]) hid=[(.tup a,hid),(.tup b,hide hid v)]:=by
   erw[ke,th,jJ,je]
  have ep:zI (th "own" [.str v,.tup a,.tup b])=[.tup a,.tup b]:=by
   have h1:(("own":È)=="call")=Ä:=by decide +kernel
   have h2:fm "own" = À (4,2):=by decide +kernel
   erw[zI,h1,h2];rfl
  rw[e,ep];exact zr _
 | _=>exact pl _ _ rfl ⋯
def uni(H:List È):List (List È):=(six.flatMap λv=>[[("read":È),v],["write",v]])++[[("say":È)],["ask"]]++H.map λv=>[("do":È),v]
def Kc(H:List È):(uni H).length=14+H.length:=by
 unfold uni;rw[zR,zR,zH];have:(six.flatMap λv=>[[("read":È),v],["write",v]]).length=12:=by decide +kernel
 rw[this];simp
def QD(H:List È):Prop:=∀v∈H,pl 1 (.str v)=Â
def fY{x:È}(h1:ý x=Â/\x.length<=1000)(h2:pl 1 (.str v)=Â):kr [x,v]=Â:=by
 unfold kr;rw[zu];refine⟨kO (by simp),?_⟩;erw[j4,List.all_nil,Bool.and_true];rw[zu,zu];exact⟨⟨h1.1,kO h1.2⟩,h2⟩
def Vy:∀v∈six,pl 1 (.str v)=Â:=by decide +kernel
def dY{H:List È}(wH:QD H):∀k∈uni H,kr k=Â/\k≠[]:=by
 intro k hk;unfold uni at hk;rcases zF.mp hk with hk | hk
 .rcases zF.mp hk with hk | hk
  .obtain⟨v,hv,hk⟩:=ww.mp hk
   erw[zj,zy,kY] at hk;rcases hk with rfl | rfl
   .exact⟨fY ⋯ (Vy v hv),by simp⟩
   .exact⟨fY ⋯ (Vy v hv),by simp⟩
  .erw[zj,zy,kY] at hk
   rcases hk with rfl | rfl<;>exact⟨by decide +kernel,by simp⟩
 .obtain⟨v,hv,rfl⟩:=zK.mp hk
  exact⟨fY ⋯ (wH v hv),by simp⟩
def lV(B:List (List (List È)))(k:Nat)(H:List È):Prop:=∀(i:Nat) (ks:List (List È)),i<k->B[i]?=À ks->∀x∈ks,bi x=Â->x∈uni H
def JC{H:List È}(hU:lV B k H)(sh:Sh rl k H w):∀x∈itself B w,x∈uni H:=by
 have Re:∀v∈six,[("read":È),v]∈uni H/\[("write":È),v]∈uni H:=λv hv=>by
  unfold uni;constructor
  .exact zF.mpr (.inl (zF.mpr (.inl (ww.mpr ⟨v,hv,by simp⟩))))
  .exact zF.mpr (.inl (zF.mpr (.inl (ww.mpr ⟨v,hv,by simp⟩))))
 have sy:[("say":È)]∈uni H/\[("ask":È)]∈uni H:=by
  unfold uni;exact⟨zF.mpr (.inl (zF.mpr (.inr (by simp)))),zF.mpr (.inl (zF.mpr (.inr (by simp))))⟩
 intro x hx;have l3:∀y:È,kU ["read","write","do"] (.str y)=Â->∀v r,itself B (th y (.str v::r))=[[y,v]]:=λy q v r=>by erw[th,itself,q,je]
 have l0:∀y:È,kU ["read","write","do"] (.str y)=Ä->kU ["say","ask"] (.str y)=Ä->(y==("call":È))=Ä->∀r,itself B (th y r)=[]:=λy q q2 q4 r=>by erw[th,itself,q,q2,q4,zP,jy]
 have l2:∀y:È,kU ["read","write","do"] (.str y)=Ä->kU ["say","ask"] (.str y)=Â->∀r,itself B (th y r)=[[y]]:=λy q q2 r=>by erw[th,itself,q,q2,je,zP,jy]
 cases sh with
 | read v hv=>rw[l3 _ ⋯] at hx;rw[jn.mp hx];exact(Re v hv).1
 | write v hv a=>rw[l3 _ ⋯] at hx;rw[jn.mp hx];exact(Re v hv).2
 | doo v hv=>
  rw[l3 _ ⋯] at hx;rw[jn.mp hx];unfold uni;exact zF.mpr (.inr (zK.mpr ⟨v,hv,rfl⟩))
 | say a=>rw[l2 _ ⋯ ⋯] at hx;rw[jn.mp hx];exact sy.1
 | ask=>rw[l2 _ ⋯ ⋯] at hx;rw[jn.mp hx];exact sy.2
 | call i a b hi ns hs body e lb=>
  have e1:itself B (th "call" [.int (i:Int),.tup a,.tup b])=((B[i]?).getD []).filter bi:=by
   erw[th,itself,show kU ["read","write","do"] (.str "call")=Ä by decide +kernel,show kU ["say","ask"] (.str "call")=Ä by decide +kernel,jJ,je,zP,jy,jm]
  rw[e1] at hx;obtain⟨h1,h2⟩:=jd.mp hx;cases q:B[i]? with
  | none=>rw[q] at h1;simp at h1
  | some ks=>rw[q] at h1;exact hU i ks hi q x h1 h2
 | number i=>rw[l0 _ ⋯ ⋯ ⋯] at hx;simp at hx
 | name v=>rw[l0 _ ⋯ ⋯ ⋯] at hx;simp at hx
 | lett v a b=>rw[l0 _ ⋯ ⋯ ⋯] at hx;simp at hx
 | own v hv a b=>rw[l0 _ ⋯ ⋯ ⋯] at hx;simp at hx
 | add a b=>rw[l0 _ ⋯ ⋯ ⋯] at hx;simp at hx
 | less a b=>rw[l0 _ ⋯ ⋯ ⋯] at hx;simp at hx
 | thenn a b=>rw[l0 _ ⋯ ⋯ ⋯] at hx;simp at hx
 | loop a b=>rw[l0 _ ⋯ ⋯ ⋯] at hx;simp at hx
 | iff a b c=>rw[l0 _ ⋯ ⋯ ⋯] at hx;simp at hx
theorem Dz(F:Fs):bQ F=zl (kc mE (zw 3)) (zl (kc (ze dP [ze zo [zd 2,ze zo []]]) (zw 4)) (zl (ck zT (zB F)) (kf (ze uk [zd 3])))):=rfl
def at1{α:Type}(h:List α)(o p:α):(h++[o,p])[h.length+1]?=À p:=by rw[ji ∅];simp
def Ff{α:Type}(h:List α)(o p q:α):(h++[o,p]).set (h.length+1) q=h++[o,q]:=by rw[qm _ _ ∅];simp
def Jz{G:Fs}{h0:MH}{H:List È}(E0:Env0 rl B k)(hU:lV B k H)(wH:QD H)(lH:H.length<=20)(Bo:Bod h0 B bd)
  (e1:∀(w:W) (h:MH),Bod h B bd->dt 60 w=Â->Sh rl k H w->G.aD [bd,w] h=À (.fls ((itself B w).map tupS),h))
  (e2:∀(w:W) (hid:List È) (h:MH),Bod h B bd->dt 60 w=Â->Sh rl k H w->HidOk hid->G.aG [.tup rl,bd,w,.tup (zk hid)] h=À (.fls ((ke rl B w hid).map encP),h)) :
  ∀(T:Nat) (s:List (W×List È)) (F:List (List È)) (o5 o6:Option W),(∀p∈s,dt 60 p.1=Â/\okd rl k H N p.1/\HidOk p.2)->(s.map λp=>cnt N p.1).sum<=T->T<=100000->F.Nodup->(∀x∈F,x∈uni H)->
   ∃F' p5 p6,vE zT (zB G) (T+1) (ρm (.tup rl) bd d0 h0.length o5 o6) (h0++[.tdc F,.lst (s.reverse.map encP)])=À (.nx (ρm (.tup rl) bd d0 h0.length p5 p6),h0++[.tdc F',.lst []])/\F'.Nodup/\(∀x∈F',x∈uni H)/\∀x,x∈F'↔x∈F\/∃p∈s,x∈mk rl B N p.1/\qv p.2 x=Ä:=by
 intro T;induction T with
 | zero=>
  intro s F o5 o6 hs ht hT nF uF;cases s with
  | nil=>
   have t:zT (ρm (.tup rl) bd d0 h0.length o5 o6) (h0++[.tdc F,.lst []])=À (Ä,h0++[.tdc F,.lst []]):=by
    simp![zT,kK,getL,at1,vw]
   refine⟨F,o5,o6,?_,nF,uF,λx=>by simp⟩;erw[ue,kZ];unfold vE;rw[t]
  | cons p r=>
   exfalso;erw[zx,wC] at ht;obtain⟨_,o,_⟩:=hs p zz;cases N with
   | zero=>cases o
   | succ N=>have:=Kh (n:=N) (w:=p.1);omega
 | succ T ih=>
  intro s F o5 o6 hs ht hT nF uF;cases s with
  | nil=>
   have t:zT (ρm (.tup rl) bd d0 h0.length o5 o6) (h0++[.tdc F,.lst []])=À (Ä,h0++[.tdc F,.lst []]):=by
    simp![zT,kK,getL,at1,vw]
   refine⟨F,o5,o6,?_,nF,uF,λx=>by simp⟩;erw[ue,kZ];unfold vE;rw[t]
  | cons p r=>
   obtain⟨d,o,ho⟩:=hs p zz;cases N with
   | zero=>cases o
   | succ N=>
   obtain⟨w,hid⟩:=p;simp only at d o ho;have sh:=o.1;let F1:=xA hid F (itself B w)
   let s1:=(ke rl B w hid).reverse++r
   have uI:=JC hU sh;have u1:∀x∈F1,x∈uni H:=λx hx=>(mem_addAll.mp hx).elim (uF x) λz=>uI x z.1
   have La:∀p∈s1,dt 60 p.1=Â/\okd rl k H (N+1) p.1/\HidOk p.2:=by
    intro q hq;rcases zF.mp hq with z | z
    .obtain⟨z1,z2⟩:=bv sh ho q (uf.mp z)
     exact⟨vj (eI (n:=59) d q.1 z1) ∅,fQ (o.2 q.1 z1) (qK _),z2⟩
    .exact hs q (zp _ z)
   have OG:(s1.map λp=>cnt (N+1) p.1).sum<=T:=by
    erw[zx,wC] at ht;have e:cnt (N+1) w=1+((zI w).map (cnt (N+1))).sum:=by
     conv=>lhs;unfold cnt
     rw[gG λp hp=>(Zp (o.2 p hp) (qK N)).symm]
    have:=JU (rl:=rl) (B:=B) (hid:=hid) (n:=N+1) sh;rw[qp,List.sum_append,List.map_reverse,List.sum_reverse];omega
   have lF:F.length<=34:=zq (ip nF uF) (by rw[Kc];omega);have lI:(itself B w).length<=60:=by
    have pl:(itself B w).length<=1\/∃ks∈B,(itself B w).length<=ks.length:=by
     unfold itself;split
     .split
      .split<;>simp
      .split
       .simp
       .split
        .split
         .rename_i i _
          cases q:B[i.toNat]? with
          | none=>simp
          | some ks=>exact .inr ⟨ks,jC q,by simp[jM]⟩
         .simp
        .simp
     .simp
    rcases pl with z | ⟨ks,hk,z⟩
    .omega
    .exact zq z (E0.len ks hk)
   obtain⟨IJ,ef⟩:=pV (r:=.tup rl) (b:=bd) (d:=d0) (p:=w) (h0:=h0) (s:=r.reverse.map encP) ho (itself B w) F o6 (λx hx=>dY wH x (uI x hx)) ∅;obtain⟨F',p5,p6,ew,n1,n2,n3⟩:=ih s1 F1 (À (encP (w,hid))) IJ La OG ∅ (oR nF) u1;refine⟨F',p5,p6,?_,n1,n2,λx=>?_⟩
   .have hl:(0:Int)<(r.length:Int)+1:=by omega
    have t:zT (ρm (.tup rl) bd d0 h0.length o5 o6) (h0++[.tdc F,.lst (((w,hid)::r).reverse.map encP)])=À (Â,h0++[.tdc F,.lst (((w,hid)::r).reverse.map encP)]):=by
     simp![zT,kK,getL,at1,vw,hl]
    have q1:(kc (qE lW (zd 4) []) (zw 5)) (ρm (.tup rl) bd d0 h0.length o5 o6) (h0++[.tdc F,.lst (((w,hid)::r).reverse.map encP)])=À (.nx (ρm (.tup rl) bd d0 h0.length (À (encP (w,hid))) o6),h0++[.tdc F,.lst (r.reverse.map encP)]):=by
     simp![qE,getL,at1,lW,Ff]
    have i0:∀h,zC (encP (w,hid)) (.int 0) h=À (w,h):=λh=>u7
    have Rf:∀h,zC (encP (w,hid)) (.int 1) h=À (.tup (zk hid),h):=λh=>bq
    have m1:=e1 w (h0++[.tdc F,.lst (r.reverse.map encP)]) Bo.more d sh;have q2:(wa (kF (ze G.aD [zd 1,zh zC (zd 5) (RS 0)])) (zw 6) Ka) (ρm (.tup rl) bd d0 h0.length (À (encP (w,hid))) o6) (h0++[.tdc F,.lst (r.reverse.map encP)])=À (.nx (ρm (.tup rl) bd d0 h0.length (À (encP (w,hid))) IJ),h0++[.tdc F1,.lst (r.reverse.map encP)]):=by
     have it:(kF (ze G.aD [zd 1,zh zC (zd 5) (RS 0)])) (ρm (.tup rl) bd d0 h0.length (À (encP (w,hid))) o6) (h0++[.tdc F,.lst (r.reverse.map encP)])=À (.items ((itself B w).map tupS),h0++[.tdc F,.lst (r.reverse.map encP)]):=by
      generalize encP (w,hid)=pp at i0;generalize (itself B w).map tupS=Z at m1;generalize h0++[.tdc F,.lst (r.reverse.map encP)]=hh at m1;simp![kF,i0,m1,srcOf]
     unfold wa;rw[it];exact ef
    have m2:=e2 w hid (h0++[.tdc F1,.lst (r.reverse.map encP)]) Bo.more d sh ho;have hc:∀l:List (W×List È),(∀p∈l,okd rl k H (N+1) p.1)->l.length<=(l.map λp=>cnt (N+1) p.1).sum:=by
     intro l;induction l with
     | nil=>intro _;simp
     | cons p q ihq=>
      intro hq;have h1:=ihq λz hz=>hq z (zp _ hz)
      have h2:=Kh (n:=N) (w:=p.1);erw[zx,wC,zG];omega
    have NA:=hc s1 λp hp=>(La p hp).2.1
    have d6:s1.length=(ke rl B w hid).length+r.length:=by show((ke rl B w hid).reverse++r).length=_;simp
    have EO:r.length+(ke rl B w hid).length<=cap:=zq (show r.length+(ke rl B w hid).length<=100000 by omega) (by decide);have es:s1.reverse.map encP=r.reverse.map encP++(ke rl B w hid).map encP:=by
     show((ke rl B w hid).reverse++r).reverse.map encP=_
     rw[List.reverse_append,List.reverse_reverse,qp]
    have q3:(xb (qE x6 (zd 4) [ze G.aG [zd 0,zd 1,zh zC (zd 5) (RS 0),zh zC (zd 5) (RS 1)]])) (ρm (.tup rl) bd d0 h0.length (À (encP (w,hid))) IJ) (h0++[.tdc F1,.lst (r.reverse.map encP)])=À (.nx (ρm (.tup rl) bd d0 h0.length (À (encP (w,hid))) IJ),h0++[.tdc F1,.lst (s1.reverse.map encP)]):=by
     rw[es];have ex:x6 (.ref (h0.length+1)) [.fls ((ke rl B w hid).map encP)] (h0++[.tdc F1,.lst (r.reverse.map encP)])=À (.non,h0++[.tdc F1,.lst (r.reverse.map encP++(ke rl B w hid).map encP)]):=by
      erw[x6,at1,qS,getL];rw[zQ (by erw[zH,yS];exact EO),Ff]
     have gl:getL (h0++[.tdc F1,.lst (r.reverse.map encP)]) (.ref (h0.length+1))=À (r.reverse.map encP):=by erw[getL,at1]
     generalize (r.reverse.map encP++(ke rl B w hid).map encP)=R2 at ex ⊢;generalize (ke rl B w hid).map encP=Y at m2 ex;generalize h0++[.tdc F1,.lst (r.reverse.map encP)]=hh at m2 ex gl ⊢;generalize encP (w,hid)=pp at i0 Rf ⊢;simp![qE,gl,i0,Rf,m2,ex]
    have zb:zB G (ρm (.tup rl) bd d0 h0.length o5 o6) (h0++[.tdc F,.lst (((w,hid)::r).reverse.map encP)])=À (.nx (ρm (.tup rl) bd d0 h0.length (À (encP (w,hid))) IJ),h0++[.tdc F1,.lst (s1.reverse.map encP)]):=by
     unfold zB;rw[zt q1,zt q2,q3]
    unfold vE;rw[t];erw[zb];exact ew
   .rw[n3 x]
    have sn:=seen (rl:=rl) (B:=B) (n:=N) (w:=w) (hid:=hid) (x:=x);have pm:∀p∈ke rl B w hid,mk rl B (N+1) p.1=mk rl B N p.1:=λp hp=>Kn (o.2 p.1 (bv sh ho p hp).1) (qK _)
    rw[show(x∈F1↔_) from mem_addAll];constructor
    .rintro((h | h) | ⟨p,hp,h1,h2⟩)
     .exact .inl h
     .exact .inr ⟨(w,hid),zz,sn.mpr (.inl h)⟩
     .rcases zF.mp hp with z | z
      .have z:=uf.mp z
       rw[pm p z] at h1;exact .inr ⟨(w,hid),zz,sn.mpr (.inr ⟨p,z,h1,h2⟩)⟩
      .exact .inr ⟨p,zp _ z,h1,h2⟩
    .rintro(h | ⟨p,hp,h1,h2⟩)
     .exact .inl (.inl h)
     .rcases zj.mp hp with rfl | z
      .rcases sn.mp ⟨h1,h2⟩ with z | ⟨p,hp,h3,h4⟩
       .exact .inl (.inr z)
       .rw[<-pm p hp] at h3
        exact .inr ⟨p,zF.mpr (.inl (uf.mpr hp)),h3,h4⟩
      .exact .inr ⟨p,zF.mpr (.inr z),h1,h2⟩
def s_by{H:List È}(E0:Env0 rl B k)(hU:lV B k H)(wH:QD H)(lH:H.length<=20)(Bo:Bod h B bd)(d:dt 60 w=Â)(o:okd rl k H n w)(hb:cnt n w<=100000) :
  ∃M:List (List È),c8 M/\(∀x,x∈M↔x∈mk rl B n w)/\(∀x∈M,x∈uni H)/\M.length<=34/\(step (step (step (step F)))).aZ [.tup rl,bd,w] h=À (.fls (M.map tupS),h):=by
 have e1:=λ(w:W) (h:MH) (Bo:Bod h B bd) (d:dt 60 w=Â) (sh:Sh rl k H w)=>Ws (F:=step (step F)) (h:=h) Bo.gl Bo.nt Bo.ns (λks hk=>⟨E0.len ks hk,E0.ne ks hk⟩) E0.kB d sh
 have e2:=λ(w:W) (hid:List È) (h:MH) (Bo:Bod h B bd) (d:dt 60 w=Â) (sh:Sh rl k H w) (ho:HidOk hid)=>Gc (F:=F) (h:=h) E0 Bo d sh ho
 generalize step (step (step F))=G at e1 e2;obtain⟨F',p5,p6,ew,n1,n2,n3⟩:=Jz (G:=G) (d0:=w) (h0:=h) (N:=n) E0 hU wH lH Bo e1 e2 (cnt n w) [(w,[])] [] Á Á (λp hp=>by rw[jn.mp hp];exact⟨d,o,vg,nofun⟩) (by simp) hb vg nofun;have lF:F'.length<=34:=zq (ip n1 n2) (by rw[Kc];omega);have ls:(kC F').length=F'.length:=(il n1 λx=>Iff.rfl).symm;refine⟨kC F',vc _,λx=>?_,λx hx=>n2 x (ssort_mem.mp hx),by omega,?_⟩
 .rw[ssort_mem,n3 x]
  simp[Ks]
 have wr:=QX ew;erw[xK,ue,jc,zx,kZ] at wr;have c0:(0:Nat)<=cap:=by decide
 have c1:(1:Nat)<=cap:=by decide
 have c2:(2:Nat)<=cap:=by decide
 refine wn (h':=h++[.tdc F',.lst []]) ?_ (dX _) (qy _ _);have Ee:uk [.ref h.length] (h++[.tdc F',.lst []])=À (.fls ((kC F').map tupS),h++[.tdc F',.lst []]):=by
  have e:(h++[.tdc F',.lst []])[h.length]?=À (.tdc F'):=by simp
  unfold uk;erw[e];rw[zQ ⟨by omega,λx hx=>(dY wH x (n2 x hx)).2⟩]
 have row:bQ G [À (.tup rl),À bd,À w,Á,Á,Á,Á] h=À (.ret (.fls ((kC F').map tupS)),h++[.tdc F',.lst []]):=by
  rw[Dz];rw[zt (ρ':=[À (.tup rl),À bd,À w,À (.ref h.length),Á,Á,Á]) (h':=h++[.tdc []]) (by simp![mE])];rw[zt (ρ':=ρm (.tup rl) bd w h.length Á Á) (h':=h++[.tdc [],.lst [encP (w,[])]]) (by simp![dP,zo,c0,c1,c2,encP,zk])];rw[zt wr];generalize (kC F').map tupS=Z at Ee;simp![Ee]
 erw[kS,zG,kI,je,zx,kZ,É,jt,jc];erw[row]
def Zr{B B':List (List (List È))}{H:List È}(hb:∀j,j<k->B[j]?=B'[j]?)(sh:Sh rl k H w):itself B w=itself B' w:=by
 cases sh with
 | call i a b hi ns hs body e lb=>
  have e1:∀B:List (List (List È)),itself B (th "call" [.int (i:Int),.tup a,.tup b])=((B[i]?).getD []).filter bi:=λB=>by
   erw[th,itself,show kU ["read","write","do"] (.str "call")=Ä by decide +kernel,show kU ["say","ask"] (.str "call")=Ä by decide +kernel,jJ,je,zP,jy,jm]
  rw[e1,e1,hb i hi]
 | _=>first | rfl | (unfold itself th;erw[show(("number":È)=="call")=Ä by decide +kernel,show(("name":È)=="call")=Ä by decide +kernel,show(("let":È)=="call")=Ä by decide +kernel,show(("own":È)=="call")=Ä by decide +kernel,show(("add":È)=="call")=Ä by decide +kernel,show(("less":È)=="call")=Ä by decide +kernel,show(("then":È)=="call")=Ä by decide +kernel,show(("loop":È)=="call")=Ä by decide +kernel,show(("if":È)=="call")=Ä by decide +kernel,zP,jy])
def sI{B B':List (List (List È))}{H:List È}(hb:∀j,j<k->B[j]?=B'[j]?)(sh:Sh rl k H w):qa rl B w=qa rl B' w:=by
 rcases sh.split with hp | ⟨i,a,b,ns,hs,body,rfl,hi,e⟩
 .rw[qr hp,qr hp]
 .unfold qa th
  erw[jJ,je,jm,hb i hi]
def tS{B B':List (List (List È))}{H:List È}(hb:∀j,j<k->B[j]?=B'[j]?)(sh:Sh rl k H w):ke rl B w hid=ke rl B' w hid:=by
 have e:=sI hb sh;unfold ke;split
 .split
  .rfl
  .rw[e]
 .rw[e]
theorem d9{B B':List (List (List È))}{H:List È}(hb:∀j,j<k->B[j]?=B'[j]?):∀{n:Nat} {w:W},okd rl k H n w->mk rl B n w=mk rl B' n w
 | 0,_,h=>by cases h
 | n+1,w,h=>by
  show itself B w++_=itself B' w++_
  rw[Zr hb h.1,tS hb h.1];congr 1
  have:∀p∈ke rl B' w [],(λp:W×List È=>(mk rl B n p.1).filter λk=>!qv p.2 k) p=(λp:W×List È=>(mk rl B' n p.1).filter λk=>!qv p.2 k) p:=λp hp=>by
   have AN:=(bv h.1 ⟨vg,nofun⟩ p hp).1;show(mk rl B n p.1).filter _=(mk rl B' n p.1).filter _
   rw[d9 hb (h.2 p.1 AN)]
  rw[yz,yz,ql this]
structure BodsOk(rl:List W)(B:List (List (List È))):Prop where
 len:B.length<=rl.length
 at_:∀(i:Nat) (ks:List (List È)),B[i]?=À ks->∀(N hs:List È) (body:W),rl[i]?=À (.tup [.tup (zk N),.tup (zk hs),body])->c8 ks/\ks.length<=34/\(∀x∈ks,x∈uni hs)/\∀x,x∈ks↔x∈mk rl B 3 body
def rA{H:List È}(h:x∈uni H)(n:bi x=Â):x∈uni H':=by
 unfold uni at h ⊢;rcases zF.mp h with z | z
 .exact zF.mpr (.inl z)
 .obtain⟨v,_,rfl⟩:=zK.mp z
  simp[bi] at n
def BodsOk.env{B:List (List (List È))}(b:BodsOk rl B)(hr:RG rl):Env0 rl B B.length:=by
 have g:∀ks∈B,∃(N hs:List È) (body:W),wd hs/\c8 ks/\ks.length<=34/\∀x∈ks,x∈uni hs:=λks hk=>by
  obtain⟨i,hi⟩:=qQ.mp hk;have hl:i<rl.length:=zN (zA.mp hi).1 b.len;obtain⟨N,hs,body,e,_,_,_,w2,_⟩:=hr.g i hl;obtain⟨q1,q2,q3,_⟩:=b.at_ i ks hi N hs body e;exact⟨N,hs,body,w2,q1,q2,q3⟩
 refine⟨zq hr.l ∅,zr _,λks hk=>?_,λks hk x hx=>?_,λks hk x hx=>?_,λi ns hs body e x hx=>?_⟩
 .obtain⟨_,_,_,_,_,q,_⟩:=g ks hk;omega
 .obtain⟨_,hs,_,w2,_,_,q⟩:=g ks hk;exact(dY w2 x (q x hx)).1
 .obtain⟨_,hs,_,w2,_,_,q⟩:=g ks hk;exact(dY w2 x (q x hx)).2
 .have hl:=(zA.mp e).1
  obtain⟨N,Am,Ae,e',_,_,_,w2,_⟩:=hr.g i hl;rw[e] at e';injection e' with e';injection e' with e';injection e' with e1 e2;injection e2 with e2 e3;injection e2 with e2;have:=x8 e2;subst this;exact fY ⋯ (w2 x hx)
def BodsOk.uni{B:List (List (List È))}(b:BodsOk rl B)(hr:RG rl)(H:List È):lV B B.length H:=by
 intro i ks hi e x hx n;have hl:i<rl.length:=zN hi b.len;obtain⟨N,hs,body,e',_⟩:=hr.g i hl;exact rA ((b.at_ i ks e N hs body e').2.2.1 x hx) n
theorem WJ(F:Fs):aX F=zl (kc (ze dP []) (zw 1)) (zl (wa (kF (zd 0)) (zw 2) (bB F)) (kf (zd 1))):=rfl
def Yz(p:pl n w=Â):(zI w).length<=8/\∀q∈zI w,pl n q=Â:=by
 cases w with
 | tup l=>
  obtain⟨m,rfl,hl,hd⟩:=gN p;unfold zI;split
  .rename_i x r e
   cases e;split
   .split
    .rename_i y a b
     obtain⟨m1,rfl,la,da⟩:=gN (hd (.tup a) (by simp));obtain⟨m2,e2,lb,db⟩:=gN (hd (.tup b) (by simp));refine⟨by rw[zR];omega,λq hq=>?_⟩;rcases zF.mp hq with z | z
     .exact k8 (da q z) ∅
     .exact k8 (db q z) ∅
    .exact⟨by simp,λq hq=>by simp at hq⟩
   .split
    .rename_i pp _
     refine⟨?_,λq hq=>?_⟩
     .rw[qO];erw[zG] at hl;omega
     .exact k8 (hd q (zp _ (jR hq))) ∅
    .exact⟨by simp,λq hq=>by simp at hq⟩
  .exact⟨by simp,λq hq=>by simp at hq⟩
 | _=>exact⟨by simp[zI],λq hq=>by simp[zI] at hq⟩
theorem rK:∀(n:Nat) (w:W),pl m w=Â->cnt n w<=9 ^ n
 | 0,_,_=>by unfold cnt;omega
 | n+1,w,p=>by
  have hp:=Yz p;have:=DQ (n:=n) (B:=9 ^ n) (w:=w) (l:=8) hp.1 λq hq=>rK n q (hp.2 q hq)
  have h1:1<=9 ^ n:=pX (by simp);rw[vP];omega
def QM(p:pl 6 w=Â):cnt 3 w<=100000:=zq (rK 3 w p) (by decide)
def at_of{α:Type}(h:List α)(o:α):(h++[o])[h.length]?=À o:=by simp
theorem pd{G:Fs}{rl:List W}{h0:MH}(hr:RG rl)
  (e:∀(B:List (List (List È))) (bd w:W) (h:MH) (k:Nat) (H:List È),Env0 rl B k->lV B k H->QD H->H.length<=20->Bod h B bd->dt 60 w=Â->okd rl k H 3 w->cnt 3 w<=100000->∃M:List (List È),c8 M/\(∀x,x∈M↔x∈mk rl B 3 w)/\(∀x∈M,x∈uni H)/\M.length<=34/\G.aZ [.tup rl,bd,w] h=À (.fls (M.map tupS),h)) :
  ∀(r:List W) (B:List (List (List È))) (o2:Option W),rl.drop B.length=r->BodsOk rl B->∃B' MJ,BodsOk rl B'/\B'.length=rl.length/\forL (zw 2) (bB G) r [À (.tup rl),À (.ref h0.length),o2] (h0++[.lst (bw B)])=À (.nx [À (.tup rl),À (.ref h0.length),MJ],h0++[.lst (bw B')])
 | [],B,o2,hd,b=>by
  refine⟨B,o2,b,?_,by simp[forL]⟩;have:=List.drop_eq_nil_iff.mp hd;exact Nat.le_antisymm b.len this
 | rule::r,B,o2,hd,b=>by
  have hi:B.length<rl.length:=by
   rcases yK B.length rl.length with z | z
   .exact z
   .rw[List.drop_eq_nil_of_le z] at hd;cases hd
  have AQ:=wX hi;rw[hd] at AQ;obtain⟨er,TU⟩:=uQ AQ;obtain⟨N,hs,body,eb,l1,l2,w1,w2,pb,ob,nd⟩:=hr.g B.length hi;have MK:rule=.tup [.tup (zk N),.tup (zk hs),body]:=by
   rw[zL hi] at eb;rw[er];exact zX eb
  have Bo:Bod (h0++[.lst (bw B)]) B (.ref h0.length):=⟨by simp[getL],λl=>nofun,λz=>nofun⟩;obtain⟨M,m1,m2,m3,m4,m5⟩:=e B (.ref h0.length) body (h0++[.lst (bw B)]) B.length hs (b.env hr) (b.uni hr hs) w2 ∅ Bo (vj (yb pb) ∅) ob (QM pb);have TV:bw B++[.fls (M.map tupS)]=bw (B++[M]):=by unfold bw;simp
  have d6:(B++[M]).length=B.length+1:=by simp
  have agree:∀j,j<B.length->B[j]?=(B++[M])[j]?:=λj hj=>by rw[zY hj]
  have b':BodsOk rl (B++[M]):=by
   refine⟨by rw[d6];omega,λi ks ei N' Am Ae e'=>?_⟩;rcases yK i B.length with z | z
   .rw[zY z] at ei
    obtain⟨q1,q2,q3,q4⟩:=b.at_ i ks ei N' Am Ae e';refine⟨q1,q2,q3,λx=>?_⟩;obtain⟨N2,ES,Rg,e2,_,_,_,_,_,o2,_⟩:=hr.g i ∅;rw[e'] at e2;have:=zX e2;injection this with this;injection this with t1 t2;injection t2 with t2 t3;injection t3 with t3;subst t3;rw[q4 x,d9 (λj hj=>agree j ∅) o2]
   .have zi:i=B.length:=by
     have:=(zA.mp ei).1;rw[d6] at this;omega
    subst zi;rw[eb] at e';have:=zX e';injection this with this;injection this with t1 t2;injection t2 with t2 t3;injection t2 with t2;injection t3 with t3;subst t3;have:=x8 t2;subst this;have ek:ks=M:=by simpa using ei.symm
    subst ek;refine⟨m1,m4,m3,λx=>?_⟩;rw[m2 x,d9 agree ob]
  obtain⟨B',MJ,g1,g2,g3⟩:=pd (h0:=h0) hr e r (B++[M]) (À rule) (by rw[d6];exact TU.symm) b';refine⟨B',MJ,g1,g2,?_⟩;have hg:zw 2 rule [À (.tup rl),À (.ref h0.length),o2] (h0++[.lst (bw B)])=À ([À (.tup rl),À (.ref h0.length),À rule],h0++[.lst (bw B)]):=by simp[zw]
  have lB:(bw B).length<cap:=by
   have:(bw B).length=B.length:=by unfold bw;simp
   rw[this];have:=hr.l;exact zN (show B.length<5 by omega) (by decide)
  have ap:yn (.ref h0.length) [.fls (M.map tupS)] (h0++[.lst (bw B)])=À (.non,h0++[.lst (bw (B++[M]))]):=by
   erw[yn,at_of];rw[zQ lB,TV];simp
  have gl:getL (h0++[.lst (bw B)]) (.ref h0.length)=À (bw B):=by erw[getL,at_of]
  have ib:∀h,zC rule (.int 2) h=À (body,h):=λh=>by rw[MK];exact tR
  have st:bB G [À (.tup rl),À (.ref h0.length),À rule] (h0++[.lst (bw B)])=À (.nx [À (.tup rl),À (.ref h0.length),À rule],h0++[.lst (bw (B++[M]))]):=by
   generalize h0++[.lst (bw (B++[M]))]=h2 at ap ⊢;generalize M.map tupS=Z at m5 ap;generalize h0++[.lst (bw B)]=h1 at m5 ap gl ⊢;simp![bB,qE,gl,ib,m5,ap]
  unfold forL;rw[hg];erw[st];exact g3
def tP{rl:List W}(hr:RG rl)(h:MH):∃B,BodsOk rl B/\B.length=rl.length/\(step (step (step (step (step F))))).aq [.tup rl] h=À (.fls (bw B),h):=by
 have e:=λ(B:List (List (List È))) (bd w:W) (h:MH) (k:Nat) (H:List È) (a1:Env0 rl B k) (a2:lV B k H) (a3:QD H) (a4:H.length<=20) (a5:Bod h B bd) (a6:dt 60 w=Â) (a7:okd rl k H 3 w) (a8:cnt 3 w<=100000)=>s_by (F:=F) a1 a2 a3 a4 a5 a6 a7 a8
 generalize step (step (step (step F)))=G at e;obtain⟨B',MJ,b1,b2,b3⟩:=pd (h0:=h) hr e rl [] Á rfl ⟨jQ _,λi ks ei=>by simp at ei⟩;refine⟨B',b1,b2,?_⟩;have c0:(0:Nat)<=cap:=by decide
 have row:aX G [À (.tup rl),Á,Á] h=À (.ret (.ref h.length),h++[.lst (bw B')]):=by
  rw[WJ];rw[zt (ρ':=[À (.tup rl),À (.ref h.length),Á]) (h':=h++[.lst []]) (by simp![dP,c0])];have fr:(wa (kF (zd 0)) (zw 2) (bB G)) [À (.tup rl),À (.ref h.length),Á] (h++[.lst []])=À (.nx [À (.tup rl),À (.ref h.length),MJ],h++[.lst (bw B')]):=by
   unfold wa;have it:kF (zd 0) [À (.tup rl),À (.ref h.length),Á] (h++[.lst []])=À (.items rl,h++[.lst []]):=by simp![kF,srcOf]
   rw[it];exact b3
  rw[zt fr];simp![]
 refine FE (h':=h++[.lst (bw B')]) (n:=h.length) ?_ (qy _ _) (zr _) (at_of _ _) ?_
 .erw[kS,zG,kI,je,zx,kZ,É,jt,jc]
  erw[row]
 .refine qV λw hw=>?_
  unfold bw at hw;obtain⟨ks,_,rfl⟩:=zK.mp hw;exact dX ks
def oH{B B':List (List (List È))}(hr:RG rl)(b:BodsOk rl B)(b':BodsOk rl B')(hl:B.length=B'.length):B=B':=by
 have key:∀i:Nat,B[i]?=B'[i]?:=by
  intro i;induction i using Nat.strongRecOn with
  | ind i ih=>
   rcases yK i B.length with z | z
   .obtain⟨N,hs,body,e,_,_,_,_,_,o,_⟩:=hr.g i (zN z b.len)
    have q:=zL z;have q':=zL (show i<B'.length by omega);obtain⟨u1,_,_,m1⟩:=b.at_ i _ q N hs body e;obtain⟨u2,_,_,m2⟩:=b'.at_ i _ q' N hs body e;rw[q,q'];congr 1
    refine wf u1 u2 λx=>?_
    rw[m1 x,m2 x,d9 (λj hj=>ih j hj) o]
   .rw[jz z,jz ∅]
 exact xO key
def V0{rl:List W}(hr:RG rl):∃B,BodsOk rl B/\B.length=rl.length/\∀h,(step (step (step (step (step F))))).aq [.tup rl] h=À (.fls (bw B),h):=by
 obtain⟨B,b1,b2,b3⟩:=tP (F:=F) hr [];refine⟨B,b1,b2,λh=>?_⟩;obtain⟨B',c1,c2,c3⟩:=tP (F:=F) hr h;have:=oH hr b1 c1 ∅;subst this;exact c3
def ol{rl:List W}{B:List (List (List È))}(hr:RG rl)(b:BodsOk rl B)(bl:B.length=rl.length)(eb:∀h,(step (step (step (step (step F))))).aq [.tup rl] h=À (.fls (bw B),h))(hn:n<=5)(hm:m<=60)(p:pl m w=Â)(o:okd rl rl.length [] n w) :
  ∃M:List (List È),c8 M/\(∀x,x∈M↔x∈mk rl B n w)/\(∀x∈M,x∈uni [])/\M.length<=34/\∀h,(step (step (step (step (step (step F)))))).aY [.tup rl,w] h=À (.fls (M.map tupS),h):=by
 have Bo:∀h,Bod h B (.fls (bw B)):=λh=>⟨rfl,λl=>nofun,λz=>nofun⟩
 have E0:=b.env hr;have hU:=b.uni hr [];rw[bl] at E0 hU;have MM:=λh=>s_by (F:=step F) E0 hU (λv hv=>by simp at hv) (by simp) (Bo h) (vj (yb p) hm) o (zq (rK n w p) (zq (qd ∅ hn) (by decide)))
 obtain⟨M,m1,m2,m3,m4,_⟩:=MM [];refine⟨M,m1,m2,m3,m4,λh=>?_⟩;obtain⟨M',n1,n2,n3,n4,n5⟩:=MM h;have:M=M':=wf m1 n1 λx=>(m2 x).trans (n2 x).symm
 subst this;generalize step (step (step (step (step F))))=G at eb n5;refine wn (h':=h) ?_ (dX _) (jw _);generalize M.map tupS=Z at n5;simp![b8,eb,n5]
theorem bX:∀ks:List (List È),eQ (ks.map tupS)=À ks
 | []=>rfl
 | k::r=>by erw[zx,eQ,x9,bX r];rfl
def sZ(k:List È):toD 2 (tupS k)=.tuple (k.map .str):=by
 unfold tupS toD;erw[jb];congr 1
def kR:List (List È):=[["read","a"],["read","b"],["read","c"],["read","d"]]
def kW:List (List È):=[["write","a"],["write","b"],["write","c"],["write","d"]]
def kL(hs:List È):List (List È):=kR++kW++([["say"],["ask"]]:List (List È))++hs.map λx=>[("do":È),x]
def iK:∀hs∈hnd,∀k∈kL hs,kr k=Â:=by decide +kernel
def Wg:∀hs∈hnd,(kL hs).length<=12:=by decide +kernel
theorem gn{xs:List È}(hx:xs.length<=100)(hm:mi ρ h=À (.items (zk xs),h)):kA mi 1 [] (zw 0) qB (ze zo [eC (.str v),zd 0]) ρ h=À (.fls (xs.map λx=>tupS [v,x]),h):=by
 refine(eX (l:=zk xs) (λ_=>Â) (λw=>.tup [.str v,w]) hm ?_ ?_ ?_ ?_).trans ?_
 .intro w _ H';rfl
 .intro w hw _ H';simp![zo,cap]
 .intro w hw _
  obtain⟨x,_,rfl⟩:=zK.mp hw;exact xi [v,x]
 .erw[zk,zH];exact zq hx (by decide)
 .rw[vK.mpr λ_ _=>rfl]
  unfold zk tupS;rw[jb];rfl
def aE{a b:List W}(h:MH)(hl:a.length+b.length<=1000):addW (.fls a) (.fls b) h=À (.fls (a++b),h):=by
 erw[addW,j3,getL];rw[zQ (zq hl (by decide))]
def FW(hh:hs∈hnd):(step F).bR [.tup (zk hs)] h=À (.fls ((kL hs).map tupS),h):=by
 refine qA (n:=3) ?_ (xo (zq (Wg hs hh) (by decide)) (iK hs hh));have hl:hs.length<=2:=by revert hs;decide +kernel
 have e1:∀(ρ:En) (h:MH),kA (kF (eC wt)) 1 [] (zw 0) qB (ze zo [Si "read",zd 0]) ρ h=À (.fls (kR.map tupS),h):=λρ h=>gn (mi:=kF (eC wt)) (v:="read") (ρ:=ρ) (h:=h) (xs:=["a","b","c","d"]) (by decide) (by simp![kF,wt,srcOf,zk])
 have e2:∀(ρ:En) (h:MH),kA (kF (eC wt)) 1 [] (zw 0) qB (ze zo [Si "write",zd 0]) ρ h=À (.fls (kW.map tupS),h):=λρ h=>gn (mi:=kF (eC wt)) (v:="write") (ρ:=ρ) (h:=h) (xs:=["a","b","c","d"]) (by decide) (by simp![kF,wt,srcOf,zk])
 have e3:=λ(o1 o2:Option W) (h:MH)=>gn (mi:=kF (zd 0)) (v:="do") (ρ:=[À (.tup (zk hs)),o1,o2]) (h:=h) (xs:=hs) ∅ (by simp![kF,srcOf])
 have a1:=λh=>aE (a:=kR.map tupS) (b:=kW.map tupS) h (by decide)
 have a2:=λh=>aE (a:=kR.map tupS++kW.map tupS) (b:=[tupS ["say"],tupS ["ask"]]) h (by decide)
 have a3:=λh=>aE (a:=kR.map tupS++kW.map tupS++[tupS ["say"],tupS ["ask"]]) (b:=hs.map λx=>tupS ["do",x]) h (by simp[kR,kW];omega)
 have er:kR.map tupS++kW.map tupS++[tupS ["say"],tupS ["ask"]]++(hs.map λx=>tupS ["do",x])=(kL hs).map tupS:=by
  unfold kL;erw[qp,jb,zx,kZ];rfl
 have c1:(1:Nat)<=cap:=by decide
 have c2:(2:Nat)<=cap:=by decide
 have t1:tupS ["say"]=.tup [.str "say"]:=rfl;have t2:tupS ["ask"]=.tup [.str "ask"]:=rfl;rw[er] at a3;rw[t1,t2] at a2 a3;generalize (hs.map λx=>tupS ["do",x])=D at e3 a3;generalize kR.map tupS++kW.map tupS++[.tup [.str "say"],.tup [.str "ask"]]=E at a2 a3;generalize kR.map tupS++kW.map tupS=B at a1 a2;generalize kR.map tupS=A at e1 a1;generalize kW.map tupS=A2 at e2 a1;generalize (kL hs).map tupS=Z at a3;generalize zk hs=hw at e3;have row:bD F [À (.tup hw),Á,Á] h=À (.ret (.fls Z),h):=by
  unfold bD;rw[zt (ρ':=[À (.tup hw),À (.fls A),Á]) (h':=h) (by simp[kc,bnd,e1,zw])];rw[zt (ρ':=[À (.tup hw),À (.fls A),À (.fls A2)]) (h':=h) (by simp[kc,bnd,e2,zw])];simp![a1,a2,a3,e3,zo,kH,c1,c2]
 erw[kS,zG,kI,je,zx,kZ,É,jt,jc];erw[row]
theorem sT(k:List È):∀l:List (List È),(cw k l).length<=l.length+1
 | []=>by simp[cw]
 | x::l=>by
  unfold cw;split
  .omega
  .split
   .simp
   .have:=sT k l;simp;omega
theorem pE:∀l:List (List È),(kC l).length<=l.length
 | []=>zr _
 | k::l=>by
  have:=pE l;have e:=sT k (kC l);show(cw k (kC l)).length<=_
  simp;omega
def X4:∀hs∈hnd,∀k∈kL hs,k≠[]:=by decide +kernel
noncomputable def Ki(x:È):List (List È):=[["read",x],["write",x]]
noncomputable def fq(hs:List È):List (List È):=([["ask"],["say"]]:List (List È))++(hs.map λx=>[("do":È),x])++(["a","b","c","d"]:List È).flatMap Ki
def GE:∀hs∈hnd,(fq hs).Nodup/\(fq hs).length<=12/\∀k∈fq hs,k∈kL hs:=by decide +kernel
def CW:∀hs∈hnd,hs.length<=2:=by decide +kernel
theorem abcd:signs "abcd" = zk ["a","b","c","d"]:=by
 have e:((("abcd":È).cps.toList.map λc=>(⟨#[c]⟩:È)))=[("a":È),"b","c","d"]:=by decide +kernel
 unfold signs zk;rw[<-e,jb];rfl
theorem oV:∀(xs:List È) (A:List W) (o4:Option W),A.length+2*xs.length<=900->∃OH,forL (zw 4) (kc (zh addW (zd 3) (ze kH [ze zo [Si "read",zd 4],ze zo [Si "write",zd 4]])) (zw 3)) (zk xs) [s,a,t,À (.fls A),o4] h=À (.nx [s,a,t,À (.fls (A++(xs.flatMap Ki).map tupS)),OH],h)
 | [],A,o4,_=>⟨o4,by simp[zk,forL]⟩
 | x::xs,A,o4,hl=>by
  erw[zG] at hl;obtain⟨OH,ih⟩:=oV (s:=s) (a:=a) (t:=t) (h:=h) xs (A++[.tup [.str "read",.str x],.tup [.str "write",.str x]]) (À (.str x)) (by simp;omega);refine⟨OH,?_⟩;have ad:=λh=>aE (a:=A) (b:=[.tup [.str "read",.str x],.tup [.str "write",.str x]]) h (by simp;omega)
  have c2:(2:Nat)<=cap:=by decide
  have st:(kc (zh addW (zd 3) (ze kH [ze zo [Si "read",zd 4],ze zo [Si "write",zd 4]])) (zw 3)) [s,a,t,À (.fls A),À (.str x)] h=À (.nx [s,a,t,À (.fls (A++[.tup [.str "read",.str x],.tup [.str "write",.str x]])),À (.str x)],h):=by
   generalize A++[.tup [.str "read",.str x],.tup [.str "write",.str x]]=B at ad;simp![zo,kH,c2,ad]
  have hg:zw 4 (.str x) [s,a,t,À (.fls A),o4] h=À ([s,a,t,À (.fls A),À (.str x)],h):=by simp[zw]
  have es:zk (x::xs)=.str x::zk xs:=rfl;rw[es];unfold forL;rw[hg];erw[st];rw[ih];simp[List.flatMap_cons,Ki,tupS]
def Fb{ns:List Int}(hl:ns.length<=63)(hh:hs∈hnd):∃k1,c8 k1/\k1.length<=12/\(∀k∈k1,k∈kL hs)/\∀h,(step (step (step F))).az [kz ns,.int at_,.tup (zk hs)] h=À (.fls (k1.map tupS),h):=by
 have eD:=λ(k:Int) h=>ui (F:=F) (ns:=ns) (k:=k) (many:=3) (h:=h) hl ∅
 generalize step (step F)=G at eD;obtain⟨n1,n2,n3⟩:=GE hs hh;have NC:=CW hs hh;let kk:=((fq hs).zipIdx.filter λp=>wb ns (at_+(p.2:Nat)) 3==0).map (·.1)
 have EU:kk.Sublist (fq hs):=by
  have:=(yU (p:=λp:List È×Nat=>wb ns (at_+(p.2:Nat)) 3==0) (l:=(fq hs).zipIdx)).map (·.1);simpa[List.zipIdx_map_fst] using this
 have d6:kk.length<=12:=zq EU.length_le n2;have LH:∀k∈kk,k∈kL hs:=λk hk=>n3 k (EU.mem hk)
 have L7:=pE kk;refine⟨kC kk,vc kk,by omega,λk hk=>LH k (ssort_mem.mp hk),λh=>?_⟩;refine qA (n:=3) ?_ (xo ∅ λk hk=>iK hs hh k (LH k (ssort_mem.mp hk)));have e1:=λ(o1 o2:Option W) (h:MH)=>gn (mi:=kF (zd 2)) (v:="do") (ρ:=[À (kz ns),À (.int at_),À (.tup (zk hs)),o1,o2]) (h:=h) (xs:=hs) ∅ (by simp![kF,srcOf])
 have a1:=λh=>aE (a:=[.tup [.str "ask"],.tup [.str "say"]]) (b:=hs.map λx=>tupS ["do",x]) h (by simp;omega)
 have c1:(1:Nat)<=cap:=by decide
 have c2:(2:Nat)<=cap:=by decide
 let A0:List W:=[.tup [.str "ask"],.tup [.str "say"]]++hs.map λx=>tupS ["do",x]
 obtain⟨o4,ef⟩:=oV (s:=À (kz ns)) (a:=À (.int at_)) (t:=À (.tup (zk hs))) (h:=h) ["a","b","c","d"] A0 Á (by simp[A0];omega);have eA:A0++((["a","b","c","d"]:List È).flatMap Ki).map tupS=(fq hs).map tupS:=by
  unfold fq;erw[qp,jb,zx,kZ];rfl
 rw[eA] at ef;have s0:(kc (zh addW (ze kH [ze zo [Si "ask"],ze zo [Si "say"]]) (kA (kF (zd 2)) 1 [] (zw 0) qB (ze zo [Si "do",zd 0]))) (zw 3)) [À (kz ns),À (.int at_),À (.tup (zk hs)),Á,Á] h=À (.nx [À (kz ns),À (.int at_),À (.tup (zk hs)),À (.fls A0),Á],h):=by
  have Rh:∀h,addW (.fls [.tup [.str "ask"],.tup [.str "say"]]) (.fls (hs.map λx=>tupS ["do",x])) h=À (.fls A0,h):=a1;generalize (hs.map λx=>tupS ["do",x])=D at e1 Rh;simp![zo,kH,c1,c2,e1,Rh]
 have s1:(wa (nZ (Si "abcd")) (zw 4) (kc (zh addW (zd 3) (ze kH [ze zo [Si "read",zd 4],ze zo [Si "write",zd 4]])) (zw 3))) [À (kz ns),À (.int at_),À (.tup (zk hs)),À (.fls A0),Á] h=À (.nx [À (kz ns),À (.int at_),À (.tup (zk hs)),À (.fls ((fq hs).map tupS)),o4],h):=by
  unfold wa;have:nZ (Si "abcd") [À (kz ns),À (.int at_),À (.tup (zk hs)),À (.fls A0),Á] h=À (.items (zk ["a","b","c","d"]),h):=by
   unfold nZ;erw[bnd,eC,abcd]
  rw[this];exact ef
 have s2:kA (yk [zd 3]) 2 [0,1] (vS [zw 0,zw 1]) (zS (zh (jv Ä) (ze G.aa [zd 2,zh addW (zd 3) (zd 0),RS 3]) (RS 0))) (zd 1) [À (kz ns),À (.int at_),À (.tup (zk hs)),À (.fls ((fq hs).map tupS)),o4] h=À (.fls (kk.map tupS),h):=by
  refine(JT (l:=(fq hs).zipIdx.map λp=>(W.int (p.2:Nat),tupS p.1)) (λa b=>match a with | .int k=>wb ns (at_+k) 3==0 | _=>Ä) (λ_ b=>b) ?_ ?_ ?_ ?_ ?_).trans ?_
  .have en:ML.numbered ((fq hs).map tupS)=((fq hs).zipIdx.map λp=>(W.int (p.2:Nat),tupS p.1)).map λw=>.tup [w.1,w.2]:=by
    unfold ML.numbered;rw[List.zipIdx_map,jb,jb];rfl
   simp![yk,mJ,u4,en]
  .intro w hw H'
   obtain⟨p,_,rfl⟩:=zK.mp hw;have ad:∀h,addW (.int at_) (.int (p.2:Nat)) h=À (.int (at_+(p.2:Nat)),h):=λh=>rfl
   simp![ad,eD,va]
  .intro w hw _ H';simp![]
  .intro w hw _
   obtain⟨p,_,rfl⟩:=zK.mp hw;exact xi _
  .rw[zH,pY];exact zq n2 (by decide)
  .rw[wK,jb,jb]
   rfl
 have s3:uk [.fls (kk.map tupS)] h=À (.fls ((kC kk).map tupS),h):=by
  have e0:∀l:List W,uk [.fls l] h=fG [.fls l] h:=λl=>by unfold uk;rfl
  rw[e0];unfold fG X9;erw[getL,qD,bX];rw[zQ ⟨by omega,n1.sublist EU,λk hk=>X4 hs hh k (LH k hk)⟩]
 have row:bJ G [À (kz ns),À (.int at_),À (.tup (zk hs)),Á,Á] h=À (.ret (.fls ((kC kk).map tupS)),h):=by
  unfold bJ;rw[zt s0,zt s1];generalize kk.map tupS=Z at s2 s3;erw[kf,ze,xp,bnd,s2,s3]
 erw[kS,zG,kI,je,zx,kZ,É,jt,jc];erw[row]
noncomputable def lc(O:List È)(x:List È):Prop:=∀a v,x=[a,v]->a≠"do"->v∈vk O
def shel_mem:v∈vk O↔v∈([("a":È),"b","c","d"]:List È)\/v∈O:=by
 unfold vk;erw[zF];grind
def Ug(h:lc [] x):lc O x:=λa v e n=>shel_mem.mpr (.inl ((shel_mem.mp (h a v e n)).resolve_right nofun))
def Gg(hB:∀ks∈B,∀x∈ks,lc [] x)(s:c9 (n+1) O w):∀x∈itself B w,lc O x:=by
 intro x hx;unfold itself at hx;split at hx
 .rename_i y r
  split at hx
  .rename_i q
   split at hx
   .rename_i u t
    rw[jn] at hx;subst hx;intro a v e ne;cases e;refine s.1 y u t rfl ?_;have:("read":È)=y\/("write":È)=y\/("do":È)=y:=by simpa[kU] using q
    rcases this with z | z | z
    .exact .inl z.symm
    .exact .inr z.symm
    .exact absurd z.symm ne
   .cases hx
  .split at hx
   .rw[jn] at hx
    subst hx;intro a v e;cases e
   .split at hx
    .split at hx
     .rename_i i t
      have h1:=(jd.mp hx).1;cases q:B[i.toNat]? with
      | none=>rw[q] at h1;cases h1
      | some ks=>rw[q] at h1;exact Ug (hB ks (jC q) x h1)
     .cases hx
    .cases hx
 .cases hx
def JV:ke rl B (th "own" [.str v,.tup a,.tup b]) hid=[(.tup a,hid),(.tup b,hide hid v)]:=by
 erw[ke,th,jJ,je]
theorem YS(a v:È):x4 [a,v]=v:=rfl
def X6{H:List È}(hB:∀ks∈B,∀x∈ks,lc [] x):∀{n:Nat} {O:List È} {w:W},okd rl k H n w->c9 n O w->∀x∈mk rl B n w,lc O x:=by
 intro n;induction n with
 | zero=>intro O w o;cases o
 | succ n ih=>
  intro O w o s x hx;rcases mem_mk.mp hx with z | ⟨p,hp,h1,h2⟩
  .exact Gg hB s x z
  .obtain⟨sh,op⟩:=o
   have other:∀(y:È) (r:List W),w=th y r->(y==("own":È))=Ä->lc O x:=λy r e hy=>by
    subst e;rw[xc hy] at hp;obtain⟨q,hq,rfl⟩:=zK.mp hp;have Ri:=rn sh q hq;exact ih (op q Ri) (s.2.2 (λr' e=>by rw[(dQ e).1] at hy;exact absurd hy ⋯) q Ri) x h1
   cases sh with
   | own v hv a b=>
    rw[JV] at hp;obtain⟨sa,sb⟩:=s.2.1 v _ _ rfl;have ep:zI (th "own" [.str v,.tup a,.tup b])=[.tup a,.tup b]:=by
     have h1:(("own":È)=="call")=Ä:=by decide +kernel
     have h2:fm "own" = À (4,2):=by decide +kernel
     erw[zI,h1,h2];rfl
    rw[ep] at op;erw[zj,zy,kY] at hp;rcases hp with rfl | rfl
    .exact ih (op _ (by simp)) sa x h1
    .intro c u e ne
     have hu:=ih (op _ (by simp)) sb x h1 c u e ne;subst e;rw[shel_mem] at hu ⊢;have:u≠v:=by
      rintro rfl;simp[hide,qv,YS] at h2
     rcases hu with z | z
     .exact .inl z
     .rcases zF.mp z with z | z
      .exact .inr z
      .exact absurd (jn.mp z) this
   | _=>exact other _ _ rfl ⋯
noncomputable def GP(k:Nat)(B B':List (List (List È))):Prop:=∀i,i<k->∀x∈(B[i]?).getD [],x∈(B'[i]?).getD []
def Vm(h:∀x∈ks,x∈lx):∀p∈jS ks hs b,p∈jS lx hs b:=λp hp=>by
 unfold jS at hp ⊢;obtain⟨q,hq,rfl⟩:=zK.mp hp;obtain⟨h1,h2⟩:=jd.mp hq;exact zK.mpr ⟨q,jd.mpr ⟨h1,wu.mpr (h _ (wu.mp h2))⟩,rfl⟩
def XO{H:List È}(hb:GP k B B'):∀{n:Nat} {w:W},okd rl k H n w->∀x∈mk rl B n w,x∈mk rl B' n w:=by
 intro n;induction n with
 | zero=>intro w o;cases o
 | succ n ih=>
  intro w ⟨sh,op⟩ x hx;have TX:∀p∈ke rl B w [],okd rl k H n p.1:=λp hp=>op p.1 (bv sh ⟨vg,nofun⟩ p hp).1
  have key:(∀y∈itself B w,y∈itself B' w)/\∀p∈ke rl B w [],p∈ke rl B' w []:=by
   rcases sh.split with hp | ⟨i,a,b,ns,hs,body,rfl,hi,e⟩
   .have e1:itself B w=itself B' w:=by
     cases hp with
     | mk x r p hc hf hp=>erw[th,itself,hc,zP,jy]
    have e2:ke rl B w []=ke rl B' w []:=by
     cases hp with
     | mk x r p hc hf hp=>
      have Il:Pn (th x r):=.mk x r p hc hf hp;unfold ke th;split
      .rw[qr (B:=B) Il,qr (B:=B') Il]
      .rw[qr (B:=B) Il,qr (B:=B') Il]
    rw[e1,e2];exact⟨λ_ h=>h,λ_ h=>h⟩
   .have A5:(i:Int).toNat=i:=jm i
    constructor
    .intro y hy
     have e1:∀B:List (List (List È)),itself B (th "call" [.int (i:Int),.tup a,.tup b])=((B[i]?).getD []).filter bi:=λB=>by
      erw[th,itself,show kU ["read","write","do"] (.str "call")=Ä by decide +kernel,show kU ["say","ask"] (.str "call")=Ä by decide +kernel,jJ,je,zP,jy,A5]
     rw[e1] at hy ⊢;obtain⟨h1,h2⟩:=jd.mp hy;exact jd.mpr ⟨hb i hi y h1,h2⟩
    .intro p hp
     rw[xc ⋯] at hp ⊢;obtain⟨q,hq,rfl⟩:=zK.mp hp;refine zK.mpr ⟨q,?_,rfl⟩;erw[th,qa,jJ,je,A5] at hq ⊢;rcases zF.mp hq with z | z
     .exact zF.mpr (.inl z)
     .exact zF.mpr (.inr (Vm (hb i hi) q z))
  rcases mem_mk.mp hx with z | ⟨p,hp,h1,h2⟩
  .exact mem_mk.mpr (.inl (key.1 x z))
  .exact mem_mk.mpr (.inr ⟨p,key.2 p hp,ih (TX p hp) x h1,h2⟩)
structure Kd(hs:List È)(M:List (List È)):Prop where
 hh:hs∈hnd
 up:c8 M
 u:∀x∈M,x∈kL hs
section
variable{hs:List È}{M A B:List (List È)}{F:Fs}{h:MH}
def Kd.len(k:Kd hs M):M.length<=12:=zq (ip (gP k.up) k.u) (Wg hs k.hh)
def Kd.good(k:Kd hs M):∀x∈M,kr x=Â:=λx hx=>iK hs k.hh x (k.u x hx)
def Kd.ne(k:Kd hs M):∀x∈M,x≠[]:=λx hx=>X4 hs k.hh x (k.u x hx)
theorem Kd.dt(k:Kd hs M):dt 3 (.fls (M.map tupS))=Â:=xo (zq k.len (by decide)) k.good
def Kd.join(a:Kd hs A)(b:Kd hs B):Kd hs (kC (A++B)):=⟨a.hh,vc _,λx hx=>(zF.mp (ssort_mem.mp hx)).elim (a.u x) (b.u x)⟩
def Kd.sub(a:Kd hs A)(p:List È->Bool):Kd hs (A.filter p):=⟨a.hh,a.up.sublist yU,λx hx=>a.u x (jd.mp hx).1⟩
theorem t9:∀k l:List (List È),þ (k.map λx=>.tuple (x.map .str)) (l.map λx=>.tuple (x.map .str))=decide (k=l)
 | [],[]=>rfl
 | [],_::_=>rfl
 | _::_,[]=>rfl
 | x::k,y::l=>by
  erw[zx,þ,ö,dU,t9 k l,vo,Bool.decide_and]
def Yb{A B:List (List È)}(la:A.length<=1000)(ga:∀x∈A,kr x=Â)(lb:B.length<=1000)(gb:∀x∈B,kr x=Â)(h:MH):eqB h (.fls (A.map tupS)) (.fls (B.map tupS))=À (decide (A=B)):=by
 have e:∀{A:List (List È)},A.length<=1000->(∀x∈A,kr x=Â)->kP deep h (.fls (A.map tupS))=À (.list (A.map λx=>.tuple (x.map .str))):=λ{A} l g=>by
  rw[ya (h:=h) (xo l g) (show 3<=deep by decide)];erw[toD,jb,xQ,sZ]
 unfold eqB;have ef:p9 (.fls (A.map tupS)) (.fls (B.map tupS))=Á:=rfl;rw[ef,e la ga,e lb gb];erw[ö,t9]
def Kd.eq(a:Kd hs A)(b:Kd Am B)(h:MH):eqB h (.fls (A.map tupS)) (.fls (B.map tupS))=À (decide (A=B)):=Yb (zq a.len (by decide)) a.good (zq b.len (by decide)) b.good h
def BB(neg:Bool){ρ:En}(g1:∀k∈A,kr k=Â)(g2:∀k∈B,kr k=Â)(l1:A.length<=100)(ha:(ρ[a]?).join=À (.fls (A.map tupS)))(hb:(ρ[b]?).join=À (.fls (B.map tupS))) :
  kA (kF (zd a)) 1 [b] (zw 0) (zS (zh (ab neg) (zd 0) (zd 1))) (zd 0) ρ h=À (.fls ((A.filter λk=>if neg then !B.contains k else B.contains k).map tupS),h):=by
 have hv:zd a ρ h=À (.fls (A.map tupS),h):=by
  unfold zd;cases e:ρ[a]? with
  | none=>rw[e] at ha;cases ha
  | some o=>rw[e] at ha;simp at ha;subst ha;rfl
 refine(eX (l:=A.map tupS) (λw=>if neg then !B.contains ((nX w).getD []) else B.contains ((nX w).getD [])) id ?_ ?_ ?_ ?_ ?_).trans ?_
 .simp[kF,bnd,hv,srcOf]
 .intro w hw H'
  obtain⟨k,hk,rfl⟩:=zK.mp hw;have:=lS (h:=H') (y:=.fls (B.map tupS)) (g1 k hk) g2 rfl;erw[zx,kZ,hb,x9,qC];simp![this]
 .intro w hw _ H';simp![]
 .intro w hw _
  obtain⟨k,hk,rfl⟩:=zK.mp hw;exact xi k
 .erw[zH];exact zq l1 (by decide)
 .rw[pN,wK]
  erw[xQ,x9,qC]
noncomputable def lack(A B:List (List È)):List (List È):=A.filter λk=>!B.contains k
def so(g1:∀k∈A,kr k=Â)(g2:∀k∈B,kr k=Â)(l1:A.length<=100):(step F).aR [.fls (A.map tupS),.fls (B.map tupS)] h=À (.fls ((lack A B).map tupS),h):=by
 refine qA (n:=3) ?_ (xo (zq (jM _ _) ∅) λk hk=>g1 k (jd.mp hk).1);have:=BB (h:=h) Â (ρ:=[À (.fls (A.map tupS)),À (.fls (B.map tupS))]) (a:=0) (b:=1) g1 g2 l1 rfl rfl;simp![bZ,this,lack]
def lack_nil:(lack A B).isEmpty=Â↔∀x∈A,x∈B:=by
 unfold lack;rw[yw,uY];simp
def sj(Z:List (List È)):((Z.length:Int)==0)=Z.isEmpty:=by cases Z<;>simp;omega
def CJ(g1:∀k∈A,kr k=Â)(g2:∀k∈B,kr k=Â)(l1:A.length<=100):(step (step F)).aU [.fls (A.map tupS),.fls (B.map tupS)] h=À (.bl (lack A B).isEmpty,h):=by
 have e:=λh=>so (F:=F) (h:=h) g1 g2 l1
 generalize step F=G at e;refine qA (n:=1) ?_ rfl;generalize lack A B=Z at e;have ln:∀h,kK [.fls (Z.map tupS)] h=À (.int (Z.length:Int),h):=λh=>by simp[kK,getL]
 simp![cg,e,ln,va,sj]
def DB(a:Kd hs A)(b:Kd hs B):(step F).bH [.fls (A.map tupS),.fls (B.map tupS)] h=À (.fls ((A.filter λk=>B.contains k).map tupS),h):=by
 refine qA (n:=3) ?_ (a.sub _).dt;have es:kC (A.filter λk=>B.contains k)=A.filter λk=>B.contains k:=wf (vc _) (a.sub _).up λx=>ssort_mem
 have hl:=jM (λk=>B.contains k) A;have l1:=a.len;have l2:=b.len;have ex:xl (λa b=>a.filter (b.contains ·)) (zd 0) (zd 1) [À (.fls (A.map tupS)),À (.fls (B.map tupS))] h=À (.fls ((A.filter λk=>B.contains k).map tupS),h):=by
  unfold xl rT;erw[bnd,zd,qS,getL,qD,bX,q9,uO];rw[zQ ⟨by omega,by rw[es];omega,λk hk=>a.ne k (jd.mp hk).1⟩,es]
 erw[kS,zG,kI,je,zx,kZ,É,jt,jc,b7,kf,ex]
def Wv(a:Kd hs A)(b:Kd hs B):(step F).aK [.fls (A.map tupS),.fls (B.map tupS)] h=À (.fls ((kC (A++B)).map tupS),h):=by
 refine qA (n:=3) ?_ (a.join b).dt;have l0:=(a.join b).len;have l1:=a.len;have l2:=b.len;have ex:xl (λa b=>a++b) (zd 0) (zd 1) [À (.fls (A.map tupS)),À (.fls (B.map tupS))] h=À (.fls ((kC (A++B)).map tupS),h):=by
  unfold xl rT;erw[bnd,zd,qS,getL,qD,bX,q9,uO];rw[zQ ⟨by omega,by omega,λk hk=>(zF.mp hk).elim (a.ne k) (b.ne k)⟩]
 erw[kS,zG,kI,je,zx,kZ,É,jt,jc,cC,kf,ex]
def XT(a:Kd hs M):(step (step F)).aF [.fls (M.map tupS),.tup (zk hs)] h=À (.bl Â,h):=by
 have e:=λh=>FW (F:=F) (h:=h) a.hh
 generalize step F=G at e;refine qA (n:=1) ?_ rfl;have l1:=a.len;have gk:=iK hs a.hh;have ea:∀(r:En) (h:MH),kA (kF (zd 0)) 1 [2] (zw 0) qB (zh (ab Ä) (zd 0) (zd 1)) [À (.fls (M.map tupS)),À (.tup (zk hs)),À (.fls ((kL hs).map tupS))] h=À (.fls ((M.map tupS).map λ_=>.bl Â),h):=λr h=>by
  refine(eX (l:=M.map tupS) (λ_=>Â) (λ_=>.bl Â) ?_ ?_ ?_ ?_ ?_).trans ?_
  .simp![kF,srcOf]
  .intro w hw H';rfl
  .intro w hw _ H'
   obtain⟨k,hk,rfl⟩:=zK.mp hw;have:=lS (h:=H') (y:=.fls ((kL hs).map tupS)) (a.good k hk) gk rfl;rw[wu.mpr (a.u k hk)] at this;simp![this]
  .intro w hw _;unfold low;rfl
  .erw[zH];exact zq l1 (by decide)
  .rw[vK.mpr λ_ _=>rfl]
 have eb:∀h,Zm [.fls ((M.map tupS).map λ_=>.bl Â)] h=À (.bl Â,h):=λh=>by
  have:=BC (M.map tupS) λ_=>Â
  erw[Zm,ng,qS,getL,this];rw[kJ.mpr λx hx=>by obtain⟨_,_,rfl⟩:=zK.mp hx;rfl]
 have es:kC M=M:=wf (vc _) a.up λx=>ssort_mem
 have ec:∀h,fz (.fls (M.map tupS)) h=À (.fls (M.map tupS),h):=λh=>by
  unfold fz;erw[qS,getL,qD,bX];rw[zQ ⟨by omega,by rw[es];omega,a.ne⟩,es]
 have ed:∀h,eqB h (.fls (M.map tupS)) (.fls (M.map tupS))=À Â:=λh=>(a.eq a h).trans (by simp)
 have el:∀h,isW .list (.fls (M.map tupS)) h=À (.bl Â,h):=λh=>rfl
 generalize M.map tupS=Z at *;generalize (Z.map λ_=>W.bl Â)=Y at *;simp![cj,e,el,ea [],eb,ec,ed]
end
def hZ(e:mi ρ h=À (.items l,h1)):wa mi g b ρ h=forL g b l ρ h1:=by
 unfold wa;rw[e]
def Kl(Q:En->Prop)(l:List W)(hs:∀w∈l,∀ρ,Q ρ->∃oj r9,g w ρ h=À (oj,h)/\b oj h=À (.nx r9,h)/\Q r9):∀ρ,Q ρ->∃ρ',Q ρ'/\forL g b l ρ h=À (.nx ρ',h):=by
 induction l with
 | nil=>intro ρ q;exact⟨ρ,q,by simp[forL]⟩
 | cons w r ih=>
  intro ρ q;obtain⟨oj,r9,e1,e2,q2⟩:=hs w zz ρ q;obtain⟨ρ',q',e3⟩:=ih (λv hv=>hs v (zp _ hv)) r9 q2;refine⟨ρ',q',?_⟩;unfold forL;rw[e1];erw[e2];exact e3
def Wa:∀v∈([("a":È),"b","c","d"]:List È),∀hs∈hnd,[("read":È),v]∈kL hs/\[("write":È),v]∈kL hs:=by decide +kernel
def F8:∀hs∈hnd,∀x∈([[("say":È)],["ask"]]:List (List È)),x∈kL hs:=by decide +kernel
def Hj:∀hs∈hnd,∀v∈hs,[("do":È),v]∈kL hs:=by decide +kernel
def V4(hh:hs∈hnd)(h:x∈uni hs)(s:lc [] x):x∈kL hs:=by
 unfold uni at h;rcases zF.mp h with z | z
 .rcases zF.mp z with z | z
  .obtain⟨v,_,z⟩:=ww.mp z
   erw[zj,zy,kY] at z;rcases z with rfl | rfl
   .exact(Wa v ((shel_mem.mp (s _ v rfl ⋯)).resolve_right nofun) hs hh).1
   .exact(Wa v ((shel_mem.mp (s _ v rfl ⋯)).resolve_right nofun) hs hh).2
  .exact F8 hs hh x z
 .obtain⟨v,hv,rfl⟩:=zK.mp z
  exact Hj hs hh v hv
def G4:∀hs∈hnd,∀x∈kL hs,x∈uni hs:=by decide +kernel
structure KB(rl:List W)(B:List (List (List È))):Prop where
 len:B.length=rl.length
 at_:∀(i:Nat) (ks:List (List È)),B[i]?=À ks->∀(N hs:List È) (body:W),rl[i]?=À (.tup [.tup (zk N),.tup (zk hs),body])->Kd hs ks
section
variable{rl:List W}{B K:List (List (List È))}
def KB.row(k:KB rl K)(hr:RG rl)(hi:i<rl.length):∃(N hs:List È) (body:W) (ks:List (List È)),rl[i]?=À (.tup [.tup (zk N),.tup (zk hs),body])/\K[i]?=À ks/\Kd hs ks:=by
 obtain⟨N,hs,body,e,_⟩:=hr.g i hi;have hk:i<K.length:=by rw[k.len];exact hi
 exact⟨N,hs,body,K[i],e,zL hk,k.at_ i _ (zL hk) N hs body e⟩
def KB.mem(k:KB rl K)(hr:RG rl)(h:ks∈K):∃hs,Kd hs ks:=by
 obtain⟨i,e⟩:=qQ.mp h;obtain⟨N,hs,body,lx,_,e',kd⟩:=k.row hr (i:=i) (by rw[<-k.len];exact(zA.mp e).1);rw[e] at e';cases e';exact⟨hs,kd⟩
def BI(hr:RG rl)(b:BodsOk rl B):∀i,i<=B.length->∀ks∈B.take i,∀x∈ks,lc [] x:=by
 intro i;induction i with
 | zero=>intro _ ks hk;simp at hk
 | succ i ih=>
  intro hi ks hk x hx;have ih:=ih ∅;rw[List.take_succ,zF] at hk;rcases hk with z | z
  .exact ih ks z x hx
  .have e:B[i]?=À ks:=by simpa using z
   obtain⟨N,hs,body,e',_,_,_,_,_,o,_,sc,_⟩:=hr.g i (zN hi b.len);have hm:=((b.at_ i ks e N hs body e').2.2.2 x).mp hx;rw[d9 (B':=B.take i) (λj hj=>by rw[uH hj]) o] at hm;exact X6 ih o sc x hm
def lf(hr:RG rl)(b:BodsOk rl B):∀ks∈B,∀x∈ks,lc [] x:=by
 have:=BI hr b B.length (zr _);rwa [ud] at this
def BA(hr:RG rl)(b:BodsOk rl B)(bl:B.length=rl.length):KB rl B:=by
 refine⟨bl,λi ks e N hs body e'=>?_⟩;obtain⟨N',Am,Ae,e2,_,_,_,_,_,_,_,_,hh⟩:=hr.g i (zA.mp e').1;have q:=e'.symm.trans e2;erw[xG,W.tup.injEq,vo,uL] at q;obtain⟨_,q,_⟩:=q;have q:=x8 q;subst q;obtain⟨u,_,x1,_⟩:=b.at_ i ks e N hs body e';exact⟨hh,u,λx hx=>V4 hh (x1 x hx) (lf hr b ks (jC e) x hx)⟩
def KB.env(k:KB rl K)(hr:RG rl)(E:Env0 rl B rl.length):Env0 rl K rl.length:=
 ⟨E.lr,Nat.le_of_eq k.len.symm,λks h=>by obtain⟨hs,q⟩:=k.mem hr h;exact zq q.len (by decide),λks h=>by obtain⟨hs,q⟩:=k.mem hr h;exact q.good,λks h=>by obtain⟨hs,q⟩:=k.mem hr h;exact q.ne,E.hg⟩
def KB.uni(k:KB rl K)(hr:RG rl):lV K rl.length []:=λi ks hi e x hx n=>by
 obtain⟨hs,q⟩:=k.mem hr (jC e);exact rA (G4 hs q.hh x (q.u x hx)) n
structure Mb(rl:List W)(K:List (List (List È)))(n:Nat)(w:W)(M:List (List È)):Prop where
 up:c8 M
 me:∀x,x∈M↔x∈mk rl K n w
 u:∀x∈M,x∈uni []
 l:M.length<=34
 e:∀F h,(step (step (step (step F)))).aZ [.tup rl,.fls (bw K),w] h=À (.fls (M.map tupS),h)
def Mb.good{M:List (List È)}(m:Mb rl K n w M):∀x∈M,kr x=Â:=λx hx=>(dY (λv hv=>by simp at hv) x (m.u x hx)).1
def Jd(hr:RG rl)(k:KB rl K)(E:Env0 rl B rl.length)(hn:n<=5)(hm:m<=60)(p:pl m w=Â)(o:okd rl rl.length [] n w):∃M,Mb rl K n w M:=by
 have Bo:∀h,Bod h K (.fls (bw K)):=λh=>⟨rfl,λl=>nofun,λz=>nofun⟩
 have MM:=λF h=>s_by (F:=F) (k.env hr E) (k.uni hr) (λv hv=>by simp at hv) (by simp) (Bo h) (vj (yb p) hm) o (zq (rK n w p) (zq (qd ∅ hn) (by decide)))
 obtain⟨M,m1,m2,m3,m4,_⟩:=MM Fs.bot [];refine⟨M,m1,m2,m3,m4,λF h=>?_⟩;obtain⟨M',n1,n2,n3,n4,n5⟩:=MM F h;have:M=M':=wf m1 n1 λx=>(m2 x).trans (n2 x).symm
 subst this;exact n5
theorem F7{i:Nat}{ks:List (List È)}(e:K[i]?=À ks):(bw K)[i]?=À (.fls (ks.map tupS)):=by
 unfold bw;rw[zZ,e];rfl
theorem rV{i:Nat}{ks:List (List È)}(hl:K.length<=100)(e:K[i]?=À ks)(h:MH):zC (.fls (bw K)) (.int (i:Int)) h=À (.fls (ks.map tupS),h):=by
 have hi:=(zA.mp e).1;have:=(show Bod h K (.fls (bw K)) from ⟨rfl,λl=>nofun,λz=>nofun⟩).ix hi;rw[this];rw[zL hi] at e;cases e;rfl
def Xn{i:Nat}(hl:rl.length<=100)(e:rl[i]?=À r)(h:MH):zC (.tup rl) (.int (i:Int)) h=À (r,h):=by
 have hi:=(zA.mp e).1;exact Xz ∅ ∅ (by simpa using e)
def iu:(bw K).length=K.length:=zH ..
def tL(hr:RG rl)(k:KB rl K)(F:Fs)(h:MH):(step (step (step F))).aB [.tup rl,.fls (bw K)] h=À (.non,h):=by
 have e:∀(hs:List È) (M:List (List È)),Kd hs M->∀h,(step (step F)).aF [.fls (M.map tupS),.tup (zk hs)] h=À (.bl Â,h):=λhs M q h=>XT q
 generalize step (step F)=G at e;have lr:=hr.l;have lk:=k.len;have ez:∀ρ:En,ρ[0]?=À (À (.tup rl))->ρ[1]?=À (À (.fls (bw K)))->be [zd 0,zd 1] ρ h=À (.items ((rl.zip (bw K)).map λp=>.tup [p.1,p.2]),h):=λρ h0 h1=>by
  simp[be,xp,bnd,zd,h0,h1,tV,u4]
 obtain⟨ρ',⟨o2,o3,rfl⟩,ef⟩:=Kl (g:=vS [zw 2,zw 3]) (b:=kX (yi (zS (ze G.aF [zd 3,zh zC (zd 2) (RS 1)]))) iC ki) (h:=h) (λρ=>∃o2 o3,ρ=[À (.tup rl),À (.fls (bw K)),o2,o3]) ((rl.zip (bw K)).map λp=>.tup [p.1,p.2]) (λw hw ρ ⟨o2,o3,e0⟩=>by
  subst e0;obtain⟨p,hp,rfl⟩:=zK.mp hw;obtain⟨i,hi⟩:=qQ.mp hp;rw[uC] at hi;obtain⟨N,hs,body,ks,e1,e2,kd⟩:=k.row hr (zA.mp hi.1).1;have e3:=F7 e2;rw[hi.1] at e1;rw[hi.2] at e3;erw[xG] at e1 e3;refine⟨[À (.tup rl),À (.fls (bw K)),À p.1,À p.2],[À (.tup rl),À (.fls (bw K)),À p.1,À p.2],by simp[vS,fh,bnd,zw],?_,_,_,rfl⟩;rw[e1,e3];have:=e hs ks kd h;generalize bw K=Z;generalize ks.map tupS=Y at this
  simp![bq,this]) [À (.tup rl),À (.fls (bw K)),Á,Á] ⟨Á,Á,rfl⟩
 refine qA (n:=1) ?_ rfl;have ef:=(hZ (g:=vS [zw 2,zw 3]) (b:=kX (yi (zS (ze G.aF [zd 3,zh zC (zd 2) (RS 1)]))) iC ki) (ez [À (.tup rl),À (.fls (bw K)),Á,Á] rfl rfl)).trans ef;have l1:∀h,kK [.tup rl] h=À (.int (rl.length:Int),h):=λh=>by simp[kK]
 have l2:∀h,kK [.fls (bw K)] h=À (.int (rl.length:Int),h):=λh=>by simp[kK,getL,iu,lk]
 have row:aP G [À (.tup rl),À (.fls (bw K)),Á,Á] h=À (.nx [À (.tup rl),À (.fls (bw K)),o2,o3],h):=by
  unfold aP;rw[zt (ρ':=[À (.tup rl),À (.fls (bw K)),Á,Á]) (h':=h) (by simp![l1,l2,va])];exact ef
 erw[kS,zG,kI,je,zx,kZ,É,jt,jc];erw[row]
end
section
variable{rl:List W}{B K:List (List (List È))}
noncomputable def ff(K:List (List (List È))):List (List (List È))->Nat->Option (Nat×List (List È))
 | [],_=>Á
 | ks::r,i=>if (lack ks ((K[i]?).getD [])).isEmpty=Â then ff K r (i+1) else À (i,lack ks ((K[i]?).getD []))
noncomputable def gQ:Option (Nat×List (List È))->W
 | none=>.non
 | some p=>.tup [.int (p.1:Nat),.fls (p.2.map tupS)]
noncomputable def sH(G:Fs):MS:=zl (kc (ze G.aR [zd 3,zh zC (zd 1) (zd 2)]) (zw 4)) (kX (zS (zh Vl (ze kK [zd 4]) (RS 0))) (kf (ze zo [zd 2,zd 4])) ki)
def Bj{G:Fs}(eL:∀A B:List (List È),(∀x∈A,kr x=Â)->(∀x∈B,kr x=Â)->A.length<=100->∀h,G.aR [.fls (A.map tupS),.fls (B.map tupS)] h=À (.fls ((lack A B).map tupS),h))(gK:∀ks∈K,∀x∈ks,kr x=Â)(lK:K.length<=100) :
  ∀(Bs:List (List (List È))) (i:Nat) (o2 o3 o4:Option W),(∀ks∈Bs,(∀x∈ks,kr x=Â)/\ks.length<=100)->i+Bs.length<=K.length->
   ∃p2 p3 p4,forL (vS [zw 2,zw 3]) (sH G) ((Bs.zipIdx i).map λp=>.tup [.int (p.2:Nat),.fls (p.1.map tupS)]) [À (.tup rl),À (.fls (bw K)),o2,o3,o4] h=À (match ff K Bs i with | none=>.nx [À (.tup rl),À (.fls (bw K)),p2,p3,p4] | some p=>.ret (gQ (À p)),h):=by
 intro Bs;induction Bs with
 | nil=>intro i o2 o3 o4 _ _;exact⟨o2,o3,o4,by simp[forL,ff]⟩
 | cons ks r ih=>
  intro i o2 o3 o4 gB hl;rw[zG] at hl;have hi:i<K.length:=by omega
  have ek:K[i]?=À K[i]:=zL hi;obtain⟨g1,l1⟩:=gB ks zz;have e1:=eL ks K[i] g1 (gK _ (vf hi)) l1;have e2:=λh=>rV lK ek h
  have ll:(lack ks K[i]).length<=100:=zq (jM _ _) l1;have c2:(2:Nat)<=cap:=by decide
  have ln:∀h,kK [.fls ((lack ks K[i]).map tupS)] h=À (.int ((lack ks K[i]).length:Int),h):=λh=>by simp[kK,getL]
  have st:∀o4:Option W,(kc (ze G.aR [zd 3,zh zC (zd 1) (zd 2)]) (zw 4)) [À (.tup rl),À (.fls (bw K)),À (.int (i:Nat)),À (.fls (ks.map tupS)),o4] h=À (.nx [À (.tup rl),À (.fls (bw K)),À (.int (i:Nat)),À (.fls (ks.map tupS)),À (.fls ((lack ks K[i]).map tupS))],h):=λo4=>by
   generalize (lack ks K[i]).map tupS=Z at e1;generalize K[i].map tupS=Y at e1 e2;generalize bw K=X at e2;simp![e1,e2]
  have g:vS [zw 2,zw 3] (.tup [.int (i:Nat),.fls (ks.map tupS)]) [À (.tup rl),À (.fls (bw K)),o2,o3,o4] h=À ([À (.tup rl),À (.fls (bw K)),À (.int (i:Nat)),À (.fls (ks.map tupS)),o4],h):=by simp[vS,fh,bnd,zw]
  rw[uc,zx];unfold ff;rw[ek,qC];cases q:(lack ks K[i]).isEmpty with
  | true=>
   obtain⟨p2,p3,p4,e⟩:=ih (i+1) (À (.int (i:Nat))) (À (.fls (ks.map tupS))) (À (.fls ((lack ks K[i]).map tupS))) (λk hk=>gB k (zp _ hk)) ∅;refine⟨p2,p3,p4,?_⟩;rw[zQ rfl,<-e];conv=>lhs;unfold forL
   rw[g];have b:sH G [À (.tup rl),À (.fls (bw K)),À (.int (i:Nat)),À (.fls (ks.map tupS)),o4] h=À (.nx [À (.tup rl),À (.fls (bw K)),À (.int (i:Nat)),À (.fls (ks.map tupS)),À (.fls ((lack ks K[i]).map tupS))],h):=by
    unfold sH;rw[zt (st o4)];have q0:((lack ks K[i]).length:Int)=0:=by rw[yw.mp q];rfl
    refine gj ?_;rw[q0] at ln;generalize (lack ks K[i]).map tupS=Z at ln;simp![ln,vw]
   erw[b]
  | false=>
   refine⟨Á,Á,Á,?_⟩;rw[zW (by decide)];unfold forL;rw[g];have b:sH G [À (.tup rl),À (.fls (bw K)),À (.int (i:Nat)),À (.fls (ks.map tupS)),o4] h=À (.ret (gQ (À (i,lack ks K[i]))),h):=by
    unfold sH;rw[zt (st o4)];have q0:0<((lack ks K[i]).length:Int):=by
     cases z:lack ks K[i] with
     | nil=>rw[z] at q;cases q
     | cons _ _=>rw[zG];omega
    unfold gQ;generalize ((lack ks K[i]).length:Int)=y at ln q0;simp only;generalize (lack ks K[i]).map tupS=Z at ln ⊢;refine sN (f:=.ret _) ?_ ?_
    .simp![ln,vw,q0]
    .simp![zo,c2]
   erw[b]
def Kb(h:∀(i:Nat) ks,B[i]?=À ks->∀x∈ks,x∈(K[i]?).getD []):ff K B 0=Á:=by
 have key:∀(Bs:List (List (List È))) (j:Nat),(∀(i:Nat) ks,Bs[i]?=À ks->∀x∈ks,x∈(K[j+i]?).getD [])->ff K Bs j=Á:=by
  intro Bs;induction Bs with
  | nil=>intro j _;rfl
  | cons ks r ih=>
   intro j h;unfold ff;have h0:=h 0 ks rfl;rw[vR] at h0;rw[zQ (lack_nil.mpr h0)];exact ih (j+1) λi lx e=>by rw[show j+1+i=j+(i+1) by omega];exact h (i+1) lx e
 exact key B 0 λi ks e=>by rw[yJ];exact h i ks e
def UR(e:B[i]?=À ks)(h:∀(j:Nat) ks,j<i->B[j]?=À ks->∀x∈ks,x∈(K[j]?).getD [])(hL:lack ks ((K[i]?).getD [])=L)(ne:L≠[]):ff K B 0=À (i,L):=by
 have key:∀(Bs:List (List (List È))) (j i:Nat),Bs[i]?=À ks->(∀(k:Nat) ks,k<i->Bs[k]?=À ks->∀x∈ks,x∈(K[j+k]?).getD [])->lack ks ((K[j+i]?).getD [])=L->ff K Bs j=À (j+i,L):=by
  intro Bs;induction Bs with
  | nil=>intro j i e;simp at e
  | cons k0 r ih=>
   intro j i e h hL;unfold ff;cases i with
   | zero=>
    cases e;rw[vR] at hL;rw[hL,zW (by rw[yw];exact ne)];rfl
   | succ i=>
    have h0:=h 0 k0 ∅ rfl;rw[vR] at h0;rw[zQ (lack_nil.mpr h0),ih (j+1) i e (λk ks hk e=>by rw[show j+1+k=j+(k+1) by omega];exact h (k+1) ks ∅ e) (by rw[show j+1+i=j+(i+1) by omega];exact hL)];rw[show j+1+i=j+(i+1) by omega]
 have:=key B 0 i e (λk ks hk e=>by rw[yJ];exact h k ks hk e) (by rw[yJ];exact hL);rw[yJ] at this;exact this
def FA:∀(Bs:List (List (List È))) (j:Nat) (p:Nat×List (List È)),ff K Bs j=À p->∃ks∈Bs,∀x∈p.2,x∈ks:=by
 intro Bs;induction Bs with
 | nil=>intro j p e;cases e
 | cons ks r ih=>
  intro j p e;unfold ff at e;split at e
  .obtain⟨k,hk,q⟩:=ih _ _ e
   exact⟨k,zp _ hk,q⟩
  .cases e
   exact⟨ks,zz,λx hx=>(jd.mp hx).1⟩
theorem i9:ML.numbered (bw B)=(B.zipIdx 0).map λp=>.tup [.int (p.2:Nat),.fls (p.1.map tupS)]:=by
 unfold ML.numbered bw;rw[List.zipIdx_map,jb];rfl
noncomputable def EB(rl:List W)(B:List (List (List È))):Prop:=∀F h,(step (step (step (step (step F))))).aq [.tup rl] h=À (.fls (bw B),h)
def FY(hr:RG rl)(b:KB rl B):dt 4 (.fls (bw B))=Â:=QY (by rw[iu,b.len];exact zq hr.l (by decide)) λw hw=>by
 obtain⟨ks,hk,rfl⟩:=zK.mp hw;obtain⟨hs,kd⟩:=b.mem hr hk;exact kd.dt
def Kx(hr:RG rl)(b:KB rl B)(eb:EB rl B)(F:Fs)(h:MH):(step (step (step (step (step (step F)))))).aL [.tup rl] h=À (.fls (bw B),h):=by
 have e:=eb F;generalize step (step (step (step (step F))))=G at e;refine qA (n:=4) ?_ (FY hr b);generalize bw B=Z at e;simp![bI,e]
def D5(hr:RG rl)(b:KB rl B)(eb:EB rl B){ks:List (List È)}(ei:B[i]?=À ks)(F:Fs)(h:MH):(step (step (step (step (step (step F)))))).aJ [.tup rl,.int (i:Nat)] h=À (.fls (ks.map tupS),h):=by
 have e:=eb F;generalize step (step (step (step (step F))))=G at e;obtain⟨hs,kd⟩:=b.mem hr (jC ei);refine qA (n:=3) ?_ kd.dt;have ex:=λh=>rV (by rw[b.len];exact zq hr.l (by decide)) ei h
 generalize bw B=Z at e ex;generalize ks.map tupS=Y at ex;simp![bF,e,ex]
def GX(hr:RG rl)(b:KB rl B)(k:KB rl K)(eb:EB rl B)(F:Fs)(h:MH):(step (step (step (step (step (step (step F))))))).aH [.tup rl,.fls (bw K)] h=À (gQ (ff K B 0),h):=by
 have e1:=λh=>Kx hr b eb F h
 have e2:=λh=>tL hr k (step (step (step F))) h
 have e3:∀A B:List (List È),(∀x∈A,kr x=Â)->(∀x∈B,kr x=Â)->A.length<=100->∀h,(step (step (step (step (step (step F)))))).aR [.fls (A.map tupS),.fls (B.map tupS)] h=À (.fls ((lack A B).map tupS),h):=λA B g1 g2 l h=>so g1 g2 l
 generalize step (step (step (step (step (step F)))))=G at e1 e2 e3;have lr:=hr.l;obtain⟨p2,p3,p4,ef⟩:=Bj (rl:=rl) (h:=h) e3 (λks hk=>by obtain⟨hs,q⟩:=k.mem hr hk;exact q.good) (by rw[k.len];omega) B 0 Á Á Á (λks hk=>by obtain⟨hs,q⟩:=b.mem hr hk;exact⟨q.good,zq q.len (by decide)⟩) (by rw[k.len,b.len];omega);have d:dt 4 (gQ (ff K B 0))=Â:=by
  cases q:ff K B 0 with
  | none=>rfl
  | some p=>
   obtain⟨ks,hk,hp⟩:=FA B 0 p q;obtain⟨hs,kd⟩:=b.mem hr hk;unfold gQ;refine uu (by simp) λw hw=>?_
   erw[zj,zy,kY] at hw;rcases hw with rfl | rfl
   .rfl
   .refine xo ?_ λx hx=>kd.good x (hp x hx)
    have:∀(Bs:List (List (List È))) (j:Nat) (p:Nat×List (List È)),(∀ks∈Bs,ks.length<=1000)->ff K Bs j=À p->p.2.length<=1000:=by
     intro Bs;induction Bs with
     | nil=>intro j p _ e;cases e
     | cons k0 r ih=>
      intro j p hB e;unfold ff at e;split at e
      .exact ih _ _ (λk hk=>hB k (zp _ hk)) e
      .cases e
       exact zq (jM _ _) (hB k0 zz)
    exact this B 0 p (λks hk=>by obtain⟨hs,q⟩:=b.mem hr hk;exact zq q.len (by decide)) q
 refine qA (n:=4) ?_ d;have ei:yk [ze G.aL [zd 0]] [À (.tup rl),À (.fls (bw K)),Á,Á,Á] h=À (.items ((B.zipIdx 0).map λp=>.tup [.int (p.2:Nat),.fls (p.1.map tupS)]),h):=by
  rw[<-i9];generalize bw B=Z at e1;generalize bw K=Y;simp![yk,mJ,u4,e1]
 have es:=(hZ (g:=vS [zw 2,zw 3]) (b:=sH G) ei).trans ef;have s0:xb (ze G.aB [zd 0,zd 1]) [À (.tup rl),À (.fls (bw K)),Á,Á,Á] h=À (.nx [À (.tup rl),À (.fls (bw K)),Á,Á,Á],h):=by
  generalize bw K=Y at e2;simp![e2]
 have row:bO G [À (.tup rl),À (.fls (bw K)),Á,Á,Á] h=À (.ret (gQ (ff K B 0)),h):=by
  show zl (xb (ze G.aB [zd 0,zd 1])) (zl (wa (yk [ze G.aL [zd 0]]) (vS [zw 2,zw 3]) (sH G)) (kf (eC .non))) _ h=_
  rw[zt s0];cases q:ff K B 0 with
  | none=>rw[q] at es;rw[zt es];rfl
  | some p=>rw[q] at es;rw[we es]
 erw[kS,zG,kI,je,zx,kZ,É,jt,jc];erw[row]
def t6(hr:RG rl)(k:KB rl K){M:List (List È)}(m:Mb rl K n w M)(F:Fs)(h:MH):(step (step (step (step (step F))))).aC [.tup rl,.fls (bw K),w] h=À (.fls (M.map tupS),h):=by
 have e1:=λh=>tL hr k (step F) h
 have e2:=m.e F;generalize step (step (step (step F)))=G at e1 e2;refine qA (n:=3) ?_ (xo (zq m.l (by decide)) m.good);generalize bw K=Y at e1 e2;generalize M.map tupS=Z at e2;simp![bG,e1,e2]
def Xh{M A:List (List È)}(gm:∀x∈M,kr x=Â)(lm:M.length<=100)(ga:∀x∈A,kr x=Â)(t:∀h,(step F).aY [.tup rl,w] h=À (.fls (M.map tupS),h))(h:MH):(step (step F)).bh [.tup rl,w,.fls (A.map tupS)] h=À (.fls ((lack M A).map tupS),h):=by
 have e:=λh=>so (F:=F) (h:=h) gm ga lm
 generalize step F=G at e t;refine qA (n:=3) ?_ (xo (zq (jM _ _) ∅) λk hk=>gm k (jd.mp hk).1);generalize M.map tupS=X at e t;generalize A.map tupS=Y at e;generalize (lack M A).map tupS=Z at e;simp![bY,e,t]
def CU{M A:List (List È)}(gm:∀x∈M,kr x=Â)(lm:M.length<=100)(ga:∀x∈A,kr x=Â)(t:∀h,(step F).aY [.tup rl,w] h=À (.fls (M.map tupS),h))(h:MH):(step (step (step F))).cI [.tup rl,w,.fls (A.map tupS)] h=À (.bl (lack M A).isEmpty,h):=by
 have e:=λh=>Xh gm lm ga t h
 generalize step (step F)=G at e;refine qA (n:=1) ?_ rfl;generalize lack M A=Z at e;have ln:∀h,kK [.fls (Z.map tupS)] h=À (.int (Z.length:Int),h):=λh=>by simp[kK,getL]
 generalize A.map tupS=Y at e;simp![cJ,e,ln,va,sj]
end
def HX:kx (.int 20) (.int a) h=À (.int (20*a),h):=by
 have:(small 20||small a)=Â:=by rw[show small 20=Â by decide];rfl
 erw[kx,this,je]
section
variable{rl:List W}{B K:List (List (List È))}{ns:List Int}
theorem nh{G:Fs}(hr:RG rl)(b:KB rl B)(eK:∀hs∈hnd,∀a:Int,∃k1,Kd hs k1/\∀h,G.az [kz ns,.int a,.tup (zk hs)] h=À (.fls (k1.map tupS),h))
  (eJ:∀(hs:List È) (A B:List (List È)),Kd hs A->Kd hs B->∀h,G.aK [.fls (A.map tupS),.fls (B.map tupS)] h=À (.fls ((kC (A++B)).map tupS),h)) (c:Int) :
  ∃K,KB rl K/\(∀(i:Nat) ks,B[i]?=À ks->∃lx,K[i]?=À lx/\∀x∈ks,x∈lx)/\∀(ρ:En) (v:Nat) (h:MH),ρ[0]?=À (À (kz ns))->ρ[1]?=À (À (.tup rl))->ρ[v]?=À (À (.fls (bw B)))->
   kA (yk [zd v]) 2 [0,1] (vS [zw 0,zw 1]) qB (ze G.aK [zd 1,ze G.az [zd 2,zh addW (eC (.int c)) (zh kx (RS 20) (zd 0)),zh zC (zh zC (zd 3) (zd 0)) (RS 1)]]) ρ h=À (.fls (bw K),h):=by
 have ex:∀i,i<rl.length->∃M,∃(N hs:List È) (body:W) (ks k1:List (List È)),rl[i]?=À (.tup [.tup (zk N),.tup (zk hs),body])/\B[i]?=À ks/\Kd hs ks/\Kd hs k1/\M=kC (ks++k1)/\∀h,G.az [kz ns,.int (c+20*(i:Nat)),.tup (zk hs)] h=À (.fls (k1.map tupS),h):=λi hi=>by
  obtain⟨N,hs,body,ks,e1,e2,kd⟩:=b.row hr hi;obtain⟨k1,q1,q2⟩:=eK hs kd.hh (c+20*(i:Nat));exact⟨_,N,hs,body,ks,k1,e1,e2,kd,q1,rfl,q2⟩
 obtain⟨J,hJ⟩:∃J:Nat->List (List È),∀i,i<rl.length->∃(N hs:List È) (body:W) (ks k1:List (List È)),rl[i]?=À (.tup [.tup (zk N),.tup (zk hs),body])/\B[i]?=À ks/\Kd hs ks/\Kd hs k1/\J i=kC (ks++k1)/\∀h,G.az [kz ns,.int (c+20*(i:Nat)),.tup (zk hs)] h=À (.fls (k1.map tupS),h):=
  ⟨λi=>if h:i<rl.length then Classical.choose (ex i h) else [],λi h=>by erw[dif_pos h];exact Classical.choose_spec (ex i h)⟩
 have lr:=hr.l;have at_:∀i,i<rl.length->((_root_.List.range rl.length).map J)[i]?=À (J i):=λi hi=>by rw[zZ,wJ hi];rfl
 refine⟨(_root_.List.range rl.length).map J,⟨by simp,λi ks e N hs body e'=>?_⟩,λi ks e=>?_,λρ v h h0 h1 hv=>?_⟩
 .have hi:=(zA.mp e').1
  rw[at_ i hi] at e;cases e;obtain⟨N',Am,Ae,ks,k1,e1,e2,a1,a2,a3,_⟩:=hJ i hi;have q:=e'.symm.trans e1;erw[xG,W.tup.injEq,vo,uL] at q;obtain⟨_,q,_⟩:=q;have q:=x8 q;subst q;rw[a3];exact a1.join a2
 .have hi:i<rl.length:=by rw[<-b.len];exact(zA.mp e).1
  obtain⟨N',Am,Ae,lx,k1,e1,e2,a1,a2,a3,_⟩:=hJ i hi;rw[e] at e2;cases e2;exact⟨_,at_ i hi,λx hx=>by rw[a3];exact ssort_mem.mpr (zF.mpr (.inl hx))⟩
 .refine(JT (l:=B.zipIdx.map λp=>(W.int (p.2:Nat),.fls (p.1.map tupS))) (λ_ _=>Â) (λa x=>match a with | .int k=>.fls ((J k.toNat).map tupS) | _=>x) ?_ ?_ ?_ ?_ ?_).trans ?_
  .have en:=i9 (B:=B)
   rw[jb];have:((λw:W×W=>W.tup [w.1,w.2])∘λp:List (List È)×Nat=>(W.int (p.2:Nat),W.fls (p.1.map tupS)))=λp=>.tup [.int (p.2:Nat),.fls (p.1.map tupS)]:=rfl
   rw[this,<-en];simp[yk,xp,bnd,zd,hv,mJ,u4]
  .intro w hw H';rfl
  .intro w hw _ H'
   obtain⟨p,hp,rfl⟩:=zK.mp hw;have AN:=List.mem_zipIdx_iff_getElem?.mp hp;have hi:p.2<rl.length:=by rw[<-b.len];exact(zA.mp AN).1
   obtain⟨N',Am,Ae,lx,k1,e1,e2,a1,a2,a3,a4⟩:=hJ p.2 hi;rw[AN] at e2;cases e2;have i1:=λh=>Xn ∅ e1 h
   have i2:=eJ Am _ _ a1 a2;rw[<-a3] at i2;have ad:∀h,addW (.int c) (.int (20*(p.2:Nat))) h=À (.int (c+20*(p.2:Nat)),h):=λh=>rfl
   erw[zx,kZ,h0,h1,Option.join_some,jm];generalize (J p.2).map tupS=Z at i2 ⊢;generalize p.1.map tupS=Y at i2 ⊢;generalize k1.map tupS=X at i2 a4;generalize zk Am=V at a4 i1;generalize kz ns=S at a4;simp![HX,ad,i1,bq,a4,i2]
  .intro w hw _
   obtain⟨p,hp,rfl⟩:=zK.mp hw;exact dX _
  .rw[zH,pY,b.len];exact zq lr (by decide)
  .rw[vK.mpr λ_ _=>rfl,jb]
   unfold bw;rw[jb];have:B.zipIdx.map (λp=>J p.2)=(_root_.List.range rl.length).map J:=by
    apply xO
    intro i;rw[zZ,pG,zZ];by_cases hi:i<rl.length
    .rw[wJ hi,zL (by rw[b.len];exact hi)]
     simp
    .rw[jz (l:=B) (by rw[b.len];omega),jz (l:=_root_.List.range rl.length) (by simp;omega)]
     rfl
   rw[<-jb (g:=λks:List (List È)=>W.fls (ks.map tupS)) (f:=J),<-this,jb];rfl
def Y5{ks K:List (List È)}(nd:ks.Nodup)(hx:x∈ks)(sub:∀y∈ks,y∈K):lack ks (K.filter λy=>!(y==x))=[x]:=by
 unfold lack;have e:ks.filter (λk=>!(K.filter λy=>!(y==x)).contains k)=ks.filter λk=>k==x:=by
  apply List.filter_congr
  intro k hk;by_cases q:k=x
  .subst q;simp
  .have:(k==x)=Ä:=jG.mpr q
   simp[this,sub k hk,q]
 rw[e];clear e sub;induction ks with
 | nil=>cases hx
 | cons k r ih=>
  rw[jU] at nd;by_cases q:k=x
  .subst q
   rw[List.filter_cons_of_pos (by simp)];congr 1
   rw[uY];intro y hy;simp;rintro rfl;exact nd.1 hy
  .rw[List.filter_cons_of_neg (by simpa using q)]
   exact ih nd.2 ((zj.mp hx).resolve_left λz=>q z.symm)
def KB.less(k:KB rl K){ks:List (List È)}(e:K[i]?=À ks)(p:List È->Bool):KB rl (K.take i++[ks.filter p]++K.drop (i+1))/\(K.take i++[ks.filter p]++K.drop (i+1))[i]?=À (ks.filter p)/\∀j,j<i->(K.take i++[ks.filter p]++K.drop (i+1))[j]?=K[j]?:=by
 have hi:=(zA.mp e).1;have es:K.take i++[ks.filter p]++K.drop (i+1)=K.set i (ks.filter p):=by
  rw[List.set_eq_take_append_cons_drop,zQ hi,yo];rfl
 rw[es];refine⟨⟨by rw[List.length_set];exact k.len,λj lx ej N hs body e'=>?_⟩,qi hi,λj hj=>qI ∅⟩;by_cases q:i=j
 .subst q
  rw[qi hi] at ej;cases ej;exact(k.at_ i ks e N hs body e').sub p
 .rw[qI q] at ej
  exact k.at_ j lx ej N hs body e'
end
def WL{rl:List W}(hr:RG rl):∃B,BodsOk rl B/\B.length=rl.length/\EB rl B:=by
 obtain⟨B,b1,b2,_⟩:=V0 (F:=Fs.bot) hr;refine⟨B,b1,b2,λF h=>?_⟩;obtain⟨B',c1,c2,c3⟩:=V0 (F:=F) hr;have:=oH hr b1 c1 ∅;subst this;exact c3 h
def Qv{rl:List W}{B:List (List (List È))}(hr:RG rl)(b:BodsOk rl B)(bl:B.length=rl.length)(eb:EB rl B)(hm:m<=60)(p:pl m w=Â)(o:okc rl rl.length [] [] 3 w) :
  ∃M,Kd [] M/\(∀x,x∈M↔x∈mk rl B 3 w)/\∀F h,(step (step (step (step (step (step F)))))).aY [.tup rl,w] h=À (.fls (M.map tupS),h):=by
 obtain⟨M,m1,m2,m3,m4,_⟩:=ol (F:=Fs.bot) hr b bl (eb _) ∅ hm p o.1;refine⟨M,⟨by decide +kernel,m1,λx hx=>V4 ⋯ (m3 x hx) (X6 (lf hr b) o.1 o.2 x ((m2 x).mp hx))⟩,m2,λF=>?_⟩;obtain⟨M',n1,n2,_,_,n5⟩:=ol (F:=F) hr b bl (eb _) ∅ hm p o.1;have:M=M':=wf m1 n1 λx=>(m2 x).trans (n2 x).symm
 subst this;exact n5
def US(a:Kd hs A)(b:Kd hs B):decide (kC (A++B)=B)=(lack A B).isEmpty:=by
 rw[v8,pR,lack_nil];constructor
 .intro e x hx
  rw[<-e];exact ssort_mem.mpr (zF.mpr (.inl hx))
 .intro h
  exact wf (vc _) b.up λx=>ssort_mem.trans (zF.trans ⟨λz=>z.elim (h x) id,.inr⟩)
def UD{A B:List (List È)}:decide ((A.filter λk=>B.contains k)=A)=(lack A B).isEmpty:=by
 rw[v8,pR,lack_nil,vK];simp
def Qz{rl:List W}{B K:List (List (List È))}(h:∀(i:Nat) ks,B[i]?=À ks->∃lx,K[i]?=À lx/\∀x∈ks,x∈lx):GP rl.length B K:=λi _ x hx=>by
 cases e:B[i]? with
 | none=>rw[e] at hx;cases hx
 | some ks=>
  obtain⟨lx,e',q⟩:=h i ks e;rw[e] at hx;rw[e'];exact q x hx
noncomputable abbrev ρL(ns:List Int)(a1 a2 a3 a4 a5 a6 a7 a8 a9 OB TY TZ:Option W):En:=[À (kz ns),a1,a2,a3,a4,a5,a6,a7,a8,a9,OB,TY,TZ]
noncomputable def LB(G:Fs):MS:=(zl (kX (ac (yi (zS (ze G.aF [zh zC (zd 6) (zd 10),zh zC (zh zC (zd 1) (zd 10)) (RS 1)]))) (zS (zh (jv Â) (zh zC (zd 6) (zd 10)) (ze G.aJ [zd 1,zd 10]))))
 (kf (eC (.bl Ä)))
 ki)
 (kX (zS (zh (jv Â) (zh zC (zd 6) (zd 10)) (ze kH [])))
 (zl (kc (zh zC (zh zC (zd 6) (zd 10)) (ze G.aa [zd 0,zh addW (RS 520) (zd 10),ze kK [zh zC (zd 6) (zd 10)]])) (zw 11))
 (zl (kc (zh addW (zh addW (cq (zd 7) Á (À (zd 10))) (ze kH [kA (kF (zh zC (zd 7) (zd 10))) 1 [11] (zw 0) (zS (zh (jv Â) (zd 0) (zd 1))) (zd 0)])) (cq (zd 7) (À (zh addW (zd 10) (RS 1))) Á)) (zw 12))
 (kX (zS (zh (jv Â) (ze G.aH [zd 1,zd 12]) (ze zo [zd 10,ze kH [zd 11]])))
 (kf (eC (.bl Ä)))
 ki)))
 ki))
def YD(g:kr x=Â)(h:MH):eqB h (.tup [.int (i:Nat),.fls [tupS x]]) (.tup [.int (i:Nat),.fls [tupS x]])=À Â:=by
 have d:dt 4 (.tup [.int (i:Nat),.fls [tupS x]])=Â:=uu (by simp) λw hw=>by
  erw[zj,zy,kY] at hw;rcases hw with rfl | rfl
  .rfl
  .exact xo (ks:=[x]) (by simp) λk hk=>by rw[jn.mp hk];exact g
 have e:=ya (h:=h) d (show 4<=deep by decide);unfold eqB;rw[show p9 (.tup [.int (i:Nat),.fls [tupS x]]) (.tup [.int (i:Nat),.fls [tupS x]])=Á from rfl,e];erw[toD,zx,kZ,sZ,ö,þ,dU];simp
def WZ(gk:kr k=Â)(gl:kr l=Â):eqB h (tupS k) (tupS l)=À (k==l):=by
 have ef:p9 (tupS k) (tupS l)=Á:=rfl;unfold eqB;rw[ef,eS gk,eS gl];erw[ö,dU];by_cases e:k=l
 .subst e;simp
 .have:(k==l)=Ä:=jG.mpr e
  simp[this,e]
def BF{A:List (List È)}{ρ:En}(g:∀k∈A,kr k=Â)(gx:kr x=Â)(l1:A.length<=100)(hm:mi ρ h=À (.fls (A.map tupS),h))(hx:(ρ[11]?).join=À (tupS x)) :
  kA (kF mi) 1 [11] (zw 0) (zS (zh (jv Â) (zd 0) (zd 1))) (zd 0) ρ h=À (.fls ((A.filter λy=>!(y==x)).map tupS),h):=by
 refine(eX (l:=A.map tupS) (λw=>!((nX w).getD []==x)) id ?_ ?_ ?_ ?_ ?_).trans ?_
 .simp[kF,bnd,hm,srcOf]
 .intro w hw H'
  obtain⟨k,hk,rfl⟩:=zK.mp hw;have:=WZ (h:=H') (g k hk) gx;erw[zx,kZ,hx,x9,qC];simp![this]
 .intro w hw _ H';simp![]
 .intro w hw _
  obtain⟨k,hk,rfl⟩:=zK.mp hw;exact xi k
 .erw[zH];exact zq l1 (by decide)
 .rw[pN,wK]
  erw[xQ,x9,qC]
def WE{G:Fs}{rl:List W}{B K:List (List (List È))}(hr:RG rl)(kb:KB rl B)(kk:KB rl K)(sK:∀(i:Nat) ks,B[i]?=À ks->∃lx,K[i]?=À lx/\∀x∈ks,x∈lx)
  (fI:∀(hs:List È) (M:List (List È)),Kd hs M->∀h,G.aF [.fls (M.map tupS),.tup (zk hs)] h=À (.bl Â,h)) (fU:∀(i:Nat) ks,B[i]?=À ks->∀h,G.aJ [.tup rl,.int (i:Nat)] h=À (.fls (ks.map tupS),h))
  (fX:∀K,KB rl K->∀h,G.aH [.tup rl,.fls (bw K)] h=À (gQ (ff K B 0),h)) (fD:∀(k many:Int) (h:MH),0<many->G.aa [kz ns,.int k,.int many] h=À (.int (wb ns k many),h))
  (hi:i<rl.length) (a2 a3 a4 a5 a8 a9 EF AX:Option W) :
  ∃Rj Rk,LB G (ρL ns (À (.tup rl)) a2 a3 a4 a5 (À (.fls (bw B))) (À (.fls (bw K))) a8 a9 (À (.int (i:Nat))) EF AX) h=À (.nx (ρL ns (À (.tup rl)) a2 a3 a4 a5 (À (.fls (bw B))) (À (.fls (bw K))) a8 a9 (À (.int (i:Nat))) Rj Rk),h):=by
 obtain⟨N,hs,body,ks,er,eB,kd⟩:=kb.row hr hi;obtain⟨k1,eK,sub⟩:=sK i ks eB;have lr:=hr.l;have i1:=λh=>rV (by rw[kb.len];omega) eB h
 have i2:=λh=>rV (by rw[kk.len];omega) eK h
 have i3:=λh=>Xn ∅ er h
 have Rl:=kk.at_ i k1 eK N hs body er;have e1:=fI hs ks kd;have e2:=fU i ks eB;have e3:=λh=>(kd.eq kd h).trans (by rw[kO rfl])
 have c0:(0:Nat)<=cap:=by decide
 have c1:(1:Nat)<=cap:=by decide
 have c2:(2:Nat)<=cap:=by decide
 have s0:∀EF AX,(kX (ac (yi (zS (ze G.aF [zh zC (zd 6) (zd 10),zh zC (zh zC (zd 1) (zd 10)) (RS 1)]))) (zS (zh (jv Â) (zh zC (zd 6) (zd 10)) (ze G.aJ [zd 1,zd 10])))) (kf (eC (.bl Ä))) ki) (ρL ns (À (.tup rl)) a2 a3 a4 a5 (À (.fls (bw B))) (À (.fls (bw K))) a8 a9 (À (.int (i:Nat))) EF AX) h=À (.nx (ρL ns (À (.tup rl)) a2 a3 a4 a5 (À (.fls (bw B))) (À (.fls (bw K))) a8 a9 (À (.int (i:Nat))) EF AX),h):=λEF AX=>by
  generalize bw B=X at i1;generalize bw K=Y;generalize ks.map tupS=Z at i1 e1 e2 e3;generalize zk hs=V at e1 i3;generalize kz ns=S;simp![i1,i3,bq,e1,e2,e3]
 have e4:=λh=>lq (h:=h) kd.dt ∅
 have em:(ks.map tupS).isEmpty=ks.isEmpty:=by cases ks<;>rfl
 rw[em] at e4;unfold LB;rw[zt (s0 EF AX)];cases q:ks.isEmpty with
 | true=>
  refine⟨EF,AX,gj ?_⟩;rw[q] at e4;generalize bw B=X at i1;generalize bw K=Y;generalize ks.map tupS=Z at i1 e4;generalize kz ns=S;simp![i1,e4,kH,c0]
 | false=>
  rw[q] at e4;have hp:(0:Int)<(ks.length:Int):=by
   cases ks with
   | nil=>cases q
   | cons _ _=>rw[zG];omega
  obtain⟨v,hv,ev⟩:=dO (l:=ks.map tupS) (ku (ns:=ns) (k:=520+(i:Nat)) (many:=ks.length) hp).1 (by rw[zH];exact(ku (ns:=ns) (k:=520+(i:Nat)) (many:=ks.length) hp).2);obtain⟨x,hx,rfl⟩:=zK.mp hv;have d1:=λh=>fD (520+(i:Nat)) ks.length h hp
  have ln:∀h,kK [.fls (ks.map tupS)] h=À (.int (ks.length:Int),h):=λh=>by simp[kK,getL]
  have gx:=kd.good x hx;obtain⟨kl,el,ej⟩:=kk.less eK λy=>!(y==x)
  have f1:=fX _ kl
  have UF:ff (K.take i++[k1.filter λy=>!(y==x)]++K.drop (i+1)) B 0=À (i,[x]):=UR eB (λj kj hj e=>by
   rw[ej j hj];obtain⟨k',e',q'⟩:=sK j kj e;rw[e']
   exact q') (by rw[el,qC];exact Y5 (gP kd.up) hx sub) (by simp)
  rw[UF] at f1;have eq:=λh=>YD (i:=i) gx h
  have lk:K.length=rl.length:=kk.len;have b1:bw (K.take i++[k1.filter λy=>!(y==x)]++K.drop (i+1))=(bw K).take i++[.fls ((k1.filter λy=>!(y==x)).map tupS)]++(bw K).drop (i+1):=by
   unfold bw;erw[qp,xg,xm,zx,kZ]
  rw[b1] at f1;have t1:∀h,gE (.fls (bw K)) Á (À (i:Int)) h=À (.fls ((bw K).take i),h):=λh=>by
   erw[gE,getL];rw[VC (by rw[iu];omega)]
  have t2:∀h,gE (.fls (bw K)) (À ((i:Int)+1)) Á h=À (.fls ((bw K).drop (i+1)),h):=λh=>by
   have:=gC (l:=bw K) (k:=i+1);rw[show(((i+1:Nat):Int))=(i:Int)+1 from rfl] at this;erw[gE,getL,this]
  have t3:∀h,addW (.int (i:Int)) (.int 1) h=À (.int ((i:Int)+1),h):=λh=>rfl
  have a1:=λh=>aE (a:=(bw K).take i) (b:=[.fls ((k1.filter λy=>!(y==x)).map tupS)]) h (by rw[vd,iu];simp;omega)
  have MN:=λh=>aE (a:=(bw K).take i++[.fls ((k1.filter λy=>!(y==x)).map tupS)]) (b:=(bw K).drop (i+1)) h (by rw[zR,vd,qO,iu];simp;omega)
  have a3':∀h,addW (.int 520) (.int (i:Nat)) h=À (.int (520+(i:Nat)),h):=λh=>rfl
  have cm:∀(AX:Option W) (h:MH),kA (kF (zh zC (zd 7) (zd 10))) 1 [11] (zw 0) (zS (zh (jv Â) (zd 0) (zd 1))) (zd 0) (ρL ns (À (.tup rl)) a2 a3 a4 a5 (À (.fls (bw B))) (À (.fls (bw K))) a8 a9 (À (.int (i:Nat))) (À (tupS x)) AX) h=À (.fls ((k1.filter λy=>!(y==x)).map tupS),h):=λAX h=>BF Rl.good gx (zq Rl.len (by decide)) (by
   generalize k1.map tupS=Z at i2;generalize bw K=Y at i2;generalize kz ns=S
   simp![i2]) rfl
  refine⟨À (tupS x),À (.fls ((bw K).take i++[.fls ((k1.filter λy=>!(y==x)).map tupS)]++(bw K).drop (i+1))),sN ?_ ?_⟩
  .generalize bw B=X at i1
   generalize bw K=Y;generalize ks.map tupS=Z at i1 e4;generalize kz ns=S;simp![i1,e4,kH,c0]
  .rw[zt (ρ':=ρL ns (À (.tup rl)) a2 a3 a4 a5 (À (.fls (bw B))) (À (.fls (bw K))) a8 a9 (À (.int (i:Nat))) (À (tupS x)) AX) (h':=h) (by
    generalize bw B=X at i1;generalize bw K=Y;generalize tupS x=T at ev;generalize ks.map tupS=Z at i1 ln ev
    simp![i1,ln,a3',d1,ev])]
   rw[zt (ρ':=ρL ns (À (.tup rl)) a2 a3 a4 a5 (À (.fls (bw B))) (À (.fls (bw K))) a8 a9 (À (.int (i:Nat))) (À (tupS x)) (À (.fls ((bw K).take i++[.fls ((k1.filter λy=>!(y==x)).map tupS)]++(bw K).drop (i+1))))) (h':=h) (by
    have cm:=cm AX;generalize (k1.filter λy=>!(y==x)).map tupS=Z at cm a1 MN;generalize (bw K).take i++[.fls Z]++(bw K).drop (i+1)=Q at MN;generalize (bw K).take i++[.fls Z]=Q1 at a1 MN;generalize (bw K).take i=Q2 at a1 t1;generalize (bw K).drop (i+1)=Q3 at MN t2;erw[ρL] at cm ⊢
    simp![cm,a1,MN,t1,t2,t3,kH,c1,cq,bo])]
   refine gj ?_;erw[gQ,zx,kZ] at f1;generalize (bw K).take i++[.fls ((k1.filter λy=>!(y==x)).map tupS)]++(bw K).drop (i+1)=Q at f1;generalize bw B=X;generalize bw K=Y;generalize tupS x=T at f1 eq;generalize kz ns=S;simp![f1,zo,kH,c1,c2,eq]
theorem GC(F:Fs):cu F=zl (Q0 F) (zl (Q1 F) (zl (Q2 F) (zl (Q3 F) (zl (Q4 F) (zl (Q5 F) (zl (Q6 F) (zl (Q7 F) (zl (Q8 F) (zl (Q9 F) (zl (FD F) (zl (XI F) (zl (XR F) (zl (X3 F) (zl (Xv F) (zl (FN F) (GN F)))))))))))))))):=rfl
theorem Uz{G:Fs}{B K:List (List (List È))}{M A1 A2 T1 T2:List (List È)}(hr:RG rl)(kb:KB rl B)(kk:KB rl K)(sK:∀(i:Nat) ks,B[i]?=À ks->∃lx,K[i]?=À lx/\∀x∈ks,x∈lx)(kM:Kd [] M)(k1:Kd [] A1)(k2:Kd [] A2)
  (g1:∀x∈T1,kr x=Â) (g2:∀x∈T2,kr x=Â) (l1:T1.length<=100) (s1:∀x∈M,x∈T1) (s2:∀x∈T1,x∈T2)
  (fR:∀h,G.bu [kz ns,.int 1] h=À (.tup rl,h)) (fW:∀h,G.bj [kz ns,.int 90,.int 2,.tup rl] h=À (w,h)) (fT:∀h,G.aY [.tup rl,w] h=À (.fls (M.map tupS),h))
  (e4:∀h,G.az [kz ns,.int 400,.tup []] h=À (.fls (A1.map tupS),h)) (e5:∀h,G.az [kz ns,.int 420,.tup []] h=À (.fls (A2.map tupS),h))
  (fJ:∀(hs:List È) (A B:List (List È)),Kd hs A->Kd hs B->∀h,G.aK [.fls (A.map tupS),.fls (B.map tupS)] h=À (.fls ((kC (A++B)).map tupS),h))
  (fB:∀h,G.bH [.fls (A1.map tupS),.fls (A2.map tupS)] h=À (.fls ((A1.filter λk=>A2.contains k).map tupS),h))
  (fL:∀A B:List (List È),(∀x∈A,kr x=Â)->(∀x∈B,kr x=Â)->A.length<=100->∀h,G.aU [.fls (A.map tupS),.fls (B.map tupS)] h=À (.bl (lack A B).isEmpty,h))
  (fM:∀A:List (List È),(∀x∈A,kr x=Â)->∀h,G.bh [.tup rl,w,.fls (A.map tupS)] h=À (.fls ((lack M A).map tupS),h)) (fF:∀A:List (List È),(∀x∈A,kr x=Â)->∀h,G.cI [.tup rl,w,.fls (A.map tupS)] h=À (.bl (lack M A).isEmpty,h))
  (fI:∀(hs:List È) (M:List (List È)),Kd hs M->∀h,G.aF [.fls (M.map tupS),.tup (zk hs)] h=À (.bl Â,h)) (fE:∀h,G.aL [.tup rl] h=À (.fls (bw B),h)) (fU:∀(i:Nat) ks,B[i]?=À ks->∀h,G.aJ [.tup rl,.int (i:Nat)] h=À (.fls (ks.map tupS),h))
  (fX:∀K,KB rl K->∀h,G.aH [.tup rl,.fls (bw K)] h=À (gQ (ff K B 0),h)) (fD:∀(k many:Int) (h:MH),0<many->G.aa [kz ns,.int k,.int many] h=À (.int (wb ns k many),h))
  (t0:∀h,G.aC [.tup rl,.fls (bw B),w] h=À (.fls (M.map tupS),h)) (t1:∀h,G.aC [.tup rl,.fls (bw K),w] h=À (.fls (T1.map tupS),h)) (t2:∀h,G.aC [.tup rl,.fls (bw K2),w] h=À (.fls (T2.map tupS),h))
  (cK:∀(ρ:En) (v:Nat) (h:MH),ρ[0]?=À (À (kz ns))->ρ[1]?=À (À (.tup rl))->ρ[v]?=À (À (.fls (bw B)))->
   kA (yk [zd v]) 2 [0,1] (vS [zw 0,zw 1]) qB (ze G.aK [zd 1,ze G.az [zd 2,zh addW (RS 440) (zh kx (RS 20) (zd 0)),zh zC (zh zC (zd 3) (zd 0)) (RS 1)]]) ρ h=À (.fls (bw K),h))
  (OI:∀(ρ:En) (v:Nat) (h:MH),ρ[0]?=À (À (kz ns))->ρ[1]?=À (À (.tup rl))->ρ[v]?=À (À (.fls (bw K)))->
   kA (yk [zd v]) 2 [0,1] (vS [zw 0,zw 1]) qB (ze G.aK [zd 1,ze G.az [zd 2,zh addW (RS 480) (zh kx (RS 20) (zd 0)),zh zC (zh zC (zd 3) (zd 0)) (RS 1)]]) ρ h=À (.fls (bw K2),h)) :
  cu G (ρL ns Á Á Á Á Á Á Á Á Á Á Á Á) h=À (.ret (.bl Â),h):=by
 have c0:(0:Nat)<=cap:=by decide
 have j1:=fJ [] M A1 kM k1;have j2:=fJ [] A1 A2 k1 k2;have f1:=fF _ (kM.join k1).good;rw[lack_nil.mpr λx hx=>ssort_mem.mpr (zF.mpr (.inl hx))] at f1;have f2:=fM M kM.good;have z0:lack M M=[]:=yw.mp (lack_nil.mpr λx hx=>hx);rw[z0] at f2;have f3:∀h,G.aF [.fls (M.map tupS),.tup []] h=À (.bl Â,h):=fI [] M kM;have f4:=fL A1 _ k1.good (k1.join k2).good (zq k1.len (by decide));rw[lack_nil.mpr λx hx=>ssort_mem.mpr (zF.mpr (.inl hx))] at f4;have f5:=fL _ A2 (k1.sub λk=>A2.contains k).good k2.good (zq (k1.sub λk=>A2.contains k).len (by decide));rw[lack_nil.mpr λx hx=>wu.mp (jd.mp hx).2] at f5;have f6:=fL A1 A2 k1.good k2.good (zq k1.len (by decide));have q1:=λh=>((k1.join k2).eq k2 h).trans (by rw[US k1 k2])
 have q2:=λh=>((k1.sub λk=>A2.contains k).eq k1 h).trans (by rw[UD])
 have x1:=fX B kb;rw[Kb λi ks e x hx=>by rw[e];exact hx] at x1;have x2:=fX K kk;rw[Kb λi ks e x hx=>by obtain⟨k',e',q⟩:=sK i ks e;rw[e'];exact q x hx] at x2;have q3:=λh=>(kM.eq kM h).trans (by rw[kO rfl])
 have f7:=fL M T1 kM.good g1 (zq kM.len (by decide));rw[lack_nil.mpr s1] at f7;have f8:=fL T1 T2 g1 g2 l1;rw[lack_nil.mpr s2] at f8;have en:∀h,eqB h (.fls []) (.fls [])=À Â:=λh=>lq (l:=[]) (n:=1) rfl ∅
 have eb:∀(b:Bool) (h:MH),eqB h (.bl b) (.bl b)=À Â:=λb h=>by rw[DU];simp
 have lr:=hr.l
 obtain⟨ρ',⟨MD,EF,AX,rfl⟩,ef⟩:=Kl (g:=zw 10) (b:=LB G) (h:=h) (λρ=>∃MD EF AX,ρ=ρL ns (À (.tup rl)) (À w) (À (.fls (M.map tupS))) (À (.fls (A1.map tupS))) (À (.fls (A2.map tupS))) (À (.fls (bw B))) (À (.fls (bw K))) (À (.fls (bw K2))) (À (.fls (T1.map tupS))) MD EF AX) (upto rl.length) (λv hv ρ ⟨MD,EF,AX,e0⟩=>by
  subst e0;obtain⟨i,hi,rfl⟩:=zK.mp hv;have hi:=jV.mp hi;obtain⟨Rj,Rk,e⟩:=WE (h:=h) hr kb kk sK fI fU fX fD hi (À w) (À (.fls (M.map tupS))) (À (.fls (A1.map tupS))) (À (.fls (A2.map tupS))) (À (.fls (bw K2))) (À (.fls (T1.map tupS))) EF AX
  exact⟨_,_,by simp[zw],e,_,_,_,rfl⟩) (ρL ns (À (.tup rl)) (À w) (À (.fls (M.map tupS))) (À (.fls (A1.map tupS))) (À (.fls (A2.map tupS))) (À (.fls (bw B))) (À (.fls (bw K))) (À (.fls (bw K2))) (À (.fls (T1.map tupS))) Á Á Á) ⟨Á,Á,Á,rfl⟩
 have rg:∀h,iq [.int (rl.length:Int)] h=À (.items (upto rl.length),h):=λh=>by
  have q:-(2 ^ 62)<=(rl.length:Int)/\(rl.length:Int)<2 ^ 62:=⟨by omega,by omega⟩;unfold iq;simp only;rw[zQ q,jm]
 have ei:cy [ze kK [zd 1]] (ρL ns (À (.tup rl)) (À w) (À (.fls (M.map tupS))) (À (.fls (A1.map tupS))) (À (.fls (A2.map tupS))) (À (.fls (bw B))) (À (.fls (bw K))) (À (.fls (bw K2))) (À (.fls (T1.map tupS))) Á Á Á) h=À (.items (upto rl.length),h):=by
  unfold cy;rw[WC (a:=[.int (rl.length:Int)]) (h':=h) rfl];exact rg h
 have ef:=(hZ (g:=zw 10) (b:=LB G) ei).trans ef;generalize M.map tupS=Mm at *;generalize (lack A1 A2).isEmpty=bb at *;generalize (A1.filter λk=>A2.contains k).map tupS=Ab at *;generalize (kC (A1++A2)).map tupS=Aj at *;generalize (kC (M++A1)).map tupS=Mj at *;generalize A1.map tupS=Aa at *;generalize A2.map tupS=Ac at *;generalize T1.map tupS=Ta at *;generalize T2.map tupS=Tb at *;erw[kZ] at f2;erw[gQ] at x1 x2;have z0:Q0 G (ρL ns Á Á Á Á Á Á Á Á Á Á Á Á) h=À (.nx (ρL ns (À (.tup rl)) Á Á Á Á Á Á Á Á Á Á Á),h):=by simp![Q0,fR]
 have z1:Q1 G (ρL ns (À (.tup rl)) Á Á Á Á Á Á Á Á Á Á Á) h=À (.nx (ρL ns (À (.tup rl)) (À w) Á Á Á Á Á Á Á Á Á Á),h):=by simp![Q1,fW]
 have z2:Q2 G (ρL ns (À (.tup rl)) (À w) Á Á Á Á Á Á Á Á Á Á) h=À (.nx (ρL ns (À (.tup rl)) (À w) (À (.fls Mm)) Á Á Á Á Á Á Á Á Á),h):=by simp![Q2,fT]
 have z3:Q3 G (ρL ns (À (.tup rl)) (À w) (À (.fls Mm)) Á Á Á Á Á Á Á Á Á) h=À (.nx (ρL ns (À (.tup rl)) (À w) (À (.fls Mm)) (À (.fls Aa)) Á Á Á Á Á Á Á Á),h):=by simp![Q3,e4,zo,c0]
 have z4:Q4 G (ρL ns (À (.tup rl)) (À w) (À (.fls Mm)) (À (.fls Aa)) Á Á Á Á Á Á Á Á) h=À (.nx (ρL ns (À (.tup rl)) (À w) (À (.fls Mm)) (À (.fls Aa)) (À (.fls Ac)) Á Á Á Á Á Á Á),h):=by simp![Q4,e5,zo,c0]
 have z5:Q5 G (ρL ns (À (.tup rl)) (À w) (À (.fls Mm)) (À (.fls Aa)) (À (.fls Ac)) Á Á Á Á Á Á Á) h=À (.nx (ρL ns (À (.tup rl)) (À w) (À (.fls Mm)) (À (.fls Aa)) (À (.fls Ac)) Á Á Á Á Á Á Á),h):=by simp![Q5,j1,f1,f2,f3,en,zo,kH,c0]
 have z6:Q6 G (ρL ns (À (.tup rl)) (À w) (À (.fls Mm)) (À (.fls Aa)) (À (.fls Ac)) Á Á Á Á Á Á Á) h=À (.nx (ρL ns (À (.tup rl)) (À w) (À (.fls Mm)) (À (.fls Aa)) (À (.fls Ac)) Á Á Á Á Á Á Á),h):=by simp![Q6,j2,f4,fB,f5]
 have z7:Q7 G (ρL ns (À (.tup rl)) (À w) (À (.fls Mm)) (À (.fls Aa)) (À (.fls Ac)) Á Á Á Á Á Á Á) h=À (.nx (ρL ns (À (.tup rl)) (À w) (À (.fls Mm)) (À (.fls Aa)) (À (.fls Ac)) Á Á Á Á Á Á Á),h):=by simp![Q7,j2,f6,q1,q2,fB,eb]
 have z8:Q8 G (ρL ns (À (.tup rl)) (À w) (À (.fls Mm)) (À (.fls Aa)) (À (.fls Ac)) Á Á Á Á Á Á Á) h=À (.nx (ρL ns (À (.tup rl)) (À w) (À (.fls Mm)) (À (.fls Aa)) (À (.fls Ac)) (À (.fls (bw B))) Á Á Á Á Á Á),h):=by generalize bw B=X at fE ⊢;simp![Q8,fE]
 have z9:Q9 G (ρL ns (À (.tup rl)) (À w) (À (.fls Mm)) (À (.fls Aa)) (À (.fls Ac)) (À (.fls (bw B))) Á Á Á Á Á Á) h=À (.nx (ρL ns (À (.tup rl)) (À w) (À (.fls Mm)) (À (.fls Aa)) (À (.fls Ac)) (À (.fls (bw B))) (À (.fls (bw K))) Á Á Á Á Á),h):=mX (cK _ 6 h rfl rfl rfl) rfl;have z10:FD G (ρL ns (À (.tup rl)) (À w) (À (.fls Mm)) (À (.fls Aa)) (À (.fls Ac)) (À (.fls (bw B))) (À (.fls (bw K))) Á Á Á Á Á) h=À (.nx (ρL ns (À (.tup rl)) (À w) (À (.fls Mm)) (À (.fls Aa)) (À (.fls Ac)) (À (.fls (bw B))) (À (.fls (bw K))) (À (.fls (bw K2))) Á Á Á Á),h):=mX (OI _ 7 h rfl rfl rfl) rfl;have z11:XI G (ρL ns (À (.tup rl)) (À w) (À (.fls Mm)) (À (.fls Aa)) (À (.fls Ac)) (À (.fls (bw B))) (À (.fls (bw K))) (À (.fls (bw K2))) Á Á Á Á) h=À (.nx (ρL ns (À (.tup rl)) (À w) (À (.fls Mm)) (À (.fls Aa)) (À (.fls Ac)) (À (.fls (bw B))) (À (.fls (bw K))) (À (.fls (bw K2))) Á Á Á Á),h):=by generalize bw B=X at x1 ⊢;generalize bw K=Y at x2 ⊢;generalize bw K2=Z;simp![XI,x1,x2,uS]
 have z12:XR G (ρL ns (À (.tup rl)) (À w) (À (.fls Mm)) (À (.fls Aa)) (À (.fls Ac)) (À (.fls (bw B))) (À (.fls (bw K))) (À (.fls (bw K2))) Á Á Á Á) h=À (.nx (ρL ns (À (.tup rl)) (À w) (À (.fls Mm)) (À (.fls Aa)) (À (.fls Ac)) (À (.fls (bw B))) (À (.fls (bw K))) (À (.fls (bw K2))) (À (.fls Ta)) Á Á Á),h):=by generalize bw B=X;generalize bw K=Y at t1 ⊢;generalize bw K2=Z;simp![XR,t1]
 have z13:X3 G (ρL ns (À (.tup rl)) (À w) (À (.fls Mm)) (À (.fls Aa)) (À (.fls Ac)) (À (.fls (bw B))) (À (.fls (bw K))) (À (.fls (bw K2))) (À (.fls Ta)) Á Á Á) h=À (.nx (ρL ns (À (.tup rl)) (À w) (À (.fls Mm)) (À (.fls Aa)) (À (.fls Ac)) (À (.fls (bw B))) (À (.fls (bw K))) (À (.fls (bw K2))) (À (.fls Ta)) Á Á Á),h):=by generalize bw B=X at t0 ⊢;generalize bw K=Y;generalize bw K2=Z;simp![X3,t0,q3,f7]
 have z14:Xv G (ρL ns (À (.tup rl)) (À w) (À (.fls Mm)) (À (.fls Aa)) (À (.fls Ac)) (À (.fls (bw B))) (À (.fls (bw K))) (À (.fls (bw K2))) (À (.fls Ta)) Á Á Á) h=À (.nx (ρL ns (À (.tup rl)) (À w) (À (.fls Mm)) (À (.fls Aa)) (À (.fls Ac)) (À (.fls (bw B))) (À (.fls (bw K))) (À (.fls (bw K2))) (À (.fls Ta)) Á Á Á),h):=by generalize bw B=X;generalize bw K=Y;generalize bw K2=Z at t2 ⊢;simp![Xv,t2,f8]
 have z15:FN G (ρL ns (À (.tup rl)) (À w) (À (.fls Mm)) (À (.fls Aa)) (À (.fls Ac)) (À (.fls (bw B))) (À (.fls (bw K))) (À (.fls (bw K2))) (À (.fls Ta)) Á Á Á) h=À (.nx _,h):=ef;rw[GC,zt z0,zt z1,zt z2,zt z3,zt z4,zt z5,zt z6,zt z7,zt z8,zt z9,zt z10,zt z11,zt z12,zt z13,zt z14,zt z15];rfl
def GG{ns:List Int}(hl:ns.length<=63):(step (up 30 F)).cN [kz ns] h=À (.bl Â,h):=by
 obtain⟨rl,hr,fR⟩:=BP (F:=F) (m:=29) hl ∅;obtain⟨w,pw,ow,fW⟩:=BK (F:=F) (m:=29) (a:=90) hl ∅ hr;obtain⟨B,b,bl,eb⟩:=WL hr;have kb:=BA hr b bl;obtain⟨M,kM,mM,eT⟩:=Qv hr b bl eb ∅ pw ow;have E0:Env0 rl B rl.length:=by have:=b.env hr;rwa [bl] at this
 have fK:∀hs∈hnd,∀a:Int,∃k1,Kd hs k1/\∀h,(up 30 F).az [kz ns,.int a,.tup (zk hs)] h=À (.fls (k1.map tupS),h):=λhs hh a=>by
  obtain⟨k1,u,_,i,e⟩:=Fb (F:=up 27 F) (at_:=a) hl hh;exact⟨k1,⟨hh,u,i⟩,e⟩
 have fJ:∀(hs:List È) (A B:List (List È)),Kd hs A->Kd hs B->∀h,(up 30 F).aK [.fls (A.map tupS),.fls (B.map tupS)] h=À (.fls ((kC (A++B)).map tupS),h):=λhs A B a b h=>Wv (F:=up 29 F) a b
 obtain⟨A1,k1,e4⟩:=fK [] ⋯ 400;obtain⟨A2,k2,e5⟩:=fK [] ⋯ 420;obtain⟨K,kk,sK,cK⟩:=nh hr kb fK fJ 440;obtain⟨K2,Rm,sK2,OI⟩:=nh hr kk fK fJ 480;obtain⟨T0,m0⟩:=Jd hr kb E0 ∅ ∅ pw ow.1;obtain⟨T1,m1⟩:=Jd hr kk E0 ∅ ∅ pw ow.1;obtain⟨T2,m2⟩:=Jd hr Rm E0 ∅ ∅ pw ow.1;have:T0=M:=wf m0.up kM.up λx=>(m0.me x).trans (mM x).symm
 subst this;have row:=Uz (G:=up 30 F) (h:=h) hr kb kk sK kM k1 k2 m1.good m2.good (zq m1.l (by decide)) (λx hx=>(m1.me x).mpr (XO (Qz sK) ow.1 x ((mM x).mp hx))) (λx hx=>(m2.me x).mpr (XO (Qz sK2) ow.1 x ((m1.me x).mp hx)))
  fR fW (eT (up 24 F)) e4 e5 fJ (λh=>DB (F:=up 29 F) k1 k2) (λA B g1 g2 l h=>CJ (F:=up 28 F) g1 g2 l) (λA ga h=>Xh (F:=up 28 F) kM.good (zq kM.len (by decide)) ga (eT (up 23 F)) h) (λA ga h=>CU (F:=up 27 F) kM.good (zq kM.len (by decide)) ga (eT (up 22 F)) h)
  (λhs M q h=>XT (F:=up 28 F) q) (Kx hr kb eb (up 24 F)) (λi ks e h=>D5 hr kb eb e (up 24 F) h) (λK k h=>GX hr kb k eb (up 23 F) h) (λk many h hm=>ui (F:=up 28 F) hl hm) (t6 hr kb m0 (up 25 F)) (t6 hr kk m1 (up 25 F)) (t6 hr Rm m2 (up 25 F)) cK OI
 refine qA (n:=1) ?_ rfl;erw[kS,zG,kI,je,zx,kZ,É,jt,jc];erw[row]
def Gy(n:Nat):lv n=up n Fs.bot:=by
 induction n with
 | zero=>rfl
 | succ n ih=>show step (lv n)=step (up n Fs.bot);rw[ih]
def main(ns:List Int)(hl:ns.length<=63):∃h',(lv 200).cN [.fls (ns.map W.int)] []=À (.bl Â,h'):=by
 refine⟨[],?_⟩;rw[Gy];exact GG (F:=up 169 Fs.bot) hl
end K32
namespace K32
open PySem PySem.W PyProof.Rows ML
set_option maxHeartbeats 0 in
def txt{XP:(È->Option Ã)->Õ->Prop}{w:Ñ}{s₀:Å}{mg mb:È->Option Ã}{h:Õ}(G:Ground q ["FORMS"] [] XP w s₀ mg mb h):tw (eF (Kw h) mg) defs:=by
 repeat refine⟨by
  first
  | exact Zy G aaa (ML.hb1 λ_ _ _ _ _ _ _=>aaa) rfl
  | exact Zy G aaa (ML.hb2 λ_ _ _ _ _ _ _ _=>aaa) rfl
  | exact Zy G aaa (ML.hb3 λ_ _ _ _ _ _ _ _ _=>aaa) rfl
  | exact Zy G aaa (ML.hb4 λ_ _ _ _ _ _ _ _ _ _=>aaa) rfl
  | exact Zy G aaa (ML.hb5 λ_ _ _ _ _ _ _ _ _ _ _=>aaa) rfl,?_⟩
 trivial
end K32
open PySem PySem.W PyProof.Rows ML
set_option maxRecDepth 100000 in
set_option maxHeartbeats 0 in
theorem PySem.Challenge.cw_shelfwork_k32_whole_kinds_holds : PySem.Challenge.rw_shelfwork_k32_whole_kinds.Holds := by
 refine holds_law K32.said λsaid=>?_
 refine holds_open (q:=K32.q) (loose:=["FORMS"]) (Xt:=λs=>xlAt K32.q [] s&&recOk [] s) (XP:=XL K32.q []) (Yf:=K32.H.obs) (Ya:=K32.H.val) (YP:=K32.H.says) (N:=8000) K32.left (Hook.of K32.H) (Hook.keeps K32.H) (λs e=>xl_of s (ju.mp e).1) XL.keeps rfl rfl rfl (λs e=>recFacts_of (ju.mp e).2) rfl said ⋯ ⟨rfl,rfl,rfl,rfl,rfl,by decide +kernel⟩ ?hw ?hc
 case hw=>w_witness2
 case hc=>
  exact ML.walk_lawE (l:=PySem.Challenge.rw_shelfwork_k32_whole_kinds) (D:=K32.dG) (g:=(K32.lv 200).cN) (b:=K32.cu (K32.lv 199)) (Γ:=K32.rc (K32.lv 199)) (ds:=K32.defs) (y:="_law_script") (room:=199) (cons:=K32.consC) (tabs:=K32.tabsC) aaa aaa rfl rfl ⟨rfl,by decide,by decide⟩ rfl rfl (ML.hb1 λ_ _ _ _ _ _ _=>aaa) aaa rfl aaa rfl K32.main (λw K mg base T c t z=>K32.lvl T c t z 199) λw s₀ mg mb h G=>⟨(K32.txt G).2.2.2.2.2.2.2.2.2.2.2.2.2.2.2.2.2.2.2.2.2.2.2.2.2.2.2.2.2.2.2.1,K32.txt G⟩
